/-
  Proved: whatever program, query and machine are handed in, the law MachineChecks (F1: Check answers just what the document says, and Start's machine passes it) returns true; and the arguments read as they did.
  No condition of ours: every input that can be read as data.
-/
import Derived.Test.YtmggaclaoefdaabGreatSq0
import Derived.Test.YtmggaclaoefdaabGreatRows
import Derived.Test.YtmggaclaoefdaabGreatGAF
import Derived.Test.YtmggaclaoefdaabGreatGCB
import Derived.SizedLaws
import Derived.OpenShut
import Derived.ChangeOld
namespace Go.Proofs.YtmggaclaoefdaabGreat
open Go.ChangeShapes Go.WideShapes Go.ChangeAt Go.RowKit
theorem Tryz.own:ownKnob Tryz.prog.godebug=none:=by kernel_rfl
theorem Tryz.laidOut:laidOutB Tryz.prog=true:=by kernel_rfl
set_option maxRecDepth 100000 in
theorem machineChecks_lifted (os:Os) (started:os.Started) (H:Type) (enc:TypeId × Value→H):
 ReturnsInHanded {} Tryz.checked os 3 .any (Rows.machineChecksSpec.pre6 enc Tryz.prog Tryz.f3 Rows.machineChecksRow.domain false) (Rows.machineChecksSpec.post enc Tryz.prog Tryz.f3 false true false false):=by
 refine returnsInHanded_of_change_sized (C:=Tryz.checked) Tryz.own started (by kernel_rfl) Tryz.func3
  (ChangeSpec.witness6 (enc:=enc) (C:=Tryz.checked) false ⟨#[],#[.slice none 0 0,.slice none 0 0,.agg #[.slice none 0 0,.slice none 0 0,iV 0,.slice none 0 0,.slice none 0 0,.slice none 0 0,iV 0,iV 0,.slice none 0 0]],[]⟩ 8 (by kernel_rfl) (by kernel_rfl) (by kernel_rfl) (by kernel_rfl)) ?_
 intro W base args ds gs before hval0 hW hcnd hsz _;have hval: ∀(j:Nat) t v,Tryz.f3.params[j]?=some t→args[j]?=some v→Value.okWide Tryz.prog W .any base t v:=hval0;have hW':=hW;obtain ⟨p,q,hA0,hV,rfl,hfz,hnd⟩:=hW;have hA:DataW.TrodAll enc Tryz.prog W 0 (fun _=>true) true Tryz.f3.params.toList args.toList ds p:=hA0
 rw[Tryz.params3]at hA hval;obtain ⟨v0,vs0,d0,ds0,p0,q0,hargs,rfl,rfl,h0,r0⟩:=trodAll_cons hA;obtain ⟨v1,vs1,d1,ds1,p1,q1,rfl,rfl,rfl,h1,r1⟩:=trodAll_cons r0;obtain ⟨v2,vs2,d2,ds2,p2,q2,rfl,rfl,rfl,h2,r2⟩:=trodAll_cons r1;obtain ⟨rfl,rfl,rfl⟩:=trodAll_nil r2;obtain rfl:args= #[v0,v1,v2]:=by cases args;simp_all
 obtain ⟨rfl,rfl⟩:=trodVars_none hV;obtain ⟨a0,len0,cap0,rfl⟩:=okWide_slice Tryz.underlying23 (hval 0 23 v0 rfl rfl);obtain ⟨a1,len1,cap1,rfl⟩:=okWide_slice Tryz.underlying24 (hval 1 24 v1 rfl rfl);obtain ⟨c2,rfl,_⟩:=okWide_struct Tryz.underlying31 (hval 2 31 v2 rfl rfl);have k0:=h0;have k1:=h1;have k2:=h2;have lt0: ∀x∈p0,x.block<W.heap.size:=by obtain ⟨m,hm⟩:=k0;exact DataW.trod_lt m _ _ _ hm
 have lt1: ∀x∈p1,x.block<W.heap.size:=by obtain ⟨m,hm⟩:=k1;exact DataW.trod_lt m _ _ _ hm
 have lt2: ∀x∈p2,x.block<W.heap.size:=by obtain ⟨m,hm⟩:=k2;exact DataW.trod_lt m _ _ _ hm
 have hwt: ∀(j:Nat) (t:TypeId) (d:DataW H),[23,24,31][j]?=some t→ [d0,d1,d2][j]?=some d→Wt t d:=fun j t d ht hd k hk=>by
  have hp:(Tryz.f3.params.toList++Rows.machineChecksSpec.plain.varTypes Tryz.prog)[j]?=some t:=by
   rw[Tryz.params3];rw[List.getElem?_append_left (by have:=(List.getElem?_eq_some_iff.1 ht).1;simpa using this)]
   exact ht
  have hd':([d0,d1,d2]++([]:List (DataW H)))[j]?=some d:=by rw[List.append_nil];exact hd
  have:=List.all_eq_true.1 hsz k (DataW.weights_mem_each hp hd' k hk);have h2:=of_decide_eq_true this;unfold reachBytes at h2;omega
 obtain ⟨P,e0,hP,hc,hpl⟩: ∃P:Pg,Value.slice a0 len0 cap0=.slice P.a P.len P.cap∧PIn W P∧P.len≤P.cap∧P.len≤17592186043904:=by
  obtain ⟨m,hm⟩:=h0;obtain ⟨P,e,hP,hc⟩:=open_progW m _ _ hm (hwt 0 _ _ rfl rfl);exact ⟨P,by simpa[Value.cells]using e,hP,hc⟩
 obtain ⟨Q,e1,hQ⟩: ∃Q:Tm,Value.slice a1 len1 cap1=.slice Q.a Q.len Q.cap∧TIn W Q:=by
  obtain ⟨m,hm⟩:=h1;obtain ⟨Q,_,_,e,hQ⟩:=(open_term m).2 _ _ hm;exact ⟨Q,by simpa[Value.cells]using e,hQ⟩
 obtain ⟨M,an,e2,hM,hB⟩: ∃(M:Mi) (an:List Tm),Value.agg c2=.agg M.cells∧MIn W M∧MBig W M an:=by
  obtain ⟨m,hm⟩:=h2;obtain ⟨M,an,e,hM,hB⟩:=open_machine m _ _ hm (hwt 2 _ _ rfl rfl);refine ⟨M,an,?_,hM,hB⟩;have e':c2.toList=M.cells.toList:=by simpa[Value.cells]using e
  rw[Array.ext' e']
 clear hA0 hval0
 have hcall:Calls Tryz.prog 3 #[.slice a0 len0 cap0,.slice a1 len1 cap1,.agg c2] W fun e W'=>e=.returned (.bool true)∧Below W.heap.size W W':=by
  rw[e0,e1,e2];exact law_checks P Q W hP hc hpl hQ hM hB
 refine hcall.mono fun e W' ⟨he,bel⟩=>?_
 subst he;exact ⟨_,rfl,_,_,_,[],_,[],hW',trodAll_mk1 (shut_bool Tryz.underlying4 _),(trodAll_cons_mk (Below.trod Tryz.laidOut (by kernel_rfl) (of_decide_eq_true (by kernel_rfl)) k0 bel lt0) (trodAll_cons_mk (Below.trod Tryz.laidOut (by kernel_rfl) (of_decide_eq_true (by kernel_rfl)) k1 bel lt1) (trodAll_cons_mk (Below.trod Tryz.laidOut (by kernel_rfl) (of_decide_eq_true (by kernel_rfl)) k2 bel lt2) trodAll_mk0))),rfl,bel.frame _,fun h=>by cases h⟩
theorem machineChecks_holds:Rows.MachineChecksSaid:=
 OpenClaim.holds_of_wide 3 Tryz.f3 rfl rfl rfl rfl rfl rfl rfl ⟨rfl,rfl,rfl,rfl,rfl⟩ rfl rfl rfl rfl rfl (by kernel_rfl) Tryz.func3 (by kernel_rfl)
  (of_decide_eq_true (by kernel_rfl)) (by unfold Func.isWrapper;first| (rw [if_pos (by decide+kernel)];kernel_rfl)| (rw [if_neg (by decide+kernel)];exact ⟨rfl,rfl⟩))
  (fun os started H enc _=>machineChecks_lifted os started H enc)
#print axioms machineChecks_holds
end Go.Proofs.YtmggaclaoefdaabGreat
