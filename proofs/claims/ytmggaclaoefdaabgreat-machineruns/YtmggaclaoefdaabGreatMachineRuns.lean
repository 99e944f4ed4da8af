/-
  Proved: whatever program, query and number of steps are handed in, the law MachineRuns (F3: Run answers what Solve of chapter 4 answers, and so do Start and Steps) returns true; and the arguments read as they did.
  No condition of ours: every input that can be read as data.
-/
import Derived.Test.YtmggaclaoefdaabGreatRows
import Derived.Test.YtmggaclaoefdaabGreatGCC
import Derived.OpenShut
import Derived.ChangeOld
namespace Go.Proofs.YtmggaclaoefdaabGreat
open Go.ChangeShapes Go.WideShapes Go.ChangeAt Go.RowKit
set_option linter.unusedVariables false
set_option linter.unusedSimpArgs false
set_option maxRecDepth 100000
set_option maxHeartbeats 8000000
section
variable {H:Type} {enc:TypeId × Value->H} {W:World} {spare:Nat->Bool} {held:Bool}
theorem Ej (n:Nat) (cs:List Value) (x:DataW H × List MemPlace) (h:DataW.trod enc Tryz.prog W 0 spare held n 23 cs=some x): ∃P:Pg,cs= [.slice P.a P.len P.cap]/\kg W P/\P.len<=P.cap:=by
 obtain ⟨P,e,hP⟩:=Ia n cs x h;refine ⟨P,e,hP,?_⟩
 rcases DataW.trod_slice Tryz.underlying23 h with ⟨e',_⟩| ⟨a,len,cap,elems,rest,m,hm,e',_,hb,hl,_⟩
 ·rw[e]at e'
  have:=(List.cons.inj e').1
  injection this with h1 h2 h3
  omega
 ·rw[e]at e'
  have:=(List.cons.inj e').1
  injection this with h1 h2 h3
  omega
end
theorem Tryz.own:ownKnob Tryz.prog.godebug=none:=by kernel_rfl
theorem Tryz.laidOut:laidOutB Tryz.prog=true:=by kernel_rfl
theorem o7 (os:Os) (started:os.Started) (H:Type) (enc:TypeId × Value->H):
 ReturnsInHanded {} Tryz.checked os 5 .any (Rows.machineRunsSpec.pre6 enc Tryz.prog Tryz.f5 Rows.machineRunsRow.domain false) (Rows.machineRunsSpec.post enc Tryz.prog Tryz.f5 false true false false):=by
 refine returnsInHanded_of_change (C:=Tryz.checked) Tryz.own started (by kernel_rfl) Tryz.func5
  (ChangeSpec.witness6 (enc:=enc) (C:=Tryz.checked) false ⟨#[],#[.slice none 0 0,.slice none 0 0,iV 0],[]⟩ 8 (by kernel_rfl) (by kernel_rfl) (by kernel_rfl) (by kernel_rfl)) ?_
 intro W base args ds gs before hval0 hW hcnd _;have hval:=hval0;have hW':=hW;obtain ⟨p,q,hA0,hV,rfl,hfz,hnd⟩:=hW;have hA:=hA0;rw[Tryz.params5]at hA hval;obtain ⟨v0,vs0,d0,ds0,p0,q0,hargs,rfl,rfl,h0,r0⟩:=trodAll_cons hA;obtain ⟨v1,vs1,d1,ds1,p1,q1,rfl,rfl,rfl,h1,r1⟩:=trodAll_cons r0;obtain ⟨v2,vs2,d2,ds2,p2,q2,rfl,rfl,rfl,h2,r2⟩:=trodAll_cons r1;obtain ⟨rfl,rfl,rfl⟩:=trodAll_nil r2;obtain rfl:args= #[v0,v1,v2]:=by cases args;simp_all
 obtain ⟨rfl,rfl⟩:=trodVars_none hV;obtain ⟨a0,len0,cap0,rfl⟩:=okWide_slice Tryz.underlying23 (hval 0 23 v0 rfl rfl);obtain ⟨a1,len1,cap1,rfl⟩:=okWide_slice Tryz.underlying24 (hval 1 24 v1 rfl rfl);obtain ⟨n2,rfl⟩:=okWide_int Tryz.underlying3 (hval 2 3 v2 rfl rfl);have k0:=h0;have k1:=h1;have k2:=h2;have lt0: ∀x∈p0,x.block<W.heap.size:=by obtain ⟨m,hm⟩:=k0;exact DataW.trod_lt m _ _ _ hm
 have lt1: ∀x∈p1,x.block<W.heap.size:=by obtain ⟨m,hm⟩:=k1;exact DataW.trod_lt m _ _ _ hm
 have lt2: ∀x∈p2,x.block<W.heap.size:=by obtain ⟨m,hm⟩:=k2;exact DataW.trod_lt m _ _ _ hm
 obtain ⟨P,e0,hP,hc⟩: ∃P:Pg,Value.slice a0 len0 cap0=.slice P.a P.len P.cap/\kg W P/\P.len<=P.cap:=by
  obtain ⟨m,hm⟩:=h0;obtain ⟨P,e,hP,hc⟩:=Ej m _ _ hm;exact ⟨P,by simpa[Value.cells]using e,hP,hc⟩
 obtain ⟨Q,e1,hQ⟩: ∃Q:Tm,Value.slice a1 len1 cap1=.slice Q.a Q.len Q.cap/\ay W Q:=by
  obtain ⟨m,hm⟩:=h1;obtain ⟨Q,_,_,e,hQ⟩:=(re m).2 _ _ hm;exact ⟨Q,by simpa[Value.cells]using e,hQ⟩
 clear hA0 hval0
 have hcall:Calls Tryz.prog 5 #[.slice a0 len0 cap0,.slice a1 len1 cap1,iV n2] W fun e W'=>e=.returned (.bool true)/\Below W.heap.size W W':=by
  rw[e0,e1];exact Mc P Q n2 W hP hc hQ
 refine hcall.mono fun e W' ⟨he,bel⟩=>?_
 subst he;exact ⟨_,rfl,_,_,_,[],_,[],hW',trodAll_mk1 (shut_bool Tryz.underlying4 _),(trodAll_cons_mk (Below.trod Tryz.laidOut (by kernel_rfl) (of_decide_eq_true (by kernel_rfl)) k0 bel lt0) (trodAll_cons_mk (Below.trod Tryz.laidOut (by kernel_rfl) (of_decide_eq_true (by kernel_rfl)) k1 bel lt1) (trodAll_cons_mk (Below.trod Tryz.laidOut (by kernel_rfl) (of_decide_eq_true (by kernel_rfl)) k2 bel lt2) trodAll_mk0))),rfl,bel.frame _,fun h=>by cases h⟩
theorem machineRuns_holds:Rows.MachineRunsSaid:=
 OpenClaim.holds_of_wide 5 Tryz.f5 rfl rfl rfl rfl rfl rfl rfl ⟨rfl,rfl,rfl,rfl,rfl⟩ rfl rfl rfl rfl rfl (by kernel_rfl) Tryz.func5 (by kernel_rfl)
  (of_decide_eq_true (by kernel_rfl)) (by unfold Func.isWrapper;first| (rw [if_pos (by decide+kernel)];kernel_rfl)| (rw [if_neg (by decide+kernel)];exact ⟨rfl,rfl⟩))
  (fun os started H enc _=>o7 os started H enc)
#print axioms machineRuns_holds
end Go.Proofs.YtmggaclaoefdaabGreat
