/- Part of the proof. Part of the proof. Part of the proof. -/
import Derived.Test.YtmggaclaoefdaabGreatSq0
import Derived.Test.YtmggaclaoefdaabGreatGAO
import Derived.RangeFuncNested
import Derived.RangeFuncBound
import Derived.RangeFuncCalls
import Derived.RangeFuncLeaves
import Derived.Shelf.Abstract
import Derived.Shelf.RegionOpen
import Derived.WalkKit
import Derived.OwnWalkIn
import Derived.TacticsInMore
import Derived.LoopNIn
import Derived.LoopIn
namespace Go.Proofs.YtmggaclaoefdaabGreat
open Go.RowKit
set_option linter.unusedVariables false
set_option linter.unusedSimpArgs false
theorem from_runH (a:Option Addr) (ln cp k:Nat) (h:k≤ln) (hc:ln≤cp) (W:World):(Instr.slice 25 (.slice a ln cp) (some (iV k)) none none).run Tryz.prog W=.ok (.slice (if cp=k then a else a.map fun x=>x.add (k*3)) (ln-k) (cp-k)) W:=by
 obtain ⟨i0,hi,hz0,hz1,hz2⟩:=info_parts Tryz.info81q;have h':(k:Int)≤(ln:Int):=by omega
 have h2:(ln:Int)≤(cp:Int):=by omega
 cases a with
 |none=>simp[Instr.slice,run_underlying Tryz.underlying25,Instr.sliceBounds,run_sliceBound,sizeOf,typeInfo,hi,hz1,h',h2,hc,Addr.add]
 |some ad=>simp[Instr.slice,run_underlying Tryz.underlying25,Instr.sliceBounds,run_sliceBound,sizeOf,typeInfo,hi,hz1,h',h2,hc,Addr.add]
theorem HIn.tail {w:World} {a:Option Addr} {len cap k:Nat} {h:Nat→Cl} (hh:HIn w a len h) (hc:len≤cap) (hk:k≤len):HIn w (if cap=k then a else a.map fun x=>x.add (k*3)) (len-k) (fun j=>h (k+j)):=by
 refine ⟨fun i hi=>?_,by have:=hh.big;omega,fun i hi=>hh.nm (k+i) (by omega)⟩
 obtain ⟨b,o,e,c0,c1,c2⟩:=hh.row (k+i) (by omega)
 rw[if_neg (by omega),e]
 refine ⟨b,o+k*3,by simp[Addr.add],?_,?_,?_⟩
 ·rw[show o+k*3+i*3=o+(k+i)*3 from by omega];exact c0
 ·rw[show o+k*3+i*3+1=o+(k+i)*3+1 from by omega];exact c1
 ·rw[show o+k*3+i*3+2=o+(k+i)*3+2 from by omega];exact c2
theorem refV_cell {h:Nat→Cl} {len i:Nat} (hk:(h i).k=1):refV len (h i).n (h i).nm=cellE h len i:=by
 unfold refV cellE;rw[if_pos hk]
 by_cases hb:noneB len (h i).n=true
 ·have e: ¬btw (h i).n 0 ((len:Int)-1)=true:=fun e=>by
   unfold noneB at hb;unfold btw at e;simp at hb e;omega
  rw[if_pos hb,if_neg e]
 ·have e:btw (h i).n 0 ((len:Int)-1)=true:=by
   unfold noneB at hb;unfold btw;simp at hb ⊢;omega
  rw[if_neg hb,if_pos e]
theorem fnV_cell {h:Nat→Cl} {len i:Nat} (hi:i<len) (hk:(h i).k=2):fnV (len-(i+1)) (h i).n (h i).nm (fun j=>h (i+1+j))=cellE h len i:=by
 unfold fnV cellE kidsB;rw[if_neg (show¬(h i).k=1 from by omega),if_pos hk]
 have e1:namedB (h i).n (h i).nm=true↔(nameB (h i).nm=true∧btw (h i).n 0 4=true∧¬((h i).nm.toList= [33]∧0<(h i).n)):=by
  unfold namedB btw
  by_cases e:(h i).nm.toList= [33]
  ·simp[e]
   constructor
   ·rintro ⟨h1,h2,h3⟩;exact ⟨h3,⟨h1,by omega⟩,h2⟩
   ·rintro ⟨h1,h2,h3⟩;exact ⟨h2.1,h3,h1⟩
  ·have e':((h i).nm.toList== [33])=false:=beq_eq_false_iff_ne.2 e
   simp[e',e]
   constructor
   ·rintro ⟨h1,h2,h3⟩;exact ⟨h3,h1,h2⟩
   ·rintro ⟨h1,h2,h3⟩;exact ⟨h2,h3,h1⟩
 by_cases hn:namedB (h i).n (h i).nm=true
 ·rw[if_pos hn,if_pos (e1.1 hn)]
  have hcast:((len-(i+1):Nat):Int)=(len:Int)-1-i:=by omega
  by_cases hg:(h i).n>((len-(i+1):Nat):Int)
  ·have e2:(len:Int)-1<(i:Int)+(h i).n:=by omega
   rw[if_pos hg,if_pos e2]
  ·have e2: ¬(len:Int)-1<(i:Int)+(h i).n:=by omega
   rw[if_neg hg,if_neg e2]
 ·rw[if_neg hn,if_neg (fun e=>hn (e1.2 e))]
set_option maxRecDepth 100000 in
set_option maxHeartbeats 4000000 in
theorem cell_any {a:Option Addr} {len cap:Nat} {h:Nat→Cl} (i:Nat) (w:World) (hh:HIn w a len h) (hc:len≤cap) (hi:i<len):
 Calls Tryz.prog 100 #[.slice a len cap,iV i] w fun e w'=>e=.returned (iV (cellE h len i))∧Below w.heap.size w w':=by
 have HH:Hid (∀W,Below w.heap.size w W→HIn W a len h):=fun W hW=>hh.below hW
 have hlb:len≤2 ^ 63-1:=hh.big;have hnm:(h i).nm.size≤maxLen:=hh.nm i hi;have hiI:(i:Int)<(len:Int):=by omega
 obtain ⟨b,o,rfl,c0,c1,c2⟩:=hh.row i hi;have HBa:Hid (Below w.heap.size w (w.alloc (.cells #[iV (h i).k,iV (h i).n,.string (h i).nm] 81))):=(Below.refl _ _).alloc (Nat.le_refl _) _;have HX:Hid ((w.alloc (.cells #[iV (h i).k,iV (h i).n,.string (h i).nm] 81)).heap[w.heap.size]?=some (.cells #[iV (h i).k,iV (h i).n,.string (h i).nm] 81)):=heap_alloc_new _ _;clear hh
 by_cases hk1:(h i).k=1
 ·have hkb:((h i).k==1)=true:=beq_iff_eq.2 hk1
  have HR:Hid (∀wa,Calls Tryz.prog 131 #[.slice (some ⟨b,o,none⟩) len cap,.agg #[iV (h i).k,iV (h i).n,.string (h i).nm]] wa fun e w'=>e=.returned (iV (cellE h len i))∧Below wa.heap.size wa w'):=fun wa=>by
   rw[←refV_cell hk1];exact ref_any _ len cap (h i).k (h i).n (h i).nm wa
  clear hk1
  go_enter Tryz.func100,Tryz.ntmps100
  go_wp2_with fail;refine (HR.o _).mono ?_;rintro e w1 ⟨rfl,hb1⟩;have HB1:Hid (Below w.heap.size w w1):=HBa.o.trans (hb1.mono HBa.o.size);clear hb1;go_wp2_with fail;go_ret;exact ⟨rfl,HB1.o⟩
 have hkb:((h i).k==1)=false:=beq_eq_false_iff_ne.2 hk1
 by_cases hk2:(h i).k=2
 case neg=>
  have hkb2:((h i).k==2)=false:=beq_eq_false_iff_ne.2 hk2;have HR:Hid (cellE h len i=1):=by rw[Hid];unfold cellE;rw[if_neg hk1,if_neg hk2]
  clear hk1 hk2
  go_enter Tryz.func100,Tryz.ntmps100
  go_wp2_with fail;go_ret;exact ⟨by rw[HR.o];rfl,HBa.o⟩
 have hkb2:((h i).k==2)=true:=beq_iff_eq.2 hk2;have hw1:IntKind.i64.wrap ((i:Int)+1)=(i:Int)+1:=by simp[IntKind.wrap,IntKind.bits,IntKind.signed];omega
 have hfrom:=from_runH (some ⟨b,o,none⟩) len cap (i+1) (by omega) hc
 rw[show ((i+1:Nat):Int)=(i:Int)+1 from by omega]at hfrom
 have HT:Hid (∀W,Below w.heap.size w W→HIn W (if cap=i+1 then some ⟨b,o,none⟩else (some (⟨b,o,none⟩:Addr)).map fun x=>x.add ((i+1)*3)) (len-(i+1)) (fun j=>h (i+1+j))):=fun W hW=>(HH.o W hW).tail hc (by omega)
 generalize (if cap=i+1 then some ⟨b,o,none⟩else (some (⟨b,o,none⟩:Addr)).map fun x=>x.add ((i+1)*3))=ta at*
 have HK2:=hid hk2;have HNm:=hid hnm;clear hk1 hk2 hnm
 go_enter Tryz.func100,Tryz.ntmps100
 go_wp2_with fail;generalize w.alloc (.cells #[iV (h i).k,iV (h i).n,.string (h i).nm] 81)=wa at*;obtain ⟨x0,x1,x2,_,_,_⟩:=block_cells HX.o;clear c0 c1 c2
 have HF:Hid (∀W,Below wa.heap.size wa W→Calls Tryz.prog 132 #[.agg #[iV (h i).k,iV (h i).n,.string (h i).nm],.slice ta (len-(i+1)) (cap-(i+1))] W fun e w'=>e=.returned (iV (cellE h len i))∧Below W.heap.size W w'):=fun W hW=>by
  rw[←fnV_cell hi HK2.o];exact hfn_any (h i).k (h i).n (h i).nm W (HT.o W (HBa.o.trans (hW.mono HBa.o.size))) (by omega) HNm.o
 have HKp:Hid (∀W,Below wa.heap.size wa W→W.cell? ⟨w.heap.size,0,none⟩=some (iV (h i).k)∧W.cell? ⟨w.heap.size,1,none⟩=some (iV (h i).n)∧W.cell? ⟨w.heap.size,2,none⟩=some (.string (h i).nm)):=fun W hW=>⟨(hW.cell (lt_of_cell x0)).trans x0,(hW.cell (lt_of_cell x1)).trans x1,(hW.cell (lt_of_cell x2)).trans x2⟩
 go_region_held3 (fun W=>W.cell? ⟨w.heap.size,0,none⟩=some (iV (h i).k)∧W.cell? ⟨w.heap.size,1,none⟩=some (iV (h i).n)∧W.cell? ⟨w.heap.size,2,none⟩=some (.string (h i).nm)) ((refine HKp.o _ ?_;repeat (first|exact HB4.o|exact Below.refl _ _|refine Below.drew ?_))) (first
  | (go_at_call 132
     refine (HF.o _ (by repeat (first|exact Below.refl _ _|refine Below.drew ?_))).mono ?_
     rintro e w4 ⟨rfl,hb4⟩;have HB4:Hid (Below wa.heap.size wa w4):=Below.trans (by repeat (first|exact Below.refl _ _|refine Below.drew ?_)) (hb4.mono (Nat.le_refl _))
     clear hb4))
 all_goals
  go_wp2_with fail;go_ret;exact ⟨rfl,HBa.o.trans (HB4.o.mono HBa.o.size)⟩
end Go.Proofs.YtmggaclaoefdaabGreat

namespace Go.Proofs.YtmggaclaoefdaabGreat
open Go.RowKit
set_option linter.unusedVariables false
set_option linter.unusedSimpArgs false
structure HG (h:Nat→Cl) (len:Nat):Prop where
 ok:HOk h len
 acy:Acy len (leads h)
 kind: ∀i,i<len→(h i).k=1∨(h i).k=2
 kids: ∀i,i<len→(h i).k=2→∀j:Nat,(j:Int)<(h i).n→i+1+j<len∧(h (i+1+j)).k=1
 nmr: ∀i,i<len→(h i).k=1→(h i).nm.toList= []
 nmf: ∀i,i<len→(h i).k=2→nameB (h i).nm=true∧¬((h i).nm.toList= [33]∧0<(h i).n)
theorem HG.of {h:Nat→Cl} {len:Nat} (hl:len≤400000) (h0:firstE h len len=0) (ha:Acy len (leads h)):HG h len:=by
 have hc:=fun i (hi:i<len)=>firstE_zero len h0 i hi
 refine ⟨cells_ok hl h0,ha,fun i hi=>?_,fun i hi hk j hj=>?_,fun i hi hk=>?_,fun i hi hk=>?_⟩
 ·have:=hc i hi
  unfold cellE at this
  by_cases e:(h i).k=1
  ·exact .inl e
  ·by_cases e2:(h i).k=2
   ·exact .inr e2
   ·rw[if_neg e,if_neg e2]at this;cases this
 ·have:=hc i hi
  unfold cellE at this;rw[if_neg (show¬(h i).k=1 from by omega),if_pos hk]at this
  by_cases c:nameB (h i).nm=true∧btw (h i).n 0 4=true∧¬((h i).nm.toList= [33]∧0<(h i).n)
  ·rw[if_pos c]at this
   by_cases d:(len:Int)-1<(i:Int)+(h i).n
   ·rw[if_pos d]at this;cases this
   ·rw[if_neg d]at this
    by_cases e:kidsB h i (h i).n.toNat=true
    ·have:=allTo_iff.1 e j (by omega)
     exact ⟨by omega,by simpa using this⟩
    ·rw[if_neg e]at this;cases this
  ·rw[if_neg c]at this;cases this
 ·have:=hc i hi
  unfold cellE at this;rw[if_pos hk]at this
  by_cases c:btw (h i).n 0 ((len:Int)-1)=true
  ·rw[if_pos c]at this
   by_cases d:(h i).nm.toList= []
   ·exact d
   ·rw[if_neg d]at this;cases this
  ·rw[if_neg c]at this;cases this
 ·have:=hc i hi
  unfold cellE at this;rw[if_neg (show¬(h i).k=1 from by omega),if_pos hk]at this
  by_cases c:nameB (h i).nm=true∧btw (h i).n 0 4=true∧¬((h i).nm.toList= [33]∧0<(h i).n)
  ·exact ⟨c.1,c.2.2⟩
  ·rw[if_neg c]at this;cases this
def Ref (h:Nat→Cl) (i j:Nat):Prop:=(h i).k=1∧(h i).n=(j:Int)∧j≠i
theorem Ref.leads {h:Nat→Cl} {i j:Nat} (r:Ref h i j):leads h i= [j]:=by
 unfold Go.Proofs.YtmggaclaoefdaabGreat.leads;rw[if_pos r.1,if_neg (by rw[r.2.1];have:=r.2.2;omega),r.2.1]
 rfl
theorem HG.ref {h:Nat→Cl} {len i:Nat} (H:HG h len) (hi:i<len) (hk:(h i).k=1) (hn:(h i).n≠i): ∃j,Ref h i j∧j<len:=by
 have h0:=H.ok.n0 i hi;have r:Ref h i (h i).n.toNat:=⟨hk,by omega,by omega⟩
 exact ⟨_,r,H.ok.inn i hi _ (by rw[r.leads];simp)⟩
theorem EndR.root' {h:Nat→Cl} {len i z:Nat} (H:EndR h len i z): ¬((h z).k=1∧(h z).n≠z):=by
 induction H with
 |root _ h=>exact h
 |step _ _ _ _ _ ih=>exact ih
theorem EndR.uniq {h:Nat→Cl} {len i z z':Nat} (H:EndR h len i z) (H':EndR h len i z'):z=z':=by
 induction H with
 |root hi hr=>
  cases H' with
  |root _ _=>rfl
  |step _ hk hn hj _=>exact absurd ⟨hk,by rw[hn];omega⟩ hr
 |step hi hk hn hj _ ih=>
  cases H' with
  |root _ hr=>exact absurd ⟨hk,by rw[hn];omega⟩ hr
  |step _ hk' hn' hj' hz'=>
   rw[hn]at hn';exact ih (by rw[Int.ofNat_inj.1 hn'];exact hz')
theorem EndR.ex {h:Nat→Cl} {len:Nat} (H:HG h len): ∀i,i<len→∃z,EndR h len i z:=by
 obtain ⟨r,hr⟩:=H.acy
 have: ∀m i,r i=m→i<len→∃z,EndR h len i z:=by
  intro m
  induction m using Nat.strongRecOn with
  |_ m ih=>
   intro i hm hi
   by_cases c:(h i).k=1∧(h i).n≠i
   ·obtain ⟨j,hj,hjl⟩:=H.ref hi c.1 c.2
    obtain ⟨z,hz⟩:=ih (r j) (by have:=hr i hi j (by rw[hj.leads];simp);omega) j rfl hjl
    exact ⟨z,.step hi hj.1 hj.2.1 hj.2.2 hz⟩
   ·exact ⟨i,.root hi c⟩
 exact fun i hi=>this _ i rfl hi
open Classical in
noncomputable def endA (h:Nat→Cl) (len i:Nat):Nat:=if e: ∃z,EndR h len i z then e.choose else i
theorem endA_eq {h:Nat→Cl} {len i z:Nat} (H:EndR h len i z):endA h len i=z:=by
 have e: ∃z,EndR h len i z:=⟨z,H⟩;unfold endA;rw[dif_pos e];exact e.choose_spec.uniq H
theorem HG.endR {h:Nat→Cl} {len i:Nat} (H:HG h len) (hi:i<len):EndR h len i (endA h len i):=by
 obtain ⟨z,hz⟩:=EndR.ex H i hi;rw[endA_eq hz];exact hz
theorem HG.end_lt {h:Nat→Cl} {len i:Nat} (H:HG h len) (hi:i<len):endA h len i<len:=(H.endR hi).lt.2
theorem HG.end_or {h:Nat→Cl} {len i:Nat} (H:HG h len) (hi:i<len):((h (endA h len i)).k=1∧(h (endA h len i)).n=endA h len i)∨(h (endA h len i)).k=2:=by
 have h1:=(H.endR hi).root'
 rcases H.kind _ (H.end_lt hi)with e|e
 ·refine .inl ⟨e,?_⟩
  by_cases c:(h (endA h len i)).n=endA h len i
  ·exact c
  ·exact absurd ⟨e,c⟩ h1
 ·exact .inr e
theorem HG.end_end {h:Nat→Cl} {len i:Nat} (H:HG h len) (hi:i<len):endA h len (endA h len i)=endA h len i:=
 endA_eq (.root (H.end_lt hi) (H.endR hi).root')
theorem end_ref {h:Nat→Cl} {len i j:Nat} (H:HG h len) (hi:i<len) (r:Ref h i j):j<len∧endA h len i=endA h len j:=by
 have hj:j<len:=H.ok.inn i hi j (by rw[r.leads];simp)
 exact ⟨hj,endA_eq (.step hi r.1 r.2.1 r.2.2 (H.endR hj))⟩
inductive Pth (h:Nat→Cl):Nat→Nat→Prop
 |one {i j:Nat}:Ref h i j→Pth h i j
 |more {i j z:Nat}:Ref h i j→Pth h j z→Pth h i z
theorem Pth.same {h:Nat→Cl} {len i z:Nat} (H:HG h len) (p:Pth h i z) (hi:i<len):z<len∧endA h len i=endA h len z:=by
 induction p with
 |one r=>exact end_ref H hi r
 |more r _ ih=>
  obtain ⟨hj,e⟩:=end_ref H hi r;obtain ⟨hz,e'⟩:=ih hj;exact ⟨hz,e.trans e'⟩
theorem Pth.rank {h:Nat→Cl} {len i z:Nat} {r:Nat→Nat} (H:HG h len) (hr: ∀x,x<len→∀y∈leads h x,r y<r x) (p:Pth h i z) (hi:i<len):r z<r i:=by
 induction p with
 |one q=>exact hr _ hi _ (by rw[q.leads];simp)
 |more q _ ih=>
  have h1:=hr _ hi _ (by rw[q.leads];exact List.mem_singleton.2 rfl)
  have h2:=ih (end_ref H hi q).1;omega
theorem HG.way {h:Nat→Cl} {len i:Nat} (H:HG h len) (hi:i<len):endA h len i=i∨Pth h i (endA h len i):=by
 have h1:=H.endR hi
 revert h1
 generalize endA h len i=z;intro h1
 induction h1 with
 |root _ _=>exact .inl rfl
 |step hi' hk hn hj h2 ih=>
  rcases ih h2.lt.1 with e|e
  ·subst e;exact .inr (.one ⟨hk,hn,hj⟩)
  ·exact .inr (.more ⟨hk,hn,hj⟩ e)
end Go.Proofs.YtmggaclaoefdaabGreat

namespace Go.Proofs.YtmggaclaoefdaabGreat
open Go.RowKit Go.Shelf
set_option linter.unusedVariables false
set_option linter.unusedSimpArgs false
attribute [local go_sem] Oper.semAt_some
abbrev Cq (p:Nat→Prop):= { x:Nat // p x}
abbrev Cx (len:Nat):=Cq fun x=>x<len
def vals {p:Nat→Prop} (l:List (Cq p)):List Nat:=l.map fun x=>x.1
theorem vals_nil {p:Nat→Prop}:vals ([]:List (Cq p))= []:=rfl
theorem vals_snoc {p:Nat→Prop} (l:List (Cq p)) (x:Cq p):vals (l++ [x])=vals l++ [x.1]:=by simp[vals]
theorem vals_ex {p:Nat→Prop}: ∀l:List Nat,(∀x∈l,p x)→∃xs:List (Cq p),vals xs=l:=by
 intro l
 induction l with
 |nil=>intro _;exact ⟨[],rfl⟩
 |cons x l ih=>
  intro h;obtain ⟨xs,hxs⟩:=ih fun y hy=>h y (List.mem_cons_of_mem _ hy)
  exact ⟨⟨x,h x List.mem_cons_self⟩::xs,by unfold vals at*;rw[List.map_cons,hxs]⟩
def Kb (b:Nat) (W W':World):Prop:=W.heap.size≤W'.heap.size∧W'.heap[b]?=W.heap[b]?
theorem Kb.t {b:Nat} {A B C:World} (h:Kb b A B) (k:Kb b B C):Kb b A C:=⟨Nat.le_trans h.1 k.1,k.2.trans h.2⟩
theorem Kb.b {b:Nat} {w:World} (hb:b<w.heap.size) (W:World) (l:Nat) (o o':Obj) (hl:w.heap.size≤l) (_:W.heap[l]?=some o) (_:o.isCells=false) (_:o.isWalk=false):Kb b W (W.putObj l o'):=
 ⟨by simp[World.putObj],World.putObj_heap_other (by omega)⟩
theorem cell_of_block {W:World} {B:Nat} {v:Value} {t:TypeId} (h:W.heap[B]?=some (.cells #[v] t)):W.cell? ⟨B,0,none⟩=some v:=by simp[World.cell?,h]
set_option maxRecDepth 100000 in
set_option maxHeartbeats 4000000 in
theorem leads1_in {a:Option Addr} {len cap:Nat} {h:Nat→Cl} {i:Nat} {p:Nat→Prop} (n:Nat) (hi:i<len) (l Bh Bt:Nat) (J Jx:List (Cq p)→World→Prop)
 (W:World) (hh:HIn W a len h) (h0:0≤(h i).n) (h4:(h i).k≠1→(h i).n≤4) (hk:(h i).k=1∨(h i).k=2) (hlb:len≤1000000)
 (xs:List (Cq p)) (hxs:vals xs=leads h i)
 (hJ:AbidesFrom W.heap.size J)
 (hY: ∀pre x W,J pre W→pre.length<(leads h i).length→YieldAt Fence.wide (n-1) Tryz.prog l #[iV (x.1:Int)] W fun e W'=>
   (e=.returned (.bool true)∧J (pre++ [x]) W'∧Kb Bt W W')∨(e=.returned (.bool false)∧Jx (pre++ [x]) W'))
 (hBh:W.heap[Bh]?=some (.cells #[.slice a len cap] 25)) (hBt:W.heap[Bt]?=some (.cells #[iV (i:Int)] 3)) (hJ0:J [] W):
 CallsIn Fence.wide n Tryz.prog 126 #[.func (.yield l) #[] #[],.pointer (some ⟨Bh,0,none⟩),.pointer (some ⟨Bt,0,none⟩)] W fun e W'=>(∃v,e=.returned v)∧
  ((∃ys,vals ys=leads h i∧J ys W')∨(∃pre,vals pre <+:leads h i∧Jx pre W')):=by
 obtain ⟨b,o,rfl,c0,c1,c2⟩:=hh.row i hi;have hiI:(i:Int)<(len:Int):=by omega
 have hb0:=cell_of_block hBh;have ht0:=cell_of_block hBt;obtain ⟨m,hm⟩: ∃m:Nat,(h i).n=m:=⟨(h i).n.toNat,by omega⟩
 rw[hm]at c1;have HJa:Hid (J [] (W.alloc (.cells #[iV (h i).k,iV m,.string (h i).nm] 81))):=hJ [] _ _ none hJ0 (World.grownBy_alloc _ _ _) (fun r e=>by cases e)
 have HBa:Hid ((W.alloc (.cells #[iV (h i).k,iV m,.string (h i).nm] 81)).heap[Bt]?=some (.cells #[iV (i:Int)] 3)):=(Below.heap_alloc _ _ _ (Array.getElem?_eq_some_iff.1 hBt).1).trans hBt;have ht1:=cell_of_block HBa.o
 rcases hk with hk|hk
 ·have hkb:((h i).k==2)=false:=by rw[hk];rfl
  by_cases hni:m=i
  ·have hnb:((m:Int) !=(i:Int))=false:=by rw[Bool.eq_false_iff];intro e;exact bne_iff_ne.1 e (by omega)
   have HL:Hid (leads h i= []):=by unfold leads;rw[Hid,if_pos hk,if_pos (by omega)]
   clear hh h0 h4 hY hk hni hxs;refine callsIn_of_wp Tryz.func126 rfl trivial ?_ rfl;simp only[Tryz.ntmps126,List.size_toArray,List.length_cons,List.length_nil,Nat.reduceAdd,Nat.reduceSub,Array.replicate_succ,Array.replicate_zero,List.push_toArray,List.append_toArray,List.nil_append,List.cons_append]
   gi_wp2
   go_end0
   exact ⟨⟨_,rfl⟩,.inl ⟨[],by rw[HL.o];rfl,HJa.o⟩⟩
  ·have hnb:=bne_iff_ne.2 (by omega)
   have HL:Hid (leads h i= [m]):=by unfold leads;rw[Hid,if_pos hk,if_neg (by omega),hm];rfl
   obtain ⟨x,hx⟩: ∃x:Cq p,xs= [x]∧x.1=m:=by
    rw[HL.o]at hxs
    match xs,hxs with
    | [],e=>cases e
    | [x],e=>exact ⟨x,rfl,by simpa[vals]using e⟩
    |x::y::zs,e=>simp[vals]at e
   obtain ⟨fn,tmps,assign,body,hy,hR⟩:=hY [] x _ HJa.o (by rw[HL.o];exact Nat.one_pos)
   rw[hx.2]at hy;clear hh h0 h4 hY hk hni hxs;refine callsIn_of_wp Tryz.func126 rfl trivial ?_ rfl;simp only[Tryz.ntmps126,List.size_toArray,List.length_cons,List.length_nil,Nat.reduceAdd,Nat.reduceSub,Array.replicate_succ,Array.replicate_zero,List.push_toArray,List.append_toArray,List.nil_append,List.cons_append]
   gi_wp2
   refine ⟨fun h=>(by cases h),?_⟩
   refine hR.mono ?_;rintro e W3 (⟨rfl,hJ3,hk3⟩| ⟨rfl,hJx3⟩)
   ·gi_wp2
    go_end0
    exact ⟨⟨_,rfl⟩,.inl ⟨[x],by rw[HL.o];simp[vals,hx.2],hJ3⟩⟩
   ·gi_wp2
    go_end0
    exact ⟨⟨_,rfl⟩,.inr ⟨[x],by rw[HL.o];simp[vals,hx.2],hJx3⟩⟩
 ·have hkb:((h i).k==2)=true:=by rw[hk];rfl
  have HL:Hid (leads h i=(List.range m).map fun j=>i+1+j):=by unfold leads;rw[Hid,if_neg (by omega),hm];rfl
  have hm4:m≤4:=by have:=h4 (by omega);omega
  have hll:(leads h i).length=m:=by rw[HL.o];simp
  have hxl:xs.length=m:=by rw[←hll,←hxs];simp[vals]
  have hxg: ∀k (hk:k<xs.length),(xs[k].1:Int)=(i:Int)+1+(k:Int):=fun k hk'=>by
   have e:(vals xs)[k]?=some xs[k].1:=by unfold vals;rw[List.getElem?_map,List.getElem?_eq_getElem hk'];rfl
   rw[hxs,HL.o,List.getElem?_map,List.getElem?_range (by omega)]at e
   simp at e;omega
  have HY:Hid (∀pre x W,J pre W→pre.length<m→YieldAt Fence.wide (n-1) Tryz.prog l #[iV (x.1:Int)] W fun e W'=>
   (e=.returned (.bool true)∧J (pre++ [x]) W'∧Kb Bt W W')∨(e=.returned (.bool false)∧Jx (pre++ [x]) W')):=fun pre x W hj hl=>hY pre x W hj (by omega)
  have HXs:=hid hxs;have HXg:=hid hxg;have hw1:IntKind.i64.wrap ((i:Int)+1)=(i:Int)+1:=by simp[IntKind.wrap,IntKind.bits,IntKind.signed];omega
  clear hh h0 h4 hY hk hxs hxg hll;refine callsIn_of_wp Tryz.func126 rfl trivial ?_ rfl;simp only[Tryz.ntmps126,List.size_toArray,List.length_cons,List.length_nil,Nat.reduceAdd,Nat.reduceSub,Array.replicate_succ,Array.replicate_zero,List.push_toArray,List.append_toArray,List.nil_append,List.cons_append]
  gi_wp2
  gi_loopw [15] (fun p wr=>∃k:Nat,k≤m∧p=iV (k:Int)∧J (xs.take k) wr∧wr.heap[Bt]?=some (.cells #[iV (i:Int)] 3)) (fun p _=>m-(intOf p).toNat)
  case atStart=>exact ⟨0,Nat.zero_le _,rfl,HJa.o,HBa.o⟩
  case round=>
   obtain ⟨k,hkm,rfl,hJk,hBk⟩:=hrel;have hc:=cell_of_block hBk
   by_cases hlt:k<m
   case neg=>
    obtain rfl:k=m:=by omega
    gi_wp2
    go_end0
    exact ⟨⟨_,rfl⟩,.inl ⟨xs,HXs.o,by rw[List.take_of_length_le (by omega)]at hJk;exact hJk⟩⟩
   ·have hxk:k<xs.length:=by omega
    obtain ⟨fn,tmps,assign,body,hy,hR⟩:=HY.o (xs.take k) xs[k] wr hJk (by rw[List.length_take];omega)
    rw[HXg.o k hxk]at hy;have hkI:(k:Int)<(m:Int):=by omega
    have hw2:IntKind.i64.wrap ((i:Int)+1+(k:Int))=(i:Int)+1+(k:Int):=by simp[IntKind.wrap,IntKind.bits,IntKind.signed];omega
    gi_wp2
    refine ⟨fun h=>(by cases h),?_⟩
    refine hR.mono ?_;rintro e W3 (⟨rfl,hJ3,hk3⟩| ⟨rfl,hJx3⟩)
    ·gi_wp2
     go_roundw
     case rel=>exact ⟨k+1,by omega,by go_num,by rw[List.take_succ_eq_append_getElem hxk];exact hJ3,hk3.2.trans hBk⟩
     case measure=>simp[intOf];omega
    ·gi_wp2
     refine bodyPost_ret (results_none rfl _ _ _) rfl ?_;refine ⟨⟨_,rfl⟩,.inr ⟨xs.take k++ [xs[k]],?_,hJx3⟩⟩;rw[←HXs.o,←List.take_succ_eq_append_getElem hxk];unfold vals;rw[List.map_take];exact List.take_prefix _ _
theorem leads_stops {a:Option Addr} {len cap:Nat} {h:Nat→Cl} {i:Nat} (n:Nat) (hi:i<len) (Bh Bt:Nat) (w:World) (hh:HIn w a len h) (hok:HOk h len) (hk:(h i).k=1∨(h i).k=2) (hlb:len≤1000000)
 (hBh:w.heap[Bh]?=some (.cells #[.slice a len cap] 25)) (hBt:w.heap[Bt]?=some (.cells #[iV (i:Int)] 3)):
 SeqStopsK Fence.wide n Tryz.prog 126 #[.pointer (some ⟨Bh,0,none⟩),.pointer (some ⟨Bt,0,none⟩)] (fun x:Cx len=> #[iV (x.1:Int)]) (Kb Bt) (fun ys=>vals ys=leads h i) (fun pre=>vals pre <+:leads h i) (leads h i).length w:=fun l J Jx W hW hJ hJx hY h0=>by
 obtain ⟨xs,hxs⟩:=vals_ex (p:=fun x=>x<len) (leads h i) (hok.inn i hi)
 exact leads1_in n hi l Bh Bt J Jx W (hh.below hW) (hok.n0 i hi) (hok.n4 i hi) hk hlb xs hxs hJ hY ((hW.block _ (Array.getElem?_eq_some_iff.1 hBh).1).trans hBh) ((hW.block _ (Array.getElem?_eq_some_iff.1 hBt).1).trans hBt) h0
theorem leads_stopsP {a:Option Addr} {len cap:Nat} {h:Nat→Cl} {i:Nat} {p:Nat→Prop} (n:Nat) (hi:i<len) (hp: ∀x∈leads h i,p x) (Bh Bt:Nat) (w:World) (hh:HIn w a len h) (hok:HOk h len) (hk:(h i).k=1∨(h i).k=2) (hlb:len≤1000000)
 (hBh:w.heap[Bh]?=some (.cells #[.slice a len cap] 25)) (hBt:w.heap[Bt]?=some (.cells #[iV (i:Int)] 3)):
 SeqStopsK Fence.wide n Tryz.prog 126 #[.pointer (some ⟨Bh,0,none⟩),.pointer (some ⟨Bt,0,none⟩)] (fun x:Cq p=> #[iV (x.1:Int)]) (Kb Bt) (fun ys=>vals ys=leads h i) (fun pre=>vals pre <+:leads h i) (leads h i).length w:=fun l J Jx W hW hJ hJx hY h0=>by
 obtain ⟨xs,hxs⟩:=vals_ex (p:=p) (leads h i) hp;exact leads1_in n hi l Bh Bt J Jx W (hh.below hW) (hok.n0 i hi) (hok.n4 i hi) hk hlb xs hxs hJ hY ((hW.block _ (Array.getElem?_eq_some_iff.1 hBh).1).trans hBh) ((hW.block _ (Array.getElem?_eq_some_iff.1 hBt).1).trans hBt) h0
set_option maxHeartbeats 1000000 in
theorem leads_any (a:Option Addr) (len cap i:Nat) (w:World):
 Calls Tryz.prog 88 #[.slice a len cap,iV i] w fun e w'=>e=.returned (.func (.func 126) #[] #[.pointer (some ⟨w.heap.size,0,none⟩),.pointer (some ⟨w.heap.size+1,0,none⟩)])∧w'=(w.alloc (.cells #[.slice a len cap] 25)).alloc (.cells #[iV i] 3):=by
 go_enter Tryz.func88,Tryz.ntmps88
 go_wp2_with fail;go_ret;exact ⟨rfl,rfl⟩
end Go.Proofs.YtmggaclaoefdaabGreat
