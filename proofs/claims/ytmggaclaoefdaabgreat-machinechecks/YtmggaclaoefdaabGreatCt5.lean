/- Part of the proof. -/
import Derived.Test.YtmggaclaoefdaabGreatSq0
import Derived.Test.YtmggaclaoefdaabGreatCt3
import Derived.Test.YtmggaclaoefdaabGreatCt4
import Derived.Test.YtmggaclaoefdaabGreatGAF
namespace Go.Proofs.YtmggaclaoefdaabGreat
open Go.RowKit Go.Shelf
set_option linter.unusedVariables false
set_option linter.unusedSimpArgs false
attribute [local go_sem] Oper.semAt_some
theorem ckr_st {P:Pg} {m:Mi} (h0:progV P=0) (h1:PtsR m 0) (h: ¬StP m P.len):CkR P m 4:=.inr ⟨h0,.inr ⟨h1,.inl ⟨h,rfl⟩⟩⟩
structure MBig (w:World) (m:Mi) (an:List Tm):Prop where
 ck:m.cl*40≤140737488351232
 al:m.al=an.length
 aa:AR w m.aa an
 nn:an.length*24≤140737488351232
 sm: ∀A∈an,SmT A
theorem MBig.below {w w':World} {m:Mi} {an:List Tm} (h:MBig w m an) (hB:Below w.heap.size w w'):MBig w' m an:=⟨h.ck,h.al,h.aa.below hB,h.nn,h.sm⟩
def LV (m:Mi) (gh ch gg cg gk ck gt ct gq cq:Nat) (a8:Option Addr) (l8 c8 i:Nat):Mi:=levM m { xM m gh ch gg cg gk ck gt ct gq cq with aa:=a8,al:=l8,ac:=c8} i
structure RwG (m:Mi) (lo:Nat) (W:World) (gg cg gk ck gt ct gq cq:Nat):Prop where
 g:W.ownsRow lo 76 3 (.slice (some ⟨gg,0,none⟩) m.gl cg) m.gl (goalL m.g m.gl)
 k:W.ownsRow lo 78 5 (.slice (some ⟨gk,0,none⟩) m.cl ck) m.cl (chL m.c m.cl)
 t:W.ownsRow lo 3 1 (.slice (some ⟨gt,0,none⟩) m.tl ct) m.tl (intL m.t m.tl)
 q:W.ownsRow lo 3 1 (.slice (some ⟨gq,0,none⟩) m.ql cq) m.ql (intL m.q m.ql)
theorem RwG.kept {m:Mi} {lo:Nat} {W W':World} {gg cg gk ck gt ct gq cq:Nat} (h:RwG m lo W gg cg gk ck gt ct gq cq) {B:Nat} (hg:W.grownBy W' (some B)) (hB:B≠gg∧B≠gk∧B≠gt∧B≠gq):RwG m lo W' gg cg gk ck gt ct gq cq:=
 ⟨h.g.kept hg (.inr (fun e=>hB.1 (Option.some.inj e).symm)),h.k.kept hg (.inr (fun e=>hB.2.1 (Option.some.inj e).symm)),h.t.kept hg (.inr (fun e=>hB.2.2.1 (Option.some.inj e).symm)),h.q.kept hg (.inr (fun e=>hB.2.2.2 (Option.some.inj e).symm))⟩
theorem RwG.below {m:Mi} {lo:Nat} {W W':World} {gg cg gk ck gt ct gq cq:Nat} (h:RwG m lo W gg cg gk ck gt ct gq cq) (hB:Below W.heap.size W W'):RwG m lo W' gg cg gk ck gt ct gq cq:=
 ⟨h.g.kept (grown_of_below hB none) (.inr (by simp[Value.ownBlock])),h.k.kept (grown_of_below hB none) (.inr (by simp[Value.ownBlock])),h.t.kept (grown_of_below hB none) (.inr (by simp[Value.ownBlock])),h.q.kept (grown_of_below hB none) (.inr (by simp[Value.ownBlock]))⟩
theorem irow_of {W:World} {lo g n c:Nat} {f:Nat→Int} (h:W.ownsRow lo 3 1 (.slice (some ⟨g,0,none⟩) n c) n (intL f n)) {i:Nat} (hi:i<n):IRow W (some ⟨g,0,none⟩) i (f i):=by
 refine ⟨g,0,rfl,?_⟩;have:=h.cellAt i (by omega)
 rw[Nat.zero_add,this];simp[intL,hi]
theorem flat_at {W:World} {lo e s g n c:Nat} {F:Nat→List Value} (hF: ∀i,(F i).length=s) (h:W.ownsRow lo e s (.slice (some ⟨g,0,none⟩) n c) n ((List.range n).flatMap F)) {i r:Nat} (hi:i<n) (hr:r<s):W.cell? ⟨g,0+i*s+r,none⟩=(F i)[r]?:=by
 have hlt:i*s+r<n*s:=by
  have:(i+1)*s≤n*s:=Nat.mul_le_mul_right s hi;rw[Nat.succ_mul]at this;omega
 have:=h.cellAt (i*s+r) hlt;rw[flatF_get F s hF n i r hi hr]at this;rw[Nat.zero_add];exact this
theorem grow_of {W:World} {lo g n c:Nat} {f:Nat→Gi} (h:W.ownsRow lo 76 3 (.slice (some ⟨g,0,none⟩) n c) n (goalL f n)) {i:Nat} (hi:i<n):GRow W (some ⟨g,0,none⟩) i (f i):=
 ⟨g,0,rfl,flat_at (F:=goalF f) (fun _=>rfl) h hi (r:=0) (by omega),flat_at (F:=goalF f) (fun _=>rfl) h hi (r:=1) (by omega),flat_at (F:=goalF f) (fun _=>rfl) h hi (r:=2) (by omega)⟩
theorem krow_of {W:World} {lo g n c:Nat} {f:Nat→Ci} (h:W.ownsRow lo 78 5 (.slice (some ⟨g,0,none⟩) n c) n (chL f n)) {i:Nat} (hi:i<n):KRow W (some ⟨g,0,none⟩) i (f i):=
 ⟨g,0,rfl,flat_at (F:=chF f) (fun _=>rfl) h hi (r:=0) (by omega),flat_at (F:=chF f) (fun _=>rfl) h hi (r:=1) (by omega),flat_at (F:=chF f) (fun _=>rfl) h hi (r:=2) (by omega),flat_at (F:=chF f) (fun _=>rfl) h hi (r:=3) (by omega),flat_at (F:=chF f) (fun _=>rfl) h hi (r:=4) (by omega)⟩
theorem lv_in {m:Mi} {n:Int} {W:World} {lo gh ch gg cg gk ck gt ct gq cq l8 c8 i:Nat} {a8:Option Addr} {l:List Cl} (hG:GrwP m n) (hi:i<m.cl) (hbig:m.gl≤17592186043904∧m.cl≤17592186043904∧m.tl≤17592186043904∧m.ql≤17592186043904) (hl4:m.hl≤400000) (hnm: ∀j,j<m.hl→(m.h j).nm.size≤maxLen)
 (hl:l.length=m.hl) (hu: ∀j,j<HPl m i→l[j]?=some (UHl m i j)) (hc:CRw lo W (.slice (some ⟨gh,0,none⟩) m.hl ch) l) (hR:RwG m lo W gg cg gk ck gt ct gq cq):MIn W (LV m gh ch gg cg gk ck gt ct gq cq a8 l8 c8 i):=by
 obtain ⟨l1,l2,l3,l4,l5,l6⟩:=grw_next hG hi;obtain ⟨sa,cp,hv,hcp,_⟩:=hc.form
 injection hv with e1 e2 e3
 refine ⟨⟨fun j hj=>?_,by show HPl m i≤_;unfold maxLen;omega,fun j hj=>?_⟩,by show HPl m i≤ch;omega,fun j hj=>?_,fun j hj=>krow_of hR.k hj,fun j hj=>?_,fun j hj=>irow_of hR.q hj,⟨by show GSl m i≤_;omega,hbig.2.1,by show TRl m i≤_;omega,hbig.2.2.2⟩⟩
 ·have hj':j<HPl m i:=hj
  have hlj:j<l.length:=by omega
  have hlu:l[j]=UHl m i j:=by have:=hu j hj';rw[List.getElem?_eq_getElem hlj]at this;exact Option.some.inj this
  have hrow:W.ownsRow lo 81 3 (.slice (some ⟨gh,0,none⟩) m.hl ch) m.hl (flatC l):=by have h:=hc;unfold CRw at h;rw[hl]at h;exact h
  have hfl:flatC l=(List.range m.hl).flatMap (cellF fun j=>l.getD j ⟨0,0,ByteArray.empty⟩):=by
   rw[show (List.range m.hl).flatMap (cellF fun j=>l.getD j ⟨0,0,ByteArray.empty⟩)=cellL (fun j=>l.getD j ⟨0,0,ByteArray.empty⟩) m.hl from rfl,cellL_flat]
   congr 1
   apply List.ext_getElem
   ·simp[hl]
   ·intro a b c
    simp[List.getD,b]
  rw[hfl]at hrow;have hat:=fun r (hr:r<3)=>flat_at (F:=cellF fun j=>l.getD j ⟨0,0,ByteArray.empty⟩) (fun _=>rfl) hrow (i:=j) (r:=r) (by omega) hr
  have hg:l.getD j ⟨0,0,ByteArray.empty⟩=UHl m i j:=by rw[←hlu];simp[List.getD,hlj]
  have e0:=hat 0 (by omega)
  have e1':=hat 1 (by omega)
  have e2':=hat 2 (by omega)
  simp only[cellF,hg]at e0 e1' e2';exact ⟨gh,0,rfl,e0,e1',e2'⟩
 ·show (UHl m i j).nm.size≤maxLen
  have hj':j<HPl m i:=hj;unfold UHl
  split
  ·show (0:Nat)≤maxLen;exact Nat.zero_le _
  ·exact hnm j (by omega)
 ·have hj':j<GSl m i:=hj
  exact grow_of hR.g (by omega)
 ·have hj':j<TRl m i:=hj
  exact irow_of hR.t (by omega)
theorem lv_n {m:Mi} {gh ch gg cg gk ck gt ct gq cq l8 c8 i:Nat} {a8:Option Addr} (H:HG m.h m.hl) (hle:HPl m i≤m.hl): ∀j,j<(LV m gh ch gg cg gk ck gt ct gq cq a8 l8 c8 i).hl→((LV m gh ch gg cg gk ck gt ct gq cq a8 l8 c8 i).h j).k=2→0≤((LV m gh ch gg cg gk ck gt ct gq cq a8 l8 c8 i).h j).n∧((LV m gh ch gg cg gk ck gt ct gq cq a8 l8 c8 i).h j).n≤1000:=fun j hj hk=>by
 have hj':j<HPl m i:=hj;have hk':(UHl m i j).k=2:=hk
 show 0≤(UHl m i j).n∧(UHl m i j).n≤1000
 by_cases hu:(TRl m i:Int)≤lastI m m.tl j
 ·have:UHl m i j=⟨1,(j:Int),⟨#[]⟩⟩:=by unfold UHl;rw[if_pos hu]
  rw[this]at hk';exact absurd (show (1:Int)=2 from hk') (by decide)
 ·have:UHl m i j=m.h j:=by unfold UHl;rw[if_neg hu]
  rw[this]at hk' ⊢;exact ⟨H.ok.n0 j (by omega),by have:=H.ok.n4 j (by omega) (by omega);omega⟩
theorem blk9 {W:World} {k:Nat} {t:TypeId} {a b c d e f g h i:Value} (H:W.heap[k]?=some (.cells #[a,b,c,d,e,f,g,h,i] t)):(W.cell? ⟨k,0,none⟩=some a∧W.cell? ⟨k,1,none⟩=some b∧W.cell? ⟨k,2,none⟩=some c∧W.cell? ⟨k,3,none⟩=some d∧W.cell? ⟨k,4,none⟩=some e)∧(W.cell? ⟨k,5,none⟩=some f∧W.cell? ⟨k,6,none⟩=some g∧W.cell? ⟨k,7,none⟩=some h∧W.cell? ⟨k,8,none⟩=some i)∧∀j,W.frozen? ⟨k,j,none⟩=false:=by
 refine ⟨⟨?_,?_,?_,?_,?_⟩,⟨?_,?_,?_,?_⟩,fun j=>?_⟩ <;> simp[World.cell?,World.frozen?,H]
theorem lv_cells (m:Mi) (gh ch gg cg gk ck gt ct gq cq:Nat) (a8:Option Addr) (l8 c8 k:Nat):(LV m gh ch gg cg gk ck gt ct gq cq a8 l8 c8 k).cells= #[.slice (some ⟨gh,0,none⟩) (HPl m k) ch,.slice (some ⟨gg,0,none⟩) (GSl m k) cg,iV m.first,.slice (some ⟨gk,0,none⟩) m.cl ck,.slice (some ⟨gt,0,none⟩) (TRl m k) ct,.slice (some ⟨gq,0,none⟩) m.ql cq,iV m.st,iV m.fin,.slice a8 l8 c8]:=rfl
theorem lv_call {m:Mi} {n:Int} {W:World} {lo gh ch gg cg gk ck gt ct gq cq l8 c8 k:Nat} {a8:Option Addr} {l:List Cl} (hG:GrwP m n) (hi:k<m.cl) (hbig:m.gl≤17592186043904∧m.cl≤17592186043904∧m.tl≤17592186043904∧m.ql≤17592186043904) (hl4:m.hl≤400000) (hq:m.ql≤12) (hnm: ∀j,j<m.hl→(m.h j).nm.size≤maxLen) (H:HG m.h m.hl)
 (hl:l.length=m.hl) (hu: ∀j,j<HPl m k→l[j]?=some (UHl m k j)) (hc:CRw lo W (.slice (some ⟨gh,0,none⟩) m.hl ch) l) (hR:RwG m lo W gg cg gk ck gt ct gq cq):
 Calls Tryz.prog 39 #[.agg #[.slice (some ⟨gh,0,none⟩) (HPl m k) ch,.slice (some ⟨gg,0,none⟩) (GSl m k) cg,iV m.first,.slice (some ⟨gk,0,none⟩) m.cl ck,.slice (some ⟨gt,0,none⟩) (TRl m k) ct,.slice (some ⟨gq,0,none⟩) m.ql cq,iV m.st,iV m.fin,.slice a8 l8 c8]] W (BR (ThP (LV m gh ch gg cg gk ck gt ct gq cq a8 l8 c8 k)) W):=by
 obtain ⟨l1,l2,l3,l4,l5,l6⟩:=grw_next hG hi;have h:=allThere_any (m:=LV m gh ch gg cg gk ck gt ct gq cq a8 l8 c8 k) W (lv_in hG hi hbig hl4 hnm hl hu hc hR) (lv_n H (by omega)) (Nat.le_trans (show HPl m k≤m.hl by omega) hl4) hq
 rw[lv_cells]at h;exact h
def CkO (P:Pg) (m:Mi) (w:World) (e:Ending) (w':World):Prop:=∃c:Int,e=.returned (iV c)∧CkR P m c∧Below w.heap.size w w'
section
set_option maxRecDepth 100000 in
set_option maxHeartbeats 16000000 in
theorem checkMachine_any (P:Pg) {m:Mi} {an:List Tm} (w:World) (hP:PIn w P) (hm:MIn w m) (hA:MBig w m an):
 Calls Tryz.prog 12 #[.slice P.a P.len P.cap,.agg m.cells] w (CkO P m w):=by
 have HX:Hid ((w.alloc (.cells m.cells 31)).heap[w.heap.size]?=some (.cells m.cells 31)):=heap_alloc_new _ _;have HBa:Hid (Below w.heap.size w (w.alloc (.cells m.cells 31))):=(Below.refl _ _).alloc (Nat.le_refl _) _;have HNm:Hid (∀j,j<m.hl→(m.h j).nm.size≤maxLen):=hm.h.nm;have HXX:Hid (∀W,Below (w.alloc (.cells m.cells 31)).heap.size (w.alloc (.cells m.cells 31)) W→W.heap[w.heap.size]?=some (.cells m.cells 31)∧MIn W m∧Below w.heap.size w W):=fun W hW=>⟨(hW.block _ (by simp)).trans HX.o,hm.below (HBa.o.trans (hW.mono HBa.o.size)),HBa.o.trans (hW.mono HBa.o.size)⟩
 have HPr:Hid (∀W,Below w.heap.size w W→Calls Tryz.prog 26 #[.slice P.a P.len P.cap] W fun e w'=>e=.returned (iV (progV P))∧Below W.heap.size W w'):=fun W hW=>checkProgram_any P W (hP.below hW)
 have HHp:Hid (∀W,Below w.heap.size w W→Calls Tryz.prog 38 #[.slice m.ha m.hl m.hc] W fun e w'=>∃c:Int,e=.returned (iV c)∧ChkR m.h m.hl c∧Below W.heap.size W w'):=fun W hW=>checkHeap_any W (hm.below hW).h
 have HAl:Hid (∀W,Below w.heap.size w W→HG m.h m.hl→m.hl≤400000→m.ql≤12→Calls Tryz.prog 39 #[.agg #[.slice m.ha m.hl m.hc,.slice m.ga m.gl m.gc,iV m.first,.slice m.ca m.cl m.cc,.slice m.ta m.tl m.tc,.slice m.qa m.ql m.qc,iV m.st,iV m.fin,.slice m.aa m.al m.ac]] W (BR (ThP m) W)):=fun W hW hg hl hq=>allThere_any W (hm.below hW) (fun i hi hk=>⟨hg.ok.n0 i hi,by have:=hg.ok.n4 i hi (by omega);omega⟩) hl hq
 have HCp:Hid (∀W,Below w.heap.size w W→m.hl≤400000→m.gl≤5000→m.ql≤12→Calls Tryz.prog 40 #[.agg #[.slice m.ha m.hl m.hc,.slice m.ga m.gl m.gc,iV m.first,.slice m.ca m.cl m.cc,.slice m.ta m.tl m.tc,.slice m.qa m.ql m.qc,iV m.st,iV m.fin,.slice m.aa m.al m.ac]] W (CpO m W)):=fun W hW hl hg hq=>copyMachine_any W (hm.below hW) hl hg hq hA.ck hA.al (hA.aa.below hW) hA.nn hA.sm
 have hlP:P.len≤2 ^ 63-1:=hP.1;obtain ⟨hbg,hbc,hbt,hbq⟩:=hm.big;have hsz:w.heap.size<(w.alloc (.cells m.cells 31)).heap.size:=by simp
 clear hm hP hA
 go_enter Tryz.func12,Tryz.ntmps12
 rw[show Value.agg m.cells=.agg #[.slice m.ha m.hl m.hc,.slice m.ga m.gl m.gc,iV m.first,.slice m.ca m.cl m.cc,.slice m.ta m.tl m.tc,.slice m.qa m.ql m.qc,iV m.st,iV m.fin,.slice m.aa m.al m.ac]from rfl]
 obtain ⟨⟨x0,x1,x2,x3,x4⟩,⟨x5,x6,x7,x8⟩,_⟩:=Mi.get HX.o;have hW:w.alloc (.cells #[.slice m.ha m.hl m.hc,.slice m.ga m.gl m.gc,iV m.first,.slice m.ca m.cl m.cc,.slice m.ta m.tl m.tc,.slice m.qa m.ql m.qc,iV m.st,iV m.fin,.slice m.aa m.al m.ac] 31)=w.alloc (.cells m.cells 31):=rfl;generalize w.alloc (.cells m.cells 31)=wa at*;go_wp2_with fail;clear hW x0 x1 x2 x3 x4 x5 x6 x7 x8;refine (HPr.o _ HBa.o).mono ?_;rintro e wb ⟨rfl,hb1⟩;have HB1:Hid (Below wa.heap.size wa wb):=hb1;clear hb1
 by_cases hp0:progV P=0
 case neg=>
  have h1:(progV P==0)=false:=beq_eq_false_iff_ne.2 hp0;have h2:(progV P !=0)=true:=bne_iff_ne.2 hp0;have HF:Hid (CkR P m (progV P)):=.inl ⟨hp0,rfl⟩;clear hp0;go_wp2_with fail;go_ret;exact ⟨_,rfl,HF.o,(HXX.o _ HB1.o).2.2⟩
 have Hp0:Hid (progV P=0):=hp0;rw[hp0];clear hp0;obtain ⟨⟨y0,_⟩,_⟩:=Mi.get (HXX.o _ HB1.o).1;go_wp2_with fail;clear y0;refine (HHp.o _ (HXX.o _ HB1.o).2.2).mono ?_;rintro e w2 ⟨c,rfl,hch,hb2⟩;have HB2:Hid (Below wa.heap.size wa w2):=HB1.o.trans (hb2.mono HB1.o.size);have HCh:Hid (ChkR m.h m.hl c):=hch;clear hb2 hch HB1
 by_cases hc0:c=0
 case neg=>
  have h2:(c !=0)=true:=bne_iff_ne.2 hc0;have HF:Hid (CkR P m c):=.inr ⟨Hp0.o,.inl ⟨hc0,.inl ⟨hc0,HCh.o⟩⟩⟩;clear hc0;go_wp2_with fail;go_ret;exact ⟨_,rfl,HF.o,(HXX.o _ HB2.o).2.2⟩
 subst hc0;have HGo:Hid (HG m.h m.hl):=HCh.o.good.1;have hl4:m.hl≤400000:=HCh.o.good.2;obtain ⟨⟨y0,y1,y2,y3,y4⟩,⟨y5,y6,y7,y8⟩,_⟩:=Mi.get (HXX.o _ HB2.o).1
 by_cases hmany:m.gl>5000∨m.ql>12
 case pos=>
  have HF:Hid (CkR P m 2):=.inr ⟨Hp0.o,.inl ⟨by decide,.inr ⟨HCh.o,.inl ⟨hmany,rfl⟩⟩⟩⟩
  by_cases hg5:m.gl>5000
  ·have h1:(m.gl:Int)>5000:=by omega
   clear hmany hg5;go_wp2_with fail;go_ret;exact ⟨_,rfl,HF.o,(HXX.o _ HB2.o).2.2⟩
  ·have h1: ¬((m.gl:Int)>5000):=by omega
   have h2:(m.ql:Int)>12:=by have:=hmany.resolve_left hg5;omega
   clear hmany hg5;go_wp2_with fail;go_ret;exact ⟨_,rfl,HF.o,(HXX.o _ HB2.o).2.2⟩
 have hg5:m.gl≤5000:=by omega
 have hq12:m.ql≤12:=by omega
 have HMn:Hid (¬(m.gl>5000∨m.ql>12)):=hmany;have h1: ¬((m.gl:Int)>5000):=by omega
 have h2: ¬((m.ql:Int)>12):=by omega
 clear hmany;go_wp2_with fail;clear h1 h2 y0 y1 y2 y3 y4 y5 y6 y7 y8;refine (HAl.o _ (HXX.o _ HB2.o).2.2 HGo.o hl4 hq12).mono ?_;rintro e w3 ⟨b,rfl,hb,hb3⟩;have HB3:Hid (Below wa.heap.size wa w3):=HB2.o.trans (hb3.mono HB2.o.size);have HTb:Hid (b=true↔ThP m):=hb;clear hb hb3 HB2
 cases b with
 |false=>
  have HF:Hid (CkR P m 5):=by
   refine .inr ⟨Hp0.o,.inl ⟨by decide,.inr ⟨HCh.o,.inr ⟨HMn.o,.inl ⟨?_,rfl⟩⟩⟩⟩⟩
   cases ht:thereB m with
   |false=>rfl
   |true=>exact absurd (HTb.o.2 ((thP_iff HGo.o).2 ht)) (by decide)
  go_wp2_with fail;go_ret;exact ⟨_,rfl,HF.o,(HXX.o _ HB3.o).2.2⟩
 |true=>
 have HTh:Hid (thereB m=true):=(thP_iff HGo.o).1 (HTb.o.1 rfl);have HPt:Hid (PtsR m 0):=.inr ⟨HCh.o,.inr ⟨HMn.o,.inr ⟨HTh.o,rfl⟩⟩⟩;clear HTb;go_wp2_with fail
 go_loopw [6] (fun x wr=>∃i:Nat,i≤m.gl∧x=iV (i:Int)∧OrdG m i∧Below wa.heap.size wa wr) (fun x _=>m.gl-(intOf x).toNat)
 case atStart=>exact ⟨0,Nat.zero_le _,rfl,fun j hj=>absurd hj (Nat.not_lt_zero j),HB3.o⟩
 clear HB3;obtain ⟨i,hi,rfl,hk,hb⟩:=hrel;have HK:Hid (OrdG m i):=hk;have HB:Hid (Below wa.heap.size wa wr):=hb;obtain ⟨⟨y0,y1,y2,y3,y4⟩,⟨y5,y6,y7,y8⟩,_⟩:=Mi.get (HXX.o wr hb).1;clear hk hb
 by_cases hil:i<m.gl
 case pos=>
  have hiI:(i:Int)<(m.gl:Int):=by omega
  obtain ⟨b,o,hga,c0,c1,c2⟩:=(HXX.o wr HB.o).2.1.g i hil;rw[hga]at y1;clear hga
  by_cases hn:0≤(m.g i).nx∧(m.g i).nx≤i
  case neg=>
   have HBt:Hid (∀W,Calls Tryz.prog 28 #[iV (m.g i).nx,iV 0,iV (i:Int)] W fun e w'=>e=.returned (.bool false)∧w'=W):=fun W=>btw_at (by simp;omega) W
   have HF:Hid (CkR P m 4):=ckr_st Hp0.o HPt.o fun h=>hn ⟨(h.1.1 i hil).1,(h.1.1 i hil).2.1⟩
   clear hn;go_wp2_with fail;refine (HBt.o _).mono ?_;rintro e w1 ⟨rfl,hw1⟩;rw[hw1];clear hw1;go_wp2_with fail;go_ret;exact ⟨_,rfl,HF.o,(HXX.o _ HB.o).2.2⟩
  have HBt:Hid (∀W,Calls Tryz.prog 28 #[iV (m.g i).nx,iV 0,iV (i:Int)] W fun e w'=>e=.returned (.bool true)∧w'=W):=fun W=>btw_at (by simp;omega) W
  by_cases hcu:(m.g i).cut<0
  case pos=>
   have HF:Hid (CkR P m 4):=ckr_st Hp0.o HPt.o fun h=>by have:=(h.1.1 i hil).2.2;omega
   clear hn;go_wp2_with fail;refine (HBt.o _).mono ?_;rintro e w1 ⟨rfl,hw1⟩;rw[hw1];clear hw1;go_wp2_with fail;go_ret;exact ⟨_,rfl,HF.o,(HXX.o _ HB.o).2.2⟩
  have HK1:Hid (OrdG m (i+1)):=fun j hj=>by
   by_cases e:j<i
   ·exact HK.o j e
   ·obtain rfl:j=i:=by omega
    exact ⟨hn.1,hn.2,by omega⟩
  clear hn;go_wp2_with fail;refine (HBt.o _).mono ?_;rintro e w1 ⟨rfl,hw1⟩;rw[hw1];clear hw1;go_wp2_with fail;go_roundw
  case rel=>exact ⟨i+1,by omega,by go_num,HK1.o,HB.o⟩
  case measure=>simp[intOf];omega
 obtain rfl:i=m.gl:=by omega
 have hiI: ¬((m.gl:Int)<(m.gl:Int)):=by omega
 by_cases hf:0≤m.first∧m.first≤m.gl
 case neg=>
  have HBt:Hid (∀W,Calls Tryz.prog 28 #[iV m.first,iV 0,iV (m.gl:Int)] W fun e w'=>e=.returned (.bool false)∧w'=W):=fun W=>btw_at (by simp;omega) W
  have HF:Hid (CkR P m 4):=ckr_st Hp0.o HPt.o fun h=>hf h.1.2
  clear hf hi hil;go_wp2_with fail;refine (HBt.o _).mono ?_;rintro e w1 ⟨rfl,hw1⟩;rw[hw1];clear hw1;go_wp2_with fail;go_ret;exact ⟨_,rfl,HF.o,(HXX.o _ HB.o).2.2⟩
 have HBt:Hid (∀W,Calls Tryz.prog 28 #[iV m.first,iV 0,iV (m.gl:Int)] W fun e w'=>e=.returned (.bool true)∧w'=W):=fun W=>btw_at (by simp;omega) W
 have HOr:Hid (OrdP m):=⟨HK.o,hf⟩;clear hf hi hil HK;go_wp2_with fail;refine (HBt.o _).mono ?_;rintro e w1 ⟨rfl,hw1⟩;rw[hw1];clear hw1;go_wp2_with fail;clear y0 y1 y2 y3 y4 y5 y6 y7 y8 hiI HBt
 go_loopw [7,8,9,10] (fun a b c x wr=>∃i:Nat,i≤m.cl∧a=iV (prevC m i).hp∧b=iV (prevC m i).tr∧c=iV (prevC m i).gs∧x=iV (i:Int)∧(∀k,k<i→GrwC m P.len k)∧Below wa.heap.size wa wr) (fun _ _ _ x _=>m.cl-(intOf x).toNat)
 case atStart=>exact ⟨0,Nat.zero_le _,rfl,rfl,rfl,rfl,fun j hj=>absurd hj (Nat.not_lt_zero j),HB.o⟩
 clear HB;obtain ⟨i,hi,rfl,rfl,rfl,rfl,hk,hb⟩:=hrel;have HK:Hid (∀k,k<i→GrwC m P.len k):=hk;have HB:Hid (Below wa.heap.size wa wr):=hb;obtain ⟨⟨y0,y1,y2,y3,y4⟩,⟨y5,y6,y7,y8⟩,_⟩:=Mi.get (HXX.o wr hb).1;clear hk hb
 by_cases hil:i<m.cl
 case pos=>
  have hiI:(i:Int)<(m.cl:Int):=by omega
  obtain ⟨b,o,hga,c0,c1,c2,c3,c4⟩:=(HXX.o wr HB.o).2.1.c i hil;rw[hga]at y3;clear hga;have HNo:Hid (¬GrwC m P.len i→CkR P m 4):=fun h=>ckr_st Hp0.o HPt.o fun h'=>h (h'.2.1 i hil)
  obtain ⟨wg,hWg⟩: ∃W,wr.alloc (.cells #[iV (m.c i).goal,iV (m.c i).cl,iV (m.c i).hp,iV (m.c i).tr,iV (m.c i).gs] 78)=W:=⟨_,rfl⟩;have hBg:Below wr.heap.size wr wg:=by rw[←hWg];exact (Below.refl _ _).alloc (Nat.le_refl _) _
  have HBg:Hid (Below wa.heap.size wa wg):=HB.o.trans (hBg.mono HB.o.size);have HG:Hid (wg.heap[wr.heap.size]?=some (.cells (m.c i).cells 78)):=by rw[Hid,←hWg];exact heap_alloc_new _ _
  obtain ⟨⟨z0,z1,z2,z3,z4⟩,⟨z5,_⟩,_⟩:=Mi.get (HXX.o wg HBg.o).1;obtain ⟨⟨g0,g1,g2,g3,g4⟩,_⟩:=Ci.get HG.o;clear hBg
  by_cases h0:1≤(m.c i).goal∧(m.c i).goal≤m.gl
  case neg=>
   have HT0:Hid (∀W,Calls Tryz.prog 28 #[iV (m.c i).goal,iV 1,iV (m.gl:Int)] W fun e w'=>e=.returned (.bool false)∧w'=W):=fun W=>btw_at (by simp;omega) W
   have HF:Hid (CkR P m 4):=HNo.o (fun h=>h0 ⟨h.a.1,Int.le_trans h.a.2 h.g.2⟩)
   clear h0;go_wp2_with fail;refine (HT0.o _).mono ?_;rintro e w1 ⟨rfl,hw1⟩;rw[hw1];clear hw1;go_wp2_with fail;go_ret;exact ⟨_,rfl,HF.o,(HXX.o _ HBg.o).2.2⟩
  have HT0:Hid (∀W,Calls Tryz.prog 28 #[iV (m.c i).goal,iV 1,iV (m.gl:Int)] W fun e w'=>e=.returned (.bool true)∧w'=W):=fun W=>btw_at (by simp;omega) W
  by_cases h1:0≤(m.c i).cl∧(m.c i).cl≤P.len
  case neg=>
   have HT1:Hid (∀W,Calls Tryz.prog 28 #[iV (m.c i).cl,iV 0,iV (P.len:Int)] W fun e w'=>e=.returned (.bool false)∧w'=W):=fun W=>btw_at (by simp;omega) W
   have HF:Hid (CkR P m 4):=HNo.o (fun h=>h1 h.c)
   clear h0 h1;go_wp2_with fail;refine (HT0.o _).mono ?_;rintro e w1 ⟨rfl,hw1⟩;rw[hw1];clear hw1;go_wp2_with fail;refine (HT1.o _).mono ?_;rintro e w1 ⟨rfl,hw1⟩;rw[hw1];clear hw1;go_wp2_with fail;go_ret;exact ⟨_,rfl,HF.o,(HXX.o _ HBg.o).2.2⟩
  have HT1:Hid (∀W,Calls Tryz.prog 28 #[iV (m.c i).cl,iV 0,iV (P.len:Int)] W fun e w'=>e=.returned (.bool true)∧w'=W):=fun W=>btw_at (by simp;omega) W
  by_cases h2:(prevC m i).hp≤(m.c i).hp∧(m.c i).hp≤m.hl
  case neg=>
   have HT2:Hid (∀W,Calls Tryz.prog 28 #[iV (m.c i).hp,iV (prevC m i).hp,iV (m.hl:Int)] W fun e w'=>e=.returned (.bool false)∧w'=W):=fun W=>btw_at (by simp;omega) W
   have HF:Hid (CkR P m 4):=HNo.o (fun h=>h2 h.h)
   clear h0 h1 h2;go_wp2_with fail;refine (HT0.o _).mono ?_;rintro e w1 ⟨rfl,hw1⟩;rw[hw1];clear hw1;go_wp2_with fail;refine (HT1.o _).mono ?_;rintro e w1 ⟨rfl,hw1⟩;rw[hw1];clear hw1;go_wp2_with fail;refine (HT2.o _).mono ?_;rintro e w1 ⟨rfl,hw1⟩;rw[hw1];clear hw1;go_wp2_with fail;go_ret;exact ⟨_,rfl,HF.o,(HXX.o _ HBg.o).2.2⟩
  have HT2:Hid (∀W,Calls Tryz.prog 28 #[iV (m.c i).hp,iV (prevC m i).hp,iV (m.hl:Int)] W fun e w'=>e=.returned (.bool true)∧w'=W):=fun W=>btw_at (by simp;omega) W
  by_cases h3:(prevC m i).tr≤(m.c i).tr∧(m.c i).tr≤m.tl
  case neg=>
   have HT3:Hid (∀W,Calls Tryz.prog 28 #[iV (m.c i).tr,iV (prevC m i).tr,iV (m.tl:Int)] W fun e w'=>e=.returned (.bool false)∧w'=W):=fun W=>btw_at (by simp;omega) W
   have HF:Hid (CkR P m 4):=HNo.o (fun h=>h3 h.t)
   clear h0 h1 h2 h3;go_wp2_with fail;refine (HT0.o _).mono ?_;rintro e w1 ⟨rfl,hw1⟩;rw[hw1];clear hw1;go_wp2_with fail;refine (HT1.o _).mono ?_;rintro e w1 ⟨rfl,hw1⟩;rw[hw1];clear hw1;go_wp2_with fail;refine (HT2.o _).mono ?_;rintro e w1 ⟨rfl,hw1⟩;rw[hw1];clear hw1;go_wp2_with fail;refine (HT3.o _).mono ?_;rintro e w1 ⟨rfl,hw1⟩;rw[hw1];clear hw1;go_wp2_with fail;go_ret;exact ⟨_,rfl,HF.o,(HXX.o _ HBg.o).2.2⟩
  have HT3:Hid (∀W,Calls Tryz.prog 28 #[iV (m.c i).tr,iV (prevC m i).tr,iV (m.tl:Int)] W fun e w'=>e=.returned (.bool true)∧w'=W):=fun W=>btw_at (by simp;omega) W
  by_cases h4:(prevC m i).gs≤(m.c i).gs∧(m.c i).gs≤m.gl
  case neg=>
   have HT4:Hid (∀W,Calls Tryz.prog 28 #[iV (m.c i).gs,iV (prevC m i).gs,iV (m.gl:Int)] W fun e w'=>e=.returned (.bool false)∧w'=W):=fun W=>btw_at (by simp;omega) W
   have HF:Hid (CkR P m 4):=HNo.o (fun h=>h4 h.g)
   clear h0 h1 h2 h3 h4;go_wp2_with fail;refine (HT0.o _).mono ?_;rintro e w1 ⟨rfl,hw1⟩;rw[hw1];clear hw1;go_wp2_with fail;refine (HT1.o _).mono ?_;rintro e w1 ⟨rfl,hw1⟩;rw[hw1];clear hw1;go_wp2_with fail;refine (HT2.o _).mono ?_;rintro e w1 ⟨rfl,hw1⟩;rw[hw1];clear hw1;go_wp2_with fail;refine (HT3.o _).mono ?_;rintro e w1 ⟨rfl,hw1⟩;rw[hw1];clear hw1;go_wp2_with fail;refine (HT4.o _).mono ?_;rintro e w1 ⟨rfl,hw1⟩;rw[hw1];clear hw1;go_wp2_with fail;go_ret;exact ⟨_,rfl,HF.o,(HXX.o _ HBg.o).2.2⟩
  have HT4:Hid (∀W,Calls Tryz.prog 28 #[iV (m.c i).gs,iV (prevC m i).gs,iV (m.gl:Int)] W fun e w'=>e=.returned (.bool true)∧w'=W):=fun W=>btw_at (by simp;omega) W
  by_cases h5:(m.c i).goal>(m.c i).gs
  case pos=>
   have HF:Hid (CkR P m 4):=HNo.o (fun h=>by have:=h.a.2;omega)
   clear h0 h1 h2 h3 h4;go_wp2_with fail;refine (HT0.o _).mono ?_;rintro e w1 ⟨rfl,hw1⟩;rw[hw1];clear hw1;go_wp2_with fail;refine (HT1.o _).mono ?_;rintro e w1 ⟨rfl,hw1⟩;rw[hw1];clear hw1;go_wp2_with fail;refine (HT2.o _).mono ?_;rintro e w1 ⟨rfl,hw1⟩;rw[hw1];clear hw1;go_wp2_with fail;refine (HT3.o _).mono ?_;rintro e w1 ⟨rfl,hw1⟩;rw[hw1];clear hw1;go_wp2_with fail;refine (HT4.o _).mono ?_;rintro e w1 ⟨rfl,hw1⟩;rw[hw1];clear hw1;go_wp2_with fail;go_ret;exact ⟨_,rfl,HF.o,(HXX.o _ HBg.o).2.2⟩
  have HK1:Hid (∀k,k<i+1→GrwC m P.len k):=fun k hk=>by
   by_cases e:k<i
   ·exact HK.o k e
   ·obtain rfl:k=i:=by omega
    exact ⟨h2,h3,h4,⟨h0.1,by omega⟩,h1⟩
  clear h0 h1 h2 h3 h4;go_wp2_with fail;refine (HT0.o _).mono ?_;rintro e w1 ⟨rfl,hw1⟩;rw[hw1];clear hw1;go_wp2_with fail;refine (HT1.o _).mono ?_;rintro e w1 ⟨rfl,hw1⟩;rw[hw1];clear hw1;go_wp2_with fail;refine (HT2.o _).mono ?_;rintro e w1 ⟨rfl,hw1⟩;rw[hw1];clear hw1;go_wp2_with fail;refine (HT3.o _).mono ?_;rintro e w1 ⟨rfl,hw1⟩;rw[hw1];clear hw1;go_wp2_with fail;refine (HT4.o _).mono ?_;rintro e w1 ⟨rfl,hw1⟩;rw[hw1];clear hw1;go_wp2_with fail
  go_region
  all_goals
   go_wp2_with fail;go_roundw
   case rel=>exact ⟨i+1,by omega,rfl,rfl,rfl,by go_num,HK1.o,HBg.o.drew⟩
   case measure=>simp[intOf];omega
 obtain rfl:i=m.cl:=by omega
 have hiI: ¬((m.cl:Int)<(m.cl:Int)):=by omega
 have HGw:Hid (GrwP m P.len):=HK.o;clear hi hil HK;go_wp2_with fail;clear y0 y1 y2 y3 y4 y5 y6 y7 y8 hiI;generalize wr=wo at*;refine (HCp.o _ (HXX.o _ HB.o).2.2 hl4 hg5 hq12).mono ?_;rintro e w4 ⟨gh,ch,gg,cg,gk,ck,gt,ct,gq,cq,a8,l8,c8,rfl,hb4,hR4⟩
 rw[show Value.agg ({ xM m gh ch gg cg gk ck gt ct gq cq with aa:=a8,al:=l8,ac:=c8}:Mi).cells=.agg #[.slice (some ⟨gh,0,none⟩) m.hl ch,.slice (some ⟨gg,0,none⟩) m.gl cg,iV m.first,.slice (some ⟨gk,0,none⟩) m.cl ck,.slice (some ⟨gt,0,none⟩) m.tl ct,.slice (some ⟨gq,0,none⟩) m.ql cq,iV m.st,iV m.fin,.slice a8 l8 c8]from rfl]
 have HB4:Hid (Below wo.heap.size wo w4):=hb4
 have HLz:Hid (HPl m m.cl=m.hl∧GSl m m.cl=m.gl∧TRl m m.cl=m.tl):=by
  unfold HPl GSl TRl;exact ⟨if_neg (Nat.lt_irrefl _),if_neg (Nat.lt_irrefl _),if_neg (Nat.lt_irrefl _)⟩
 have hrg: ∀g c (e:TypeId) s n (xs:List Value),w4.ownsRow wo.heap.size e s (.slice (some ⟨g,0,none⟩) n c) n xs→wo.heap.size≤g∧g<w4.heap.size:=fun g c e s n xs h=>h.lt g rfl
 have HNe:Hid ((wo.heap.size≤gh∧gh<w4.heap.size)∧(gg<w4.heap.size∧gk<w4.heap.size∧gt<w4.heap.size∧gq<w4.heap.size)∧(gh≠gg∧gh≠gk∧gh≠gt∧gh≠gq)):=⟨hrg _ _ _ _ _ _ hR4.h,⟨(hrg _ _ _ _ _ _ hR4.g).2,(hrg _ _ _ _ _ _ hR4.k).2,(hrg _ _ _ _ _ _ hR4.t).2,(hrg _ _ _ _ _ _ hR4.q).2⟩,fun e=>rows_ne hR4.h hR4.g (by decide) gh rfl (by rw[e];rfl),fun e=>rows_ne hR4.h hR4.k (by decide) gh rfl (by rw[e];rfl),fun e=>rows_ne hR4.h hR4.t (by decide) gh rfl (by rw[e];rfl),fun e=>rows_ne hR4.h hR4.q (by decide) gh rfl (by rw[e];rfl)⟩
 obtain ⟨wx,hWx⟩: ∃W,w4.alloc (.cells #[.slice (some ⟨gh,0,none⟩) m.hl ch,.slice (some ⟨gg,0,none⟩) m.gl cg,iV m.first,.slice (some ⟨gk,0,none⟩) m.cl ck,.slice (some ⟨gt,0,none⟩) m.tl ct,.slice (some ⟨gq,0,none⟩) m.ql cq,iV m.st,iV m.fin,.slice a8 l8 c8] 31)=W:=⟨_,rfl⟩;have hBx:Below w4.heap.size w4 wx:=by rw[←hWx];exact (Below.refl _ _).alloc (Nat.le_refl _) _
 have HBx:Hid (Below wo.heap.size wo wx):=hb4.trans (hBx.mono hb4.size)
 have HXx:Hid (wx.heap[w4.heap.size]?=some (.cells #[.slice (some ⟨gh,0,none⟩) (HPl m m.cl) ch,.slice (some ⟨gg,0,none⟩) (GSl m m.cl) cg,iV m.first,.slice (some ⟨gk,0,none⟩) m.cl ck,.slice (some ⟨gt,0,none⟩) (TRl m m.cl) ct,.slice (some ⟨gq,0,none⟩) m.ql cq,iV m.st,iV m.fin,.slice a8 l8 c8] 31)):=by
  rw[Hid,HLz.o.1,HLz.o.2.1,HLz.o.2.2,←hWx];exact heap_alloc_new _ _
 have HRx:Hid (RwG m wo.heap.size wx gg cg gk ck gt ct gq cq):=RwG.below ⟨hR4.g,hR4.k,hR4.t,hR4.q⟩ hBx
 have HHx:Hid (CRw wo.heap.size wx (.slice (some ⟨gh,0,none⟩) m.hl ch) ((List.range m.hl).map m.h)):=by
  rw[Hid];unfold CRw;rw[List.length_map,List.length_range];exact hR4.h.kept (grown_of_below hBx none) (.inr (by simp[Value.ownBlock]))
 have hos:w.heap.size<wo.heap.size:=by have:=HB.o.size;omega
 have hxs:w4.heap.size<wx.heap.size:=(Array.getElem?_eq_some_iff.1 HXx.o).1;obtain ⟨⟨y0,y1,y2,y3,y4⟩,⟨y5,y6,y7,y8⟩,_⟩:=Mi.get (HXX.o _ (HB.o.trans (HBx.o.mono HB.o.size))).1;have hwz:IntKind.i64.wrap ((m.cl:Int)-1)=(m.cl:Int)-1:=by simp[IntKind.wrap,IntKind.bits,IntKind.signed];omega
 clear hb4 hR4 hrg hBx;go_wp2_with fail;clear hWx y0 y1 y2 y3 y4 y5 y6 y7 y8
 go_loopw [13] (fun x wr=>∃(i:Nat) (z:Int) (l:List Cl),i≤m.cl∧x=iV z∧z+1=(i:Int)∧l.length=m.hl∧(∀j,j<HPl m i→l[j]?=some (UHl m i j))∧wr.heap[w4.heap.size]?=some (.cells #[.slice (some ⟨gh,0,none⟩) (HPl m i) ch,.slice (some ⟨gg,0,none⟩) (GSl m i) cg,iV m.first,.slice (some ⟨gk,0,none⟩) m.cl ck,.slice (some ⟨gt,0,none⟩) (TRl m i) ct,.slice (some ⟨gq,0,none⟩) m.ql cq,iV m.st,iV m.fin,.slice a8 l8 c8] 31)∧CRw wo.heap.size wr (.slice (some ⟨gh,0,none⟩) m.hl ch) l∧RwG m wo.heap.size wr gg cg gk ck gt ct gq cq∧Below wo.heap.size wo wr∧(∀k,i≤k→k<m.cl→ThP (LV m gh ch gg cg gk ck gt ct gq cq a8 l8 c8 k))) (fun x _=>((intOf x)+1).toNat)
 case atStart=>
  refine ⟨m.cl,(m.cl:Int)-1,(List.range m.hl).map m.h,Nat.le_refl _,rfl,by omega,by simp,fun j hj=>?_,HXx.o,HHx.o,HRx.o,HBx.o,fun k h1 h2=>by omega⟩
  have hj':j<m.hl:=by rw[HLz.o.1]at hj;exact hj
  have hu:UHl m m.cl j=m.h j:=by
   unfold UHl;rw[if_neg];rw[HLz.o.2.2];have:=lastI_lt m j m.tl;omega
  rw[hu];simp[hj']
 obtain ⟨i,z,l,hi,rfl,hz,hll,hlu,hxr,hcr,hrr,hbr,hth⟩:=hrel;have HZ:Hid (z+1=(i:Int)):=hz;have HLl:Hid (l.length=m.hl∧∀j,j<HPl m i→l[j]?=some (UHl m i j)):=⟨hll,hlu⟩;have HXr:Hid (wr.heap[w4.heap.size]?=some (.cells #[.slice (some ⟨gh,0,none⟩) (HPl m i) ch,.slice (some ⟨gg,0,none⟩) (GSl m i) cg,iV m.first,.slice (some ⟨gk,0,none⟩) m.cl ck,.slice (some ⟨gt,0,none⟩) (TRl m i) ct,.slice (some ⟨gq,0,none⟩) m.ql cq,iV m.st,iV m.fin,.slice a8 l8 c8] 31)):=hxr;have HCr:Hid (CRw wo.heap.size wr (.slice (some ⟨gh,0,none⟩) m.hl ch) l):=hcr;have HRr:Hid (RwG m wo.heap.size wr gg cg gk ck gt ct gq cq):=hrr;have HBr:Hid (Below wo.heap.size wo wr):=hbr;have HThr:Hid (∀k,i≤k→k<m.cl→ThP (LV m gh ch gg cg gk ck gt ct gq cq a8 l8 c8 k)):=hth;have HBr':Hid (Below wa.heap.size wa wr):=HB.o.trans (hbr.mono HB.o.size);obtain ⟨⟨y0,y1,y2,y3,y4⟩,⟨y5,y6,y7,y8⟩,_⟩:=Mi.get (HXX.o wr HBr'.o).1;clear hz hll hlu hxr hcr hrr hbr hth
 by_cases hi0:i=0
 case pos=>
  have hge: ¬(z≥0):=by have:=HZ.o;omega
  have HNl:Hid (¬LostP m):=by
   rw[Hid,lost_iff (x:=fun _=> { xM m gh ch gg cg gk ck gt ct gq cq with aa:=a8,al:=l8,ac:=c8}) HGo.o HTh.o HGw.o]
   rintro ⟨k,hk,h⟩;exact h (HThr.o k (by omega) hk)
  have HSt:Hid (StP m P.len):=⟨HOr.o,HGw.o,HNl.o⟩;clear hi0 hi
  by_cases hs:0≤m.st∧m.st≤400
  case neg=>
   have HBt:Hid (∀W,Calls Tryz.prog 28 #[iV m.st,iV 0,iV 400] W fun e w'=>e=.returned (.bool false)∧w'=W):=fun W=>btw_at (by simp;omega) W
   have HF:Hid (CkR P m 3):=.inr ⟨Hp0.o,.inr ⟨HPt.o,.inr ⟨HSt.o,.inl ⟨fun h=>hs h.1,rfl⟩⟩⟩⟩
   clear hs;go_wp2_with fail;refine (HBt.o _).mono ?_;rintro e w1 ⟨rfl,hw1⟩;rw[hw1];clear hw1;go_wp2_with fail;go_ret;exact ⟨_,rfl,HF.o,(HXX.o _ HBr'.o).2.2⟩
  have HBt:Hid (∀W,Calls Tryz.prog 28 #[iV m.st,iV 0,iV 400] W fun e w'=>e=.returned (.bool true)∧w'=W):=fun W=>btw_at (by simp;omega) W
  by_cases hf:0≤m.fin∧m.fin≤4
  case neg=>
   have HBt2:Hid (∀W,Calls Tryz.prog 28 #[iV m.fin,iV 0,iV 4] W fun e w'=>e=.returned (.bool false)∧w'=W):=fun W=>btw_at (by simp;omega) W
   have HF:Hid (CkR P m 3):=.inr ⟨Hp0.o,.inr ⟨HPt.o,.inr ⟨HSt.o,.inl ⟨fun h=>hf h.2,rfl⟩⟩⟩⟩
   clear hs hf;go_wp2_with fail;refine (HBt.o _).mono ?_;rintro e w1 ⟨rfl,hw1⟩;rw[hw1];clear hw1;go_wp2_with fail;refine (HBt2.o _).mono ?_;rintro e w1 ⟨rfl,hw1⟩;rw[hw1];clear hw1;go_wp2_with fail;go_ret;exact ⟨_,rfl,HF.o,(HXX.o _ HBr'.o).2.2⟩
  have HBt2:Hid (∀W,Calls Tryz.prog 28 #[iV m.fin,iV 0,iV 4] W fun e w'=>e=.returned (.bool true)∧w'=W):=fun W=>btw_at (by simp;omega) W
  have HF:Hid (CkR P m 0):=.inr ⟨Hp0.o,.inr ⟨HPt.o,.inr ⟨HSt.o,.inr ⟨⟨hs,hf⟩,rfl⟩⟩⟩⟩;clear hs hf;go_wp2_with fail;refine (HBt.o _).mono ?_;rintro e w1 ⟨rfl,hw1⟩;rw[hw1];clear hw1;go_wp2_with fail;refine (HBt2.o _).mono ?_;rintro e w1 ⟨rfl,hw1⟩;rw[hw1];clear hw1;go_wp2_with fail;go_ret;exact ⟨_,rfl,HF.o,(HXX.o _ HBr'.o).2.2⟩
 obtain ⟨k,rfl⟩: ∃k,i=k+1:=⟨i-1,by omega⟩
 obtain rfl:z=(k:Int):=by have:=HZ.o;omega
 have hkc:k<m.cl:=by omega
 have hge:(k:Int)≥0:=by omega
 have hkI:(k:Int)<(m.cl:Int):=by omega
 obtain ⟨b,o,hga,c0,c1,c2,c3,c4⟩:=(HXX.o wr HBr'.o).2.1.c k hkc;obtain ⟨_,e1,e2,e3⟩:=grw_at HGw.o hkc;obtain ⟨l1,l2,l3,l4,l5,l6⟩:=grw_next HGw.o hkc;rw[e1]at c2;rw[e2]at c3;rw[e3]at c4;rw[hga]at y3;obtain ⟨wg,hWg⟩: ∃W,wr.alloc (.cells #[iV (m.c k).goal,iV (m.c k).cl,iV (HPl m k:Int),iV (TRl m k:Int),iV (GSl m k:Int)] 78)=W:=⟨_,rfl⟩;have hBg:Below wr.heap.size wr wg:=by rw[←hWg];exact (Below.refl _ _).alloc (Nat.le_refl _) _
 have HGb:Hid (wg.heap[wr.heap.size]?=some (.cells #[iV (m.c k).goal,iV (m.c k).cl,iV (HPl m k:Int),iV (TRl m k:Int),iV (GSl m k:Int)] 78)):=by rw[Hid,←hWg];exact heap_alloc_new _ _
 have HXg:Hid (wg.heap[w4.heap.size]?=some (.cells #[.slice (some ⟨gh,0,none⟩) (HPl m (k+1)) ch,.slice (some ⟨gg,0,none⟩) (GSl m (k+1)) cg,iV m.first,.slice (some ⟨gk,0,none⟩) m.cl ck,.slice (some ⟨gt,0,none⟩) (TRl m (k+1)) ct,.slice (some ⟨gq,0,none⟩) m.ql cq,iV m.st,iV m.fin,.slice a8 l8 c8] 31)):=(hBg.block _ (Array.getElem?_eq_some_iff.1 HXr.o).1).trans HXr.o;have HCg:Hid (CRw wo.heap.size wg (.slice (some ⟨gh,0,none⟩) m.hl ch) l):=World.ownsRow.kept HCr.o (grown_of_below hBg none) (.inr (by simp[Value.ownBlock]))
 have HRg:Hid (RwG m wo.heap.size wg gg cg gk ck gt ct gq cq):=HRr.o.below hBg;have HBg:Hid (Below wo.heap.size wo wg):=HBr.o.trans (hBg.mono HBr.o.size);have hxr4:w4.heap.size<wr.heap.size:=(Array.getElem?_eq_some_iff.1 HXr.o).1;have hor:wo.heap.size≤wr.heap.size:=HBr.o.size;obtain ⟨⟨g0,g1,g2,g3,g4⟩,_⟩:=Ci.get (c:=⟨(m.c k).goal,(m.c k).cl,(HPl m k:Int),(TRl m k:Int),(GSl m k:Int)⟩) HGb.o;simp only at g0 g1 g2 g3 g4;clear hga e1 e2 e3 hBg hi hi0;go_wp2_with fail;clear hWg y0 y1 y2 y3 y4 y5 y6 y7 y8 c0 c1 c2 c3 c4 g0 g1 g2 g3 g4;generalize wr=wp at*;have hgr:gh<wp.heap.size:=by have:=HNe.o.1.2;omega
 go_loopw [15] (fun x wr=>∃(q:Nat) (l':List Cl),TRl m k≤q∧q≤TRl m (k+1)∧x=iV (q:Int)∧l'.length=m.hl∧(∀j,j<HPl m k→l'[j]?=some (UIl m k q j))∧wr.heap[w4.heap.size]?=some (.cells #[.slice (some ⟨gh,0,none⟩) (HPl m (k+1)) ch,.slice (some ⟨gg,0,none⟩) (GSl m (k+1)) cg,iV m.first,.slice (some ⟨gk,0,none⟩) m.cl ck,.slice (some ⟨gt,0,none⟩) (TRl m (k+1)) ct,.slice (some ⟨gq,0,none⟩) m.ql cq,iV m.st,iV m.fin,.slice a8 l8 c8] 31)∧wr.heap[wp.heap.size]?=some (.cells #[iV (m.c k).goal,iV (m.c k).cl,iV (HPl m k:Int),iV (TRl m k:Int),iV (GSl m k:Int)] 78)∧CRw wo.heap.size wr (.slice (some ⟨gh,0,none⟩) m.hl ch) l'∧RwG m wo.heap.size wr gg cg gk ck gt ct gq cq∧Below wo.heap.size wo wr) (fun x _=>TRl m (k+1)-(intOf x).toNat)
 case atStart=>exact ⟨TRl m k,l,Nat.le_refl _,l2,rfl,HLl.o.1,fun j hj=>by rw[UIl_zero HGw.o hkc];exact HLl.o.2 j (by omega),HXg.o,HGb.o,HCg.o,HRg.o,HBg.o⟩
 clear HGb HXg HCg HRg HBg HBr HRr HCr HXr HBr' HLl HZ;obtain ⟨q,l',hq1,hq2,rfl,hll,hlu,hxr,hgb,hcr,hrr,hbr⟩:=hrel;have HLl:Hid (l'.length=m.hl∧∀j,j<HPl m k→l'[j]?=some (UIl m k q j)):=⟨hll,hlu⟩;have HXr:Hid (wr.heap[w4.heap.size]?=some (.cells #[.slice (some ⟨gh,0,none⟩) (HPl m (k+1)) ch,.slice (some ⟨gg,0,none⟩) (GSl m (k+1)) cg,iV m.first,.slice (some ⟨gk,0,none⟩) m.cl ck,.slice (some ⟨gt,0,none⟩) (TRl m (k+1)) ct,.slice (some ⟨gq,0,none⟩) m.ql cq,iV m.st,iV m.fin,.slice a8 l8 c8] 31)):=hxr;have HGb:Hid (wr.heap[wp.heap.size]?=some (.cells #[iV (m.c k).goal,iV (m.c k).cl,iV (HPl m k:Int),iV (TRl m k:Int),iV (GSl m k:Int)] 78)):=hgb;have HCr:Hid (CRw wo.heap.size wr (.slice (some ⟨gh,0,none⟩) m.hl ch) l'):=hcr;have HRr:Hid (RwG m wo.heap.size wr gg cg gk ck gt ct gq cq):=hrr;have HBr:Hid (Below wo.heap.size wo wr):=hbr;have HBr':Hid (Below wa.heap.size wa wr):=HB.o.trans (hbr.mono HB.o.size);obtain ⟨⟨x0,x1,x2,x3,x4⟩,⟨x5,x6,x7,x8⟩,xf⟩:=blk9 HXr.o;have xf0:=xf 0;have xf1:=xf 1;have xf4:=xf 4;clear xf;obtain ⟨⟨g0,g1,g2,g3,g4⟩,_⟩:=Ci.get (c:=⟨(m.c k).goal,(m.c k).cl,(HPl m k:Int),(TRl m k:Int),(GSl m k:Int)⟩) HGb.o;simp only at g0 g1 g2 g3 g4;clear hll hlu hxr hgb hcr hrr hbr
 by_cases hql:q<TRl m (k+1)
 case pos=>
  have hqI:(q:Int)<((TRl m (k+1):Nat):Int):=by omega
  obtain ⟨tx,htx⟩: ∃tx:Nat,m.t q=(tx:Int):=⟨(m.t q).toNat,by have:=(thereB_iff.1 HTh.o).2.1 q (by omega);have:=this.1;omega⟩
  obtain ⟨b',o',hgt,ct0⟩:=irow_of HRr.o.t (i:=q) (by omega)
  cases hgt;rw[htx,Nat.zero_add]at ct0;have HStp:Hid (∀j,UIl m k (q+1) j=if j=tx∧tx<HPl m k then ⟨1,(tx:Int),⟨#[]⟩⟩else UIl m k q j):=UIl_step hq1 htx
  clear htx
  by_cases hxh:tx<HPl m k
  case pos=>
   have hxI:(tx:Int)<((HPl m k:Nat):Int):=by omega
   have hxI2:(tx:Int)<((HPl m (k+1):Nat):Int):=by omega
   have hrow:wr.ownsRow wo.heap.size 81 3 (.slice (some ⟨gh,0,none⟩) m.hl ch) m.hl (flatC l'):=by have h8:=HCr.o;unfold CRw at h8;rw[HLl.o.1]at h8;exact h8
   have ex5: ∀i,i<m.hl*3→∃v,wr.cell? ⟨gh,i,none⟩=some v:=fun i hi=>by
    have h8:=World.ownsRow.cellAt hrow i hi;have hl:i<(flatC l').length:=by rw[flatC_length,HLl.o.1];exact hi
    exact ⟨_,h8.trans (List.getElem?_eq_getElem hl)⟩
   obtain ⟨v0,p0⟩:=ex5 (tx*3) (by omega)
   obtain ⟨v1,p1⟩:=ex5 (tx*3+1) (by omega)
   obtain ⟨v2,p2⟩:=ex5 (tx*3+2) (by omega)
   obtain ⟨cu,hcu⟩:=row_blk hrow (g:=gh) rfl;have q0:wr.frozen? ⟨gh,tx*3,none⟩=false:=by simp[World.frozen?,hcu]
   have q1:wr.frozen? ⟨gh,tx*3+1,none⟩=false:=by simp[World.frozen?,hcu]
   have q2:wr.frozen? ⟨gh,tx*3+2,none⟩=false:=by simp[World.frozen?,hcu]
   clear hrow ex5 hcu;go_wp2_with fail
   go_region
   all_goals
    go_wp2_with fail
    go_region
   all_goals
    have hS:=CRw.setF HCr.o HLl.o.1.symm (i:=tx) (by rw[HLl.o.1];omega) ⟨1,(tx:Int),⟨#[]⟩⟩
    have hg3:wr.grownBy (((wr.setCell ⟨gh,tx*3,none⟩ (iV 1)).setCell ⟨gh,tx*3+1,none⟩ (iV (tx:Int))).setCell ⟨gh,tx*3+2,none⟩ (.string ⟨#[]⟩)) (some gh):=((grown_set _ _ _).trans (grown_set _ _ _)).trans (grown_set _ _ _);have HCn:Hid (CRw wo.heap.size (((wr.setCell ⟨gh,tx*3,none⟩ (iV 1)).setCell ⟨gh,tx*3+1,none⟩ (iV (tx:Int))).setCell ⟨gh,tx*3+2,none⟩ (.string ⟨#[]⟩)) (.slice (some ⟨gh,0,none⟩) m.hl ch) (l'.set tx ⟨1,(tx:Int),⟨#[]⟩⟩)):=hS;have HRn:Hid (RwG m wo.heap.size (((wr.setCell ⟨gh,tx*3,none⟩ (iV 1)).setCell ⟨gh,tx*3+1,none⟩ (iV (tx:Int))).setCell ⟨gh,tx*3+2,none⟩ (.string ⟨#[]⟩)) gg cg gk ck gt ct gq cq):=HRr.o.kept hg3 HNe.o.2.2;have HXn:Hid ((((wr.setCell ⟨gh,tx*3,none⟩ (iV 1)).setCell ⟨gh,tx*3+1,none⟩ (iV (tx:Int))).setCell ⟨gh,tx*3+2,none⟩ (.string ⟨#[]⟩)).heap[w4.heap.size]?=some (.cells #[.slice (some ⟨gh,0,none⟩) (HPl m (k+1)) ch,.slice (some ⟨gg,0,none⟩) (GSl m (k+1)) cg,iV m.first,.slice (some ⟨gk,0,none⟩) m.cl ck,.slice (some ⟨gt,0,none⟩) (TRl m (k+1)) ct,.slice (some ⟨gq,0,none⟩) m.ql cq,iV m.st,iV m.fin,.slice a8 l8 c8] 31)):=(hg3.block _ (Array.getElem?_eq_some_iff.1 HXr.o).1 (fun e=>by have:=Option.some.inj e;have:=HNe.o.1.2;omega)).trans HXr.o
    have HGn:Hid ((((wr.setCell ⟨gh,tx*3,none⟩ (iV 1)).setCell ⟨gh,tx*3+1,none⟩ (iV (tx:Int))).setCell ⟨gh,tx*3+2,none⟩ (.string ⟨#[]⟩)).heap[wp.heap.size]?=some (.cells #[iV (m.c k).goal,iV (m.c k).cl,iV (HPl m k:Int),iV (TRl m k:Int),iV (GSl m k:Int)] 78)):=(hg3.block _ (Array.getElem?_eq_some_iff.1 HGb.o).1 (fun e=>by have:=Option.some.inj e;omega)).trans HGb.o
    have HBn:Hid (Below wo.heap.size wo (((wr.setCell ⟨gh,tx*3,none⟩ (iV 1)).setCell ⟨gh,tx*3+1,none⟩ (iV (tx:Int))).setCell ⟨gh,tx*3+2,none⟩ (.string ⟨#[]⟩))):=HBr.o.grown hg3 HBr.o.size (fun j e=>by have:=Option.some.inj e;have:=HNe.o.1.1;omega)
    have HLn:Hid ((l'.set tx ⟨1,(tx:Int),⟨#[]⟩⟩).length=m.hl∧∀j,j<HPl m k→(l'.set tx ⟨1,(tx:Int),⟨#[]⟩⟩)[j]?=some (UIl m k (q+1) j)):=by
     refine ⟨by rw[List.length_set];exact HLl.o.1,fun j hj=>?_⟩
     rw[HStp.o,List.getElem?_set]
     by_cases e:tx=j
     ·rw[if_pos e,if_pos (by rw[HLl.o.1];omega),if_pos ⟨e.symm,hxh⟩]
     ·rw[if_neg e,if_neg (fun h=>e h.1.symm)];exact HLl.o.2 j hj
    clear hS hg3;go_wp2_with fail;generalize ((wr.setCell ⟨gh,tx*3,none⟩ (iV 1)).setCell ⟨gh,tx*3+1,none⟩ (iV (tx:Int))).setCell ⟨gh,tx*3+2,none⟩ (.string ⟨#[]⟩)=wn at*;go_roundw
    case rel=>exact ⟨q+1,l'.set tx ⟨1,(tx:Int),⟨#[]⟩⟩,by omega,by omega,by go_num,HLn.o.1,HLn.o.2,HXn.o,HGn.o,World.ownsRow.kept HCn.o (grown_of_below ((Below.refl _ _).drew.drew) none) (.inr (by simp[Value.ownBlock])),HRn.o.below ((Below.refl _ _).drew.drew),HBn.o.drew.drew⟩
    case measure=>simp[intOf];omega
  have hxI: ¬((tx:Int)<((HPl m k:Nat):Int)):=by omega
  have HL1:Hid (l'.length=m.hl∧∀j,j<HPl m k→l'[j]?=some (UIl m k (q+1) j)):=⟨HLl.o.1,fun j hj=>by rw[HStp.o,if_neg (by omega)];exact HLl.o.2 j hj⟩
  go_wp2_with fail
  go_region
  all_goals
   go_wp2_with fail;go_roundw
   case rel=>exact ⟨q+1,l',by omega,by omega,by go_num,HL1.o.1,HL1.o.2,HXr.o,HGb.o,World.ownsRow.kept HCr.o (grown_of_below ((Below.refl _ _).drew) none) (.inr (by simp[Value.ownBlock])),HRr.o.below ((Below.refl _ _).drew),HBr.o.drew⟩
   case measure=>simp[intOf];omega
 have hqI: ¬((q:Int)<((TRl m (k+1):Nat):Int)):=by omega
 obtain rfl:q=TRl m (k+1):=by omega
 have HLk:Hid (l'.length=m.hl∧∀j,j<HPl m k→l'[j]?=some (UHl m k j)):=⟨HLl.o.1,fun j hj=>by rw[←UIl_end HGw.o hkc hj];exact HLl.o.2 j hj⟩
 have hch:m.hl≤ch:=by
  obtain ⟨_,_,hv,hc,_⟩:=HCr.o.form
  injection hv with _ _ hvc
  rw[hvc,←HLl.o.1];exact hc
 have hct:m.tl≤ct:=by
  obtain ⟨_,_,hv,hc,_⟩:=row_nil HRr.o.t
  injection hv with _ _ hvc
  rw[hvc];exact hc
 have hcg:m.gl≤cg:=by
  obtain ⟨_,_,hv,hc,_⟩:=row_nil HRr.o.g
  injection hv with _ _ hvc
  rw[hvc];exact hc
 have r1:=to_runH (some ⟨gh,0,none⟩) (HPl m (k+1)) ch (HPl m k) l1 (by omega)
 have r2:=toN (some ⟨gt,0,none⟩) (TRl m (k+1)) ct (TRl m k) l2 (by omega) (fun h=>by cases h) (fun ad e=>⟨gt,(Option.some.inj e).symm⟩)
 have r3:=toG_run (some ⟨gg,0,none⟩) (GSl m (k+1)) cg (GSl m k) l3 (by omega)
 clear hq1 hq2 hql HLl;have hgs:wr.grownBy (((wr.setCell ⟨w4.heap.size,0,none⟩ (.slice (some ⟨gh,0,none⟩) (HPl m k) ch)).setCell ⟨w4.heap.size,4,none⟩ (.slice (some ⟨gt,0,none⟩) (TRl m k) ct)).setCell ⟨w4.heap.size,1,none⟩ (.slice (some ⟨gg,0,none⟩) (GSl m k) cg)) (some w4.heap.size):=((grown_set _ _ _).trans (grown_set _ _ _)).trans (grown_set _ _ _);have h4o:wo.heap.size≤w4.heap.size:=HB4.o.size
 have HXs:Hid ((((wr.setCell ⟨w4.heap.size,0,none⟩ (.slice (some ⟨gh,0,none⟩) (HPl m k) ch)).setCell ⟨w4.heap.size,4,none⟩ (.slice (some ⟨gt,0,none⟩) (TRl m k) ct)).setCell ⟨w4.heap.size,1,none⟩ (.slice (some ⟨gg,0,none⟩) (GSl m k) cg)).heap[w4.heap.size]?=some (.cells #[.slice (some ⟨gh,0,none⟩) (HPl m k) ch,.slice (some ⟨gg,0,none⟩) (GSl m k) cg,iV m.first,.slice (some ⟨gk,0,none⟩) m.cl ck,.slice (some ⟨gt,0,none⟩) (TRl m k) ct,.slice (some ⟨gq,0,none⟩) m.ql cq,iV m.st,iV m.fin,.slice a8 l8 c8] 31)):=by
  rw[Hid];simp only[World.setCell,Array.getElem?_modify];simp[HXr.o]
 have HBs:Hid (Below wo.heap.size wo (((wr.setCell ⟨w4.heap.size,0,none⟩ (.slice (some ⟨gh,0,none⟩) (HPl m k) ch)).setCell ⟨w4.heap.size,4,none⟩ (.slice (some ⟨gt,0,none⟩) (TRl m k) ct)).setCell ⟨w4.heap.size,1,none⟩ (.slice (some ⟨gg,0,none⟩) (GSl m k) cg))):=HBr.o.grown hgs HBr.o.size (fun j e=>by have:=Option.some.inj e;omega)
 have HRs:Hid (RwG m wo.heap.size (((wr.setCell ⟨w4.heap.size,0,none⟩ (.slice (some ⟨gh,0,none⟩) (HPl m k) ch)).setCell ⟨w4.heap.size,4,none⟩ (.slice (some ⟨gt,0,none⟩) (TRl m k) ct)).setCell ⟨w4.heap.size,1,none⟩ (.slice (some ⟨gg,0,none⟩) (GSl m k) cg)) gg cg gk ck gt ct gq cq):=HRr.o.kept hgs (by have:=HNe.o.2.1;omega)
 have HCs:Hid (CRw wo.heap.size (((wr.setCell ⟨w4.heap.size,0,none⟩ (.slice (some ⟨gh,0,none⟩) (HPl m k) ch)).setCell ⟨w4.heap.size,4,none⟩ (.slice (some ⟨gt,0,none⟩) (TRl m k) ct)).setCell ⟨w4.heap.size,1,none⟩ (.slice (some ⟨gg,0,none⟩) (GSl m k) cg)) (.slice (some ⟨gh,0,none⟩) m.hl ch) l'):=World.ownsRow.kept HCr.o hgs (.inr (fun e=>by have:gh=w4.heap.size:=Option.some.inj e;have:=HNe.o.1.2;omega))
 clear hgs;go_wp2_with fail
 go_cut []from 187 to 204 (fun wd=>wd.heap[w4.heap.size]?=some (.cells #[.slice (some ⟨gh,0,none⟩) (HPl m k) ch,.slice (some ⟨gg,0,none⟩) (GSl m k) cg,iV m.first,.slice (some ⟨gk,0,none⟩) m.cl ck,.slice (some ⟨gt,0,none⟩) (TRl m k) ct,.slice (some ⟨gq,0,none⟩) m.ql cq,iV m.st,iV m.fin,.slice a8 l8 c8] 31)∧Below wo.heap.size wo wd∧RwG m wo.heap.size wd gg cg gk ck gt ct gq cq∧CRw wo.heap.size wd (.slice (some ⟨gh,0,none⟩) m.hl ch) l')
 case first=>
  go_region
  all_goals
   go_wp2_with fail
   go_meet
   case rel=>exact ⟨HXs.o,HBs.o.drew,HRs.o.below ((Below.refl _ _).drew),World.ownsRow.kept HCs.o (grown_of_below ((Below.refl _ _).drew) none) (.inr (by simp[Value.ownBlock]))⟩
 case rest=>
  obtain ⟨hxd,hbd,hrd,hcd⟩:=hcut;generalize wc=wd at*;have HXd:Hid (wd.heap[w4.heap.size]?=some (.cells #[.slice (some ⟨gh,0,none⟩) (HPl m k) ch,.slice (some ⟨gg,0,none⟩) (GSl m k) cg,iV m.first,.slice (some ⟨gk,0,none⟩) m.cl ck,.slice (some ⟨gt,0,none⟩) (TRl m k) ct,.slice (some ⟨gq,0,none⟩) m.ql cq,iV m.st,iV m.fin,.slice a8 l8 c8] 31)):=hxd;have HBd:Hid (Below wo.heap.size wo wd):=hbd;have HRd:Hid (RwG m wo.heap.size wd gg cg gk ck gt ct gq cq):=hrd;have HCd:Hid (CRw wo.heap.size wd (.slice (some ⟨gh,0,none⟩) m.hl ch) l'):=hcd;clear hxd hbd hrd hcd x0 x1 x2 x3 x4 x5 x6 x7 x8 xf0 xf1 xf4 g0 g1 g2 g3 g4 r1 r2 r3 HXr HBr HBr' HRr HCr HGb HXs HBs HRs HCs;have HAt:Hid (Calls Tryz.prog 39 #[.agg #[.slice (some ⟨gh,0,none⟩) (HPl m k) ch,.slice (some ⟨gg,0,none⟩) (GSl m k) cg,iV m.first,.slice (some ⟨gk,0,none⟩) m.cl ck,.slice (some ⟨gt,0,none⟩) (TRl m k) ct,.slice (some ⟨gq,0,none⟩) m.ql cq,iV m.st,iV m.fin,.slice a8 l8 c8]] wd (BR (ThP (LV m gh ch gg cg gk ck gt ct gq cq a8 l8 c8 k)) wd)):=lv_call HGw.o hkc ⟨hbg,hbc,hbt,hbq⟩ hl4 hq12 HNm.o HGo.o HLk.o.1 HLk.o.2 HCd.o HRd.o;obtain ⟨⟨z0,z1,z2,z3,z4⟩,⟨z5,z6,z7,z8⟩,_⟩:=blk9 HXd.o;clear hch hct hcg hqI hge hkI l2 l3 hgr h4o;go_wp2_with fail;clear z0 z1 z2 z3 z4 z5 z6 z7 z8;refine HAt.o.mono ?_;rintro e w6 ⟨b6,rfl,hb,hb6⟩;have HT6:Hid (b6=true↔ThP (LV m gh ch gg cg gk ck gt ct gq cq a8 l8 c8 k)):=hb;have HB6:Hid (Below wd.heap.size wd w6):=hb6;have HBw6:Hid (Below wo.heap.size wo w6):=HBd.o.trans (hb6.mono HBd.o.size);clear hb hb6 HAt
  cases b6 with
  |false=>
   have HF:Hid (CkR P m 4):=ckr_st Hp0.o HPt.o fun h=>h.2.2 ((lost_iff (x:=fun _=> { xM m gh ch gg cg gk ck gt ct gq cq with aa:=a8,al:=l8,ac:=c8}) HGo.o HTh.o HGw.o).2 ⟨k,hkc,fun ht=>absurd (HT6.o.2 ht) (by decide)⟩)
   go_wp2_with fail;go_ret;exact ⟨_,rfl,HF.o,(HXX.o _ (HB.o.trans (HBw6.o.mono HB.o.size))).2.2⟩
  |true=>
   have hwk:IntKind.i64.wrap ((k:Int)-1)=(k:Int)-1:=by simp[IntKind.wrap,IntKind.bits,IntKind.signed];omega
   have HTk:Hid (∀i,k≤i→i<m.cl→ThP (LV m gh ch gg cg gk ck gt ct gq cq a8 l8 c8 i)):=fun i h1 h2=>by
    by_cases e:i=k
    ·subst e;exact HT6.o.1 rfl
    ·exact HThr.o i (by omega) h2
   go_wp2_with fail;go_roundw
   case rel=>exact ⟨k,(k:Int)-1,l',by omega,rfl,by omega,HLk.o.1,HLk.o.2,(HB6.o.block _ (Array.getElem?_eq_some_iff.1 HXd.o).1).trans HXd.o,World.ownsRow.kept HCd.o (grown_of_below HB6.o none) (.inr (by simp[Value.ownBlock])),HRd.o.below HB6.o,HBw6.o,HTk.o⟩
   case measure=>simp[intOf]
end
end Go.Proofs.YtmggaclaoefdaabGreat
