/- Part of the proof. -/
import Derived.Test.YtmggaclaoefdaabGreatSq0
import Derived.Test.YtmggaclaoefdaabGreatGBP
namespace Go.Proofs.YtmggaclaoefdaabGreat
open Go.RowKit Go.Shelf
set_option linter.unusedVariables false
set_option linter.unusedSimpArgs false
attribute [local go_sem] Oper.semAt_some
def StP (m:Mi) (n:Int):Prop:=OrdP m∧GrwP m n∧¬LostP m
def RgP (m:Mi):Prop:=(0≤m.st∧m.st≤400)∧(0≤m.fin∧m.fin≤4)
def CkR (P:Pg) (m:Mi) (c:Int):Prop:=(progV P≠0∧c=progV P)∨(progV P=0∧((c≠0∧PtsR m c)∨(PtsR m 0∧((¬StP m P.len∧c=4)∨(StP m P.len∧((¬RgP m∧c=3)∨(RgP m∧c=0)))))))
theorem CkR.same {P:Pg} {m:Mi} {c c':Int} (H:CkR P m c) (H':CkR P m c'):c=c':=by
 rcases H with ⟨h1,h2⟩| ⟨h1,h2⟩ <;> rcases H' with ⟨k1,k2⟩| ⟨k1,k2⟩
 ·omega
 ·exact absurd k1 h1
 ·exact absurd h1 k1
 ·rcases h2 with ⟨h2,h3⟩| ⟨h2,h3⟩ <;> rcases k2 with ⟨k2,k3⟩| ⟨k2,k3⟩
  ·exact h3.same k3
  ·exact absurd (h3.same k2) h2
  ·exact absurd (k3.same h2) k2
  ·rcases h3 with ⟨h3,h4⟩| ⟨h3,h4⟩ <;> rcases k3 with ⟨k3,k4⟩| ⟨k3,k4⟩
   ·omega
   ·exact absurd k3 h3
   ·exact absurd h3 k3
   ·rcases h4 with ⟨h4,h5⟩| ⟨h4,h5⟩ <;> rcases k4 with ⟨k4,k5⟩| ⟨k4,k5⟩
    ·omega
    ·exact absurd k4 h4
    ·exact absurd h4 k4
    ·omega
theorem PtsR.zero {m:Mi} (H:PtsR m 0):HG m.h m.hl∧m.hl≤400000∧thereB m=true:=by
 rcases H with ⟨h,_⟩| ⟨h1,h2⟩
 ·exact absurd rfl h
 ·refine ⟨h1.good.1,h1.good.2,?_⟩
  rcases h2 with ⟨_,h2⟩| ⟨_,⟨_,h2⟩| ⟨h2,_⟩⟩
  ·cases h2
  ·cases h2
  ·exact h2
theorem thereB.t {m:Mi} (H:thereB m=true) (i:Nat) (hi:i<m.tl):0≤m.t i∧m.t i<m.hl:=by
 unfold thereB at H;rw[Bool.and_eq_true,Bool.and_eq_true]at H;have:=allTo_iff.1 H.2.1 i hi;unfold noneB at this;simp at this;omega
set_option maxRecDepth 100000 in
set_option maxHeartbeats 8000000 in
theorem mcheck_any (P:Pg) {m:Mi} (w:World) (hP:PIn w P) (hm:MIn w m) (hpc:P.len≤17592186043904):
 Calls Tryz.prog 11 #[.slice P.a P.len P.cap,.agg m.cells] w fun e w'=>∃c:Int,e=.returned (iV c)∧CkR P m c∧Below w.heap.size w w':=by
 have HX:Hid ((w.alloc (.cells m.cells 31)).heap[w.heap.size]?=some (.cells m.cells 31)):=heap_alloc_new _ _;have HBa:Hid (Below w.heap.size w (w.alloc (.cells m.cells 31))):=(Below.refl _ _).alloc (Nat.le_refl _) _;have HM:Hid (∀W,Below w.heap.size w W→MIn W m):=fun W hW=>hm.below hW
 have HP:Hid (∀W,Below w.heap.size w W→PIn W P):=fun W hW=>hP.below hW
 have hsz:w.heap.size<(w.alloc (.cells m.cells 31)).heap.size:=(Array.getElem?_eq_some_iff.1 HX.o).1;clear hm hP
 go_enter Tryz.func11,Tryz.ntmps11
 rw[show Value.agg m.cells=.agg #[.slice m.ha m.hl m.hc,.slice m.ga m.gl m.gc,iV m.first,.slice m.ca m.cl m.cc,.slice m.ta m.tl m.tc,.slice m.qa m.ql m.qc,iV m.st,iV m.fin,.slice m.aa m.al m.ac]from rfl]
 have hW:w.alloc (.cells #[.slice m.ha m.hl m.hc,.slice m.ga m.gl m.gc,iV m.first,.slice m.ca m.cl m.cc,.slice m.ta m.tl m.tc,.slice m.qa m.ql m.qc,iV m.st,iV m.fin,.slice m.aa m.al m.ac] 31)=w.alloc (.cells m.cells 31):=rfl;generalize w.alloc (.cells m.cells 31)=wa at*;have HXX:Hid (∀W,Below wa.heap.size wa W→W.heap[w.heap.size]?=some (.cells m.cells 31)∧MIn W m∧Below w.heap.size w W):=fun W hW=>⟨(hW.block _ hsz).trans HX.o,HM.o W (HBa.o.trans (hW.mono HBa.o.size)),HBa.o.trans (hW.mono HBa.o.size)⟩
 have HK1:=hid (clauses_any P wa (HP.o wa HBa.o));go_wp2_with fail;clear hW;refine HK1.o.mono ?_;rintro e w1 ⟨rfl,hb1⟩;have HB1:=hid hb1;clear hb1 HK1
 by_cases hp0:progV P=0
 case neg=>
  have hpb:=bne_iff_ne.2 hp0;have HN:=hid hp0;clear hp0;go_wp2_with fail;go_ret;exact ⟨progV P,rfl,.inl ⟨HN.o,rfl⟩,(HXX.o _ HB1.o).2.2⟩
 have HP0:=hid hp0;rw[hp0];clear hp0;obtain ⟨⟨y0,y1,y2,y3,y4⟩,⟨y5,y6,y7,y8⟩,_⟩:=Mi.get (HXX.o w1 HB1.o).1;have HPa:=hid (mparts_any w1 (HXX.o w1 HB1.o).2.1);go_wp2_with fail;clear y0 y1 y2 y3 y4 y5 y6 y7 y8;refine HPa.o.mono ?_;rintro e w2 ⟨c,rfl,hpt,hb2⟩;have HB2:=hid (HB1.o.trans (hb2.mono HB1.o.size));have HPt:=hid hpt;clear hb2 HPa hpt
 by_cases hc0:c=0
 case neg=>
  have hcb:=bne_iff_ne.2 hc0;have HN:=hid hc0;clear hc0;go_wp2_with fail;go_ret;exact ⟨c,rfl,.inr ⟨HP0.o,.inl ⟨HN.o,HPt.o⟩⟩,(HXX.o _ HB2.o).2.2⟩
 subst hc0;have HZ:=hid HPt.o.zero;obtain ⟨⟨y0,y1,y2,y3,y4⟩,⟨y5,y6,y7,y8⟩,_⟩:=Mi.get (HXX.o w2 HB2.o).1;have HOr:=hid (ordered_any w2 (HXX.o w2 HB2.o).2.1);go_wp2_with fail;clear y0 y1 y2 y3 y4 y5 y6 y7 y8;refine HOr.o.mono ?_;rintro e w3 ⟨b1,rfl,hor,hb3⟩;have HB3:=hid (HB2.o.trans (hb3.mono HB2.o.size));have HO:=hid hor;clear hb3 HOr hor
 cases b1 with
 |false=>
  go_wp2_with fail;go_ret;exact ⟨4,rfl,.inr ⟨HP0.o,.inr ⟨HPt.o,.inl ⟨fun h=>(by cases HO.o.2 h.1),rfl⟩⟩⟩,(HXX.o _ HB3.o).2.2⟩
 |true=>
 obtain ⟨⟨y0,y1,y2,y3,y4⟩,⟨y5,y6,y7,y8⟩,_⟩:=Mi.get (HXX.o w3 HB3.o).1;have HGr:=hid (grown_any P.len w3 (HXX.o w3 HB3.o).2.1);go_wp2_with fail;clear y0 y1 y2 y3 y4 y5 y6 y7 y8;refine HGr.o.mono ?_;rintro e w4 ⟨b2,rfl,hgr,hb4⟩;have HB4:=hid (HB3.o.trans (hb4.mono HB3.o.size));have HG2:=hid hgr;clear hb4 HGr hgr
 cases b2 with
 |false=>
  go_wp2_with fail;go_ret;exact ⟨4,rfl,.inr ⟨HP0.o,.inr ⟨HPt.o,.inl ⟨fun h=>(by cases HG2.o.2 h.2.1),rfl⟩⟩⟩,(HXX.o _ HB4.o).2.2⟩
 |true=>
 obtain ⟨⟨y0,y1,y2,y3,y4⟩,⟨y5,y6,y7,y8⟩,_⟩:=Mi.get (HXX.o w4 HB4.o).1
 have HLo:Hid (Calls Tryz.prog 36 #[.agg m.cells] w4 (BR (LostP m) w4)):=lost_any w4 (HXX.o w4 HB4.o).2.1 HZ.o.2.1 (thereB.t HZ.o.2.2) (HG2.o.1 (by trivial)) (fun i hi hk=>by
  have h1:=HZ.o.1.ok.n0 i hi;have h2:=HZ.o.1.ok.n4 i hi (by omega)
  omega)
 go_wp2_with fail;clear y0 y1 y2 y3 y4 y5 y6 y7 y8;refine HLo.o.mono ?_;rintro e w5 ⟨b3,rfl,hlo,hb5⟩;have HB5:=hid (HB4.o.trans (hb5.mono HB4.o.size));have HL:=hid hlo;clear hb5 HLo hlo
 cases b3 with
 |true=>
  go_wp2_with fail;go_ret;exact ⟨4,rfl,.inr ⟨HP0.o,.inr ⟨HPt.o,.inl ⟨fun h=>h.2.2 (HL.o.1 (by trivial)),rfl⟩⟩⟩,(HXX.o _ HB5.o).2.2⟩
 |false=>
 have HSt:Hid (StP m P.len):=⟨HO.o.1 (by trivial),HG2.o.1 (by trivial),fun h=>(by cases HL.o.2 h)⟩
 obtain ⟨_,⟨_,y6,y7,_⟩,_⟩:=Mi.get (HXX.o w5 HB5.o).1
 by_cases h1:0≤m.st∧m.st≤400
 case neg=>
  have HW1:Hid (∀W,Calls Tryz.prog 37 #[iV m.st,iV 0,iV 400] W fun e w'=>e=.returned (.bool false)∧w'=W):=fun W=>within_at (by simp;omega) W
  have HN:Hid (¬RgP m):=fun h=>h1 h.1
  clear h1;go_wp2_with fail;refine (HW1.o _).mono ?_;rintro e w6 ⟨rfl,hw⟩;have hw':=hw.symm;clear hw;subst hw';go_wp2_with fail;go_ret;exact ⟨3,rfl,.inr ⟨HP0.o,.inr ⟨HPt.o,.inr ⟨HSt.o,.inl ⟨HN.o,rfl⟩⟩⟩⟩,(HXX.o _ HB5.o).2.2⟩
 have HW1:Hid (∀W,Calls Tryz.prog 37 #[iV m.st,iV 0,iV 400] W fun e w'=>e=.returned (.bool true)∧w'=W):=fun W=>within_at (by simp;omega) W
 have H1:=hid h1;clear h1
 by_cases h2:0≤m.fin∧m.fin≤4
 case neg=>
  have HW2:Hid (∀W,Calls Tryz.prog 37 #[iV m.fin,iV 0,iV 4] W fun e w'=>e=.returned (.bool false)∧w'=W):=fun W=>within_at (by simp;omega) W
  have HN:Hid (¬RgP m):=fun h=>h2 h.2
  clear h2;go_wp2_with fail;refine (HW1.o _).mono ?_;rintro e w6 ⟨rfl,hw⟩;have hw':=hw.symm;clear hw;subst hw';go_wp2_with fail;refine (HW2.o _).mono ?_;rintro e w6 ⟨rfl,hw⟩;have hw':=hw.symm;clear hw;subst hw';go_wp2_with fail;go_ret;exact ⟨3,rfl,.inr ⟨HP0.o,.inr ⟨HPt.o,.inr ⟨HSt.o,.inl ⟨HN.o,rfl⟩⟩⟩⟩,(HXX.o _ HB5.o).2.2⟩
 have HW2:Hid (∀W,Calls Tryz.prog 37 #[iV m.fin,iV 0,iV 4] W fun e w'=>e=.returned (.bool true)∧w'=W):=fun W=>within_at (by simp;omega) W
 have HN:Hid (RgP m):=⟨H1.o,h2⟩;clear h2;go_wp2_with fail;refine (HW1.o _).mono ?_;rintro e w6 ⟨rfl,hw⟩;have hw':=hw.symm;clear hw;subst hw';go_wp2_with fail;refine (HW2.o _).mono ?_;rintro e w6 ⟨rfl,hw⟩;have hw':=hw.symm;clear hw;subst hw';go_wp2_with fail;go_ret;exact ⟨0,rfl,.inr ⟨HP0.o,.inr ⟨HPt.o,.inr ⟨HSt.o,.inr ⟨HN.o,rfl⟩⟩⟩⟩,(HXX.o _ HB5.o).2.2⟩
end Go.Proofs.YtmggaclaoefdaabGreat
