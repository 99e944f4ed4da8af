/- Part of the proof. Part of the proof. -/
import Derived.Test.YtmggaclaoefdaabGreatSq0
import Derived.Test.YtmggaclaoefdaabGreatCt5
import Derived.Test.YtmggaclaoefdaabGreatCq3
import Derived.Test.YtmggaclaoefdaabGreatGBM
import Derived.Test.YtmggaclaoefdaabGreatGAU
import Derived.SizedLaws
namespace Go.Proofs.YtmggaclaoefdaabGreat
open Go.RowKit Go.Shelf
set_option linter.unusedVariables false
set_option linter.unusedSimpArgs false
attribute [local go_sem] Oper.semAt_some
set_option maxRecDepth 100000 in
set_option maxHeartbeats 4000000 in
theorem checkSolve_any (P:Pg) (Q:Tm) (steps:Int) (w:World) (hP:PIn w P) (hQ:TIn w Q):
 Calls Tryz.prog 9 #[.slice P.a P.len P.cap,.slice Q.a Q.len Q.cap,iV steps] w fun e w'=>e=.returned (iV (solveE P Q steps))∧Below w.heap.size w w':=by
 have HK1:Hid (Calls Tryz.prog 26 #[.slice P.a P.len P.cap] w fun e w'=>e=.returned (iV (progV P))∧Below w.heap.size w w'):=checkProgram_any P w hP
 have HK2:Hid (∀W,Below w.heap.size w W→Calls Tryz.prog 27 #[.slice Q.a Q.len Q.cap] W fun e w'=>e=.returned (iV (queryV Q))∧Below W.heap.size W w'):=fun W hW=>checkQuery_any Q W (hQ.below hW)
 clear hP hQ
 go_enter Tryz.func9,Tryz.ntmps9
 go_wp2_with fail;refine HK1.o.mono ?_;rintro e w1 ⟨rfl,hb1⟩;have HB1:Hid (Below w.heap.size w w1):=hb1;clear hb1 HK1
 by_cases hp:progV P=0
 case neg=>
  have hpb:(progV P==0)=false:=beq_eq_false_iff_ne.2 hp;have HE:Hid (solveE P Q steps=progV P):=by rw[Hid];unfold solveE;rw[if_pos hp]
  clear hp;go_wp2_with fail;go_ret;exact ⟨by rw[HE.o];rfl,HB1.o⟩
 have HPr:Hid (progV P=0):=hp;rw[hp];clear hp;go_wp2_with fail;refine (HK2.o w1 HB1.o).mono ?_;rintro e w2 ⟨rfl,hb2⟩;have HB2:Hid (Below w.heap.size w w2):=HB1.o.trans (hb2.mono HB1.o.size);clear hb2
 by_cases hq:queryV Q=0
 case neg=>
  have hqb:(queryV Q==0)=false:=beq_eq_false_iff_ne.2 hq;have HE:Hid (solveE P Q steps=queryV Q):=by rw[Hid];unfold solveE;rw[if_neg (by simpa using HPr.o),if_pos hq]
  clear hq;go_wp2_with fail;go_ret;exact ⟨by rw[HE.o];rfl,HB2.o⟩
 have HQ0:Hid (queryV Q=0):=hq;rw[hq];clear hq;have HBt:Hid (Calls Tryz.prog 28 #[iV steps,iV 0,iV 400] w2 fun e w'=>e=.returned (.bool (btw steps 0 400))∧w'=w2):=between_any steps 0 400 w2
 go_wp2_with fail;refine HBt.o.mono ?_;rintro e w3 ⟨rfl,h3⟩;rw[h3];clear h3 HBt
 by_cases hs:0≤steps∧steps≤400
 ·have HE:Hid (solveE P Q steps=0):=by rw[Hid];unfold solveE;rw[if_neg (by simpa using HPr.o),if_neg (by simpa using HQ0.o),if_neg (by omega)]
  rw[show btw steps 0 400=true from by unfold btw;simp;omega]
  clear hs;go_wp2_with fail;go_ret;exact ⟨by rw[HE.o];rfl,HB2.o⟩
 ·have HE:Hid (solveE P Q steps=3):=by rw[Hid];unfold solveE;rw[if_neg (by simpa using HPr.o),if_neg (by simpa using HQ0.o),if_pos (by omega)]
  rw[show btw steps 0 400=false from by unfold btw;simp;omega]
  clear hs;go_wp2_with fail;go_ret;exact ⟨by rw[HE.o];rfl,HB2.o⟩
theorem solve_start (P:Pg) (Q:Tm):solveE P Q 0=startE P Q:=by
 unfold solveE startE
 by_cases h:progV P≠0
 ·rw[if_pos h,if_pos h]
 ·rw[if_neg h,if_neg h]
  by_cases h2:queryV Q≠0
  ·rw[if_pos h2]
  ·rw[if_neg h2,if_neg (by omega)]
   exact (Classical.not_not.1 h2).symm
theorem chkr_ex (h:Nat→Cl) (len:Nat): ∃c,ChkR h len c:=by
 by_cases h1:400000<len
 ·exact ⟨2,.inl ⟨h1,rfl⟩⟩
 ·by_cases h2:firstE h len len=0
  ·by_cases h3:Acy len (leads h)
   ·exact ⟨0,.inr (.inr ⟨by omega,h2,.inl ⟨h3,rfl⟩⟩)⟩
   ·exact ⟨4,.inr (.inr ⟨by omega,h2,.inr ⟨h3,rfl⟩⟩)⟩
  ·exact ⟨_,.inr (.inl ⟨by omega,h2,rfl⟩)⟩
theorem ckr_ex (P:Pg) (m:Mi): ∃c,CkR P m c:=by
 by_cases hp:progV P=0
 case neg=>exact ⟨_,.inl ⟨hp,rfl⟩⟩
 obtain ⟨c,hc⟩:=chkr_ex m.h m.hl
 by_cases h0:c=0
 case neg=>exact ⟨c,.inr ⟨hp,.inl ⟨h0,.inl ⟨h0,hc⟩⟩⟩⟩
 subst h0
 by_cases hm:m.gl>5000∨m.ql>12
 ·exact ⟨2,.inr ⟨hp,.inl ⟨by decide,.inr ⟨hc,.inl ⟨hm,rfl⟩⟩⟩⟩⟩
 cases ht:thereB m with
 |false=>exact ⟨5,.inr ⟨hp,.inl ⟨by decide,.inr ⟨hc,.inr ⟨hm,.inl ⟨ht,rfl⟩⟩⟩⟩⟩⟩
 |true=>
  have hpt:PtsR m 0:=.inr ⟨hc,.inr ⟨hm,.inr ⟨ht,rfl⟩⟩⟩
  by_cases hs:StP m P.len
  ·by_cases hr:RgP m
   ·exact ⟨0,.inr ⟨hp,.inr ⟨hpt,.inr ⟨hs,.inr ⟨hr,rfl⟩⟩⟩⟩⟩
   ·exact ⟨3,.inr ⟨hp,.inr ⟨hpt,.inr ⟨hs,.inl ⟨hr,rfl⟩⟩⟩⟩⟩
  ·exact ⟨4,.inr ⟨hp,.inr ⟨hpt,.inl ⟨hs,rfl⟩⟩⟩⟩
theorem start_mi {P:Pg} {Q:Tm} {n lo:Nat} {w:World} {r:Rn} (M:MC lo w r ⟨startX Q n,[],0⟩ (List.range n) []) (hpv:progV P=0) (hQ:queryV Q=0) (hv:varsV Q=(n:Int)) (hn:n≤12): ∃m:Mi,m.cells=mC r∧MIn w m∧MBig w m []∧CkR P m 0∧m.st=0∧m.fin=0∧m.cl=0∧m.al=0:=by
 have R:=start_rni (P:=P) hQ hv hn;have B:=start_rnb (Q:=Q) (n:=n) rfl;obtain ⟨hO,hg5,htr,hcs,hst4⟩:=R.walk;have hq:(List.range n).length≤12:=by simp;omega
 obtain ⟨m,em,hin,hof⟩:=M.mof hO.s.hg ⟨by omega,by omega,by omega,by omega⟩
 have hcl:m.cl=0:=hof.cl;obtain ⟨sa,ca,hav,_,_⟩:=ans_form M.anr M.all
 have hal:m.al=0:=by
  have h8:m.cells[8]?=(mC r)[8]?:=by rw[em]
  simp[mC,Mi.cells]at h8;rw[hav]at h8
  injection h8 with _ h _
 refine ⟨m,em,hin,⟨by rw[hcl];omega,hal,fun k hk=>absurd hk (Nat.not_lt_zero _),by simp,fun A hA=>absurd hA (by simp)⟩,check_ok hpv hof hO hst4 hg5 hq B.fin,hof.st,?_,hcl,hal⟩
 rw[hof.fin];rfl
section
set_option maxRecDepth 100000 in
set_option maxHeartbeats 16000000 in
theorem law_checks (P:Pg) (Q:Tm) {m:Mi} {an:List Tm} (w:World) (hP:PIn w P) (hc:P.len≤P.cap) (hpl:P.len≤17592186043904) (hQ:TIn w Q) (hm:MIn w m) (hA:MBig w m an):
 Calls Tryz.prog 3 #[.slice P.a P.len P.cap,.slice Q.a Q.len Q.cap,.agg m.cells] w fun e w'=>e=.returned (.bool true)∧Below w.heap.size w w':=by
 obtain ⟨c0,hc0⟩:=ckr_ex P m;obtain ⟨ev,hev⟩: ∃ev,ev=startE P Q:=⟨_,rfl⟩;have HEv:Hid (ev=startE P Q):=hev
 have HCk:Hid (∀W,Below w.heap.size w W→Calls Tryz.prog 11 #[.slice P.a P.len P.cap,.agg #[.slice m.ha m.hl m.hc,.slice m.ga m.gl m.gc,iV m.first,.slice m.ca m.cl m.cc,.slice m.ta m.tl m.tc,.slice m.qa m.ql m.qc,iV m.st,iV m.fin,.slice m.aa m.al m.ac]] W fun e w'=>e=.returned (iV c0)∧Below W.heap.size W w'):=fun W hW=>(mcheck_any P (m:=m) W (hP.below hW) (hm.below hW) hpl).mono fun e w' h=>by
  obtain ⟨c,he,hcr,hb⟩:=h;exact ⟨by rw[he,hcr.same hc0],hb⟩
 have HCm:Hid (∀W,Below w.heap.size w W→Calls Tryz.prog 12 #[.slice P.a P.len P.cap,.agg #[.slice m.ha m.hl m.hc,.slice m.ga m.gl m.gc,iV m.first,.slice m.ca m.cl m.cc,.slice m.ta m.tl m.tc,.slice m.qa m.ql m.qc,iV m.st,iV m.fin,.slice m.aa m.al m.ac]] W fun e w'=>e=.returned (iV c0)∧Below W.heap.size W w'):=fun W hW=>(checkMachine_any P (m:=m) W (hP.below hW) (hm.below hW) (hA.below hW)).mono fun e w' h=>by
  obtain ⟨c,he,hcr,hb⟩:=h;exact ⟨by rw[he,hcr.same hc0],hb⟩
 have HSt:Hid (∀W,Below w.heap.size w W→Calls Tryz.prog 8 #[.slice P.a P.len P.cap,.slice Q.a Q.len Q.cap] W (SttR P Q W)):=fun W hW=>mStart_any P Q W (hP.below hW) hc (hQ.below hW)
 have HCs:Hid (∀W,Below w.heap.size w W→Calls Tryz.prog 9 #[.slice P.a P.len P.cap,.slice Q.a Q.len Q.cap,iV 0] W fun e w'=>e=.returned (iV ev)∧Below W.heap.size W w'):=fun W hW=>(checkSolve_any P Q 0 W (hP.below hW) (hQ.below hW)).mono fun e w' h=>⟨by rw[h.1,solve_start,hev],h.2⟩
 have HPi:Hid (∀W,Below w.heap.size w W→PIn W P):=fun W hW=>hP.below hW
 have hX:(w.alloc (.cells m.cells 31)).heap[w.heap.size]?=some (.cells m.cells 31):=heap_alloc_new _ _;obtain ⟨wa,hWa⟩: ∃W,w.alloc (.cells #[.slice m.ha m.hl m.hc,.slice m.ga m.gl m.gc,iV m.first,.slice m.ca m.cl m.cc,.slice m.ta m.tl m.tc,.slice m.qa m.ql m.qc,iV m.st,iV m.fin,.slice m.aa m.al m.ac] 31)=W:=⟨_,rfl⟩;have HXa:Hid (wa.heap[w.heap.size]?=some (.cells m.cells 31)):=by rw[Hid,←hWa];exact hX
 have HBa:Hid (Below w.heap.size w wa):=by rw[Hid,←hWa];exact (Below.refl _ _).alloc (Nat.le_refl _) _
 have hsa:w.heap.size<wa.heap.size:=(Array.getElem?_eq_some_iff.1 HXa.o).1;clear hP hc hpl hQ hm hA hc0 hev hX
 go_enter Tryz.func3,Tryz.ntmps3
 rw[show Value.agg m.cells=.agg #[.slice m.ha m.hl m.hc,.slice m.ga m.gl m.gc,iV m.first,.slice m.ca m.cl m.cc,.slice m.ta m.tl m.tc,.slice m.qa m.ql m.qc,iV m.st,iV m.fin,.slice m.aa m.al m.ac]from rfl]
 go_wp2_with fail;clear hWa;refine (HSt.o wa HBa.o).mono ?_;rintro e w1 ⟨hb1,⟨hE,rfl⟩| ⟨hE,n,r,hvn,hn12,rfl,hM1⟩⟩
 ·rw[show mV rnZ=.agg #[.slice none 0 0,.slice none 0 0,iV 0,.slice none 0 0,.slice none 0 0,.slice none 0 0,iV 0,iV 0,.slice none 0 0]from rfl,←HEv.o]
  have hev0:(ev !=0)=true:=bne_iff_ne.2 (by rw[HEv.o];exact hE)
  have hBx:Below w1.heap.size w1 (w1.alloc (.cells #[.slice none 0 0,.slice none 0 0,iV 0,.slice none 0 0,.slice none 0 0,.slice none 0 0,iV 0,iV 0,.slice none 0 0] 31)):=(Below.refl _ _).alloc (Nat.le_refl _) _;have HXx:Hid ((w1.alloc (.cells #[.slice none 0 0,.slice none 0 0,iV 0,.slice none 0 0,.slice none 0 0,.slice none 0 0,iV 0,iV 0,.slice none 0 0] 31)).heap[w1.heap.size]?=some (.cells #[.slice none 0 0,.slice none 0 0,iV 0,.slice none 0 0,.slice none 0 0,.slice none 0 0,iV 0,iV 0,.slice none 0 0] 31)):=heap_alloc_new _ _;have HB1:Hid (Below w.heap.size w (w1.alloc (.cells #[.slice none 0 0,.slice none 0 0,iV 0,.slice none 0 0,.slice none 0 0,.slice none 0 0,iV 0,iV 0,.slice none 0 0] 31))):=HBa.o.trans ((hb1.trans (hBx.mono hb1.size)).mono HBa.o.size);have HX1:Hid ((w1.alloc (.cells #[.slice none 0 0,.slice none 0 0,iV 0,.slice none 0 0,.slice none 0 0,.slice none 0 0,iV 0,iV 0,.slice none 0 0] 31)).heap[w.heap.size]?=some (.cells m.cells 31)):=(hBx.block _ (by have:=hb1.size;omega)).trans ((hb1.block _ hsa).trans HXa.o)
  clear hb1 hE hBx;go_wp2_with fail;generalize w1.alloc (.cells #[.slice none 0 0,.slice none 0 0,iV 0,.slice none 0 0,.slice none 0 0,.slice none 0 0,iV 0,iV 0,.slice none 0 0] 31)=wx at*;refine (HCs.o wx HB1.o).mono ?_;rintro e w2 ⟨rfl,hb2⟩;have HB2:Hid (Below w.heap.size w w2):=HB1.o.trans (hb2.mono HB1.o.size);have HX2:Hid (w2.heap[w.heap.size]?=some (.cells m.cells 31)):=(hb2.block _ (Array.getElem?_eq_some_iff.1 HX1.o).1).trans HX1.o;have HZ2:Hid (w2.heap[w1.heap.size]?=some (.cells #[.slice none 0 0,.slice none 0 0,iV 0,.slice none 0 0,.slice none 0 0,.slice none 0 0,iV 0,iV 0,.slice none 0 0] 31)):=(hb2.block _ (Array.getElem?_eq_some_iff.1 HXx.o).1).trans HXx.o;have hl2:w.heap.size<w2.heap.size:=(Array.getElem?_eq_some_iff.1 HX2.o).1;clear hb2
  have HKp:Hid (∀W,Below w2.heap.size w2 W→(W.cell? ⟨w.heap.size,0,none⟩=some (.slice m.ha m.hl m.hc)∧W.cell? ⟨w.heap.size,1,none⟩=some (.slice m.ga m.gl m.gc)∧W.cell? ⟨w.heap.size,2,none⟩=some (iV m.first)∧W.cell? ⟨w.heap.size,3,none⟩=some (.slice m.ca m.cl m.cc)∧W.cell? ⟨w.heap.size,4,none⟩=some (.slice m.ta m.tl m.tc))∧(W.cell? ⟨w.heap.size,5,none⟩=some (.slice m.qa m.ql m.qc)∧W.cell? ⟨w.heap.size,6,none⟩=some (iV m.st)∧W.cell? ⟨w.heap.size,7,none⟩=some (iV m.fin)∧W.cell? ⟨w.heap.size,8,none⟩=some (.slice m.aa m.al m.ac))):=fun W hW=>by
   obtain ⟨ha,hb,_⟩:=Mi.get ((hW.block _ hl2).trans HX2.o);exact ⟨ha,hb⟩
  have HBk:Hid (Below w2.heap.size w2 w2):=Below.refl _ _;have hcc:(c0 !=c0)=false:=by simp
  have hee:(ev !=ev)=false:=by simp
  go_wp2_with fail
  go_region_held3 (fun W=>(W.cell? ⟨w.heap.size,0,none⟩=some (.slice m.ha m.hl m.hc)∧W.cell? ⟨w.heap.size,1,none⟩=some (.slice m.ga m.gl m.gc)∧W.cell? ⟨w.heap.size,2,none⟩=some (iV m.first)∧W.cell? ⟨w.heap.size,3,none⟩=some (.slice m.ca m.cl m.cc)∧W.cell? ⟨w.heap.size,4,none⟩=some (.slice m.ta m.tl m.tc))∧(W.cell? ⟨w.heap.size,5,none⟩=some (.slice m.qa m.ql m.qc)∧W.cell? ⟨w.heap.size,6,none⟩=some (iV m.st)∧W.cell? ⟨w.heap.size,7,none⟩=some (iV m.fin)∧W.cell? ⟨w.heap.size,8,none⟩=some (.slice m.aa m.al m.ac))) (first|exact HKp.o _ HBk.o|exact HKp.o _ HBk.o.drew)
   (first
     | (go_at_call 10
        refine (begunM _).mono ?_;rintro e wn ⟨rfl,hbn⟩;replace HBk:Hid (Below w2.heap.size w2 wn):=Below.trans (by first|exact HBk.o|exact HBk.o.drew) (hbn.mono HBk.o.size)
        clear hbn)
     | (go_at_call 11
        refine (HCk.o _ (HB2.o.trans (Below.mono (by first|exact HBk.o|exact HBk.o.drew) HB2.o.size))).mono ?_
        rintro e wn ⟨rfl,hbn⟩;replace HBk:Hid (Below w2.heap.size w2 wn):=Below.trans (by first|exact HBk.o|exact HBk.o.drew) (hbn.mono HBk.o.size)
        clear hbn)
     | (go_at_call 12
        refine (HCm.o _ (HB2.o.trans (Below.mono (by first|exact HBk.o|exact HBk.o.drew) HB2.o.size))).mono ?_
        rintro e wn ⟨rfl,hbn⟩;replace HBk:Hid (Below w2.heap.size w2 wn):=Below.trans (by first|exact HBk.o|exact HBk.o.drew) (hbn.mono HBk.o.size)
        clear hbn))
  all_goals
   obtain ⟨⟨z0,z1,_,_,_⟩,_,_⟩:=blk9 ((HBk.o.block _ (Array.getElem?_eq_some_iff.1 HZ2.o).1).trans HZ2.o);go_wp2_with fail;go_ret;exact ⟨rfl,HB2.o.trans (HBk.o.mono HB2.o.size)⟩
 have hpq:progV P=0∧queryV Q=0:=by
  unfold startE at hE
  by_cases hp:progV P≠0
  ·rw[if_pos hp]at hE;exact absurd hE hp
  ·rw[if_neg hp]at hE;exact ⟨Classical.not_not.1 hp,hE⟩
 obtain ⟨m',em,hin',hbig',hck',hst',hfin',hcl',hal'⟩:=start_mi hM1 hpq.1 hpq.2 hvn hn12;obtain rfl:ev=0:=by rw[HEv.o];exact hE
 rw[show mV r=.agg #[.slice m'.ha m'.hl m'.hc,.slice m'.ga m'.gl m'.gc,iV m'.first,.slice m'.ca m'.cl m'.cc,.slice m'.ta m'.tl m'.tc,.slice m'.qa m'.ql m'.qc,iV m'.st,iV m'.fin,.slice m'.aa m'.al m'.ac]from by unfold mV;rw[←em];rfl]
 have HMi:Hid (MIn w1 m'∧MBig w1 m' []∧CkR P m' 0):=⟨hin',hbig',hck'⟩;have HE4:Hid (m'.st=0∧m'.fin=0∧m'.cl=0∧m'.al=0):=⟨hst',hfin',hcl',hal'⟩;obtain ⟨wx,hWx⟩: ∃W,w1.alloc (.cells #[.slice m'.ha m'.hl m'.hc,.slice m'.ga m'.gl m'.gc,iV m'.first,.slice m'.ca m'.cl m'.cc,.slice m'.ta m'.tl m'.tc,.slice m'.qa m'.ql m'.qc,iV m'.st,iV m'.fin,.slice m'.aa m'.al m'.ac] 31)=W:=⟨_,rfl⟩;have hBx:Below w1.heap.size w1 wx:=by rw[←hWx];exact (Below.refl _ _).alloc (Nat.le_refl _) _
 have HXx:Hid (wx.heap[w1.heap.size]?=some (.cells m'.cells 31)):=by rw[Hid,←hWx];exact heap_alloc_new _ _
 have HB1:Hid (Below w.heap.size w wx):=HBa.o.trans ((hb1.trans (hBx.mono hb1.size)).mono HBa.o.size);have HB1x:Hid (Below w1.heap.size w1 wx):=hBx;have HX1:Hid (wx.heap[w.heap.size]?=some (.cells m.cells 31)):=(hBx.block _ (by have:=hb1.size;omega)).trans ((hb1.block _ hsa).trans HXa.o)
 clear hb1 hE hBx hpq em hin' hbig' hck' hst' hfin' hcl' hal' hM1 hvn hn12 HEv;go_wp2_with fail;clear hWx;refine (HCs.o wx HB1.o).mono ?_;rintro e w2 ⟨rfl,hb2⟩;have HB2:Hid (Below w.heap.size w w2):=HB1.o.trans (hb2.mono HB1.o.size);have HB2x:Hid (Below w1.heap.size w1 w2):=HB1x.o.trans (hb2.mono HB1x.o.size);have HX2:Hid (w2.heap[w.heap.size]?=some (.cells m.cells 31)):=(hb2.block _ (Array.getElem?_eq_some_iff.1 HX1.o).1).trans HX1.o;have HZ2:Hid (w2.heap[w1.heap.size]?=some (.cells m'.cells 31)):=(hb2.block _ (Array.getElem?_eq_some_iff.1 HXx.o).1).trans HXx.o;have hl2:w.heap.size<w2.heap.size:=(Array.getElem?_eq_some_iff.1 HX2.o).1;clear hb2
 have HKp:Hid (∀W,Below w2.heap.size w2 W→(W.cell? ⟨w.heap.size,0,none⟩=some (.slice m.ha m.hl m.hc)∧W.cell? ⟨w.heap.size,1,none⟩=some (.slice m.ga m.gl m.gc)∧W.cell? ⟨w.heap.size,2,none⟩=some (iV m.first)∧W.cell? ⟨w.heap.size,3,none⟩=some (.slice m.ca m.cl m.cc)∧W.cell? ⟨w.heap.size,4,none⟩=some (.slice m.ta m.tl m.tc))∧(W.cell? ⟨w.heap.size,5,none⟩=some (.slice m.qa m.ql m.qc)∧W.cell? ⟨w.heap.size,6,none⟩=some (iV m.st)∧W.cell? ⟨w.heap.size,7,none⟩=some (iV m.fin)∧W.cell? ⟨w.heap.size,8,none⟩=some (.slice m.aa m.al m.ac))):=fun W hW=>by
  obtain ⟨ha,hb,_⟩:=Mi.get ((hW.block _ hl2).trans HX2.o);exact ⟨ha,hb⟩
 have HBk:Hid (Below w2.heap.size w2 w2):=Below.refl _ _;have hcc:(c0 !=c0)=false:=by simp
 have hee:((0:Int) !=0)=false:=by simp
 go_wp2_with fail
 go_region_held3 (fun W=>(W.cell? ⟨w.heap.size,0,none⟩=some (.slice m.ha m.hl m.hc)∧W.cell? ⟨w.heap.size,1,none⟩=some (.slice m.ga m.gl m.gc)∧W.cell? ⟨w.heap.size,2,none⟩=some (iV m.first)∧W.cell? ⟨w.heap.size,3,none⟩=some (.slice m.ca m.cl m.cc)∧W.cell? ⟨w.heap.size,4,none⟩=some (.slice m.ta m.tl m.tc))∧(W.cell? ⟨w.heap.size,5,none⟩=some (.slice m.qa m.ql m.qc)∧W.cell? ⟨w.heap.size,6,none⟩=some (iV m.st)∧W.cell? ⟨w.heap.size,7,none⟩=some (iV m.fin)∧W.cell? ⟨w.heap.size,8,none⟩=some (.slice m.aa m.al m.ac))) (first|exact HKp.o _ HBk.o|exact HKp.o _ HBk.o.drew)
  (first
    | (go_at_call 10
       refine (begunM _).mono ?_;rintro e wn ⟨rfl,hbn⟩;replace HBk:Hid (Below w2.heap.size w2 wn):=Below.trans (by first|exact HBk.o|exact HBk.o.drew) (hbn.mono HBk.o.size)
       clear hbn)
    | (go_at_call 11
       refine (HCk.o _ (HB2.o.trans (Below.mono (by first|exact HBk.o|exact HBk.o.drew) HB2.o.size))).mono ?_
       rintro e wn ⟨rfl,hbn⟩;replace HBk:Hid (Below w2.heap.size w2 wn):=Below.trans (by first|exact HBk.o|exact HBk.o.drew) (hbn.mono HBk.o.size)
       clear hbn)
    | (go_at_call 12
       refine (HCm.o _ (HB2.o.trans (Below.mono (by first|exact HBk.o|exact HBk.o.drew) HB2.o.size))).mono ?_
       rintro e wn ⟨rfl,hbn⟩;replace HBk:Hid (Below w2.heap.size w2 wn):=Below.trans (by first|exact HBk.o|exact HBk.o.drew) (hbn.mono HBk.o.size)
       clear hbn))
 all_goals
  have HBn:Hid (Below w.heap.size w wn):=HB2.o.trans (HBk.o.mono HB2.o.size);have HBnx:Hid (Below w1.heap.size w1 wn):=HB2x.o.trans (HBk.o.mono HB2x.o.size);have HZn:Hid (wn.heap[w1.heap.size]?=some (.cells m'.cells 31)):=(HBk.o.block _ (Array.getElem?_eq_some_iff.1 HZ2.o).1).trans HZ2.o
  have HCx:Hid (Calls Tryz.prog 12 #[.slice P.a P.len P.cap,.agg #[.slice m'.ha m'.hl m'.hc,.slice m'.ga m'.gl m'.gc,iV m'.first,.slice m'.ca m'.cl m'.cc,.slice m'.ta m'.tl m'.tc,.slice m'.qa m'.ql m'.qc,iV m'.st,iV m'.fin,.slice m'.aa m'.al m'.ac]] wn fun e w'=>e=.returned (iV 0)∧Below wn.heap.size wn w'):=(checkMachine_any P (m:=m') wn (HPi.o wn HBn.o) (HMi.o.1.below HBnx.o) (HMi.o.2.1.below HBnx.o)).mono fun e w' h=>by
   obtain ⟨c,he,hcr,hb⟩:=h;exact ⟨by rw[he,hcr.same HMi.o.2.2],hb⟩
  obtain ⟨⟨z0,z1,z2,z3,z4⟩,⟨z5,z6,z7,z8⟩,_⟩:=Mi.get HZn.o;go_wp2_with fail;clear z0 z1 z2 z3 z4 z5 z6 z7 z8;refine HCx.o.mono ?_;rintro e w5 ⟨rfl,hb5⟩;have HB5:Hid (Below w.heap.size w w5):=HBn.o.trans (hb5.mono HBn.o.size);obtain ⟨⟨_,_,_,z3,_⟩,⟨_,z6,z7,z8⟩,_⟩:=Mi.get ((hb5.block _ (Array.getElem?_eq_some_iff.1 HZn.o).1).trans HZn.o);rw[HE4.o.2.2.1]at z3;rw[HE4.o.1]at z6;rw[HE4.o.2.1]at z7;rw[HE4.o.2.2.2]at z8;clear hb5;go_wp2_with fail;go_ret;exact ⟨rfl,HB5.o⟩
end
end Go.Proofs.YtmggaclaoefdaabGreat

namespace Go.Proofs.YtmggaclaoefdaabGreat
open Go.RowKit Go.ChangeShapes Go.WideShapes
set_option linter.unusedVariables false
set_option linter.unusedSimpArgs false
theorem Tryz.cells76:Tryz.prog.cellsOf 76=3:=by kernel_rfl
theorem Tryz.cells78:Tryz.prog.cellsOf 78=5:=by kernel_rfl
theorem Tryz.cells31:Tryz.prog.cellsOf 31=9:=by kernel_rfl
theorem Tryz.cells87:Tryz.prog.cellsOf 87=1:=by kernel_rfl
theorem Tryz.cells25:Tryz.prog.cellsOf 25=1:=by kernel_rfl
theorem Tryz.cells26:Tryz.prog.cellsOf 26=1:=by kernel_rfl
theorem Tryz.cells27:Tryz.prog.cellsOf 27=1:=by kernel_rfl
theorem Tryz.cells28:Tryz.prog.cellsOf 28=1:=by kernel_rfl
theorem Tryz.cells29:Tryz.prog.cellsOf 29=1:=by kernel_rfl
theorem bytTerm:Tryz.prog.bytesOf 67=48:=by kernel_rfl
theorem bytGoal:Tryz.prog.bytesOf 76=24:=by kernel_rfl
theorem bytChoice:Tryz.prog.bytesOf 78=40:=by kernel_rfl
theorem bytInt:Tryz.prog.bytesOf 3=8:=by kernel_rfl
theorem bytAns:Tryz.prog.bytesOf 87=24:=by kernel_rfl
theorem bytClause:Tryz.prog.bytesOf 107=72:=by kernel_rfl
instance:Inhabited Gi:=⟨⟨0,0,0⟩⟩
instance:Inhabited Ci:=⟨ciZ⟩
section
variable {H:Type} {enc:TypeId × Value→H} {W:World} {spare:Nat→Bool} {held:Bool}
def Wt (t:TypeId) (d:DataW H):Prop:=∀k∈d.weights Tryz.prog t,k≤140737488351232
theorem wAll_mem {e:TypeId} {d:DataW H} {n:Nat}: ∀{l:List (DataW H)},d∈l→n∈d.weights Tryz.prog e→n∈DataW.weightsAll Tryz.prog e l
 |x::r,h,hn=>by
  simp only[DataW.weightsAll,List.mem_append]
  rcases List.mem_cons.1 h with rfl|h
  ·exact .inl hn
  ·exact .inr (wAll_mem h hn)
theorem wt_slice {t e:TypeId} {l r:List (DataW H)} (hu:Tryz.prog.underlying t=some (.slice e)) (h:Wt t (.slice l r)):(l.length+r.length)*Tryz.prog.bytesOf e≤140737488351232∧∀d∈l,Wt e d:=by
 refine ⟨h _ (by simp[DataW.weights,hu]),fun d hd k hk=>h k ?_⟩
 simp only[DataW.weights,hu,List.mem_cons,List.mem_append];exact .inr (.inl (wAll_mem hd hk))
theorem wEach_mem {n:Nat}: ∀{ts:List TypeId} {ds:List (DataW H)} {j:Nat} {t:TypeId} {d:DataW H},ts[j]?=some t→ds[j]?=some d→n∈d.weights Tryz.prog t→n∈DataW.weightsEach Tryz.prog ts ds:=fun h1 h2 h3=>DataW.weights_mem_each h1 h2 n h3
theorem wt_part {t:TypeId} {fs:Array Field} {ps:List (DataW H)} (hu:Tryz.prog.underlying t=some (.struct fs)) (h:Wt t (.agg ps)) {j:Nat} {e:TypeId} {d:DataW H} (h1:(fs.toList.map (·.type))[j]?=some e) (h2:ps[j]?=some d):Wt e d:=fun k hk=>h k (by
 simp only[DataW.weights,hu];exact wEach_mem h1 h2 hk)
theorem cells_at {a:Addr} {i s:Nat} {cs:List Value} (hs:a.spot=none) (h:W.cells? 0 (a.add (i*s)) s=some cs): ∃b o,a=⟨b,o,none⟩∧∀j,j<s→W.cell? ⟨b,o+i*s+j,none⟩=cs[j]?:=by
 obtain ⟨b,o,sp⟩:=a;cases hs;obtain ⟨_,_,hc⟩:=World.cells?_some h;refine ⟨b,o,rfl,fun j hj=>?_⟩
 have e:((⟨b,o,none⟩:Addr).add (i*s)).add j=⟨b,o+i*s+j,none⟩:=by
  rw[Go.Deep.add_add];unfold Addr.add
  split
  ·rename_i h0
   rw[show i*s=0 by omega,show j=0 by omega]
   rfl
  ·simp[Nat.add_assoc]
 have:=hc j hj;rw[e]at this;exact this
theorem spot_of {a:Addr} {s:Nat} {cs:List Value} {v:Value} (hs:0<s) (h:W.cells? 0 (a.add (0*s)) s=some cs) (hv:cs[0]?=some v):a.spot=none:=by
 obtain ⟨_,_,hc⟩:=World.cells?_some h;have h0:=hc 0 hs;exact World.cell?_spot (w:=W) (a:=a) (v:=v) (by simpa[Addr.add,hv]using h0)
set_option maxRecDepth 100000 in
theorem open_termW: ∀(n:Nat),(∀(cs:List Value) (x:DataW H × List MemPlace),DataW.trod enc Tryz.prog W 0 spare held n 67 cs=some x→Wt 67 x.1→∃T:Tm,cs=cells3 T∧TIn W T∧SmT T)∧
 (∀(cs:List Value) (x:DataW H × List MemPlace),DataW.trod enc Tryz.prog W 0 spare held n 24 cs=some x→Wt 24 x.1→∃T:Tm,T.v=0∧T.nm=⟨#[]⟩∧cs= [.slice T.a T.len T.cap]∧TIn W T∧SmT T):=by
 intro n
 induction n with
 |zero=>exact ⟨fun cs x h=>by simp[DataW.trod]at h,fun cs x h=>by simp[DataW.trod]at h⟩
 |succ n ih=>
  constructor
  ·intro cs x h hw
   obtain ⟨xs,m,hm,hx,hl,hlen,hf⟩:=DataW.trod_struct Tryz.underlying67 h;obtain rfl:n=m:=by omega
   rw[Tryz.cells67]at hl
   match cs,hl with
   | [c0,c1,c2],_=>
     match xs,hlen with
     | [y0,y1,y2],_=>
       have h0:DataW.trod enc Tryz.prog W 0 spare held n 3 (([c0,c1,c2].drop 0).take (Tryz.prog.cellsOf 3))=some y0:=hf 0 _ rfl;have h1:DataW.trod enc Tryz.prog W 0 spare held n 9 (([c0,c1,c2].drop 1).take (Tryz.prog.cellsOf 9))=some y1:=hf 1 _ rfl;have h2:DataW.trod enc Tryz.prog W 0 spare held n 24 (([c0,c1,c2].drop 2).take (Tryz.prog.cellsOf 24))=some y2:=hf 2 _ rfl;rw[Tryz.cells3]at h0;rw[Tryz.cells9]at h1;rw[Tryz.cells24]at h2;obtain ⟨v,e0,_,_⟩:=DataW.trod_int Tryz.underlying3 h0;obtain ⟨s,e1,_,hs⟩:=DataW.trod_string Tryz.underlying9 h1;rw[hx]at hw;obtain ⟨T,_,_,e2,hT,hSm⟩:=ih.2 _ _ h2 (wt_part Tryz.underlying67 hw (j:=2) rfl rfl);simp at e0 e1 e2;subst e0 e1 e2;refine ⟨.mk v s T.a T.len T.cap T.f,rfl,?_,⟨hSm.len,fun i hi=>hSm.kid hi⟩⟩
       exact ⟨hs,hT.len,fun i hi=>⟨hT.row hi,hT.kid hi⟩⟩
  ·intro cs x h hw
   rcases DataW.trod_slice Tryz.underlying24 h with ⟨rfl,_⟩| ⟨a,len,cap,elems,rest,m,hm,rfl,hx,hb,hl,hmx,hlen,hel,_,_⟩
   ·exact ⟨.mk 0 ⟨#[]⟩ none 0 0 (fun _=> .nil),rfl,rfl,rfl,⟨Nat.zero_le _,Nat.zero_le _,fun i hi=>absurd hi (Nat.not_lt_zero i)⟩,⟨by omega,fun i hi=>absurd hi (Nat.not_lt_zero i)⟩⟩
   ·obtain rfl:n=m:=by omega
    rw[Tryz.cells67]at hel;rw[hx]at hw;obtain ⟨hw1,hw2⟩:=wt_slice Tryz.underlying24 hw;rw[bytTerm]at hw1
    have key: ∀i,i<len→∃T:Tm,W.cells? 0 (a.add (i*3)) 3=some (cells3 T)∧TIn W T∧SmT T:=fun i hi=>by
     have:=hel i hi;rw[List.getElem?_eq_getElem (by omega)]at this
     obtain ⟨cs',g1,g2⟩:=Option.bind_eq_some_iff.1 this;obtain ⟨T,rfl,hT⟩:=ih.1 _ _ g2 (hw2 _ (List.mem_map.2 ⟨_,List.getElem_mem _,rfl⟩));exact ⟨T,g1,hT⟩
    obtain ⟨f,hf⟩:=Go.Deep.choose_lt key;refine ⟨.mk 0 ⟨#[]⟩ (some a) len cap f,rfl,rfl,rfl,⟨Nat.zero_le _,Nat.le_trans hl hmx,fun i hi=>⟨?_,(hf i hi).2.1⟩⟩,⟨?_,fun i hi=>(hf i hi).2.2⟩⟩
    ·exact row_of_cells (spot_of (s:=3) (by omega) (hf 0 (by omega)).1 rfl) (hf i hi).1
    ·rw[List.length_map,List.length_map,hlen]at hw1
     exact Nat.le_trans (Nat.mul_le_mul_right 48 (Nat.le_add_right _ _)) hw1
theorem open_ansW (n:Nat) (cs:List Value) (x:DataW H × List MemPlace) (h:DataW.trod enc Tryz.prog W 0 spare held n 87 cs=some x) (hw:Wt 87 x.1): ∃T:Tm,cs= [.slice T.a T.len T.cap]∧TIn W T∧SmT T:=by
 rcases DataW.trod_slice Tryz.underlying87 h with ⟨rfl,_⟩| ⟨a,len,cap,elems,rest,m,hm,rfl,hx,hb,hl,hmx,hlen,hel,_,_⟩
 ·exact ⟨.mk 0 ⟨#[]⟩ none 0 0 (fun _=> .nil),rfl,⟨Nat.zero_le _,Nat.zero_le _,fun i hi=>absurd hi (Nat.not_lt_zero i)⟩,⟨by omega,fun i hi=>absurd hi (Nat.not_lt_zero i)⟩⟩
 ·rw[Tryz.cells67]at hel
  rw[hx]at hw;obtain ⟨hw1,hw2⟩:=wt_slice Tryz.underlying87 hw;rw[bytTerm]at hw1
  have key: ∀i,i<len→∃T:Tm,W.cells? 0 (a.add (i*3)) 3=some (cells3 T)∧TIn W T∧SmT T:=fun i hi=>by
   have:=hel i hi;rw[List.getElem?_eq_getElem (by omega)]at this
   obtain ⟨cs',g1,g2⟩:=Option.bind_eq_some_iff.1 this;obtain ⟨T,rfl,hT⟩:=(open_termW m).1 _ _ g2 (hw2 _ (List.mem_map.2 ⟨_,List.getElem_mem _,rfl⟩));exact ⟨T,g1,hT⟩
  obtain ⟨f,hf⟩:=Go.Deep.choose_lt key;refine ⟨.mk 0 ⟨#[]⟩ (some a) len cap f,rfl,⟨Nat.zero_le _,Nat.le_trans hl hmx,fun i hi=>⟨?_,(hf i hi).2.1⟩⟩,⟨?_,fun i hi=>(hf i hi).2.2⟩⟩
  ·exact row_of_cells (spot_of (s:=3) (by omega) (hf 0 (by omega)).1 rfl) (hf i hi).1
  ·rw[List.length_map,List.length_map,hlen]at hw1
   exact Nat.le_trans (Nat.mul_le_mul_right 48 (Nat.le_add_right _ _)) hw1
theorem open_answers (n:Nat) (cs:List Value) (x:DataW H × List MemPlace) (h:DataW.trod enc Tryz.prog W 0 spare held n 29 cs=some x) (hw:Wt 29 x.1): ∃(a:Option Addr) (cap:Nat) (an:List Tm),cs= [.slice a an.length cap]∧AR W a an∧an.length*24≤140737488351232∧∀A∈an,SmT A:=by
 rcases DataW.trod_slice Tryz.underlying29 h with ⟨rfl,_⟩| ⟨a,len,cap,elems,rest,m,hm,rfl,hx,hb,hl,hmx,hlen,hel,_,_⟩
 ·exact ⟨none,0,[],rfl,fun k hk=>absurd hk (Nat.not_lt_zero _),by simp,fun A hA=>absurd hA (by simp)⟩
 ·rw[Tryz.cells87]at hel
  rw[hx]at hw;obtain ⟨hw1,hw2⟩:=wt_slice Tryz.underlying29 hw;rw[bytAns]at hw1
  have key: ∀i,i<len→∃T:Tm,W.cells? 0 (a.add (i*1)) 1=some [.slice T.a T.len T.cap]∧TIn W T∧SmT T:=fun i hi=>by
   have:=hel i hi;rw[List.getElem?_eq_getElem (by omega)]at this
   obtain ⟨cs',g1,g2⟩:=Option.bind_eq_some_iff.1 this;obtain ⟨T,rfl,hT⟩:=open_ansW m _ _ g2 (hw2 _ (List.mem_map.2 ⟨_,List.getElem_mem _,rfl⟩));exact ⟨T,g1,hT⟩
  obtain ⟨f,hf⟩:=Go.Deep.choose_lt key;refine ⟨some a,cap,(List.range len).map f,by simp,fun k hk=>?_,?_,fun A hA=>?_⟩
  ·have hk':k<len:=by simpa using hk
   obtain ⟨b,o,e,hc⟩:=cells_at (s:=1) (spot_of (s:=1) (by omega) (hf 0 (by omega)).1 rfl) (hf k hk').1
   have h0:=hc 0 (by omega)
   simp only[List.getElem_map,List.getElem_range];refine ⟨⟨b,o,by rw[e],?_⟩,(hf k hk').2.1⟩
   simpa using h0
  ·rw[List.length_map,List.length_map,hlen]at hw1
   simp only[List.length_map,List.length_range];exact Nat.le_trans (Nat.mul_le_mul_right 24 (Nat.le_add_right _ _)) hw1
  ·obtain ⟨i,hi,rfl⟩:=List.mem_map.1 hA
   exact (hf i (List.mem_range.1 hi)).2.2
theorem open_ints (n:Nat) (cs:List Value) (x:DataW H × List MemPlace) (h:DataW.trod enc Tryz.prog W 0 spare held n 28 cs=some x) (hw:Wt 28 x.1): ∃(a:Option Addr) (len cap:Nat) (f:Nat→Int),cs= [.slice a len cap]∧(∀i,i<len→IRow W a i (f i))∧len*8≤140737488351232:=by
 rcases DataW.trod_slice Tryz.underlying28 h with ⟨rfl,_⟩| ⟨a,len,cap,elems,rest,m,hm,rfl,hx,hb,hl,hmx,hlen,hel,_,_⟩
 ·exact ⟨none,0,0,fun _=>0,rfl,fun i hi=>absurd hi (Nat.not_lt_zero i),by omega⟩
 ·rw[Tryz.cells3]at hel
  rw[hx]at hw;obtain ⟨hw1,hw2⟩:=wt_slice Tryz.underlying28 hw;rw[bytInt]at hw1
  have key: ∀i,i<len→∃v:Int,W.cells? 0 (a.add (i*1)) 1=some [iV v]:=fun i hi=>by
   have:=hel i hi;rw[List.getElem?_eq_getElem (by omega)]at this
   obtain ⟨cs',g1,g2⟩:=Option.bind_eq_some_iff.1 this;obtain ⟨v,e0,_,_⟩:=DataW.trod_int Tryz.underlying3 g2;exact ⟨v,by rw[g1,e0]⟩
  obtain ⟨f,hf⟩:=Go.Deep.choose_lt key;refine ⟨some a,len,cap,f,rfl,fun i hi=>?_,?_⟩
  ·obtain ⟨b,o,e,hc⟩:=cells_at (s:=1) (spot_of (s:=1) (by omega) (hf 0 (by omega)) rfl) (hf i hi)
   have h0:=hc 0 (by omega)
   exact ⟨b,o,by rw[e],by simpa using h0⟩
  ·rw[List.length_map,List.length_map,hlen]at hw1
   exact Nat.le_trans (Nat.mul_le_mul_right 8 (Nat.le_add_right _ _)) hw1
set_option maxRecDepth 100000 in
theorem open_goals (n:Nat) (cs:List Value) (x:DataW H × List MemPlace) (h:DataW.trod enc Tryz.prog W 0 spare held n 26 cs=some x) (hw:Wt 26 x.1): ∃(a:Option Addr) (len cap:Nat) (f:Nat→Gi),cs= [.slice a len cap]∧(∀i,i<len→GRow W a i (f i))∧len*24≤140737488351232:=by
 rcases DataW.trod_slice Tryz.underlying26 h with ⟨rfl,_⟩| ⟨a,len,cap,elems,rest,m,hm,rfl,hx,hb,hl,hmx,hlen,hel,_,_⟩
 ·exact ⟨none,0,0,fun _=>⟨0,0,0⟩,rfl,fun i hi=>absurd hi (Nat.not_lt_zero i),by omega⟩
 ·rw[Tryz.cells76]at hel
  rw[hx]at hw;obtain ⟨hw1,hw2⟩:=wt_slice Tryz.underlying26 hw;rw[bytGoal]at hw1
  have key: ∀i,i<len→∃g:Gi,W.cells? 0 (a.add (i*3)) 3=some [iV g.at_,iV g.cut,iV g.nx]:=fun i hi=>by
   have:=hel i hi;rw[List.getElem?_eq_getElem (by omega)]at this
   obtain ⟨cs',g1,g2⟩:=Option.bind_eq_some_iff.1 this;obtain ⟨xs,m',hm',_,hl',hlen',hf'⟩:=DataW.trod_struct Tryz.underlying76 g2;rw[Tryz.cells76]at hl'
   match cs',hl',g1 with
   | [c0,c1,c2],_,g1=>
     match xs,hlen' with
     | [y0,y1,y2],_=>
       have h0:DataW.trod enc Tryz.prog W 0 spare held m' 3 (([c0,c1,c2].drop 0).take (Tryz.prog.cellsOf 3))=some y0:=hf' 0 _ rfl;have h1:DataW.trod enc Tryz.prog W 0 spare held m' 3 (([c0,c1,c2].drop 1).take (Tryz.prog.cellsOf 3))=some y1:=hf' 1 _ rfl;have h2:DataW.trod enc Tryz.prog W 0 spare held m' 3 (([c0,c1,c2].drop 2).take (Tryz.prog.cellsOf 3))=some y2:=hf' 2 _ rfl;rw[Tryz.cells3]at h0 h1 h2;obtain ⟨v0,e0,_,_⟩:=DataW.trod_int Tryz.underlying3 h0;obtain ⟨v1,e1,_,_⟩:=DataW.trod_int Tryz.underlying3 h1;obtain ⟨v2,e2,_,_⟩:=DataW.trod_int Tryz.underlying3 h2;simp at e0 e1 e2;subst e0 e1 e2;exact ⟨⟨v0,v1,v2⟩,g1⟩
  obtain ⟨f,hf⟩:=Go.Deep.choose_lt key;refine ⟨some a,len,cap,f,rfl,fun i hi=>?_,?_⟩
  ·obtain ⟨b,o,e,hc⟩:=cells_at (s:=3) (spot_of (s:=3) (by omega) (hf 0 (by omega)) rfl) (hf i hi)
   exact ⟨b,o,by rw[e],hc 0 (by omega),hc 1 (by omega),hc 2 (by omega)⟩
  ·rw[List.length_map,List.length_map,hlen]at hw1
   exact Nat.le_trans (Nat.mul_le_mul_right 24 (Nat.le_add_right _ _)) hw1
set_option maxRecDepth 100000 in
theorem open_choices (n:Nat) (cs:List Value) (x:DataW H × List MemPlace) (h:DataW.trod enc Tryz.prog W 0 spare held n 27 cs=some x) (hw:Wt 27 x.1): ∃(a:Option Addr) (len cap:Nat) (f:Nat→Ci),cs= [.slice a len cap]∧(∀i,i<len→KRow W a i (f i))∧len*40≤140737488351232:=by
 rcases DataW.trod_slice Tryz.underlying27 h with ⟨rfl,_⟩| ⟨a,len,cap,elems,rest,m,hm,rfl,hx,hb,hl,hmx,hlen,hel,_,_⟩
 ·exact ⟨none,0,0,fun _=>ciZ,rfl,fun i hi=>absurd hi (Nat.not_lt_zero i),by omega⟩
 ·rw[Tryz.cells78]at hel
  rw[hx]at hw;obtain ⟨hw1,hw2⟩:=wt_slice Tryz.underlying27 hw;rw[bytChoice]at hw1
  have key: ∀i,i<len→∃g:Ci,W.cells? 0 (a.add (i*5)) 5=some [iV g.goal,iV g.cl,iV g.hp,iV g.tr,iV g.gs]:=fun i hi=>by
   have:=hel i hi;rw[List.getElem?_eq_getElem (by omega)]at this
   obtain ⟨cs',g1,g2⟩:=Option.bind_eq_some_iff.1 this;obtain ⟨xs,m',hm',_,hl',hlen',hf'⟩:=DataW.trod_struct Tryz.underlying78 g2;rw[Tryz.cells78]at hl'
   match cs',hl',g1 with
   | [c0,c1,c2,c3,c4],_,g1=>
     match xs,hlen' with
     | [y0,y1,y2,y3,y4],_=>
       have h0:DataW.trod enc Tryz.prog W 0 spare held m' 3 (([c0,c1,c2,c3,c4].drop 0).take (Tryz.prog.cellsOf 3))=some y0:=hf' 0 _ rfl;have h1:DataW.trod enc Tryz.prog W 0 spare held m' 3 (([c0,c1,c2,c3,c4].drop 1).take (Tryz.prog.cellsOf 3))=some y1:=hf' 1 _ rfl;have h2:DataW.trod enc Tryz.prog W 0 spare held m' 3 (([c0,c1,c2,c3,c4].drop 2).take (Tryz.prog.cellsOf 3))=some y2:=hf' 2 _ rfl;have h3:DataW.trod enc Tryz.prog W 0 spare held m' 3 (([c0,c1,c2,c3,c4].drop 3).take (Tryz.prog.cellsOf 3))=some y3:=hf' 3 _ rfl;have h4:DataW.trod enc Tryz.prog W 0 spare held m' 3 (([c0,c1,c2,c3,c4].drop 4).take (Tryz.prog.cellsOf 3))=some y4:=hf' 4 _ rfl;rw[Tryz.cells3]at h0 h1 h2 h3 h4;obtain ⟨v0,e0,_,_⟩:=DataW.trod_int Tryz.underlying3 h0;obtain ⟨v1,e1,_,_⟩:=DataW.trod_int Tryz.underlying3 h1;obtain ⟨v2,e2,_,_⟩:=DataW.trod_int Tryz.underlying3 h2;obtain ⟨v3,e3,_,_⟩:=DataW.trod_int Tryz.underlying3 h3;obtain ⟨v4,e4,_,_⟩:=DataW.trod_int Tryz.underlying3 h4;simp at e0 e1 e2 e3 e4;subst e0 e1 e2 e3 e4;exact ⟨⟨v0,v1,v2,v3,v4⟩,g1⟩
  obtain ⟨f,hf⟩:=Go.Deep.choose_lt key;refine ⟨some a,len,cap,f,rfl,fun i hi=>?_,?_⟩
  ·obtain ⟨b,o,e,hc⟩:=cells_at (s:=5) (spot_of (s:=5) (by omega) (hf 0 (by omega)) rfl) (hf i hi)
   exact ⟨b,o,by rw[e],hc 0 (by omega),hc 1 (by omega),hc 2 (by omega),hc 3 (by omega),hc 4 (by omega)⟩
  ·rw[List.length_map,List.length_map,hlen]at hw1
   exact Nat.le_trans (Nat.mul_le_mul_right 40 (Nat.le_add_right _ _)) hw1
theorem open_heapC (n:Nat) (cs:List Value) (x:DataW H × List MemPlace) (h:DataW.trod enc Tryz.prog W 0 spare held n 25 cs=some x): ∃(a:Option Addr) (len cap:Nat) (f:Nat→Cl),cs= [.slice a len cap]∧HIn W a len f∧len≤cap:=by
 obtain ⟨a,len,cap,f,e,hP⟩:=open_heap n cs x h;refine ⟨a,len,cap,f,e,hP,?_⟩
 rcases DataW.trod_slice Tryz.underlying25 h with ⟨e',_⟩| ⟨a',len',cap',elems,rest,m,hm,e',_,hb,hl,_⟩
 ·rw[e]at e'
  have:=(List.cons.inj e').1
  injection this with h1 h2 h3
  omega
 ·rw[e]at e'
  have:=(List.cons.inj e').1
  injection this with h1 h2 h3
  omega
set_option maxRecDepth 100000 in
theorem open_machine (n:Nat) (cs:List Value) (x:DataW H × List MemPlace) (h:DataW.trod enc Tryz.prog W 0 spare held n 31 cs=some x) (hw:Wt 31 x.1): ∃(m:Mi) (an:List Tm),cs=m.cells.toList∧MIn W m∧MBig W m an:=by
 obtain ⟨xs,k,hk,hx,hl,hlen,hf⟩:=DataW.trod_struct Tryz.underlying31 h;rw[Tryz.cells31]at hl;rw[hx]at hw
 match cs,hl with
 | [c0,c1,c2,c3,c4,c5,c6,c7,c8],_=>
   match xs,hlen with
   | [y0,y1,y2,y3,y4,y5,y6,y7,y8],_=>
     have h0:DataW.trod enc Tryz.prog W 0 spare held k 25 (([c0,c1,c2,c3,c4,c5,c6,c7,c8].drop 0).take (Tryz.prog.cellsOf 25))=some y0:=hf 0 _ rfl;rw[Tryz.cells25]at h0;have h1:DataW.trod enc Tryz.prog W 0 spare held k 26 (([c0,c1,c2,c3,c4,c5,c6,c7,c8].drop 1).take (Tryz.prog.cellsOf 26))=some y1:=hf 1 _ rfl;rw[Tryz.cells26]at h1;have h2:DataW.trod enc Tryz.prog W 0 spare held k 3 (([c0,c1,c2,c3,c4,c5,c6,c7,c8].drop 2).take (Tryz.prog.cellsOf 3))=some y2:=hf 2 _ rfl;rw[Tryz.cells3]at h2;have h3:DataW.trod enc Tryz.prog W 0 spare held k 27 (([c0,c1,c2,c3,c4,c5,c6,c7,c8].drop 3).take (Tryz.prog.cellsOf 27))=some y3:=hf 3 _ rfl;rw[Tryz.cells27]at h3;have h4:DataW.trod enc Tryz.prog W 0 spare held k 28 (([c0,c1,c2,c3,c4,c5,c6,c7,c8].drop 4).take (Tryz.prog.cellsOf 28))=some y4:=hf 4 _ rfl;rw[Tryz.cells28]at h4;have h5:DataW.trod enc Tryz.prog W 0 spare held k 28 (([c0,c1,c2,c3,c4,c5,c6,c7,c8].drop 5).take (Tryz.prog.cellsOf 28))=some y5:=hf 5 _ rfl;rw[Tryz.cells28]at h5;have h6:DataW.trod enc Tryz.prog W 0 spare held k 3 (([c0,c1,c2,c3,c4,c5,c6,c7,c8].drop 6).take (Tryz.prog.cellsOf 3))=some y6:=hf 6 _ rfl;rw[Tryz.cells3]at h6;have h7:DataW.trod enc Tryz.prog W 0 spare held k 3 (([c0,c1,c2,c3,c4,c5,c6,c7,c8].drop 7).take (Tryz.prog.cellsOf 3))=some y7:=hf 7 _ rfl;rw[Tryz.cells3]at h7;have h8:DataW.trod enc Tryz.prog W 0 spare held k 29 (([c0,c1,c2,c3,c4,c5,c6,c7,c8].drop 8).take (Tryz.prog.cellsOf 29))=some y8:=hf 8 _ rfl;rw[Tryz.cells29]at h8;obtain ⟨ha,hl,hc,hh,e0,hH,hlc⟩:=open_heapC k _ _ h0;obtain ⟨ga,gl,gc,g,e1,hG,hgw⟩:=open_goals k _ _ h1 (wt_part Tryz.underlying31 hw (j:=1) rfl rfl);obtain ⟨v2,e2,_,_⟩:=DataW.trod_int Tryz.underlying3 h2;obtain ⟨ca,cl,cc,c,e3,hK,hcw⟩:=open_choices k _ _ h3 (wt_part Tryz.underlying31 hw (j:=3) rfl rfl);obtain ⟨ta,tl,tc,t,e4,hT,htw⟩:=open_ints k _ _ h4 (wt_part Tryz.underlying31 hw (j:=4) rfl rfl);obtain ⟨qa,ql,qc,q,e5,hQ,hqw⟩:=open_ints k _ _ h5 (wt_part Tryz.underlying31 hw (j:=5) rfl rfl);obtain ⟨v6,e6,_,_⟩:=DataW.trod_int Tryz.underlying3 h6
     obtain ⟨v7,e7,_,_⟩:=DataW.trod_int Tryz.underlying3 h7;obtain ⟨aa,ac,an,e8,hA,haw,hS⟩:=open_answers k _ _ h8 (wt_part Tryz.underlying31 hw (j:=8) rfl rfl);simp at e0 e1 e2 e3 e4 e5 e6 e7 e8;subst e0 e1 e2 e3 e4 e5 e6 e7 e8;exact ⟨⟨ha,hl,hc,hh,ga,gl,gc,g,v2,ca,cl,cc,c,ta,tl,tc,t,qa,ql,qc,q,v6,v7,aa,an.length,ac⟩,an,rfl,⟨hH,hlc,hG,hK,hT,hQ,⟨by show gl≤_;omega,by show cl≤_;omega,by show tl≤_;omega,by show ql≤_;omega⟩⟩,⟨hcw,rfl,hA,haw,hS⟩⟩
theorem open_progW (n:Nat) (cs:List Value) (x:DataW H × List MemPlace) (h:DataW.trod enc Tryz.prog W 0 spare held n 23 cs=some x) (hw:Wt 23 x.1): ∃P:Pg,cs= [.slice P.a P.len P.cap]∧PIn W P∧P.len≤P.cap∧P.len≤17592186043904:=by
 obtain ⟨P,e,hP⟩:=open_prog n cs x h;refine ⟨P,e,hP,?_⟩
 rcases DataW.trod_slice Tryz.underlying23 h with ⟨e',_⟩| ⟨a,len,cap,elems,rest,m,hm,e',hx,hb,hl,_,hlen,_⟩
 ·rw[e]at e'
  have:=(List.cons.inj e').1
  injection this with h1 h2 h3
  omega
 ·rw[e]at e'
  have:=(List.cons.inj e').1
  injection this with h1 h2 h3
  rw[hx]at hw;have hw1:=(wt_slice Tryz.underlying23 hw).1;rw[bytClause,List.length_map,List.length_map,hlen]at hw1;have:=Nat.le_trans (Nat.mul_le_mul_right 72 (Nat.le_add_right len rest.length)) hw1;omega
end
end Go.Proofs.YtmggaclaoefdaabGreat
