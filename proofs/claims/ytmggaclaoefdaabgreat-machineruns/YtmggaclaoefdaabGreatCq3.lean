/- Part of the proof. -/
import Derived.Test.YtmggaclaoefdaabGreatGCA
namespace Go.Proofs.YtmggaclaoefdaabGreat
open Go.RowKit Go.Shelf Go.Proofs.Tryz
set_option linter.unusedVariables false
set_option linter.unusedSimpArgs false
set_option maxRecDepth 100000
set_option maxHeartbeats 8000000
attribute [local go_sem] Oper.semAt_some
theorem Mx.get {W:World} {k:Nat} {x:Mx} {t:TypeId} (h:W.heap[k]?=some (.cells x.cells t)):(W.cell? ⟨k,0,none⟩=some (.slice x.a0 x.l0 x.c0)/\W.cell? ⟨k,1,none⟩=some (.slice x.a1 x.l1 x.c1)/\W.cell? ⟨k,2,none⟩=some (iV x.fst)/\W.cell? ⟨k,3,none⟩=some (.slice x.a3 x.l3 x.c3)/\W.cell? ⟨k,4,none⟩=some (.slice x.a4 x.l4 x.c4))/\(W.cell? ⟨k,5,none⟩=some (.slice x.a5 x.l5 x.c5)/\W.cell? ⟨k,6,none⟩=some (iV x.st)/\W.cell? ⟨k,7,none⟩=some (iV x.fin)/\W.cell? ⟨k,8,none⟩=some (.slice x.a8 x.l8 x.c8))/\∀i,W.frozen? ⟨k,i,none⟩=false:=by
 refine ⟨⟨?_,?_,?_,?_,?_⟩,⟨?_,?_,?_,?_⟩,fun i=>?_⟩ <;> simp[World.cell?,World.frozen?,h,Mx.cells]
def ro (W:World) (k:Nat) (x:Mx):World:=((((((((W.setCell ⟨k,0,none⟩ (.slice x.a0 x.l0 x.c0)).setCell ⟨k,1,none⟩ (.slice x.a1 x.l1 x.c1)).setCell ⟨k,2,none⟩ (iV x.fst)).setCell ⟨k,3,none⟩ (.slice x.a3 x.l3 x.c3)).setCell ⟨k,4,none⟩ (.slice x.a4 x.l4 x.c4)).setCell ⟨k,5,none⟩ (.slice x.a5 x.l5 x.c5)).setCell ⟨k,6,none⟩ (iV x.st)).setCell ⟨k,7,none⟩ (iV x.fin)).setCell ⟨k,8,none⟩ (.slice x.a8 x.l8 x.c8)
theorem xr {W:World} {k:Nat} {x0 x:Mx} {t:TypeId} (h:W.heap[k]?=some (.cells x0.cells t)):(ro W k x).heap[k]?=some (.cells x.cells t)/\W.grownBy (ro W k x) (some k):=by
 refine ⟨?_,?_⟩
 .unfold ro
  simp only[World.setCell,Array.getElem?_modify];simp[h,Mx.cells]
 .exact G.trans (G.trans (G.trans (G.trans (G.trans (G.trans (G.trans (G.trans (af k 0 _) (af k 1 _)) (af k 2 _)) (af k 3 _)) (af k 4 _)) (af k 5 _)) (af k 6 _)) (af k 7 _)) (af k 8 _)
theorem Dt (x:Mx): ∀o:Nat,¬((∃v,x.cells[o]?=some (iV v))/\(∃u,x.cells[o+1]?=some (.string u))):=by
 intro o ⟨_,u,hu⟩;unfold Mx.cells at hu
 rcases o with _|_|_|_|_|_|_|_|o <;> simp at hu
theorem Rg (w:World):
 Calls prog 10 #[] w fun e w'=>e=.returned (.bool true)/\Below w.heap.size w w':=by
 go_enter Tryz.func10,Tryz.ntmps10
 go_wp2_with fail;refine (zl 1 _).mono ?_;rintro e w2 ⟨rfl,hb⟩;have HB2:=hid hb;clear hb;have HQ:Hid (ay (w2.alloc (.cells #[iV 1,.string ⟨#[]⟩,nZ] 67)) (Gn ⟨#[112]⟩ w2.heap.size (l7 1 ⟨#[]⟩))):=Fh rfl (kw w2 1 ⟨#[]⟩ (n6 _ (by decide))) (by decide)
 have HB3:Hid (Below w.heap.size w (w2.alloc (.cells #[iV 1,.string ⟨#[]⟩,nZ] 67))):=HB2.o.alloc HB2.o.size _;go_wp2_with fail;generalize w2.alloc (.cells #[iV 1,.string ⟨#[]⟩,nZ] 67)=w3 at*;refine (mi _ _ 1 1 _).mono ?_;rintro e w4 ⟨rfl,hb⟩;have HB4:=hid (HB3.o.trans (hb.mono HB3.o.size));replace HQ:=hid (HQ.o.below hb);clear hb;generalize w2.heap.size=c2 at*;have HQ5:Hid (ay (w4.alloc (.cells #[iV 0,.string ⟨#[112]⟩,sZ c2 1 1] 67)) (ma w4.heap.size c2)):=qo rfl HQ.o;have HB5:Hid (Below w.heap.size w (w4.alloc (.cells #[iV 0,.string ⟨#[112]⟩,sZ c2 1 1] 67))):=HB4.o.alloc HB4.o.size _;go_wp2_with fail;generalize w4.alloc (.cells #[iV 0,.string ⟨#[112]⟩,sZ c2 1 1] 67)=w5 at*;generalize w4.heap.size=c4 at*;clear HQ;refine (ko _).mono ?_;rintro e w6 ⟨b1,b3,b6,b7,b8,rfl,hP,hb⟩;have HB6:=hid (HB5.o.trans (hb.mono HB5.o.size));have HQ6:=hid (HQ5.o.below hb);have HSt:=hid (Qq b1 b3 b6 b7 b8 c4 c2 w6 hP HQ6.o);clear hb hP HQ5;go_wp2_with fail;refine HSt.o.mono ?_;rintro e w7 ⟨r,x,rfl,hx,hb,hM⟩;have HB7:=hid (HB6.o.trans (hb.mono HB6.o.size));have HQ7:=hid (HQ6.o.below hb);have HM7:Hid (mC r=x.cells/\MC w6.heap.size w7 r (Jk c4 c2) (List.range 1) []):=⟨hx,hM⟩;clear hb hM hx HSt;rw[show Value.agg x.cells=.agg #[.slice x.a0 x.l0 x.c0,.slice x.a1 x.l1 x.c1,iV x.fst,.slice x.a3 x.l3 x.c3,.slice x.a4 x.l4 x.c4,.slice x.a5 x.l5 x.c5,iV x.st,iV x.fin,.slice x.a8 x.l8 x.c8]from rfl]
 have HX8:Hid ((w7.alloc (.cells x.cells 31)).heap[w7.heap.size]?=some (.cells x.cells 31)):=hZ _ _;have HBa:Hid (Below w7.heap.size w7 (w7.alloc (.cells x.cells 31))):=bA;have hW:w7.alloc (.cells #[.slice x.a0 x.l0 x.c0,.slice x.a1 x.l1 x.c1,iV x.fst,.slice x.a3 x.l3 x.c3,.slice x.a4 x.l4 x.c4,.slice x.a5 x.l5 x.c5,iV x.st,iV x.fin,.slice x.a8 x.l8 x.c8] 31)=w7.alloc (.cells x.cells 31):=rfl;generalize w7.alloc (.cells x.cells 31)=w8 at*;have h78:w7.heap.size<w8.heap.size:=(aZ HX8.o);go_wp2_with fail;clear hW;have HK8:Hid (∀W,Below w8.heap.size w8 W->W.heap[w7.heap.size]?=some (.cells x.cells 31)/\MC w6.heap.size W r (Jk c4 c2) (List.range 1) []/\ay W (ma c4 c2)/\Below w.heap.size w W):=fun W hW=>⟨(hW.block _ h78).trans HX8.o,HM7.o.2.below (HBa.o.trans (hW.mono HBa.o.size)),HQ7.o.below (HBa.o.trans (hW.mono HBa.o.size)),HB7.o.trans ((HBa.o.trans (hW.mono HBa.o.size)).mono HB7.o.size)⟩
 obtain ⟨⟨y0,y1,y2,y3,y4⟩,⟨y5,y6,y7,y8⟩,_⟩:=Mx.get HX8.o
 go_region_with (first
  | (go_at_call 31
     refine (ko _).mono ?_;rintro e wn ⟨d1,d3,d6,d7,d8,rfl,hPn,hbn⟩;have HBn:Hid (Below w8.heap.size w8 wn):=Below.trans (by repeat (first|exact bR|refine Below.drew ?_)) (hbn.mono lZ)
     have HPn:=hid hPn;obtain ⟨⟨q0,q1,q2,q3,q4⟩,⟨q5,q6,q7,q8⟩,_⟩:=Mx.get (HK8.o wn HBn.o).1;clear hPn hbn)
  | (go_at_call 13
     refine (Sa d1 d3 d6 d7 d8 c4 c2 w6.heap.size (r:=r) (x:=x) _ (HPn.o.below (by repeat (first|exact bR|refine Below.drew ?_))) HM7.o.1 (HK8.o _ (by repeat (first|exact HBn.o|refine Below.drew ?_))).2.1).mono ?_
     rintro e w9 ⟨r9,y,an9,rfl,hy9,hb9,hM9,hy1,hy2,hy3,hy4⟩;have HB9:Hid (Below w8.heap.size w8 w9):=Below.trans (by repeat (first|exact HBn.o|refine Below.drew ?_)) (hb9.mono HBn.o.size)
     have HR9:Hid (mC r9=y.cells/\(∃l9,MC l9 w9 r9 (b9 (ed d1 d3 d6 d7 d8) (List.range 1) (Jk c4 c2)) (List.range 1) an9)/\y.fst≠0/\y.st=1/\y.fin=0/\y.l8=1):=⟨hy9,⟨_,hM9⟩,hy1,hy2,hy3,hy4⟩;obtain ⟨⟨z0,z1,z2,z3,z4⟩,⟨z5,z6,z7,z8⟩,zf⟩:=Mx.get (HK8.o w9 HB9.o).1;have zf0:=zf 0;have zf1:=zf 1;have zf2:=zf 2;have zf3:=zf 3;have zf4:=zf 4;have zf5:=zf 5;have zf6:=zf 6;have zf7:=zf 7;have zf8:=zf 8;rw[show Value.agg y.cells=.agg #[.slice y.a0 y.l0 y.c0,.slice y.a1 y.l1 y.c1,iV y.fst,.slice y.a3 y.l3 y.c3,.slice y.a4 y.l4 y.c4,.slice y.a5 y.l5 y.c5,iV y.st,iV y.fin,.slice y.a8 y.l8 y.c8]from rfl]
     clear hy9 hb9 hM9 hy1 hy2 hy3 hy4 zf))
 all_goals
  have hbk:=HK8.o w9 HB9.o;have h79:=HB7.o.size;obtain ⟨hS1,hS2⟩:=xr (x:=y) hbk.1;have HX10:=hid hS1;have HB10:Hid (Below w.heap.size w (ro w9 w7.heap.size y)):=hbk.2.2.2.grown hS2 hbk.2.2.2.size (fun k e=>by have:=oj e;omega)
  have HM10:Hid (∃l9,MC l9 (ro w9 w7.heap.size y) r9 (b9 (ed d1 d3 d6 d7 d8) (List.range 1) (Jk c4 c2)) (List.range 1) an9):=by
   obtain ⟨l9,hM9⟩:=HR9.o.2.1;exact ⟨l9,hM9.grown hbk.1 hS2 (by decide) (fun A hA=>Fj hbk.1 (Dt x) (hM9.all A hA))⟩
  have HQ10:Hid (ay (ro w9 w7.heap.size y) (ma c4 c2)):=hbk.2.2.1.grown hS2 (fun k e=>by obtain rfl:=oj e;exact Fj hbk.1 (Dt x) hbk.2.2.1)
  clear hbk hS1 hS2;go_wp2_with fail
  show Calls _ _ _ (ro w9 w7.heap.size y) _
  clear z0 z1 z2 z3 z4 z5 z6 z7 z8 zf0 zf1 zf2 zf3 zf4 zf5 zf6 zf7 zf8;generalize ro w9 w7.heap.size y=w10 at*;refine (ko _).mono ?_;rintro e w11 ⟨f1,f3,f6,f7,f8,rfl,hP,hb⟩;have HBx:=hid hb;have HRun:=hid (Ty f1 f3 f6 f7 f8 c4 c2 w11 hP (HQ10.o.below hb));clear hb hP;go_wp2_with fail;refine HRun.o.mono ?_;rintro e w12 ⟨sa,ca,fin,st,rfl,hb⟩;have HBy:=hid (HBx.o.trans (hb.mono HBx.o.size));clear hb HRun;have HRs:Hid ((w12.alloc (.cells #[.slice sa 2 ca,iV fin,iV st] 44)).heap[w12.heap.size]?=some (.cells #[.slice sa 2 ca,iV fin,iV st] 44)):=hZ w12 _;have HBz:Hid (Below w10.heap.size w10 (w12.alloc (.cells #[.slice sa 2 ca,iV fin,iV st] 44))):=HBy.o.alloc HBy.o.size _;go_wp2_with fail;generalize w12.alloc (.cells #[.slice sa 2 ca,iV fin,iV st] 44)=w13 at*;have hz13:w12.heap.size<w13.heap.size:=(aZ HRs.o);have hk10:w7.heap.size<w10.heap.size:=(aZ HX10.o)
  have HKp:Hid (∀W,Below w13.heap.size w13 W->(W.cell? (dZ w7.heap.size 0)=some (.slice y.a0 y.l0 y.c0)/\W.cell? (dZ w7.heap.size 1)=some (.slice y.a1 y.l1 y.c1)/\W.cell? (dZ w7.heap.size 2)=some (iV y.fst)/\W.cell? (dZ w7.heap.size 3)=some (.slice y.a3 y.l3 y.c3)/\W.cell? (dZ w7.heap.size 4)=some (.slice y.a4 y.l4 y.c4))/\(W.cell? (dZ w7.heap.size 5)=some (.slice y.a5 y.l5 y.c5)/\W.cell? (dZ w7.heap.size 6)=some (iV 1)/\W.cell? (dZ w7.heap.size 7)=some (iV 0)/\W.cell? (dZ w7.heap.size 8)=some (.slice y.a8 1 y.c8))/\W.cell? (dZ w12.heap.size 0)=some (.slice sa 2 ca)):=fun W hW=>by
   have h1:=((HBz.o.trans (hW.mono HBz.o.size)).block _ hk10).trans HX10.o;have h2:=ae ((hW.block _ hz13).trans HRs.o);obtain ⟨ha,hb,_⟩:=Mx.get h1;rw[HR9.o.2.2.2.1,HR9.o.2.2.2.2.1,HR9.o.2.2.2.2.2]at hb;exact ⟨ha,hb,h2.1⟩
  have HCk:Hid (∀(W:World) (g1 g3 g6 g7 g8:Nat),Below w13.heap.size w13 W->kg W (ed g1 g3 g6 g7 g8)->Calls prog 11 #[sZ g8 2 2,.agg #[.slice y.a0 y.l0 y.c0,.slice y.a1 y.l1 y.c1,iV y.fst,.slice y.a3 y.l3 y.c3,.slice y.a4 y.l4 y.c4,.slice y.a5 y.l5 y.c5,iV 1,iV 0,.slice y.a8 1 y.c8]] W fun e w'=>e=.returned (iV 0)/\Below W.heap.size W w'):=fun W g1 g3 g6 g7 g8 hW hP=>by
   obtain ⟨l9,hM⟩:=HM10.o;have:=Rb d1 d3 d6 d7 d8 g1 g3 g6 g7 g8 c4 c2 l9 W hP HR9.o.1 (hM.below (HBz.o.trans (hW.mono HBz.o.size)));rw[Mx.cells,HR9.o.2.2.2.1,HR9.o.2.2.2.2.1,HR9.o.2.2.2.2.2]at this;exact this
  have hfb:=bne_iff_ne.2 HR9.o.2.2.1;have HBk:Hid (Below w13.heap.size w13 w13):=bR;have HBw13:=hid (HB10.o.trans (HBz.o.mono HB10.o.size));clear y0 y1 y2 y3 y4 y5 y6 y7 y8 q0 q1 q2 q3 q4 q5 q6 q7 q8
  go_region_held3 (fun W=>(W.cell? (dZ w7.heap.size 0)=some (.slice y.a0 y.l0 y.c0)/\W.cell? (dZ w7.heap.size 1)=some (.slice y.a1 y.l1 y.c1)/\W.cell? (dZ w7.heap.size 2)=some (iV y.fst)/\W.cell? (dZ w7.heap.size 3)=some (.slice y.a3 y.l3 y.c3)/\W.cell? (dZ w7.heap.size 4)=some (.slice y.a4 y.l4 y.c4))/\(W.cell? (dZ w7.heap.size 5)=some (.slice y.a5 y.l5 y.c5)/\W.cell? (dZ w7.heap.size 6)=some (iV 1)/\W.cell? (dZ w7.heap.size 7)=some (iV 0)/\W.cell? (dZ w7.heap.size 8)=some (.slice y.a8 1 y.c8))/\W.cell? (dZ w12.heap.size 0)=some (.slice sa 2 ca)) (first|exact HKp.o _ HBk.o|exact HKp.o _ HBk.o.drew)
   (first
     | (go_at_call 31
        refine (ko _).mono ?_;rintro e wn ⟨g1,g3,g6,g7,g8,rfl,hPn,hbn⟩;replace HBk:=hid (Below.trans (by first|exact HBk.o|exact HBk.o.drew) (hbn.mono HBk.o.size))
        have HPs:=hid hPn;clear hPn hbn)
     | (go_at_call 11
        refine (HCk.o _ g1 g3 g6 g7 g8 (by first|exact HBk.o|exact HBk.o.drew) (by first|exact HPs.o|exact HPs.o.below (Below.drew bR))).mono ?_
        rintro e wn ⟨rfl,hbn⟩;replace HBk:=hid (Below.trans (by first|exact HBk.o|exact HBk.o.drew) (hbn.mono HBk.o.size))
        clear hbn))
  all_goals
   go_wp2_with fail;go_ret;exact ⟨rfl,HBw13.o.trans (HBk.o.mono HBw13.o.size)⟩
end Go.Proofs.YtmggaclaoefdaabGreat
