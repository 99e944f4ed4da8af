/- Part of the proof. -/
import Derived.Test.YtmggaclaoefdaabGreatGBX
namespace Go.Proofs.YtmggaclaoefdaabGreat
open Go.RowKit Go.Shelf Go.Proofs.Tryz
set_option linter.unusedVariables false
set_option linter.unusedSimpArgs false
set_option maxRecDepth 100000
set_option maxHeartbeats 8000000
attribute [local go_sem] Oper.semAt_some
theorem Iu (l:List Gq): ∀u∈db l,u.oneCell'=true:=by
 intro u hu;obtain ⟨c,_,hc⟩:=List.mem_flatMap.1 hu;simp[js]at hc
 rcases hc with rfl|rfl|rfl <;> rfl
theorem Is (l:List jo): ∀u∈dq l,u.oneCell'=true:=by
 intro u hu;obtain ⟨c,_,hc⟩:=List.mem_flatMap.1 hu;simp[j7]at hc
 rcases hc with rfl|rfl|rfl|rfl|rfl <;> rfl
theorem Bn (l:List Nat): ∀u∈fg l,u.oneCell'=true:=by
 intro u hu;obtain ⟨c,_,rfl⟩:=List.mem_map.1 hu
 rfl
theorem N9 (l:List Tm): ∀u∈l.map lh,u.oneCell'=true:=by
 intro u hu;obtain ⟨c,_,rfl⟩:=List.mem_map.1 hu
 rfl
structure Jq (hi:Nat) (w:World) (an:List Tm) (i:Nat) (zs:List Tm):Prop where
 len:zs.length=an.length
 new: ∀(j:Nat) (X:Tm),j<i->zs[j]?=some X->ay w X/\(∃A,an[j]?=some A/\a9 X=a9 A)/\bl hi X
 old: ∀j,i<=j->zs[j]?=an[j]?
theorem Jq.keep {hi:Nat} {w w':World} {an:List Tm} {i:Nat} {zs:List Tm} (h:Jq hi w an i zs) (hk: ∀X,ay w X->bl hi X->ay w' X):Jq hi w' an i zs:=
 ⟨h.len,fun j X hj hX=>let ⟨a,b,c⟩:=h.new j X hj hX;⟨hk X a c,b,c⟩,h.old⟩
theorem Jq.set {hi:Nat} {w:World} {an:List Tm} {i:Nat} {zs:List Tm} {X A:Tm} (h:Jq hi w an i zs) (hA:an[i]?=some A) (hX:ay w X/\a9 X=a9 A/\bl hi X):Jq hi w an (i+1) (zs.set i X):=by
 refine ⟨by rw[List.length_set];exact h.len,fun j Z hj hZ=>?_,fun j hj=>?_⟩
 .rw[List.getElem?_set]at hZ
  by_cases e:i=j
  .subst e
   rw[if_pos rfl]at hZ
   by_cases hl:i<zs.length
   .rw[if_pos hl]at hZ;cases hZ;exact ⟨hX.1,⟨A,hA,hX.2.1⟩,hX.2.2⟩
   .rw[if_neg hl]at hZ;cases hZ
  .rw[if_neg e]at hZ
   exact h.new j Z (by omega) hZ
 .rw[List.getElem?_set,if_neg (by omega)]
  exact h.old j (by omega)
def Ud (r:Rn) (k:Nat):Prop:=r.hv.ownBlock=some k\/r.gv.ownBlock=some k\/r.cv.ownBlock=some k\/r.tv.ownBlock=some k\/r.qv.ownBlock=some k\/r.av.ownBlock=some k
def Uk (w:World) (r:Rn) (F:FM) (qs:List Nat) (e:Ending) (w':World):Prop:=∃(r':Rn) (an':List Tm) (hi:Nat),e=.returned (.tuple #[mV r',.bool true])/\Below w.heap.size w w'/\MC w.heap.size w' r' F qs an'/\(∀A∈an',bl hi A)/\hi<=w'.heap.size/\(∀k,Ud r' k->k<hi)/\(∀k,r'.tv.ownBlock=some k->r'.qv.ownBlock≠some k)
theorem j9 {w:World} {lo n n' z z':Nat} {t t':TypeId} {v v':Value} {xs xs':List Value} {m:Nat} (h:w.ownsRow lo t z v n xs) (hlt: ∀k,v.ownBlock=some k->k<m) (h':w.ownsRow m t' z' v' n' xs'): ∀k,v.ownBlock=some k->v'.ownBlock≠some k:=fun k hk hk'=>by
 have:=hlt k hk;have:=(h'.lt k hk').1;omega
theorem Qx {lo:Nat} {r:Rn} {F:FM} {qs:List Nat} {an:List Tm} (w:World) (M:MC lo w r F qs an) (hA: ∀A∈an,kids A<=1000) (hb0:F.m.h.length<=4000000) (hb1:F.m.gs.length<=4000000) (hb2:F.m.cs.length<=4000000) (hb3:F.m.tr.length<=4000000) (hb4:qs.length<=4000000) (hb5:an.length<=40):
 Calls prog 41 #[mV r] w (Uk w r F qs):=by
 obtain ⟨a0,c0,e0,_⟩:=ak M.hp;obtain ⟨a1,c1,e1,_⟩:=ak M.go;obtain ⟨a2,c2,e2,_⟩:=ak M.ch;obtain ⟨a3,c3,e3,_⟩:=ak M.tl;obtain ⟨a4,c4,e4,_⟩:=ak M.qu;obtain ⟨a5,c5,e5,_⟩:=ak M.anr
 rcases r with ⟨hv,gv,fst,cv,tv,qv,st,fin,av,P,left⟩
 simp only at e0 e1 e2 e3 e4 e5;subst e0 e1 e2 e3 e4 e5;have HM:Hid (∀W,Below w.heap.size w W->MC lo W (⟨.slice a0 F.m.h.length c0,.slice a1 F.m.gs.length c1,fst,.slice a2 F.m.cs.length c2,.slice a3 F.m.tr.length c3,.slice a4 qs.length c4,st,fin,.slice a5 an.length c5,P,left⟩:Rn) F qs an):=fun W hW=>M.below hW
 have HAk:Hid (∀A∈an,kids A<=1000):=hA;have HX:Hid ((w.alloc (.cells (mC (⟨.slice a0 F.m.h.length c0,.slice a1 F.m.gs.length c1,fst,.slice a2 F.m.cs.length c2,.slice a3 F.m.tr.length c3,.slice a4 qs.length c4,st,fin,.slice a5 an.length c5,P,left⟩:Rn)) 31)).heap[w.heap.size]?=some (.cells (mC (⟨.slice a0 F.m.h.length c0,.slice a1 F.m.gs.length c1,fst,.slice a2 F.m.cs.length c2,.slice a3 F.m.tr.length c3,.slice a4 qs.length c4,st,fin,.slice a5 an.length c5,P,left⟩:Rn)) 31)):=hZ _ _;have HBa:Hid (Below w.heap.size w (w.alloc (.cells (mC (⟨.slice a0 F.m.h.length c0,.slice a1 F.m.gs.length c1,fst,.slice a2 F.m.cs.length c2,.slice a3 F.m.tr.length c3,.slice a4 qs.length c4,st,fin,.slice a5 an.length c5,P,left⟩:Rn)) 31))):=bA;have hsz:w.heap.size<(w.alloc (.cells (mC (⟨.slice a0 F.m.h.length c0,.slice a1 F.m.gs.length c1,fst,.slice a2 F.m.cs.length c2,.slice a3 F.m.tr.length c3,.slice a4 qs.length c4,st,fin,.slice a5 an.length c5,P,left⟩:Rn)) 31)).heap.size:=(aZ HX.o);clear M hA
 go_enter Tryz.func41,Tryz.ntmps41
 rw[show mV (⟨.slice a0 F.m.h.length c0,.slice a1 F.m.gs.length c1,fst,.slice a2 F.m.cs.length c2,.slice a3 F.m.tr.length c3,.slice a4 qs.length c4,st,fin,.slice a5 an.length c5,P,left⟩:Rn)=.agg #[.slice a0 F.m.h.length c0,.slice a1 F.m.gs.length c1,iV fst,.slice a2 F.m.cs.length c2,.slice a3 F.m.tr.length c3,.slice a4 qs.length c4,iV st,iV fin,.slice a5 an.length c5]from rfl]
 have hW:w.alloc (.cells #[.slice a0 F.m.h.length c0,.slice a1 F.m.gs.length c1,iV fst,.slice a2 F.m.cs.length c2,.slice a3 F.m.tr.length c3,.slice a4 qs.length c4,iV st,iV fin,.slice a5 an.length c5] 31)=w.alloc (.cells (mC (⟨.slice a0 F.m.h.length c0,.slice a1 F.m.gs.length c1,fst,.slice a2 F.m.cs.length c2,.slice a3 F.m.tr.length c3,.slice a4 qs.length c4,st,fin,.slice a5 an.length c5,P,left⟩:Rn)) 31):=rfl;generalize w.alloc (.cells (mC (⟨.slice a0 F.m.h.length c0,.slice a1 F.m.gs.length c1,fst,.slice a2 F.m.cs.length c2,.slice a3 F.m.tr.length c3,.slice a4 qs.length c4,st,fin,.slice a5 an.length c5,P,left⟩:Rn)) 31)=wa at*;have HZ:Hid ((wa.alloc (.cells (mC oa) 31)).heap[wa.heap.size]?=some (.cells (mC oa) 31)):=hZ _ _;have HBb:Hid (Below wa.heap.size wa (wa.alloc (.cells (mC oa) 31))):=bA;have hW2:wa.alloc (.cells #[nZ,nZ,iV 0,nZ,nZ,nZ,iV 0,iV 0,nZ] 31)=wa.alloc (.cells (mC oa) 31):=rfl;generalize wa.alloc (.cells (mC oa) 31)=wb at*;have hsb:wa.heap.size<wb.heap.size:=(aZ HZ.o);have HBw:Hid (Below w.heap.size w wb):=HBa.o.trans (HBb.o.mono HBa.o.size);have HXb:Hid (wb.heap[w.heap.size]?=some (.cells (mC (⟨.slice a0 F.m.h.length c0,.slice a1 F.m.gs.length c1,fst,.slice a2 F.m.cs.length c2,.slice a3 F.m.tr.length c3,.slice a4 qs.length c4,st,fin,.slice a5 an.length c5,P,left⟩:Rn)) 31)):=(HBb.o.block _ hsz).trans HX.o;have HBd:Hid (Calls prog 75 #[.slice a5 an.length c5] wb fun e w'=>e=.returned (.bool true)/\Below wb.heap.size wb w'):=Db wb (HM.o wb HBw.o).anr (fun A hA=>⟨(HM.o wb HBw.o).all A hA,HAk.o A hA⟩) hb5
 obtain ⟨_,⟨_,_,_,x8⟩,_⟩:=cr HXb.o;simp only at x8;go_wp2_with fail;clear x8 hW hW2;refine HBd.o.mono ?_;rintro e W0 ⟨rfl,hbd⟩;have HB0:Hid (Below w.heap.size w W0):=HBw.o.trans (hbd.mono HBw.o.size);have HK0:Hid (W0.heap[w.heap.size]?=some (.cells (mC (⟨.slice a0 F.m.h.length c0,.slice a1 F.m.gs.length c1,fst,.slice a2 F.m.cs.length c2,.slice a3 F.m.tr.length c3,.slice a4 qs.length c4,st,fin,.slice a5 an.length c5,P,left⟩:Rn)) 31)):=(hbd.block _ (by omega)).trans HXb.o
 have HZ0:Hid (W0.heap[wa.heap.size]?=some (.cells (mC oa) 31)):=(hbd.block _ hsb).trans HZ.o;have hz0:wb.heap.size<=W0.heap.size:=hbd.size;clear hbd HBd;obtain ⟨⟨x0,x1,x2,x3,x4⟩,⟨x5,x6,x7,x8⟩,_⟩:=cr HK0.o;simp only at x0 x1 x2 x3 x4 x5 x6 x7 x8;go_wp2_with fail;clear x0 x1 x2 x3 x4 x5 x6 x7 x8;have HC:Hid (Calls prog 76 #[.slice a0 F.m.h.length c0] W0 fun e w'=>∃v',e=.returned v'/\w'.ownsRow W0.heap.size 81 3 v' F.m.h.length (ce F.m.h)/\Below W0.heap.size W0 w'):=xa W0 (HM.o W0 HB0.o).hp (nt _) (by omega)
 refine HC.o.mono ?_;rintro e V0 ⟨v',rfl,hrow,hb⟩;obtain ⟨b0,d0,e',_⟩:=ak hrow;subst e';have hkv:V0.heap[w.heap.size]?=some (.cells (mC (⟨.slice a0 F.m.h.length c0,.slice a1 F.m.gs.length c1,fst,.slice a2 F.m.cs.length c2,.slice a3 F.m.tr.length c3,.slice a4 qs.length c4,st,fin,.slice a5 an.length c5,P,left⟩:Rn)) 31):=(hb.block _ (by omega)).trans HK0.o
 have HK1:Hid ((V0.setCell (dZ w.heap.size 0) (.slice b0 F.m.h.length d0)).heap[w.heap.size]?=some (.cells (mC (⟨.slice b0 F.m.h.length d0,.slice a1 F.m.gs.length c1,fst,.slice a2 F.m.cs.length c2,.slice a3 F.m.tr.length c3,.slice a4 qs.length c4,st,fin,.slice a5 an.length c5,P,left⟩:Rn)) 31)):=Si _ hkv;have HB1:Hid (Below w.heap.size w (V0.setCell (dZ w.heap.size 0) (.slice b0 F.m.h.length d0))):=(HB0.o.trans (hb.mono HB0.o.size)).grown (af _ _ _) (HB0.o.trans (hb.mono HB0.o.size)).size (fun k e=>by have:=oj e;omega)
 have hz1:W0.heap.size<=(V0.setCell (dZ w.heap.size 0) (.slice b0 F.m.h.length d0)).heap.size:=by have:=hb.size;simpa using this
 have HZ1:Hid ((V0.setCell (dZ w.heap.size 0) (.slice b0 F.m.h.length d0)).heap[wa.heap.size]?=some (.cells (mC oa) 31)):=((af (W:=V0) w.heap.size 0 (.slice b0 F.m.h.length d0)).block _ (by have:=hb.size;omega) (fun e=>by have:=oj e;omega)).trans ((hb.block _ (by omega)).trans HZ0.o)
 have HR01:Hid ((V0.setCell (dZ w.heap.size 0) (.slice b0 F.m.h.length d0)).ownsRow W0.heap.size 81 3 (.slice b0 F.m.h.length d0) F.m.h.length (ce F.m.h)):=ee hrow (by omega) bR
 have hlt0: ∀k,(Value.slice b0 F.m.h.length d0).ownBlock=some k->k<(V0.setCell (dZ w.heap.size 0) (.slice b0 F.m.h.length d0)).heap.size:=fun k e=>(HR01.o.lt k e).2
 obtain ⟨⟨y0,y1,y2,y3,y4⟩,⟨y5,y6,y7,y8⟩,yf⟩:=cr hkv;simp only at y0 y1 y2 y3 y4 y5 y6 y7 y8;have yf0:=yf 0;have HLt0:Hid (∀k,(Value.slice b0 F.m.h.length d0).ownBlock=some k->k<(V0.setCell (dZ w.heap.size 0) (.slice b0 F.m.h.length d0)).heap.size):=hlt0;clear hlt0 hrow hb HC hkv yf;go_wp2_with fail;generalize V0.setCell (dZ w.heap.size 0) (.slice b0 F.m.h.length d0)=W1 at*;clear y0 y1 y2 y3 y4 y5 y6 y7 y8 yf0;have HC:Hid (Calls prog 77 #[.slice a1 F.m.gs.length c1] W1 fun e w'=>∃v',e=.returned v'/\w'.ownsRow W1.heap.size 76 3 v' F.m.gs.length (db F.m.gs)/\Below W1.heap.size W1 w'):=wy W1 (HM.o W1 HB1.o).go (Iu _) (by omega)
 refine HC.o.mono ?_;rintro e V1 ⟨v',rfl,hrow,hb⟩;obtain ⟨b1,d1,e',_⟩:=ak hrow;subst e';have hkv:V1.heap[w.heap.size]?=some (.cells (mC (⟨.slice b0 F.m.h.length d0,.slice a1 F.m.gs.length c1,fst,.slice a2 F.m.cs.length c2,.slice a3 F.m.tr.length c3,.slice a4 qs.length c4,st,fin,.slice a5 an.length c5,P,left⟩:Rn)) 31):=(hb.block _ (by omega)).trans HK1.o
 have HK2:Hid ((V1.setCell (dZ w.heap.size 1) (.slice b1 F.m.gs.length d1)).heap[w.heap.size]?=some (.cells (mC (⟨.slice b0 F.m.h.length d0,.slice b1 F.m.gs.length d1,fst,.slice a2 F.m.cs.length c2,.slice a3 F.m.tr.length c3,.slice a4 qs.length c4,st,fin,.slice a5 an.length c5,P,left⟩:Rn)) 31)):=Sh _ hkv;have HB2:Hid (Below w.heap.size w (V1.setCell (dZ w.heap.size 1) (.slice b1 F.m.gs.length d1))):=(HB1.o.trans (hb.mono HB1.o.size)).grown (af _ _ _) (HB1.o.trans (hb.mono HB1.o.size)).size (fun k e=>by have:=oj e;omega)
 have hz2:W1.heap.size<=(V1.setCell (dZ w.heap.size 1) (.slice b1 F.m.gs.length d1)).heap.size:=by have:=hb.size;simpa using this
 have HZ2:Hid ((V1.setCell (dZ w.heap.size 1) (.slice b1 F.m.gs.length d1)).heap[wa.heap.size]?=some (.cells (mC oa) 31)):=((af (W:=V1) w.heap.size 1 (.slice b1 F.m.gs.length d1)).block _ (by have:=hb.size;omega) (fun e=>by have:=oj e;omega)).trans ((hb.block _ (by omega)).trans HZ1.o)
 have HR02:Hid ((V1.setCell (dZ w.heap.size 1) (.slice b1 F.m.gs.length d1)).ownsRow W0.heap.size 81 3 (.slice b0 F.m.h.length d0) F.m.h.length (ce F.m.h)):=ee HR01.o (by omega) hb
 have HR12:Hid ((V1.setCell (dZ w.heap.size 1) (.slice b1 F.m.gs.length d1)).ownsRow W1.heap.size 76 3 (.slice b1 F.m.gs.length d1) F.m.gs.length (db F.m.gs)):=ee hrow (by omega) bR
 have hlt1: ∀k,(Value.slice b1 F.m.gs.length d1).ownBlock=some k->k<(V1.setCell (dZ w.heap.size 1) (.slice b1 F.m.gs.length d1)).heap.size:=fun k e=>(HR12.o.lt k e).2
 obtain ⟨⟨y0,y1,y2,y3,y4⟩,⟨y5,y6,y7,y8⟩,yf⟩:=cr hkv;simp only at y0 y1 y2 y3 y4 y5 y6 y7 y8;have yf0:=yf 1;have HLt1:Hid (∀k,(Value.slice b1 F.m.gs.length d1).ownBlock=some k->k<(V1.setCell (dZ w.heap.size 1) (.slice b1 F.m.gs.length d1)).heap.size):=hlt1;clear hlt1 hrow hb HC hkv yf;go_wp2_with fail;generalize V1.setCell (dZ w.heap.size 1) (.slice b1 F.m.gs.length d1)=W2 at*;clear y0 y1 y2 y3 y4 y5 y6 y7 y8 yf0;have HC:Hid (Calls prog 78 #[.slice a2 F.m.cs.length c2] W2 fun e w'=>∃v',e=.returned v'/\w'.ownsRow W2.heap.size 78 5 v' F.m.cs.length (dq F.m.cs)/\Below W2.heap.size W2 w'):=se W2 (HM.o W2 HB2.o).ch (Is _) (by omega)
 refine HC.o.mono ?_;rintro e V2 ⟨v',rfl,hrow,hb⟩;obtain ⟨b2,d2,e',_⟩:=ak hrow;subst e';have hkv:V2.heap[w.heap.size]?=some (.cells (mC (⟨.slice b0 F.m.h.length d0,.slice b1 F.m.gs.length d1,fst,.slice a2 F.m.cs.length c2,.slice a3 F.m.tr.length c3,.slice a4 qs.length c4,st,fin,.slice a5 an.length c5,P,left⟩:Rn)) 31):=(hb.block _ (by omega)).trans HK2.o
 have HK3:Hid ((V2.setCell (dZ w.heap.size 3) (.slice b2 F.m.cs.length d2)).heap[w.heap.size]?=some (.cells (mC (⟨.slice b0 F.m.h.length d0,.slice b1 F.m.gs.length d1,fst,.slice b2 F.m.cs.length d2,.slice a3 F.m.tr.length c3,.slice a4 qs.length c4,st,fin,.slice a5 an.length c5,P,left⟩:Rn)) 31)):=Sf _ hkv;have HB3:Hid (Below w.heap.size w (V2.setCell (dZ w.heap.size 3) (.slice b2 F.m.cs.length d2))):=(HB2.o.trans (hb.mono HB2.o.size)).grown (af _ _ _) (HB2.o.trans (hb.mono HB2.o.size)).size (fun k e=>by have:=oj e;omega)
 have hz3:W2.heap.size<=(V2.setCell (dZ w.heap.size 3) (.slice b2 F.m.cs.length d2)).heap.size:=by have:=hb.size;simpa using this
 have HZ3:Hid ((V2.setCell (dZ w.heap.size 3) (.slice b2 F.m.cs.length d2)).heap[wa.heap.size]?=some (.cells (mC oa) 31)):=((af (W:=V2) w.heap.size 3 (.slice b2 F.m.cs.length d2)).block _ (by have:=hb.size;omega) (fun e=>by have:=oj e;omega)).trans ((hb.block _ (by omega)).trans HZ2.o)
 have HR03:Hid ((V2.setCell (dZ w.heap.size 3) (.slice b2 F.m.cs.length d2)).ownsRow W0.heap.size 81 3 (.slice b0 F.m.h.length d0) F.m.h.length (ce F.m.h)):=ee HR02.o (by omega) hb
 have HR13:Hid ((V2.setCell (dZ w.heap.size 3) (.slice b2 F.m.cs.length d2)).ownsRow W1.heap.size 76 3 (.slice b1 F.m.gs.length d1) F.m.gs.length (db F.m.gs)):=ee HR12.o (by omega) hb
 have HR23:Hid ((V2.setCell (dZ w.heap.size 3) (.slice b2 F.m.cs.length d2)).ownsRow W2.heap.size 78 5 (.slice b2 F.m.cs.length d2) F.m.cs.length (dq F.m.cs)):=ee hrow (by omega) bR
 have hlt2: ∀k,(Value.slice b2 F.m.cs.length d2).ownBlock=some k->k<(V2.setCell (dZ w.heap.size 3) (.slice b2 F.m.cs.length d2)).heap.size:=fun k e=>(HR23.o.lt k e).2
 obtain ⟨⟨y0,y1,y2,y3,y4⟩,⟨y5,y6,y7,y8⟩,yf⟩:=cr hkv;simp only at y0 y1 y2 y3 y4 y5 y6 y7 y8;have yf0:=yf 3;have HLt2:Hid (∀k,(Value.slice b2 F.m.cs.length d2).ownBlock=some k->k<(V2.setCell (dZ w.heap.size 3) (.slice b2 F.m.cs.length d2)).heap.size):=hlt2;clear hlt2 hrow hb HC hkv yf;go_wp2_with fail;generalize V2.setCell (dZ w.heap.size 3) (.slice b2 F.m.cs.length d2)=W3 at*;clear y0 y1 y2 y3 y4 y5 y6 y7 y8 yf0;have HC:Hid (Calls prog 79 #[.slice a3 F.m.tr.length c3] W3 fun e w'=>∃v',e=.returned v'/\w'.ownsRow W3.heap.size 3 1 v' F.m.tr.length (fg F.m.tr)/\Below W3.heap.size W3 w'):=qg W3 (HM.o W3 HB3.o).tl (Bn _) (by omega)
 refine HC.o.mono ?_;rintro e V3 ⟨v',rfl,hrow,hb⟩;obtain ⟨b3,d3,e',_⟩:=ak hrow;subst e';have hkv:V3.heap[w.heap.size]?=some (.cells (mC (⟨.slice b0 F.m.h.length d0,.slice b1 F.m.gs.length d1,fst,.slice b2 F.m.cs.length d2,.slice a3 F.m.tr.length c3,.slice a4 qs.length c4,st,fin,.slice a5 an.length c5,P,left⟩:Rn)) 31):=(hb.block _ (by omega)).trans HK3.o
 have HK4:Hid ((V3.setCell (dZ w.heap.size 4) (.slice b3 F.m.tr.length d3)).heap[w.heap.size]?=some (.cells (mC (⟨.slice b0 F.m.h.length d0,.slice b1 F.m.gs.length d1,fst,.slice b2 F.m.cs.length d2,.slice b3 F.m.tr.length d3,.slice a4 qs.length c4,st,fin,.slice a5 an.length c5,P,left⟩:Rn)) 31)):=Se _ hkv;have HB4:Hid (Below w.heap.size w (V3.setCell (dZ w.heap.size 4) (.slice b3 F.m.tr.length d3))):=(HB3.o.trans (hb.mono HB3.o.size)).grown (af _ _ _) (HB3.o.trans (hb.mono HB3.o.size)).size (fun k e=>by have:=oj e;omega)
 have hz4:W3.heap.size<=(V3.setCell (dZ w.heap.size 4) (.slice b3 F.m.tr.length d3)).heap.size:=by have:=hb.size;simpa using this
 have HZ4:Hid ((V3.setCell (dZ w.heap.size 4) (.slice b3 F.m.tr.length d3)).heap[wa.heap.size]?=some (.cells (mC oa) 31)):=((af (W:=V3) w.heap.size 4 (.slice b3 F.m.tr.length d3)).block _ (by have:=hb.size;omega) (fun e=>by have:=oj e;omega)).trans ((hb.block _ (by omega)).trans HZ3.o)
 have HR04:Hid ((V3.setCell (dZ w.heap.size 4) (.slice b3 F.m.tr.length d3)).ownsRow W0.heap.size 81 3 (.slice b0 F.m.h.length d0) F.m.h.length (ce F.m.h)):=ee HR03.o (by omega) hb
 have HR14:Hid ((V3.setCell (dZ w.heap.size 4) (.slice b3 F.m.tr.length d3)).ownsRow W1.heap.size 76 3 (.slice b1 F.m.gs.length d1) F.m.gs.length (db F.m.gs)):=ee HR13.o (by omega) hb
 have HR24:Hid ((V3.setCell (dZ w.heap.size 4) (.slice b3 F.m.tr.length d3)).ownsRow W2.heap.size 78 5 (.slice b2 F.m.cs.length d2) F.m.cs.length (dq F.m.cs)):=ee HR23.o (by omega) hb
 have HR34:Hid ((V3.setCell (dZ w.heap.size 4) (.slice b3 F.m.tr.length d3)).ownsRow W3.heap.size 3 1 (.slice b3 F.m.tr.length d3) F.m.tr.length (fg F.m.tr)):=ee hrow (by omega) bR
 have hlt3: ∀k,(Value.slice b3 F.m.tr.length d3).ownBlock=some k->k<(V3.setCell (dZ w.heap.size 4) (.slice b3 F.m.tr.length d3)).heap.size:=fun k e=>(HR34.o.lt k e).2
 obtain ⟨⟨y0,y1,y2,y3,y4⟩,⟨y5,y6,y7,y8⟩,yf⟩:=cr hkv;simp only at y0 y1 y2 y3 y4 y5 y6 y7 y8;have yf0:=yf 4;have HLt3:Hid (∀k,(Value.slice b3 F.m.tr.length d3).ownBlock=some k->k<(V3.setCell (dZ w.heap.size 4) (.slice b3 F.m.tr.length d3)).heap.size):=hlt3;clear hlt3 hrow hb HC hkv yf;go_wp2_with fail;generalize V3.setCell (dZ w.heap.size 4) (.slice b3 F.m.tr.length d3)=W4 at*;clear y0 y1 y2 y3 y4 y5 y6 y7 y8 yf0;have HC:Hid (Calls prog 79 #[.slice a4 qs.length c4] W4 fun e w'=>∃v',e=.returned v'/\w'.ownsRow W4.heap.size 3 1 v' qs.length (fg qs)/\Below W4.heap.size W4 w'):=qg W4 (HM.o W4 HB4.o).qu (Bn _) (by omega)
 refine HC.o.mono ?_;rintro e V4 ⟨v',rfl,hrow,hb⟩;obtain ⟨b4,d4,e',_⟩:=ak hrow;subst e';have hkv:V4.heap[w.heap.size]?=some (.cells (mC (⟨.slice b0 F.m.h.length d0,.slice b1 F.m.gs.length d1,fst,.slice b2 F.m.cs.length d2,.slice b3 F.m.tr.length d3,.slice a4 qs.length c4,st,fin,.slice a5 an.length c5,P,left⟩:Rn)) 31):=(hb.block _ (by omega)).trans HK4.o
 have HK5:Hid ((V4.setCell (dZ w.heap.size 5) (.slice b4 qs.length d4)).heap[w.heap.size]?=some (.cells (mC (⟨.slice b0 F.m.h.length d0,.slice b1 F.m.gs.length d1,fst,.slice b2 F.m.cs.length d2,.slice b3 F.m.tr.length d3,.slice b4 qs.length d4,st,fin,.slice a5 an.length c5,P,left⟩:Rn)) 31)):=Sd _ hkv;have HB5:Hid (Below w.heap.size w (V4.setCell (dZ w.heap.size 5) (.slice b4 qs.length d4))):=(HB4.o.trans (hb.mono HB4.o.size)).grown (af _ _ _) (HB4.o.trans (hb.mono HB4.o.size)).size (fun k e=>by have:=oj e;omega)
 have hz5:W4.heap.size<=(V4.setCell (dZ w.heap.size 5) (.slice b4 qs.length d4)).heap.size:=by have:=hb.size;simpa using this
 have HZ5:Hid ((V4.setCell (dZ w.heap.size 5) (.slice b4 qs.length d4)).heap[wa.heap.size]?=some (.cells (mC oa) 31)):=((af (W:=V4) w.heap.size 5 (.slice b4 qs.length d4)).block _ (by have:=hb.size;omega) (fun e=>by have:=oj e;omega)).trans ((hb.block _ (by omega)).trans HZ4.o)
 have HR05:Hid ((V4.setCell (dZ w.heap.size 5) (.slice b4 qs.length d4)).ownsRow W0.heap.size 81 3 (.slice b0 F.m.h.length d0) F.m.h.length (ce F.m.h)):=ee HR04.o (by omega) hb
 have HR15:Hid ((V4.setCell (dZ w.heap.size 5) (.slice b4 qs.length d4)).ownsRow W1.heap.size 76 3 (.slice b1 F.m.gs.length d1) F.m.gs.length (db F.m.gs)):=ee HR14.o (by omega) hb
 have HR25:Hid ((V4.setCell (dZ w.heap.size 5) (.slice b4 qs.length d4)).ownsRow W2.heap.size 78 5 (.slice b2 F.m.cs.length d2) F.m.cs.length (dq F.m.cs)):=ee HR24.o (by omega) hb
 have HR35:Hid ((V4.setCell (dZ w.heap.size 5) (.slice b4 qs.length d4)).ownsRow W3.heap.size 3 1 (.slice b3 F.m.tr.length d3) F.m.tr.length (fg F.m.tr)):=ee HR34.o (by omega) hb
 have HR45:Hid ((V4.setCell (dZ w.heap.size 5) (.slice b4 qs.length d4)).ownsRow W4.heap.size 3 1 (.slice b4 qs.length d4) qs.length (fg qs)):=ee hrow (by omega) bR
 have hlt4: ∀k,(Value.slice b4 qs.length d4).ownBlock=some k->k<(V4.setCell (dZ w.heap.size 5) (.slice b4 qs.length d4)).heap.size:=fun k e=>(HR45.o.lt k e).2
 obtain ⟨⟨y0,y1,y2,y3,y4⟩,⟨y5,y6,y7,y8⟩,yf⟩:=cr hkv;simp only at y0 y1 y2 y3 y4 y5 y6 y7 y8;have yf0:=yf 5;have HLt4:Hid (∀k,(Value.slice b4 qs.length d4).ownBlock=some k->k<(V4.setCell (dZ w.heap.size 5) (.slice b4 qs.length d4)).heap.size):=hlt4;clear hlt4 hrow hb HC hkv yf;go_wp2_with fail;generalize V4.setCell (dZ w.heap.size 5) (.slice b4 qs.length d4)=W5 at*;clear y0 y1 y2 y3 y4 y5 y6 y7 y8 yf0;have HC:Hid (Calls prog 80 #[.slice a5 an.length c5] W5 fun e w'=>∃v',e=.returned v'/\w'.ownsRow W5.heap.size 87 1 v' an.length (an.map lh)/\Below W5.heap.size W5 w'):=si W5 (HM.o W5 HB5.o).anr (N9 _) (by omega)
 refine HC.o.mono ?_;rintro e V5 ⟨v',rfl,hrow,hb⟩;obtain ⟨b5,d5,e',_⟩:=ak hrow;subst e';have hkv:V5.heap[w.heap.size]?=some (.cells (mC (⟨.slice b0 F.m.h.length d0,.slice b1 F.m.gs.length d1,fst,.slice b2 F.m.cs.length d2,.slice b3 F.m.tr.length d3,.slice b4 qs.length d4,st,fin,.slice a5 an.length c5,P,left⟩:Rn)) 31):=(hb.block _ (by omega)).trans HK5.o
 have HK6:Hid ((V5.setCell (dZ w.heap.size 8) (.slice b5 an.length d5)).heap[w.heap.size]?=some (.cells (mC (⟨.slice b0 F.m.h.length d0,.slice b1 F.m.gs.length d1,fst,.slice b2 F.m.cs.length d2,.slice b3 F.m.tr.length d3,.slice b4 qs.length d4,st,fin,.slice b5 an.length d5,P,left⟩:Rn)) 31)):=Sc _ hkv;have HB6:Hid (Below w.heap.size w (V5.setCell (dZ w.heap.size 8) (.slice b5 an.length d5))):=(HB5.o.trans (hb.mono HB5.o.size)).grown (af _ _ _) (HB5.o.trans (hb.mono HB5.o.size)).size (fun k e=>by have:=oj e;omega)
 have hz6:W5.heap.size<=(V5.setCell (dZ w.heap.size 8) (.slice b5 an.length d5)).heap.size:=by have:=hb.size;simpa using this
 have HZ6:Hid ((V5.setCell (dZ w.heap.size 8) (.slice b5 an.length d5)).heap[wa.heap.size]?=some (.cells (mC oa) 31)):=((af (W:=V5) w.heap.size 8 (.slice b5 an.length d5)).block _ (by have:=hb.size;omega) (fun e=>by have:=oj e;omega)).trans ((hb.block _ (by omega)).trans HZ5.o)
 have HR06:Hid ((V5.setCell (dZ w.heap.size 8) (.slice b5 an.length d5)).ownsRow W0.heap.size 81 3 (.slice b0 F.m.h.length d0) F.m.h.length (ce F.m.h)):=ee HR05.o (by omega) hb
 have HR16:Hid ((V5.setCell (dZ w.heap.size 8) (.slice b5 an.length d5)).ownsRow W1.heap.size 76 3 (.slice b1 F.m.gs.length d1) F.m.gs.length (db F.m.gs)):=ee HR15.o (by omega) hb
 have HR26:Hid ((V5.setCell (dZ w.heap.size 8) (.slice b5 an.length d5)).ownsRow W2.heap.size 78 5 (.slice b2 F.m.cs.length d2) F.m.cs.length (dq F.m.cs)):=ee HR25.o (by omega) hb
 have HR36:Hid ((V5.setCell (dZ w.heap.size 8) (.slice b5 an.length d5)).ownsRow W3.heap.size 3 1 (.slice b3 F.m.tr.length d3) F.m.tr.length (fg F.m.tr)):=ee HR35.o (by omega) hb
 have HR46:Hid ((V5.setCell (dZ w.heap.size 8) (.slice b5 an.length d5)).ownsRow W4.heap.size 3 1 (.slice b4 qs.length d4) qs.length (fg qs)):=ee HR45.o (by omega) hb
 have HR56:Hid ((V5.setCell (dZ w.heap.size 8) (.slice b5 an.length d5)).ownsRow W5.heap.size 87 1 (.slice b5 an.length d5) an.length (an.map lh)):=ee hrow (by omega) bR
 have hlt5: ∀k,(Value.slice b5 an.length d5).ownBlock=some k->k<(V5.setCell (dZ w.heap.size 8) (.slice b5 an.length d5)).heap.size:=fun k e=>(HR56.o.lt k e).2
 obtain ⟨⟨y0,y1,y2,y3,y4⟩,⟨y5,y6,y7,y8⟩,yf⟩:=cr hkv;simp only at y0 y1 y2 y3 y4 y5 y6 y7 y8;have yf0:=yf 8;have HLt5:Hid (∀k,(Value.slice b5 an.length d5).ownBlock=some k->k<(V5.setCell (dZ w.heap.size 8) (.slice b5 an.length d5)).heap.size):=hlt5;clear hlt5 hrow hb HC hkv yf;go_wp2_with fail;generalize V5.setCell (dZ w.heap.size 8) (.slice b5 an.length d5)=W6 at*;clear y0 y1 y2 y3 y4 y5 y6 y7 y8 yf0;have hwz:w.heap.size<W6.heap.size/\wa.heap.size<W6.heap.size:=by omega
 go_loopw [38] (fun x wr=>∃(i:Nat) (zs:List Tm),i<=an.length/\x=iV (i:Int)/\Jq W6.heap.size wr an i zs/\wr.ownsRow W5.heap.size 87 1 (.slice b5 an.length d5) an.length (zs.map lh)/\Below w.heap.size w wr/\W6.heap.size<=wr.heap.size/\(∀k,k<W6.heap.size->(Value.slice b5 an.length d5).ownBlock≠some k->wr.heap[k]?=W6.heap[k]?)) (fun x _=>an.length-(intOf x).toNat)
 case atStart=>exact ⟨0,an,oZ,rfl,⟨rfl,fun j X hj=>absurd hj (nL j),fun _ _=>rfl⟩,HR56.o,HB6.o,lZ,fun _ _ _=>rfl⟩
 case round=>
  obtain ⟨i,zs,hi,rfl,has,hrow,hb,hsr,hkeep⟩:=hrel;have HAs:Hid (Jq W6.heap.size wr an i zs):=has;have HRow:Hid (wr.ownsRow W5.heap.size 87 1 (.slice b5 an.length d5) an.length (zs.map lh)):=hrow;have HB:Hid (Below w.heap.size w wr):=hb;have HKp:Hid (∀k,k<W6.heap.size->(Value.slice b5 an.length d5).ownBlock≠some k->wr.heap[k]?=W6.heap[k]?):=hkeep;have HKw:Hid (wr.heap[w.heap.size]?=some (.cells (mC (⟨.slice b0 F.m.h.length d0,.slice b1 F.m.gs.length d1,fst,.slice b2 F.m.cs.length d2,.slice b3 F.m.tr.length d3,.slice b4 qs.length d4,st,fin,.slice b5 an.length d5,P,left⟩:Rn)) 31)):=(hkeep _ hwz.1 (fun e=>by have:=(HR56.o.lt _ e).1;omega)).trans HK6.o
  have HZw:Hid (wr.heap[wa.heap.size]?=some (.cells (mC oa) 31)):=(hkeep _ hwz.2 (fun e=>by have:=(HR56.o.lt _ e).1;omega)).trans HZ6.o
  clear has hrow hb hkeep
  by_cases hlt:i<an.length
  case neg=>
   have hI: ¬((i:Int)<(an.length:Int)):=by omega
   obtain rfl:i=an.length:=by omega
   obtain ⟨⟨y0,y1,y2,y3,y4⟩,⟨y5,y6,y7,y8⟩,_⟩:=cr HKw.o;obtain ⟨⟨z0,z1,z2,z3,z4⟩,⟨z5,z6,z7,z8⟩,zf⟩:=cr HZw.o;simp only at y0 y1 y2 y3 y4 y5 y6 y7 y8;have zf0:=zf 0;have zf1:=zf 1;have zf2:=zf 2;have zf3:=zf 3;have zf4:=zf 4;have zf5:=zf 5;have zf6:=zf 6;have zf7:=zf 7;have zf8:=zf 8;clear zf;go_wp2_with fail;obtain ⟨hW1,hW2⟩:=p9 (r:=(⟨.slice b0 F.m.h.length d0,.slice b1 F.m.gs.length d1,fst,.slice b2 F.m.cs.length d2,.slice b3 F.m.tr.length d3,.slice b4 qs.length d4,st,fin,.slice b5 an.length d5,P,left⟩:Rn)) HZw.o;obtain ⟨⟨g0,g1,g2,g3,g4⟩,⟨g5,g6,g7,g8⟩,_⟩:=cr hW1;have hB':Below w.heap.size w (lc wr wa.heap.size (⟨.slice b0 F.m.h.length d0,.slice b1 F.m.gs.length d1,fst,.slice b2 F.m.cs.length d2,.slice b3 F.m.tr.length d3,.slice b4 qs.length d4,st,fin,.slice b5 an.length d5,P,left⟩:Rn)):=HB.o.grown hW2 HB.o.size (fun k e=>by have:=oj e;omega)
   have hs':wr.heap.size<=(lc wr wa.heap.size (⟨.slice b0 F.m.h.length d0,.slice b1 F.m.gs.length d1,fst,.slice b2 F.m.cs.length d2,.slice b3 F.m.tr.length d3,.slice b4 qs.length d4,st,fin,.slice b5 an.length d5,P,left⟩:Rn)).heap.size:=hW2.size
   have hall: ∀X∈zs,ay wr X/\bl W6.heap.size X:=fun X hX=>by
    obtain ⟨j,hj⟩:=List.getElem?_of_mem hX;have hjl:j<an.length:=by have:=(List.getElem?_eq_some_iff.1 hj).1;have:=HAs.o.len;omega
    have:=HAs.o.new j X hjl hj;exact ⟨this.1,this.2.2⟩
   have hkr: ∀{n z lo':Nat} {t:TypeId} {v:Value} {xs:List Value},W6.ownsRow lo' t z v n xs->wb.heap.size<=lo'->(∀k,v.ownBlock=some k->(Value.slice b5 an.length d5).ownBlock≠some k)->(lc wr wa.heap.size (⟨.slice b0 F.m.h.length d0,.slice b1 F.m.gs.length d1,fst,.slice b2 F.m.cs.length d2,.slice b3 F.m.tr.length d3,.slice b4 qs.length d4,st,fin,.slice b5 an.length d5,P,left⟩:Rn)).ownsRow w.heap.size t z v n xs:=fun h hl hne=>by
    have h1:=bc h fun k e=>HKp.o k (h.lt k e).2 (hne k e)
    have h2:=bc h1 fun k e=>hW2.block k (h1.lt k e).2 (fun e'=>by have:=oj e';have:=(h1.lt k e).1;omega)
    exact bi h2 (by omega)
   have hans:zs.map br=F.an:=by
    rw[<-(HM.o wr HB.o).ans]
    apply List.ext_getElem?
    intro j;simp only[List.getElem?_map]
    by_cases hj:j<an.length
    .have hjz:j<zs.length:=by rw[HAs.o.len];exact hj
     obtain ⟨A,hA,hc⟩:=(HAs.o.new j _ hj (gE hjz)).2.1;rw[gE hjz,hA];simp only[Option.map_some];rw[Nj hc]
    .rw[HAs.o.old j (by omega)]
   have hlz:zs.length=an.length:=HAs.o.len
   have hav:(lc wr wa.heap.size (⟨.slice b0 F.m.h.length d0,.slice b1 F.m.gs.length d1,fst,.slice b2 F.m.cs.length d2,.slice b3 F.m.tr.length d3,.slice b4 qs.length d4,st,fin,.slice b5 an.length d5,P,left⟩:Rn)).ownsRow w.heap.size 87 1 (.slice b5 an.length d5) zs.length (zs.map lh):=by
    rw[hlz];have h1:=HRow.o;have h2:=bc h1 fun k e=>hW2.block k (h1.lt k e).2 (fun e'=>by have:=oj e';have:=(h1.lt k e).1;omega)
    exact bi h2 (by omega)
   have hMC:MC w.heap.size (lc wr wa.heap.size (⟨.slice b0 F.m.h.length d0,.slice b1 F.m.gs.length d1,fst,.slice b2 F.m.cs.length d2,.slice b3 F.m.tr.length d3,.slice b4 qs.length d4,st,fin,.slice b5 an.length d5,P,left⟩:Rn)) (⟨.slice b0 F.m.h.length d0,.slice b1 F.m.gs.length d1,fst,.slice b2 F.m.cs.length d2,.slice b3 F.m.tr.length d3,.slice b4 qs.length d4,st,fin,.slice b5 an.length d5,P,left⟩:Rn) F qs zs:=by
    refine ⟨hkr HR06.o (by omega) (j9 HR06.o HLt0.o (bi HR56.o (by omega))),hkr HR16.o (by omega) (j9 HR16.o HLt1.o (bi HR56.o (by omega))),hkr HR26.o (by omega) (j9 HR26.o HLt2.o (bi HR56.o (by omega))),hkr HR36.o (by omega) (j9 HR36.o HLt3.o (bi HR56.o (by omega))),hkr HR46.o (by omega) (j9 HR46.o HLt4.o (bi HR56.o (by omega))),hav,fun A hA=>(hall A hA).1.grown hW2 (fun k e=>?_),hans,(HM.o wr HB.o).first,(HM.o wr HB.o).fin,(HM.o wr HB.o).st⟩
    obtain rfl:=oj e;exact (hall A hA).2.nb (by omega)
   show bodyPost _ _ _ _ _ (lc wr wa.heap.size (⟨.slice b0 F.m.h.length d0,.slice b1 F.m.gs.length d1,fst,.slice b2 F.m.cs.length d2,.slice b3 F.m.tr.length d3,.slice b4 qs.length d4,st,fin,.slice b5 an.length d5,P,left⟩:Rn))
   have hhi:W6.heap.size<=(lc wr wa.heap.size (⟨.slice b0 F.m.h.length d0,.slice b1 F.m.gs.length d1,fst,.slice b2 F.m.cs.length d2,.slice b3 F.m.tr.length d3,.slice b4 qs.length d4,st,fin,.slice b5 an.length d5,P,left⟩:Rn)).heap.size:=lT hsr hs';clear hkr hav hs' hW2 hW1;generalize lc wr wa.heap.size (⟨.slice b0 F.m.h.length d0,.slice b1 F.m.gs.length d1,fst,.slice b2 F.m.cs.length d2,.slice b3 F.m.tr.length d3,.slice b4 qs.length d4,st,fin,.slice b5 an.length d5,P,left⟩:Rn)=W' at*;refine bodyPost_ret (v:=.tuple #[mV (⟨.slice b0 F.m.h.length d0,.slice b1 F.m.gs.length d1,fst,.slice b2 F.m.cs.length d2,.slice b3 F.m.tr.length d3,.slice b4 qs.length d4,st,fin,.slice b5 an.length d5,P,left⟩:Rn),.bool true]) ?_ rfl ⟨(⟨.slice b0 F.m.h.length d0,.slice b1 F.m.gs.length d1,fst,.slice b2 F.m.cs.length d2,.slice b3 F.m.tr.length d3,.slice b4 qs.length d4,st,fin,.slice b5 an.length d5,P,left⟩:Rn),zs,W6.heap.size,rfl,hB',hMC,fun A hA=>(hall A hA).2,hhi,fun k hk=>?_,j9 HR36.o HLt3.o HR46.o⟩
   .simp[results,Tryz.results41,go_sem,g0,g1,g2,g3,g4,g5,g6,g7,g8,mV,mC]
   .rcases hk with e|e|e|e|e|e
    .have:=HLt0.o k e;omega
    .have:=HLt1.o k e;omega
    .have:=HLt2.o k e;omega
    .have:=HLt3.o k e;omega
    .have:=HLt4.o k e;omega
    .have:=HLt5.o k e;omega
  have hI:(i:Int)<(an.length:Int):=by omega
  have hzl:i<zs.length:=by rw[HAs.o.len];exact hlt
  obtain ⟨A,hA⟩: ∃A,an[i]?=some A:=⟨_,gE hlt⟩;have hzi:zs[i]?=some A:=(HAs.o.old i lZ).trans hA;have hAm:A∈an:=List.mem_of_getElem? hA
  obtain ⟨g,rfl⟩: ∃g,b5=some (dZ g 0):=by
   obtain ⟨a',cp',e',_,hnone,hsome⟩:=ak HRow.o;cases e'
   cases b5 with
   |none=>have:=(hnone rfl).1;omega
   |some ad=>
    obtain ⟨g,rfl⟩:=hsome ad rfl;exact ⟨g,rfl⟩
  have hgl:W5.heap.size<=g:=(HR56.o.lt g rfl).1;have hg6:g<W6.heap.size:=(HR56.o.lt g rfl).2;have hci:wr.cell? (dZ g i)=some (.slice A.a A.len A.cap):=(HRow.o.cellAt i (by simpa using hlt)).trans (by rw[List.getElem?_map,hzi];rfl)
  have HTm:Hid (∀W,Below wr.heap.size wr W->Calls prog 81 #[.slice A.a A.len A.cap] W fun e w'=>∃T',e=.returned (.slice T'.a T'.len T'.cap)/\ay w' T'/\a9 T'=a9 A/\bl W.heap.size T'/\Below W.heap.size W w'):=fun W hW=>G5 A W ((HM.o W (HB.o.trans (hW.mono HB.o.size))).all A hAm) (by have:=HAk.o A hAm;omega)
  have HFc:Hid (∀W,Below wr.heap.size wr W->W.cell? (dZ w.heap.size 8)=some (sZ g an.length d5)/\W.cell? (dZ g i)=some (.slice A.a A.len A.cap)/\W.frozen? (dZ g i)=false):=fun W hW=>by
   have h1:W.heap[w.heap.size]?=some (.cells (mC (⟨.slice b0 F.m.h.length d0,.slice b1 F.m.gs.length d1,fst,.slice b2 F.m.cs.length d2,.slice b3 F.m.tr.length d3,.slice b4 qs.length d4,st,fin,sZ g an.length d5,P,left⟩:Rn)) 31):=(hW.block _ (by omega)).trans HKw.o
   have h2:W.ownsRow W5.heap.size 87 1 (sZ g an.length d5) an.length (zs.map lh):=bc HRow.o fun k e=>hW.block k (HRow.o.lt k e).2
   refine ⟨(cr h1).2.1.2.2.2,(hW.cell (p:=(dZ g i)) (ag hci)).trans hci,?_⟩
   rcases h2.2 with ⟨h',_⟩| ⟨g',cap',cur,h',_,hg',_⟩
   .cases h'
   .cases h'
    simp[World.frozen?,hg']
  obtain ⟨f8,fi,ff⟩:=HFc.o wr bR
  have HFin:Hid (∀(W:World) (X:Tm),Below wr.heap.size wr W->ay W X->a9 X=a9 A->bl wr.heap.size X->Jq W6.heap.size (W.setCell (dZ g i) (.slice X.a X.len X.cap)) an (i+1) (zs.set i X)/\(W.setCell (dZ g i) (.slice X.a X.len X.cap)).ownsRow W5.heap.size 87 1 (sZ g an.length d5) an.length ((zs.set i X).map lh)/\Below w.heap.size w (W.setCell (dZ g i) (.slice X.a X.len X.cap))/\W6.heap.size<=(W.setCell (dZ g i) (.slice X.a X.len X.cap)).heap.size/\(∀k,k<W6.heap.size->(sZ g an.length d5).ownBlock≠some k->(W.setCell (dZ g i) (.slice X.a X.len X.cap)).heap[k]?=W6.heap[k]?)):=fun W X hW hX1 hX2 hX3=>by
   have hgs:=af (W:=W) g i (.slice X.a X.len X.cap);have hBW:Below w.heap.size w W:=HB.o.trans (hW.mono HB.o.size);have h2:W.ownsRow W5.heap.size 87 1 (sZ g an.length d5) an.length (zs.map lh):=bc HRow.o fun k e=>hW.block k (HRow.o.lt k e).2
   have ha:bl W6.heap.size X:=hX3.mono hsr;have hws:=hW.size;refine ⟨?_,?_,hBW.grown hgs hBW.size (fun k e=>by have:=oj e;omega),lT hsr (lT hW.size hgs.size),fun k hk hne=>?_⟩
   .refine Jq.set (Jq.keep HAs.o fun Z hZ hAb=>(hZ.below hW).grown hgs fun k e=>?_) hA ⟨hX1.grown hgs fun k e=>?_,hX2,ha⟩
    .obtain rfl:=oj e;exact hAb.nb hg6
    .obtain rfl:=oj e;exact ha.nb hg6
   .rw[List.map_set]
    exact Hw h2 i _
   .rw[hgs.block k (by omega) (fun e=>hne (by rw[oj e];rfl)),hW.block k (by omega)]
    exact HKp.o k hk hne
  clear hci;go_wp2_with fail
  go_region_with (first
   | (go_at_call 81
      refine (HTm.o _ (by repeat (first|exact bR|refine Below.drew ?_))).mono ?_
      rintro e w5 ⟨X,rfl,hX1,hX2,hX3,hb5'⟩;have HBq:Hid (Below wr.heap.size wr w5):=Below.trans (by repeat (first|exact bR|refine Below.drew ?_)) (hb5'.mono lZ)
      obtain ⟨f8',fi',ff'⟩:=HFc.o w5 HBq.o;have HXX:Hid (ay w5 X/\a9 X=a9 A/\bl wr.heap.size X):=⟨hX1,hX2,hX3⟩;clear hX1 hX2 hX3 hb5'))
  all_goals
   go_wp2_with fail;go_roundw
   case rel=>
    have h9:=HFin.o w5 X HBq.o HXX.o.1 HXX.o.2.1 HXX.o.2.2;exact ⟨i+1,zs.set i X,by omega,by go_num,h9.1,h9.2.1,h9.2.2.1,h9.2.2.2.1,h9.2.2.2.2⟩
   case measure=>simp[intOf];omega
end Go.Proofs.YtmggaclaoefdaabGreat
