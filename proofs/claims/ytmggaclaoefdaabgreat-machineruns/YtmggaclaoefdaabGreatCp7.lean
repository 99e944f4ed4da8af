/- Part of the proof. -/
import Derived.Test.YtmggaclaoefdaabGreatCp6
namespace Go.Proofs.YtmggaclaoefdaabGreat
open Go.RowKit Go.Shelf Go.Proofs.Tryz
set_option linter.unusedVariables false
set_option linter.unusedSimpArgs false
set_option maxRecDepth 100000
set_option maxHeartbeats 8000000
attribute [local go_sem] Oper.semAt_some
theorem Qv {w w':World} {P:Pg} {s:Nat} {r:Rn} (hPw:kg w P) (hc:P.len<=P.cap) (hpv:ck P=0) (hB:Below w.heap.size w w') (e:r.P=P) (hN: ∀k,cm s r k->w.heap.size<=k):jc w' s r:=by
 have Hpr:=ji hpv;refine ⟨?_,?_,?_,?_,?_,?_⟩
 .rw[e];exact hPw.below hB
 .rw[e];exact hc
 .rw[e];have:=Hpr.1;omega
 .rw[e]
  intro b o hb h0 hm;obtain ⟨b',o',ha',c0,_⟩:=(hPw.2 0 h0).1;rw[hb]at ha';cases ha';have h1:b<w.heap.size:=ag c0;have:=hN b hm;omega
 .rw[e]
  intro j hj;have h1:=Hpr.2.hd j hj;exact ⟨h1.1,h1.2.1,by omega,eo (hPw.2 j hj).2.1 fun q hq=>(hPw.2 j hj).2.1.nb (hN q hq)⟩
 .rw[e]
  intro j hj;have h1:=Hpr.2.bd j hj;exact ⟨eo (hPw.2 j hj).2.2 fun q hq=>(hPw.2 j hj).2.2.nb (hN q hq),by omega,fun i hi=>⟨(h1.2 i hi).1,(h1.2 i hi).2.1,by have:=(h1.2 i hi).2.2;omega⟩⟩
theorem jm.left0 {n:Nat} {qs:List Nat} {X:PM} (h:jm n qs X):jm n qs { X with left:=0}:=⟨h.s,h.fst,fun c hc=>⟨(h.ch c hc).goal,(h.ch c hc).cl,(h.ch c hc).hp,(h.ch c hc).tr,(h.ch c hc).gs,(h.ch c hc).ok,(h.ch c hc).fn⟩,h.mono⟩
def L0 (X:PM):PM:= { X with left:=0}
def aL (F:FM):FM:= { F with m:=L0 F.m}
theorem Sx {X Z:PM} (h:L0 X=L0 Z): ∃l,Z= { X with left:=l}:=by
 cases X;cases Z;simp only[L0,PM.mk.injEq]at h;obtain ⟨rfl,rfl,rfl,rfl,rfl,_,rfl⟩:=h;exact ⟨_,rfl⟩
theorem P7 {F G:FM} (h:aL F=aL G): ∃l,G= { F with m:= { F.m with left:=l} }:=by
 cases F;cases G;simp only[aL,FM.mk.injEq]at h;obtain ⟨h,rfl,rfl⟩:=h;obtain ⟨l,rfl⟩:=Sx h;exact ⟨l,rfl⟩
theorem Po (P:Pg) (f:Nat) (X:PM) (l:Int):L0 (fz P f X)=L0 (fz P f { X with left:=l}):=by
 cases f with
 |zero=>rfl
 |succ f=>
  rw[fz,fz]
  by_cases hf:X.fin≠0
  .rw[if_pos hf,if_pos (show ({ X with left:=l}:PM).fin≠0 from hf)];rfl
  .rw[if_neg hf,if_neg (show¬({ X with left:=l}:PM).fin≠0 from hf)]
   dsimp only
   cases hc:X.cs.getLast? with
   |none=>rfl
   |some c=>rfl
theorem Ni (P:Pg) (qs:List Nat) (F G:FM) (h:aL F=aL G):aL (a6 P qs F)=aL (a6 P qs G):=by
 obtain ⟨l,rfl⟩:=P7 h;unfold a6;dsimp only
 by_cases c1:200<gd (ah F.m.h) F.m.h.length qs
 .rw[if_pos c1,if_pos c1];rfl
 .rw[if_neg c1,if_neg c1]
  by_cases c2:40<=F.an.length+1
  .rw[if_pos c2,if_pos c2];rfl
  .rw[if_neg c2,if_neg c2]
   unfold aL;simp only[FM.mk.injEq,and_true];exact Po P _ F.m l
theorem K4 (P:Pg) (qs:List Nat): ∀(k:Nat) (F G:FM),aL F=aL G->aL (au P qs k F)=aL (au P qs k G):=by
 intro k
 induction k with
 |zero=>intro F G h;exact h
 |succ k ih=>
  intro F G h;obtain ⟨l,e0⟩:=P7 h;have e1:F.m.fin=G.m.fin:=by rw[e0]
  have e2:F.m.first=G.m.first:=by rw[e0]
  rw[au,au]
  by_cases hc:F.m.fin=0/\F.m.first=0
  .rw[if_pos hc,if_pos (by rw[<-e1,<-e2];exact hc)]
   exact ih _ _ (Ni P qs F G h)
  .rw[if_neg hc,if_neg (by rw[<-e1,<-e2];exact hc)]
   exact h
theorem MC.aL {lo:Nat} {w:World} {r:Rn} {F G:FM} {qs:List Nat} {an:List Tm} (M:MC lo w r F qs an) (h:aL F=aL G):MC lo w r G qs an:=by
 have M':MC lo w r (Go.Proofs.YtmggaclaoefdaabGreat.aL F) qs an:=⟨M.hp,M.go,M.ch,M.tl,M.qu,M.anr,M.all,M.ans,M.first,M.fin,M.st⟩;rw[h]at M';exact ⟨M'.hp,M'.go,M'.ch,M'.tl,M'.qu,M'.anr,M'.all,M'.ans,M'.first,M'.fin,M'.st⟩
theorem MC.stepL {lo:Nat} {w:World} {r:Rn} {P:Pg} {F:FM} {qs:List Nat} {an:List Tm} (M:MC lo w r (b9 P qs ⟨{ F.m with left:=0},F.an,F.st⟩) qs an):MC lo w r (b9 P qs F) qs an:=by
 unfold b9 at M |-
 by_cases hc:F.m.fin=0/\F.m.first≠0
 .rw[if_pos hc]
  rw[if_pos (show ({ F.m with left:=0}:PM).fin=0/\({ F.m with left:=0}:PM).first≠0 from hc)]at M
  exact M
 .rw[if_neg hc]
  rw[if_neg (show¬(({ F.m with left:=0}:PM).fin=0/\({ F.m with left:=0}:PM).first≠0)from hc)]at M
  exact M.aL (K4 P qs 41 _ _ rfl)
def Qk (P:Pg) (w:World) (F:FM) (qs:List Nat) (e:Ending) (w':World):Prop:=∃(r':Rn) (an':List Tm),e=.returned (.tuple #[mV r',iV 0])/\Below w.heap.size w w'/\MC w.heap.size w' r' (b9 P qs F) qs an'
theorem Ij {lo n:Nat} {r:Rn} {F:FM} {qs:List Nat} {an:List Tm} (P:Pg) (w:World) (hP:kg w P) (hc:P.len<=P.cap) (hpv:ck P=0) (M:MC lo w r F qs an) (R:o8 P n qs F) (hq:qs.length<=12) (hfin:0<=F.m.fin/\F.m.fin<=4) (hA: ∀A∈an,kids A<=1000):
 Calls prog 13 #[.slice P.a P.len P.cap,mV r] w (Qk P w F qs):=by
 obtain ⟨hO,hg5,htr,hcs,hst4⟩:=R.walk;have htr4:F.m.tr.length<=4000000:=by have:=R.tr;have:=R.an;omega
 have hcs4:=lT R.cs hst4;have han:an.length<=40:=by have h1:=congrArg List.length M.ans;rw[List.length_map]at h1;have:=R.an;omega
 have hh4:=hO.s.hg.ok.few;obtain ⟨a0,c0,e0,_⟩:=ak M.hp;obtain ⟨a1,c1,e1,_⟩:=ak M.go;obtain ⟨a2,c2,e2,_⟩:=ak M.ch;obtain ⟨a3,c3,e3,_⟩:=ak M.tl;obtain ⟨a4,c4,e4,_⟩:=ak M.qu;obtain ⟨a5,c5,e5,_⟩:=ak M.anr
 rcases r with ⟨hv,gv,fst,cv,tv,qv,st,fin,av,PP,left⟩
 simp only at e0 e1 e2 e3 e4 e5;subst e0 e1 e2 e3 e4 e5;have HM:Hid (∀W,Below w.heap.size w W->MC lo W (⟨.slice a0 F.m.h.length c0,.slice a1 F.m.gs.length c1,fst,.slice a2 F.m.cs.length c2,.slice a3 F.m.tr.length c3,.slice a4 qs.length c4,st,fin,.slice a5 an.length c5,PP,left⟩:Rn) F qs an):=fun W hW=>M.below hW
 have HP:Hid (kg w P/\P.len<=P.cap/\ck P=0):=⟨hP,hc,hpv⟩;have HO:=hid hO;have HAk:=hid hA;have Hfin:=hid hfin;have HX:Hid ((w.alloc (.cells (mC (⟨.slice a0 F.m.h.length c0,.slice a1 F.m.gs.length c1,fst,.slice a2 F.m.cs.length c2,.slice a3 F.m.tr.length c3,.slice a4 qs.length c4,st,fin,.slice a5 an.length c5,PP,left⟩:Rn)) 31)).heap[w.heap.size]?=some (.cells (mC (⟨.slice a0 F.m.h.length c0,.slice a1 F.m.gs.length c1,fst,.slice a2 F.m.cs.length c2,.slice a3 F.m.tr.length c3,.slice a4 qs.length c4,st,fin,.slice a5 an.length c5,PP,left⟩:Rn)) 31)):=hZ _ _;have HBa:Hid (Below w.heap.size w (w.alloc (.cells (mC (⟨.slice a0 F.m.h.length c0,.slice a1 F.m.gs.length c1,fst,.slice a2 F.m.cs.length c2,.slice a3 F.m.tr.length c3,.slice a4 qs.length c4,st,fin,.slice a5 an.length c5,PP,left⟩:Rn)) 31))):=bA;have hsz:w.heap.size<(w.alloc (.cells (mC (⟨.slice a0 F.m.h.length c0,.slice a1 F.m.gs.length c1,fst,.slice a2 F.m.cs.length c2,.slice a3 F.m.tr.length c3,.slice a4 qs.length c4,st,fin,.slice a5 an.length c5,PP,left⟩:Rn)) 31)).heap.size:=(aZ HX.o);clear M hA hO hP hc hpv R hfin htr hcs
 go_enter Tryz.func13,Tryz.ntmps13
 rw[show mV (⟨.slice a0 F.m.h.length c0,.slice a1 F.m.gs.length c1,fst,.slice a2 F.m.cs.length c2,.slice a3 F.m.tr.length c3,.slice a4 qs.length c4,st,fin,.slice a5 an.length c5,PP,left⟩:Rn)=.agg #[.slice a0 F.m.h.length c0,.slice a1 F.m.gs.length c1,iV fst,.slice a2 F.m.cs.length c2,.slice a3 F.m.tr.length c3,.slice a4 qs.length c4,iV st,iV fin,.slice a5 an.length c5]from rfl]
 have hW:w.alloc (.cells #[.slice a0 F.m.h.length c0,.slice a1 F.m.gs.length c1,iV fst,.slice a2 F.m.cs.length c2,.slice a3 F.m.tr.length c3,.slice a4 qs.length c4,iV st,iV fin,.slice a5 an.length c5] 31)=w.alloc (.cells (mC (⟨.slice a0 F.m.h.length c0,.slice a1 F.m.gs.length c1,fst,.slice a2 F.m.cs.length c2,.slice a3 F.m.tr.length c3,.slice a4 qs.length c4,st,fin,.slice a5 an.length c5,PP,left⟩:Rn)) 31):=rfl;generalize w.alloc (.cells (mC (⟨.slice a0 F.m.h.length c0,.slice a1 F.m.gs.length c1,fst,.slice a2 F.m.cs.length c2,.slice a3 F.m.tr.length c3,.slice a4 qs.length c4,st,fin,.slice a5 an.length c5,PP,left⟩:Rn)) 31)=wa at*;have HZ:Hid ((wa.alloc (.cells (mC oa) 31)).heap[wa.heap.size]?=some (.cells (mC oa) 31)):=hZ _ _;have HBb:Hid (Below wa.heap.size wa (wa.alloc (.cells (mC oa) 31))):=bA;have hW2:wa.alloc (.cells #[nZ,nZ,iV 0,nZ,nZ,nZ,iV 0,iV 0,nZ] 31)=wa.alloc (.cells (mC oa) 31):=rfl;generalize wa.alloc (.cells (mC oa) 31)=wb at*;have hsb:wa.heap.size<wb.heap.size:=(aZ HZ.o);have HBw:=hid (HBa.o.trans (HBb.o.mono HBa.o.size));have HXb:=hid ((HBb.o.block _ hsz).trans HX.o);obtain ⟨⟨x0,x1,x2,x3,x4⟩,⟨x5,x6,x7,x8⟩,_⟩:=cr HXb.o;simp only at x0 x1 x2 x3 x4 x5 x6 x7 x8
 have HCk:Hid (Calls prog 11 #[.slice P.a P.len P.cap,.agg #[.slice a0 F.m.h.length c0,.slice a1 F.m.gs.length c1,iV fst,.slice a2 F.m.cs.length c2,.slice a3 F.m.tr.length c3,.slice a4 qs.length c4,iV st,iV fin,.slice a5 an.length c5]] wb fun e w'=>e=.returned (iV 0)/\Below wb.heap.size wb w'):=by
  obtain ⟨m,em,hin,hof⟩:=(HM.o wb HBw.o).mof HO.o.s.hg ⟨by omega,by omega,by omega,by omega⟩
  have hck:=vi P (m:=m) wb (HP.o.1.below HBw.o) hin (by have:=(ji HP.o.2.2).1;omega)
  rw[em]at hck;refine hck.mono ?_;rintro e w' ⟨c,rfl,hcr,hb⟩;have h0:Qd P m 0:=Cg HP.o.2.2 hof HO.o hst4 hg5 hq Hfin.o;rw[hcr.same h0];exact ⟨rfl,hb⟩
 go_wp2_with fail;clear x0 x1 x2 x3 x4 x5 x6 x7 x8 hW hW2;refine HCk.o.mono ?_;rintro e W0 ⟨rfl,hbd⟩;have HB0:=hid (HBw.o.trans (hbd.mono HBw.o.size));have HK0:=hid ((hbd.block _ (by omega)).trans HXb.o)
 have HZ0:=hid ((hbd.block _ hsb).trans HZ.o);have hz0:=hbd.size;clear hbd HCk;obtain ⟨⟨x0,x1,x2,x3,x4⟩,⟨x5,x6,x7,x8⟩,_⟩:=cr HK0.o;simp only at x0 x1 x2 x3 x4 x5 x6 x7 x8;have HOf:=hid (Qx W0 (HM.o W0 HB0.o) HAk.o (by omega) (by omega) (by omega) htr4 (by omega) han)
 go_wp2_with fail;clear x0 x1 x2 x3 x4 x5 x6 x7 x8;refine HOf.o.mono ?_;rintro e W1 ⟨r1,an',hi,rfl,hb1,hM1,hAb,hhi,hMq,htq⟩;obtain ⟨b0,d0,e0,_⟩:=ak hM1.hp;obtain ⟨b1,d1,e1,_⟩:=ak hM1.go;obtain ⟨b2,d2,e2,_⟩:=ak hM1.ch;obtain ⟨b3,d3,e3,_⟩:=ak hM1.tl;obtain ⟨b4,d4,e4,_⟩:=ak hM1.qu;obtain ⟨b5,d5,e5,_⟩:=ak hM1.anr
 rcases r1 with ⟨hv,gv,fst1,cv,tv,qv,st1,fin1,av,P1,left1⟩
 simp only at e0 e1 e2 e3 e4 e5;subst e0 e1 e2 e3 e4 e5;have HB1:=hid (HB0.o.trans (hb1.mono HB0.o.size));have HZ1:=hid ((hb1.block _ (by omega)).trans HZ0.o)
 have hz1:=hb1.size;have HM1:=hid hM1;have HQ1:Hid ((∀A∈an',bl hi A)/\hi<=W1.heap.size/\(∀k,Ud (⟨.slice b0 F.m.h.length d0,.slice b1 F.m.gs.length d1,fst1,.slice b2 F.m.cs.length d2,.slice b3 F.m.tr.length d3,.slice b4 qs.length d4,st1,fin1,.slice b5 an'.length d5,P1,left1⟩:Rn) k->k<hi)/\(∀k,((⟨.slice b0 F.m.h.length d0,.slice b1 F.m.gs.length d1,fst1,.slice b2 F.m.cs.length d2,.slice b3 F.m.tr.length d3,.slice b4 qs.length d4,st1,fin1,.slice b5 an'.length d5,P1,left1⟩:Rn)).tv.ownBlock=some k->((⟨.slice b0 F.m.h.length d0,.slice b1 F.m.gs.length d1,fst1,.slice b2 F.m.cs.length d2,.slice b3 F.m.tr.length d3,.slice b4 qs.length d4,st1,fin1,.slice b5 an'.length d5,P1,left1⟩:Rn)).qv.ownBlock≠some k)):=⟨hAb,hhi,hMq,htq⟩;clear hb1 hM1 hAb hMq htq HOf;rw[show mV (⟨.slice b0 F.m.h.length d0,.slice b1 F.m.gs.length d1,fst1,.slice b2 F.m.cs.length d2,.slice b3 F.m.tr.length d3,.slice b4 qs.length d4,st1,fin1,.slice b5 an'.length d5,P1,left1⟩:Rn)=.agg #[.slice b0 F.m.h.length d0,.slice b1 F.m.gs.length d1,iV fst1,.slice b2 F.m.cs.length d2,.slice b3 F.m.tr.length d3,.slice b4 qs.length d4,iV st1,iV fin1,.slice b5 an'.length d5]from rfl]
 have HD:Hid ((W1.alloc (.cells (mC (⟨.slice b0 F.m.h.length d0,.slice b1 F.m.gs.length d1,fst1,.slice b2 F.m.cs.length d2,.slice b3 F.m.tr.length d3,.slice b4 qs.length d4,st1,fin1,.slice b5 an'.length d5,P1,left1⟩:Rn)) 31)).heap[W1.heap.size]?=some (.cells (mC (⟨.slice b0 F.m.h.length d0,.slice b1 F.m.gs.length d1,fst1,.slice b2 F.m.cs.length d2,.slice b3 F.m.tr.length d3,.slice b4 qs.length d4,st1,fin1,.slice b5 an'.length d5,P1,left1⟩:Rn)) 31)):=hZ _ _;have HBd:Hid (Below W1.heap.size W1 (W1.alloc (.cells (mC (⟨.slice b0 F.m.h.length d0,.slice b1 F.m.gs.length d1,fst1,.slice b2 F.m.cs.length d2,.slice b3 F.m.tr.length d3,.slice b4 qs.length d4,st1,fin1,.slice b5 an'.length d5,P1,left1⟩:Rn)) 31))):=bA;have hW:W1.alloc (.cells #[.slice b0 F.m.h.length d0,.slice b1 F.m.gs.length d1,iV fst1,.slice b2 F.m.cs.length d2,.slice b3 F.m.tr.length d3,.slice b4 qs.length d4,iV st1,iV fin1,.slice b5 an'.length d5] 31)=W1.alloc (.cells (mC (⟨.slice b0 F.m.h.length d0,.slice b1 F.m.gs.length d1,fst1,.slice b2 F.m.cs.length d2,.slice b3 F.m.tr.length d3,.slice b4 qs.length d4,st1,fin1,.slice b5 an'.length d5,P1,left1⟩:Rn)) 31):=rfl;generalize W1.alloc (.cells (mC (⟨.slice b0 F.m.h.length d0,.slice b1 F.m.gs.length d1,fst1,.slice b2 F.m.cs.length d2,.slice b3 F.m.tr.length d3,.slice b4 qs.length d4,st1,fin1,.slice b5 an'.length d5,P1,left1⟩:Rn)) 31)=W2 at*;have hs2:W1.heap.size<W2.heap.size:=(aZ HD.o);obtain ⟨⟨y0,y1,y2,y3,y4⟩,⟨y5,y6,y7,y8⟩,_⟩:=cr HD.o;simp only at y0 y1 y2 y3 y4 y5 y6 y7 y8;have HE:Hid ((W2.alloc (.cells ((⟨.slice b0 F.m.h.length d0,.slice b1 F.m.gs.length d1,fst1,.slice b2 F.m.cs.length d2,.slice b3 F.m.tr.length d3,.slice b4 qs.length d4,st1,fin1,.slice b5 an'.length d5,P,0⟩:Rn)).cells 62)).heap[W2.heap.size]?=some (.cells ((⟨.slice b0 F.m.h.length d0,.slice b1 F.m.gs.length d1,fst1,.slice b2 F.m.cs.length d2,.slice b3 F.m.tr.length d3,.slice b4 qs.length d4,st1,fin1,.slice b5 an'.length d5,P,0⟩:Rn)).cells 62)):=hZ _ _
 have HBe:Hid (Below W2.heap.size W2 (W2.alloc (.cells ((⟨.slice b0 F.m.h.length d0,.slice b1 F.m.gs.length d1,fst1,.slice b2 F.m.cs.length d2,.slice b3 F.m.tr.length d3,.slice b4 qs.length d4,st1,fin1,.slice b5 an'.length d5,P,0⟩:Rn)).cells 62))):=bA;have hW3:W2.alloc (.cells #[.slice b0 F.m.h.length d0,.slice b1 F.m.gs.length d1,iV fst1,.slice b2 F.m.cs.length d2,.slice b3 F.m.tr.length d3,.slice b4 qs.length d4,iV st1,iV fin1,.slice b5 an'.length d5,.slice P.a P.len P.cap,iV 0] 62)=W2.alloc (.cells ((⟨.slice b0 F.m.h.length d0,.slice b1 F.m.gs.length d1,fst1,.slice b2 F.m.cs.length d2,.slice b3 F.m.tr.length d3,.slice b4 qs.length d4,st1,fin1,.slice b5 an'.length d5,P,0⟩:Rn)).cells 62):=rfl;generalize W2.alloc (.cells ((⟨.slice b0 F.m.h.length d0,.slice b1 F.m.gs.length d1,fst1,.slice b2 F.m.cs.length d2,.slice b3 F.m.tr.length d3,.slice b4 qs.length d4,st1,fin1,.slice b5 an'.length d5,P,0⟩:Rn)).cells 62)=W3 at*;have hs3:W2.heap.size<W3.heap.size:=(aZ HE.o);have HB13:=hid (HBd.o.trans (HBe.o.mono HBd.o.size));have HB3:=hid (HB1.o.trans (HB13.o.mono HB1.o.size))
 have HM3:Hid (MX w.heap.size W3 W2.heap.size (⟨.slice b0 F.m.h.length d0,.slice b1 F.m.gs.length d1,fst1,.slice b2 F.m.cs.length d2,.slice b3 F.m.tr.length d3,.slice b4 qs.length d4,st1,fin1,.slice b5 an'.length d5,P,0⟩:Rn) { F.m with left:=0} qs an'):=by
  have m3:=HM1.o.below HB13.o;refine ⟨⟨HE.o,bi m3.hp (by omega),bi m3.go (by omega),bi m3.ch (by omega),bi m3.tl (by omega),bi m3.qu (by omega),bi m3.anr (by omega),fun A hA=>⟨m3.all A hA,?_⟩,HQ1.o.2.2.2,by omega⟩,HM1.o.first,rfl,HM1.o.fin⟩
  refine eo (m3.all A hA) fun k hk=>?_
  rcases hk with e|e|e|e|e|e
  .subst e
   exact ((HM1.o.all A hA).nb (by omega))
  .exact (HQ1.o.1 A hA).nb (HQ1.o.2.2.1 k (.inl e))
  .exact (HQ1.o.1 A hA).nb (HQ1.o.2.2.1 k (.inr (.inl e)))
  .exact (HQ1.o.1 A hA).nb (HQ1.o.2.2.1 k (rZ (.inl e)))
  .exact (HQ1.o.1 A hA).nb (HQ1.o.2.2.1 k (rZ (.inr (.inl e))))
  .exact (HQ1.o.1 A hA).nb (HQ1.o.2.2.1 k (rZ (rZ (.inr e))))
 have HN3:Hid (∀k,cm W2.heap.size (⟨.slice b0 F.m.h.length d0,.slice b1 F.m.gs.length d1,fst1,.slice b2 F.m.cs.length d2,.slice b3 F.m.tr.length d3,.slice b4 qs.length d4,st1,fin1,.slice b5 an'.length d5,P,0⟩:Rn) k->w.heap.size<=k):=fun k hk=>by
  have m:=HM3.o.mn
  rcases hk with e|e|e|e|e|e
  .omega
  .exact (m.hp.lt k e).1
  .exact (m.go.lt k e).1
  .exact (m.ch.lt k e).1
  .exact (m.tl.lt k e).1
  .exact (m.anr.lt k e).1
 have HSt:Hid (Calls prog 42 #[pZ W2.heap.size] W3 (Rl w.heap.size W3 W2.heap.size (⟨.slice b0 F.m.h.length d0,.slice b1 F.m.gs.length d1,fst1,.slice b2 F.m.cs.length d2,.slice b3 F.m.tr.length d3,.slice b4 qs.length d4,st1,fin1,.slice b5 an'.length d5,P,0⟩:Rn) qs (b9 P qs ⟨{ F.m with left:=0},an'.map br,F.st⟩))):=xz (st0:=F.st) W3 HM3.o (by have:=HB3.o.size;omega) HO.o.left0 (ji HP.o.2.2).2 (Qv HP.o.1 HP.o.2.1 HP.o.2.2 HB3.o rfl HN3.o) hg5 (show F.m.tr.length<=7700000 by omega) (show F.m.cs.length<=999000 by omega) hq (by have h1:=congrArg List.length HM1.o.ans;have h2:=congrArg List.length (HM.o W1 HB1.o).ans;rw[List.length_map]at h1 h2;omega) HM1.o.st (by omega)
 go_wp2_with fail;clear y0 y1 y2 y3 y4 y5 y6 y7 y8 hW hW3;have Han:=hid HM1.o.ans;rw[Han.o]at HSt;refine HSt.o.mono ?_;rintro e W4 ⟨rfl,r4,an4,hM4,ha4,hst4',hq4,hP4,hown4,hB4⟩
 have hnz: ¬cm W2.heap.size (⟨.slice b0 F.m.h.length d0,.slice b1 F.m.gs.length d1,fst1,.slice b2 F.m.cs.length d2,.slice b3 F.m.tr.length d3,.slice b4 qs.length d4,st1,fin1,.slice b5 an'.length d5,P,0⟩:Rn) wa.heap.size:=fun hk=>by
  have m:=HM1.o
  rcases hk with e|e|e|e|e|e
  .omega
  .have:=(m.hp.lt _ e).1;omega
  .have:=(m.go.lt _ e).1;omega
  .have:=(m.ch.lt _ e).1;omega
  .have:=(m.tl.lt _ e).1;omega
  .have:=(m.anr.lt _ e).1;omega
 have HZ4:=hid ((hB4.block _ (by omega) hnz).trans ((HB13.o.block _ (by omega)).trans HZ1.o))
 have HB4:Hid (Below w.heap.size w W4):=⟨hB4.os.trans HB3.o.os,hB4.tape.trans HB3.o.tape,hB4.output.trans HB3.o.output,lT HB3.o.size hB4.size,fun k hk=>(hB4.block k (by have:=HB3.o.size;omega) (fun hm=>by have:=HN3.o k hm;omega)).trans (HB3.o.block k hk)⟩
 have HM4:=hid (MC.stepL (MX.mc hM4 ha4 hst4'));obtain ⟨⟨z0,z1,z2,z3,z4⟩,⟨z5,z6,z7,z8⟩,zf⟩:=cr HZ4.o;have zf0:=zf 0;have zf1:=zf 1;have zf2:=zf 2;have zf3:=zf 3;have zf4:=zf 4;have zf5:=zf 5;have zf6:=zf 6;have zf7:=zf 7;have zf8:=zf 8;obtain ⟨⟨x0,x1,x2,x3,x4,x5⟩,⟨x6,x7,x8,_⟩,_⟩:=hM4.mn.blk.get;obtain ⟨p0,l0,q0,e0⟩: ∃a l c,r4.hv=.slice a l c:=by obtain ⟨a,c,e,_⟩:=ak hM4.mn.hp;exact ⟨a,_,c,e⟩
 obtain ⟨p1,l1,q1,e1⟩: ∃a l c,r4.gv=.slice a l c:=by obtain ⟨a,c,e,_⟩:=ak hM4.mn.go;exact ⟨a,_,c,e⟩
 obtain ⟨p3,l3,q3,e3⟩: ∃a l c,r4.cv=.slice a l c:=by obtain ⟨a,c,e,_⟩:=ak hM4.mn.ch;exact ⟨a,_,c,e⟩
 obtain ⟨p4,l4,q4,e4⟩: ∃a l c,r4.tv=.slice a l c:=by obtain ⟨a,c,e,_⟩:=ak hM4.mn.tl;exact ⟨a,_,c,e⟩
 obtain ⟨p5,l5,q5,e5⟩: ∃a l c,r4.qv=.slice a l c:=by obtain ⟨a,c,e,_⟩:=ak hM4.mn.qu;exact ⟨a,_,c,e⟩
 obtain ⟨p8,l8,q8,e8⟩: ∃a l c,r4.av=.slice a l c:=by obtain ⟨a,c,e,_⟩:=ak hM4.mn.anr;exact ⟨a,_,c,e⟩
 rw[e0]at x0;rw[e1]at x1;rw[e3]at x3;rw[e4]at x4;rw[e5]at x5;rw[e8]at x8;have HEs:Hid (r4.hv=.slice p0 l0 q0/\r4.gv=.slice p1 l1 q1/\r4.cv=.slice p3 l3 q3/\r4.tv=.slice p4 l4 q4/\r4.qv=.slice p5 l5 q5/\r4.av=.slice p8 l8 q8):=⟨e0,e1,e3,e4,e5,e8⟩
 have Hnb:Hid (∀A∈an4,NB wa.heap.size A):=fun A hA=>Fj HZ4.o (Sk oa (fun v hv=>by
  simp[oa]at hv;exact ⟨none,0,0,hv⟩)) (HM4.o.all A hA)
 clear HSt zf hM4 ha4 hst4' hq4 hP4 hown4 hB4 hnz e0 e1 e3 e4 e5 e8;go_wp2_with fail;obtain ⟨e0,e1,e3,e4,e5,e8⟩:=HEs.o;rw[<-e0,<-e1,<-e3,<-e4,<-e5,<-e8];obtain ⟨hW1,hW2⟩:=p9 (r:=r4) HZ4.o;obtain ⟨⟨g0,g1,g2,g3,g4⟩,⟨g5,g6,g7,g8⟩,_⟩:=cr hW1;have hB':Below w.heap.size w (lc W4 wa.heap.size r4):=HB4.o.grown hW2 HB4.o.size (fun k e=>by have:=oj e;omega)
 have hMC:=HM4.o.grown HZ4.o hW2 (by decide) Hnb.o
 show bodyPost _ _ _ _ _ (lc W4 wa.heap.size r4)
 generalize lc W4 wa.heap.size r4=W' at*;refine bodyPost_ret (v:=.tuple #[mV r4,iV 0]) ?_ rfl ⟨r4,an4,rfl,hB',hMC⟩;simp[results,Tryz.results13,go_sem,g0,g1,g2,g3,g4,g5,g6,g7,g8,mV,mC,e0,e1,e3,e4,e5,e8]
end Go.Proofs.YtmggaclaoefdaabGreat
