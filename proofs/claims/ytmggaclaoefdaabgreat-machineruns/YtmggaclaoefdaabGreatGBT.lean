/- Part of the proof. -/
import Derived.Test.YtmggaclaoefdaabGreatGBS
namespace Go.Proofs.YtmggaclaoefdaabGreat
open Go.RowKit Go.Shelf Go.Proofs.Tryz
set_option linter.unusedVariables false
set_option linter.unusedSimpArgs false
set_option maxRecDepth 100000
set_option maxHeartbeats 8000000
section
attribute [local go_sem] Oper.semAt_some
theorem mz (n a b:Int) (w:World):Calls prog 37 #[iV n,iV a,iV b] w fun e w'=>e=.returned (.bool (decide (a<=n)&&decide (n<=b)))/\w'=w:=by
 by_cases h1:a<=n
 .by_cases h2:n<=b
  all_goals
   go_enter Tryz.func37,Tryz.ntmps37
   go_wp2_with fail;go_ret;exact ⟨by simp[h1,h2],rfl⟩
 .go_enter Tryz.func37,Tryz.ntmps37
  go_wp2_with fail;go_ret;exact ⟨by rw[decide_eq_false (show¬a<=n by omega)];rfl,rfl⟩
section
theorem Br (P:Pg) (Q:Tm) (steps:Int) (w:World) (hP:kg w P) (hc:P.len<=P.cap) (hQ:ay w Q):
 Calls prog 17 #[.slice P.a P.len P.cap,.slice Q.a Q.len Q.cap,iV steps] w (Qi P Q steps w):=by
 have HZ:Hid ((w.alloc (.cells #[nZ,iV 0,iV 0] 44)).heap[w.heap.size]?=some (.cells #[nZ,iV 0,iV 0] 44)):=hZ w _;have HBz:Hid (Below w.heap.size w (w.alloc (.cells #[nZ,iV 0,iV 0] 44))):=bA;have HSt:=hid (vg P Q _ (hP.below HBz.o) hc (hQ.below HBz.o));clear hP hQ
 go_enter Tryz.func17,Tryz.ntmps17
 go_wp2_with fail;generalize w.alloc (.cells #[nZ,iV 0,iV 0] 44)=wz at*;have hzz:w.heap.size<wz.heap.size:=(aZ HZ.o);refine HSt.o.mono ?_;rintro e w1 ⟨hb1,⟨hE,rfl⟩| ⟨hE,n,s,r,hvn,hn12,rfl,hM1,hrP,hrst,hPr⟩⟩
 .have HBw1:=hid (HBz.o.trans (hb1.mono HBz.o.size))
  have HZ1:=hid ((hb1.block _ hzz).trans HZ.o);have heb:=bne_iff_ne.2 hE
  have HE:Hid (dj P Q steps=f4 P Q/\dj P Q steps≠0):=by
   have:dj P Q steps=f4 P Q:=by
    unfold f4 at hE |-;unfold dj
    by_cases hp:ck P≠0
    .rw[if_pos hp,if_pos hp]
    .rw[if_neg hp]at hE
     rw[if_neg hp,if_neg hp,if_pos hE]
   exact ⟨this,by rw[this];exact hE⟩
  obtain ⟨z0,z1,z2,zf0,zf1,zf2⟩:=ae HZ1.o;generalize f4 P Q=ev at*;clear hE hb1 HSt;go_wp2_with fail;obtain ⟨W',hW',g0,g1,g2,hB',_⟩:=pm (r:=w.heap.size) lZ HZ1.o HBw1.o nZ (iV 0) (iV 0);rw[hW'];refine bodyPost_ret (v:=.tuple #[tj none 0 0 0 0,iV ev]) ?_ rfl ⟨hB',.inl ⟨HE.o.2,by rw[HE.o.1]⟩⟩
  simp[results,Tryz.results17,go_sem,g0,g1,g2,tj]
 have HBw1:=hid (HBz.o.trans (hb1.mono HBz.o.size));have HB1:=hid hb1;have HM1:=hid hM1;have HrP:=hid hrP;have Hrst:=hid hrst;have HPr:=hid hPr;have HZ1:=hid ((hb1.block _ hzz).trans HZ.o)
 have hpq:ck P=0/\bo Q=0:=by
  unfold f4 at hE
  by_cases hp:ck P≠0
  .rw[if_pos hp]at hE;exact absurd hE hp
  .rw[if_neg hp]at hE;exact ⟨Classical.not_not.1 hp,hE⟩
 have HPQ:=hid hpq;have HC:=hid ((ji hpq.1).2);have Hvn:=hid hvn;clear hE hb1 HSt hM1 hrP hrst hPr hpq hvn
 by_cases hsr:0<=steps/\steps<=400
 case neg=>
  have HE:Hid (dj P Q steps=3):=by
   rw[Hid];unfold dj;rw[if_neg (by simpa using HPQ.o.1),if_neg (by simpa using HPQ.o.2),if_pos (by omega)]
  have HWi:Hid (Calls prog 37 #[iV steps,iV 0,iV 400] w1 fun e w'=>e=.returned (.bool false)/\w'=w1):=(mz steps 0 400 w1).mono fun e w' ⟨he,hw⟩=>⟨by rw[he];congr 2;simp;omega,hw⟩
  obtain ⟨z0,z1,z2,zf0,zf1,zf2⟩:=ae HZ1.o;clear hsr;go_wp2_with fail;refine HWi.o.mono ?_;rintro e w2 ⟨rfl,rfl⟩;go_wp2_with fail;obtain ⟨W',hW',g0,g1,g2,hB',_⟩:=pm (r:=w.heap.size) lZ HZ1.o HBw1.o nZ (iV 0) (iV 0);rw[hW'];refine bodyPost_ret (v:=.tuple #[tj none 0 0 0 0,iV 3]) ?_ rfl ⟨hB',.inl ⟨by rw[HE.o];decide,by rw[HE.o]⟩⟩
  simp[results,Tryz.results17,go_sem,g0,g1,g2,tj]
 have HE:Hid (dj P Q steps=0):=by
  rw[Hid];unfold dj;rw[if_neg (by simpa using HPQ.o.1),if_neg (by simpa using HPQ.o.2),if_neg (by omega)]
 have HWi:Hid (Calls prog 37 #[iV steps,iV 0,iV 400] w1 fun e w'=>e=.returned (.bool true)/\w'=w1):=(mz steps 0 400 w1).mono fun e w' ⟨he,hw⟩=>⟨by rw[he];congr 2;simp;omega,hw⟩
 obtain ⟨L,hL⟩: ∃L:Nat,steps=(L:Int):=⟨steps.toNat,by omega⟩
 have hL4:L<=400:=by omega
 subst hL;have hR0:=qy (P:=P) HPQ.o.2 Hvn.o hn12;have hW0:=hR0.walk
 have HSe:Hid (Calls prog 47 #[pZ s] w1 (Pw wz.heap.size w1 s r (List.range n) (au P (List.range n) 41 ⟨bt Q n,[],0⟩))):=by
  have h:=m5 (st0:=0) w1 HM1.o HB1.o.size (by rw[HrP.o];exact hW0.1) (by rw[HrP.o];exact HC.o) HPr.o hW0.2.1 (by show (0:Nat)<=7800000;omega) (by show (0:Nat)<=1000000;omega) (by simp;omega) (by simp)
  rw[HrP.o]at h;exact h
 have HRn:=hid (o8.settle HC.o 41 _ hR0);have Hst1:Hid ((au P (List.range n) 41 ⟨bt Q n,[],0⟩).st=0):=ls 41 _;clear hsr hR0 hW0;go_wp2_with fail;refine HWi.o.mono ?_;rintro e w2 ⟨rfl,rfl⟩;go_wp2_with fail;refine HSe.o.mono ?_;rintro e w3 ⟨rfl,r3,an3,hM3,hA3,hK3,hB3⟩
 have HMl:Hid (∀k,cm s r k->wz.heap.size<=k):=fun k hm=>by
  have M:=HM1.o.mn
  rcases hm with e|e|e|e|e|e
  .rw[e];exact M.los
  .exact (M.hp.lt k e).1
  .exact (M.go.lt k e).1
  .exact (M.ch.lt k e).1
  .exact (M.tl.lt k e).1
  .exact (M.anr.lt k e).1
 have HM3:=hid hM3;have HA3:=hid hA3;have HK3:=hid hK3;have HB3:=hid hB3;have HP3:=hid (HPr.o.nextA hB3 hK3);have Hs3:=hid (hK3.st.trans Hrst.o);clear hM3 hA3 hK3 hB3;go_wp2_with fail;generalize hF1:au P (List.range n) 41 ⟨bt Q n,[],0⟩=F1 at*;have HF1:=hid hF1;clear hF1
 go_loopg [] (L+1) (fun fu wr=>∃(r1:Rn) (F:FM) (an1:List Tm),MX wz.heap.size wr s r1 F.m (List.range n) an1/\an1.map br=F.an/\r1.st=(F.st:Int)/\r1.P=P/\(∀k,k<w2.heap.size->cm s r1 k->cm s r k)/\Bw (cm s r) w2.heap.size w2 wr/\jc wr s r1/\o8 P n (List.range n) F/\pj P (List.range n) L (L+1) F1=pj P (List.range n) L fu F/\L-F.st<fu/\F.st<=L/\(F.m.fin=0->F.m.first≠0))
 case atStart=>exact ⟨r3,F1,an3,HM3.o,HA3.o,by rw[Hs3.o,Hst1.o];rfl,HK3.o.P.trans HrP.o,HK3.o.own,HB3.o,HP3.o,HRn.o,rfl,by omega,by rw[Hst1.o];exact oZ,fun h=>by rw[<-HF1.o]at h |-;exact ly (fun _=>by show (0:Nat)<40;omega) h⟩
 case round=>
  obtain ⟨r1,F,an1,hM,hA,hst,hPq,hown,hB,hPr1,hR,hE1,hfu,hFl,hne⟩:=hrel;have Hne:=hid hne;clear hne;have HM:=hid hM;have HA:=hid hA;have Hst:=hid hst;have HPq:=hid hPq;have Hown:=hid hown;have HB:=hid hB;have HPr1:=hid hPr1;have HR:=hid hR;have HE1:=hid hE1;obtain ⟨f,rfl⟩: ∃f,gk=f+1:=⟨gk-1,by omega⟩
  obtain ⟨_,⟨y6,y7,y8,_⟩,yf⟩:=hM.mn.blk.get;rw[hM.fin]at y7;rw[hst]at y6;have yf7:=yf 7;have hws:=hB.size;have hlen1:an1.length=F.an.length:=by rw[<-hA,List.length_map]
  have hL40:an1.length<=40:=by rw[hlen1];exact hR.an
  have Hl40:=hid hL40;clear hM hA hst hPq hown hB hPr1 hR hE1 yf hlen1 hL40
  by_cases hc:F.m.fin=0/\F.st<L
  case neg=>
   have HG:Hid (pj P (List.range n) L (L+1) F1=F):=by rw[Hid,HE1.o,pj,if_neg hc]
   obtain ⟨sa,ca,hav,hle,hAR⟩:=uw HM.o.mn.anr (fun A hA=>(HM.o.mn.all A hA).1)
   have HZr0:Hid (wr.heap[w.heap.size]?=some (.cells #[nZ,iV 0,iV 0] 44)):=(HB.o.block _ (by have:=HB1.o.size;omega) (fun hm=>by have:=HMl.o _ hm;omega)).trans HZ1.o
   have HBr0:Hid (Below w.heap.size w wr):=⟨HB.o.os.trans HBw1.o.os,HB.o.tape.trans HBw1.o.tape,HB.o.output.trans HBw1.o.output,lT HBw1.o.size HB.o.size,fun k hk=>(HB.o.block k (by have:=HBw1.o.size;omega) (fun hm=>by have:=HMl.o _ hm;omega)).trans (HBw1.o.block k hk)⟩
   have HAR0:Hid (AR wr sa an1/\(∀b o,sa=some (dZ b o)->b≠w.heap.size)/\∀A∈an1,NB w.heap.size A):=⟨hAR,fun b o e hb=>by
    have:=HM.o.mn.anr.lt b (by rw[hav,e];rfl)
    omega,fun A hA=>Kg HZr0.o (HM.o.mn.all A hA).1⟩
   have hsol:=Oa (n:=n) (limit:=L) HC.o HPQ.o.2 Hvn.o hn12 hL4;rw[HF1.o,HG.o]at hsol;have Hsol:=hid hsol;rw[hav]at y8;have Hav:Hid (r1.av=.slice sa an1.length ca):=hav;have hsne:s≠w.heap.size:=by have:=HM1.o.mn.los;omega
   clear hsol hav hAR
   by_cases hfin:F.m.fin=0
   .have hfb:(F.m.fin==0)=true:=beq_iff_eq.2 hfin
    have hstL: ¬((F.st:Int)<(L:Int)):=fun h=>hc ⟨hfin,by omega⟩
    have HSo:Hid ((0:Int)<2/\(ge P Q ((L:Int)).toNat).ans=an1.map br/\(ge P Q ((L:Int)).toNat).fin=(2:Int).toNat/\(ge P Q ((L:Int)).toNat).st=((F.st:Int)).toNat):=by
     obtain ⟨q1,q2,q3,_⟩:=Hsol.o;unfold tk at q1 q2 q3;rw[if_pos hfin]at q1 q2 q3;have q1':(2:Int)=((ge P Q L).fin:Int):=q1;have q2':F.an=(ge P Q L).ans:=q2;have q3':F.st=(ge P Q L).st:=q3;rw[Hid,Int.toNat_natCast,Int.toNat_natCast,<-q2',<-q3',HA.o];exact ⟨by decide,rfl,by show _=2;omega,rfl⟩
    have hM7:=HM.o.mn.int 7 2 (r':= { r1 with fin:=2}) rfl ⟨rfl,rfl,rfl,rfl,rfl,rfl⟩
    have hg7:=af (W:=wr) s 7 (iV 2);have HZr:Hid ((wr.setCell (dZ s 7) (iV 2)).heap[w.heap.size]?=some (.cells #[nZ,iV 0,iV 0] 44)):=(hg7.block _ (by have:=HBr0.o.size;have:=HB1.o.size;omega) (fun e=>by have:=oj e;omega)).trans HZr0.o
    have HBr:Hid (Below w.heap.size w (wr.setCell (dZ s 7) (iV 2))):=HBr0.o.grown hg7 HBr0.o.size (fun k e=>by have:=oj e;have:=HM1.o.mn.los;omega)
    have HAR:Hid (AR (wr.setCell (dZ s 7) (iV 2)) sa an1/\(∀b o,sa=some (dZ b o)->b≠w.heap.size)/\∀A∈an1,NB w.heap.size A):=⟨HAR0.o.1.at hg7 (fun b o e hb=>by subst hb;exact HM.o.mn.apart.h1.2.2.2.2.2 (by rw[Hav.o,e];rfl)) (fun A hA=>(HM.o.mn.all A hA).2.nb (.inl rfl)),HAR0.o.2⟩
    obtain ⟨_,⟨x6,x7,x8,_⟩,_⟩:=hM7.blk.get;have x6':(wr.setCell (dZ s 7) (iV 2)).cell? (dZ s 6)=some (iV (F.st:Int)):=by rw[x6];show some (iV r1.st)=_;rw[Hst.o]
    have x7':=x7;have x8':(wr.setCell (dZ s 7) (iV 2)).cell? (dZ s 8)=some (.slice sa an1.length ca):=by rw[x8];show some r1.av=_;rw[Hav.o]
    clear hfin hc x6 x7 x8 hM7 hg7;go_wp2_with fail;generalize wr.setCell (dZ s 7) (iV 2)=wf at*;clear y6 y7 y8 yf7;obtain ⟨z0,z1,z2,zf0,zf1,zf2⟩:=ae HZr.o;go_wp2_with fail
    go_region
    all_goals
     obtain ⟨W',hW',g0,g1,g2,hB',hG'⟩:=pm (r:=w.heap.size) lZ HZr.o HBr.o (.slice sa an1.length ca) (iV 2) (iV (F.st:Int));have HB2:=hid hB'.drew;have HAr2:Hid (AR W'.drew sa an1):=(HAR.o.1.at hG' HAR.o.2.1 HAR.o.2.2).below (bR.drew);go_wp2_with fail;rw[hW'];refine bodyPost_ret (v:=.tuple #[tj sa an1.length ca 2 (F.st:Int),iV 0]) ?_ rfl ⟨HB2.o,.inr ⟨HE.o,sa,ca,an1,2,(F.st:Int),rfl,HAr2.o,hle,Hl40.o,HSo.o.1,Int.natCast_nonneg _,HSo.o.2⟩⟩;simp[results,Tryz.results17,go_sem,g0,g1,g2,tj]
   .have hfb:=bF hfin
    have HSo:Hid (0<F.m.fin/\(ge P Q ((L:Int)).toNat).ans=an1.map br/\(ge P Q ((L:Int)).toNat).fin=F.m.fin.toNat/\(ge P Q ((L:Int)).toNat).st=((F.st:Int)).toNat):=by
     obtain ⟨q1,q2,q3,_⟩:=Hsol.o;unfold tk at q1 q2 q3;rw[if_neg hfin]at q1 q2 q3;rw[Hid,Int.toNat_natCast,Int.toNat_natCast,<-q2,<-q3,HA.o];exact ⟨by omega,rfl,by omega,rfl⟩
    have HZr:=hid HZr0.o;have HBr:=hid HBr0.o;have HAR:=hid HAR0.o;clear hfin hc;obtain ⟨z0,z1,z2,zf0,zf1,zf2⟩:=ae HZr.o;go_wp2_with fail
    go_region
    all_goals
     obtain ⟨W',hW',g0,g1,g2,hB',hG'⟩:=pm (r:=w.heap.size) lZ HZr.o HBr.o (.slice sa an1.length ca) (iV F.m.fin) (iV (F.st:Int));have HB2:=hid hB'.drew;have HAr2:Hid (AR W'.drew sa an1):=(HAR.o.1.at hG' HAR.o.2.1 HAR.o.2.2).below (bR.drew);go_wp2_with fail;rw[hW'];refine bodyPost_ret (v:=.tuple #[tj sa an1.length ca F.m.fin (F.st:Int),iV 0]) ?_ rfl ⟨HB2.o,.inr ⟨HE.o,sa,ca,an1,F.m.fin,(F.st:Int),rfl,HAr2.o,hle,Hl40.o,HSo.o.1,Int.natCast_nonneg _,HSo.o.2⟩⟩;simp[results,Tryz.results17,go_sem,g0,g1,g2,tj]
  have hfb:=beq_iff_eq.2 hc.1;have hstL:(F.st:Int)<(L:Int):=by have:=hc.2;omega
  have HF:Hid (pj P (List.range n) L (L+1) F1=pj P (List.range n) L f (b9 P (List.range n) F)):=by rw[Hid,HE1.o,pj,if_pos hc]
  have hwk:=HR.o.walk
  have HSp:Hid (Calls prog 42 #[pZ s] wr (Rl wz.heap.size wr s r1 (List.range n) (b9 P (List.range n) F))):=by
   have h:=xz (st0:=F.st) wr HM.o (by have:=HB1.o.size;omega) (by rw[HPq.o];exact hwk.1) (by rw[HPq.o];exact HC.o) HPr1.o hwk.2.1 hwk.2.2.1 hwk.2.2.2.1 (by simp;omega) (by have:=Hl40.o;omega) Hst.o (by omega)
   rw[HPq.o,HA.o]at h;exact h
  have HRs:Hid (o8 P n (List.range n) (b9 P (List.range n) F)):=HR.o.step HC.o (fun _ _=>by omega)
  have hst9:(b9 P (List.range n) F).st<=F.st+1/\(F.m.first≠0->(b9 P (List.range n) F).st=F.st+1):=by
   unfold b9
   by_cases hx:F.m.fin=0/\F.m.first≠0
   .rw[if_pos hx,ls];exact ⟨lZ,fun _=>rfl⟩
   .rw[if_neg hx,ls];exact ⟨Nat.le_succ _,fun h=>absurd ⟨hc.1,h⟩ hx⟩
  have Hst9:=hid hst9;have hcl:=hc.2;clear hwk hst9 hc;go_wp2_with fail;refine HSp.o.mono ?_;rintro e w5 ⟨rfl,r5,an5,hM5,hA5,hs5,hq5,hP5,ho5,hB5⟩;have HM5:=hid hM5;have HA5:=hid hA5;have Hs5:=hid hs5;have HP5:=hid (hP5.trans HPq.o);have Ho5:Hid (∀k,k<w2.heap.size->cm s r5 k->cm s r k):=fun k hk hm=>Hown.o k hk (ho5 k (by omega) hm)
  have HB5:Hid (Bw (cm s r) w2.heap.size w2 w5):=HB.o.trans ((hB5.mono hws).wide fun k hk hm=>Hown.o k hk hm)
  have HPr5:Hid (jc w5 s r5):=by
   have h:=HPr1.o.nextA (r':= { r5 with st:=r1.st}) hB5 ⟨hq5,rfl,hP5,ho5⟩
   exact ⟨h.pin,h.cap,h.few,h.blk,h.hd,h.bd⟩
  clear hM5 hA5 hs5 hq5 hP5 ho5 hB5 HSp y6 y7 y8 yf7;go_wp2_with fail
  go_roundg f
  case measure=>omega
  case rel=>
   refine ⟨r5,b9 P (List.range n) F,an5,HM5.o,HA5.o,Hs5.o,HP5.o,Ho5.o,HB5.o,HPr5.o,HRs.o,HF.o,?_,?_,Ec HR.o.few⟩
   .have:=Hst9.o.2 (Hne.o (beq_iff_eq.1 hfb));omega
   .have:=Hst9.o.1;omega
end
def mC (r:Rn):Array Value:= #[r.hv,r.gv,iV r.first,r.cv,r.tv,r.qv,iV r.st,iV r.fin,r.av]
def mV (r:Rn):Value:=.agg (mC r)
structure MC (lo:Nat) (w:World) (r:Rn) (F:FM) (qs:List Nat) (an:List Tm):Prop where
 hp:j3 lo w r.hv F.m.h
 go:w.ownsRow lo 76 3 r.gv F.m.gs.length (db F.m.gs)
 ch:w.ownsRow lo 78 5 r.cv F.m.cs.length (dq F.m.cs)
 tl:w.ownsRow lo 3 1 r.tv F.m.tr.length (fg F.m.tr)
 qu:w.ownsRow lo 3 1 r.qv qs.length (fg qs)
 anr:w.ownsRow lo 87 1 r.av an.length (an.map lh)
 all: ∀A∈an,ay w A
 ans:an.map br=F.an
 first:r.first=(F.m.first:Int)
 fin:r.fin=F.m.fin
 st:r.st=(F.st:Int)
theorem MX.mc {lo:Nat} {w:World} {s:Nat} {r:Rn} {F:FM} {qs:List Nat} {an:List Tm} (M:MX lo w s r F.m qs an) (ha:an.map br=F.an) (hs:r.st=(F.st:Int)):MC lo w r F qs an:=
 ⟨M.mn.hp,M.mn.go,M.mn.ch,M.mn.tl,M.mn.qu,M.mn.anr,fun A hA=>(M.mn.all A hA).1,ha,M.first,M.fin,hs⟩
theorem MC.grown {lo:Nat} {w w':World} {r:Rn} {F:FM} {qs:List Nat} {an:List Tm} (M:MC lo w r F qs an) {k:Nat} {c:Array Value} {t:TypeId} (hk:w.heap[k]?=some (.cells c t)) (hg:w.grownBy w' (some k)) (ht:t≠81/\t≠76/\t≠78/\t≠3/\t≠87) (hn: ∀A∈an,NB k A):MC lo w' r F qs an:=by
 have hb: ∀{n z:Nat} {tt:TypeId} {v:Value} {xs:List Value},w.ownsRow lo tt z v n xs->t≠tt->w'.ownsRow lo tt z v n xs:=fun hr hne=>bc hr fun g e=>hg.block g (hr.lt g e).2 (fun e'=>by
  have:=oj e';subst this;obtain ⟨c',hc'⟩:=de hr e;rw[hk]at hc';cases hc';exact hne rfl)
 exact ⟨hb M.hp ht.1,hb M.go ht.2.1,hb M.ch ht.2.2.1,hb M.tl ht.2.2.2.1,hb M.qu ht.2.2.2.1,hb M.anr ht.2.2.2.2,fun A hA=>(M.all A hA).grown hg (fun q hq=>by obtain rfl:=oj hq;exact hn A hA),M.ans,M.first,M.fin,M.st⟩
theorem MC.below {lo:Nat} {w w':World} {r:Rn} {F:FM} {qs:List Nat} {an:List Tm} (M:MC lo w r F qs an) (hB:Below w.heap.size w w'):MC lo w' r F qs an:=by
 have hb: ∀{n z:Nat} {tt:TypeId} {v:Value} {xs:List Value},w.ownsRow lo tt z v n xs->w'.ownsRow lo tt z v n xs:=fun hr=>bc hr fun g e=>hB.block g (hr.lt g e).2
 exact ⟨hb M.hp,hb M.go,hb M.ch,hb M.tl,hb M.qu,hb M.anr,fun A hA=>(M.all A hA).below hB,M.ans,M.first,M.fin,M.st⟩
theorem Fj {w:World} {k:Nat} {c:Array Value} {t:TypeId} (h:w.heap[k]?=some (.cells c t)) (h1: ∀o:Nat,¬((∃x,c[o]?=some (iV x))/\(∃y,c[o+1]?=some (.string y)))) {T:Tm} (hT:ay w T):NB k T:=by
 induction T with
 |nil=>trivial
 |mk v nm a len cap f ih=>
  refine ⟨fun h0=>?_,fun i hi=>ih i (hT.2.2 i hi).2⟩
  obtain ⟨b,o,e,c0,c1,_⟩:=(hT.2.2 0 h0).1;refine ⟨b,o,e,fun hb=>?_⟩
  subst hb;rw[cell_of_row _ _ _ _ _ _ h]at c0 c1;exact h1 (o+0*3) ⟨⟨_,c0⟩,⟨_,c1⟩⟩
theorem Sk (r:Rn) (hr: ∀v∈ [r.hv,r.gv,r.cv,r.tv,r.qv,r.av],∃a n c,v=.slice a n c): ∀o:Nat,¬((∃x,(mC r)[o]?=some (iV x))/\(∃y,(mC r)[o+1]?=some (.string y))):=by
 intro o ⟨_,y,hy⟩
 have hs: ∀v∈ [r.hv,r.gv,r.cv,r.tv,r.qv,r.av],v≠.string y:=fun v hv e=>by
  obtain ⟨a,n,c,e'⟩:=hr v hv;rw[e']at e;cases e
 unfold mC at hy
 rcases o with _|_|_|_|_|_|_|_|o
 .simp at hy;exact hs _ (by simp) hy
 .simp at hy
 .simp at hy;exact hs _ (by simp) hy
 .simp at hy;exact hs _ (by simp) hy
 .simp at hy;exact hs _ (by simp) hy
 .simp at hy
 .simp at hy
 .simp at hy;exact hs _ (by simp) hy
 .simp at hy
def lc (W:World) (k:Nat) (r:Rn):World:=((((((((W.setCell ⟨k,0,none⟩ r.hv).setCell ⟨k,1,none⟩ r.gv).setCell ⟨k,2,none⟩ (iV r.first)).setCell ⟨k,3,none⟩ r.cv).setCell ⟨k,4,none⟩ r.tv).setCell ⟨k,5,none⟩ r.qv).setCell ⟨k,6,none⟩ (iV r.st)).setCell ⟨k,7,none⟩ (iV r.fin)).setCell ⟨k,8,none⟩ r.av
theorem p9 {W:World} {k:Nat} {r0 r:Rn} {t:TypeId} (h:W.heap[k]?=some (.cells (mC r0) t)):(lc W k r).heap[k]?=some (.cells (mC r) t)/\W.grownBy (lc W k r) (some k):=by
 refine ⟨?_,?_⟩
 .unfold lc
  simp only[World.setCell,Array.getElem?_modify];simp[h,mC]
 .exact G.trans (G.trans (G.trans (G.trans (G.trans (G.trans (G.trans (G.trans (af k 0 _) (af k 1 _)) (af k 2 _)) (af k 3 _)) (af k 4 _)) (af k 5 _)) (af k 6 _)) (af k 7 _)) (af k 8 _)
theorem cr {W:World} {k:Nat} {r:Rn} {t:TypeId} (h:W.heap[k]?=some (.cells (mC r) t)):(W.cell? ⟨k,0,none⟩=some r.hv/\W.cell? ⟨k,1,none⟩=some r.gv/\W.cell? ⟨k,2,none⟩=some (iV r.first)/\W.cell? ⟨k,3,none⟩=some r.cv/\W.cell? ⟨k,4,none⟩=some r.tv)/\(W.cell? ⟨k,5,none⟩=some r.qv/\W.cell? ⟨k,6,none⟩=some (iV r.st)/\W.cell? ⟨k,7,none⟩=some (iV r.fin)/\W.cell? ⟨k,8,none⟩=some r.av)/\∀i,W.frozen? ⟨k,i,none⟩=false:=by
 refine ⟨⟨?_,?_,?_,?_,?_⟩,⟨?_,?_,?_,?_⟩,fun i=>?_⟩ <;> simp[World.cell?,World.frozen?,h,mC]
def oa:Rn:=⟨.slice none 0 0,.slice none 0 0,0,.slice none 0 0,.slice none 0 0,.slice none 0 0,0,0,.slice none 0 0,⟨none,0,0,fun _=> .nil,fun _=> .nil⟩,0⟩
def R0 (P:Pg) (Q:Tm) (w:World) (e:Ending) (w':World):Prop:=Below w.heap.size w w'/\((f4 P Q≠0/\e=.returned (.tuple #[mV oa,iV (f4 P Q)]))\/(f4 P Q=0/\∃(n:Nat) (r:Rn),gp Q=(n:Int)/\n<=12/\e=.returned (.tuple #[mV r,iV 0])/\MC w.heap.size w' r ⟨bt Q n,[],0⟩ (List.range n) []))
theorem vk (P:Pg) (Q:Tm) (w:World) (hP:kg w P) (hc:P.len<=P.cap) (hQ:ay w Q):
 Calls prog 8 #[.slice P.a P.len P.cap,.slice Q.a Q.len Q.cap] w (R0 P Q w):=by
 have HZ:Hid ((w.alloc (.cells (mC oa) 31)).heap[w.heap.size]?=some (.cells (mC oa) 31)):=hZ w _;have HBz:Hid (Below w.heap.size w (w.alloc (.cells (mC oa) 31))):=bA;have HSt:=hid (vg P Q _ (hP.below HBz.o) hc (hQ.below HBz.o));clear hP hQ
 go_enter Tryz.func8,Tryz.ntmps8
 go_wp2_with fail;rw[show w.alloc (.cells #[nZ,nZ,iV 0,nZ,nZ,nZ,iV 0,iV 0,nZ] 31)=w.alloc (.cells (mC oa) 31)from rfl]
 generalize w.alloc (.cells (mC oa) 31)=wz at*;have hzz:w.heap.size<wz.heap.size:=(aZ HZ.o);refine HSt.o.mono ?_;rintro e w1 ⟨hb1,⟨hE,rfl⟩| ⟨hE,n,s,r,hvn,hn12,rfl,hM1,hrP,hrst,hPr⟩⟩
 .have HBw1:=hid (HBz.o.trans (hb1.mono HBz.o.size))
  have HZ1:=hid ((hb1.block _ hzz).trans HZ.o);have heb:=bne_iff_ne.2 hE;have HE:=hid hE;obtain ⟨⟨z0,z1,z2,z3,z4⟩,⟨z5,z6,z7,z8⟩,zf⟩:=cr HZ1.o;have zf0:=zf 0;have zf1:=zf 1;have zf2:=zf 2;have zf3:=zf 3;have zf4:=zf 4;have zf5:=zf 5;have zf6:=zf 6;have zf7:=zf 7;have zf8:=zf 8;clear hE hb1 HSt zf;go_wp2_with fail;obtain ⟨hW1,hW2⟩:=p9 (r:=oa) HZ1.o;obtain ⟨⟨g0,g1,g2,g3,g4⟩,⟨g5,g6,g7,g8⟩,_⟩:=cr hW1;have hB':Below w.heap.size w (lc w1 w.heap.size oa):=HBw1.o.grown hW2 HBw1.o.size (fun k e=>by have:=oj e;omega)
  show bodyPost _ _ _ _ _ (lc w1 w.heap.size oa)
  generalize lc w1 w.heap.size oa=W' at*;refine bodyPost_ret (v:=.tuple #[mV oa,iV (f4 P Q)]) ?_ rfl ⟨hB',.inl ⟨HE.o,rfl⟩⟩;simp[results,Tryz.results8,go_sem,g0,g1,g2,g3,g4,g5,g6,g7,g8,mV,mC]
 have HBw1:=hid (HBz.o.trans (hb1.mono HBz.o.size));have HZ1:=hid ((hb1.block _ hzz).trans HZ.o);have HE:=hid hE;have HMc:Hid (MC wz.heap.size w1 r ⟨bt Q n,[],0⟩ (List.range n) []):=MX.mc (F:=⟨bt Q n,[],0⟩) hM1 rfl (by rw[hrst];rfl)
 have Hvn:=hid hvn;obtain ⟨⟨z0,z1,z2,z3,z4⟩,⟨z5,z6,z7,z8⟩,zf⟩:=cr HZ1.o;have zf0:=zf 0;have zf1:=zf 1;have zf2:=zf 2;have zf3:=zf 3;have zf4:=zf 4;have zf5:=zf 5;have zf6:=zf 6;have zf7:=zf 7;have zf8:=zf 8;obtain ⟨⟨x0,x1,x2,x3,x4,x5⟩,⟨x6,x7,x8,_⟩,_⟩:=hM1.mn.blk.get;obtain ⟨a0,l0,c0,e0⟩: ∃a l c,r.hv=.slice a l c:=by obtain ⟨a,c,e,_⟩:=ak hM1.mn.hp;exact ⟨a,_,c,e⟩
 obtain ⟨a1,l1,c1,e1⟩: ∃a l c,r.gv=.slice a l c:=by obtain ⟨a,c,e,_⟩:=ak hM1.mn.go;exact ⟨a,_,c,e⟩
 obtain ⟨a3,l3,c3,e3⟩: ∃a l c,r.cv=.slice a l c:=by obtain ⟨a,c,e,_⟩:=ak hM1.mn.ch;exact ⟨a,_,c,e⟩
 obtain ⟨a4,l4,c4,e4⟩: ∃a l c,r.tv=.slice a l c:=by obtain ⟨a,c,e,_⟩:=ak hM1.mn.tl;exact ⟨a,_,c,e⟩
 obtain ⟨a5,l5,c5,e5⟩: ∃a l c,r.qv=.slice a l c:=by obtain ⟨a,c,e,_⟩:=ak hM1.mn.qu;exact ⟨a,_,c,e⟩
 obtain ⟨a8,l8,c8,e8⟩: ∃a l c,r.av=.slice a l c:=by obtain ⟨a,c,e,_⟩:=ak hM1.mn.anr;exact ⟨a,_,c,e⟩
 rw[e0]at x0;rw[e1]at x1;rw[e3]at x3;rw[e4]at x4;rw[e5]at x5;rw[e8]at x8;have HEs:Hid (r.hv=.slice a0 l0 c0/\r.gv=.slice a1 l1 c1/\r.cv=.slice a3 l3 c3/\r.tv=.slice a4 l4 c4/\r.qv=.slice a5 l5 c5/\r.av=.slice a8 l8 c8):=⟨e0,e1,e3,e4,e5,e8⟩;clear hE hb1 HSt zf hM1 hrP hrst hPr hvn e0 e1 e3 e4 e5 e8;go_wp2_with fail;obtain ⟨e0,e1,e3,e4,e5,e8⟩:=HEs.o;rw[<-e0,<-e1,<-e3,<-e4,<-e5,<-e8];obtain ⟨hW1,hW2⟩:=p9 (r:=r) HZ1.o;obtain ⟨⟨g0,g1,g2,g3,g4⟩,⟨g5,g6,g7,g8⟩,_⟩:=cr hW1;have hB':Below w.heap.size w (lc w1 w.heap.size r):=HBw1.o.grown hW2 HBw1.o.size (fun k e=>by have:=oj e;omega)
 have hMC:MC wz.heap.size (lc w1 w.heap.size r) r ⟨bt Q n,[],0⟩ (List.range n) []:=HMc.o.grown HZ1.o hW2 (by decide) (fun A hA=>by cases hA)
 show bodyPost _ _ _ _ _ (lc w1 w.heap.size r)
 generalize lc w1 w.heap.size r=W' at*;refine bodyPost_ret (v:=.tuple #[mV r,iV 0]) ?_ rfl ⟨hB',.inr ⟨HE.o,n,r,Hvn.o,hn12,rfl,?_⟩⟩
 .simp[results,Tryz.results8,go_sem,g0,g1,g2,g3,g4,g5,g6,g7,g8,mV,mC,e0,e1,e3,e4,e5,e8]
 .exact ⟨bi hMC.hp (by omega),bi hMC.go (by omega),bi hMC.ch (by omega),bi hMC.tl (by omega),bi hMC.qu (by omega),bi hMC.anr (by omega),hMC.all,hMC.ans,hMC.first,hMC.fin,hMC.st⟩
structure Gi where
 at_:Int
 cut:Int
 nx:Int
structure Ci where
 goal:Int
 cl:Int
 hp:Int
 tr:Int
 gs:Int
structure Mi where
 ha:Option Addr
 hl:Nat
 hc:Nat
 h:Nat->Cl
 ga:Option Addr
 gl:Nat
 gc:Nat
 g:Nat->Gi
 first:Int
 ca:Option Addr
 cl:Nat
 cc:Nat
 c:Nat->Ci
 ta:Option Addr
 tl:Nat
 tc:Nat
 t:Nat->Int
 qa:Option Addr
 ql:Nat
 qc:Nat
 q:Nat->Int
 st:Int
 fin:Int
 aa:Option Addr
 al:Nat
 ac:Nat
def Mi.cells (m:Mi):Array Value:= #[.slice m.ha m.hl m.hc,.slice m.ga m.gl m.gc,iV m.first,.slice m.ca m.cl m.cc,.slice m.ta m.tl m.tc,.slice m.qa m.ql m.qc,iV m.st,iV m.fin,.slice m.aa m.al m.ac]
def Gv (w:World) (a:Option Addr) (i:Nat) (g:Gi):Prop:=∃b o,a=some ⟨b,o,none⟩/\w.cell? ⟨b,o+i*3,none⟩=some (iV g.at_)/\w.cell? ⟨b,o+i*3+1,none⟩=some (iV g.cut)/\w.cell? ⟨b,o+i*3+2,none⟩=some (iV g.nx)
def Jz (w:World) (a:Option Addr) (i:Nat) (c:Ci):Prop:=∃b o,a=some ⟨b,o,none⟩/\w.cell? ⟨b,o+i*5,none⟩=some (iV c.goal)/\w.cell? ⟨b,o+i*5+1,none⟩=some (iV c.cl)/\w.cell? ⟨b,o+i*5+2,none⟩=some (iV c.hp)/\w.cell? ⟨b,o+i*5+3,none⟩=some (iV c.tr)/\w.cell? ⟨b,o+i*5+4,none⟩=some (iV c.gs)
def Dp (w:World) (a:Option Addr) (i:Nat) (x:Int):Prop:=∃b o,a=some ⟨b,o,none⟩/\w.cell? ⟨b,o+i,none⟩=some (iV x)
theorem Gv.below {w w':World} {a:Option Addr} {i:Nat} {g:Gi} (h:Gv w a i g) (hB:Below w.heap.size w w'):Gv w' a i g:=by
 obtain ⟨b,o,e,c0,c1,c2⟩:=h;exact ⟨b,o,e,(hB.cell (p:=(dZ b (o+i*3))) (ag c0)).trans c0,(hB.cell (p:=(dZ b (o+i*3+1))) (ag c1)).trans c1,(hB.cell (p:=(dZ b (o+i*3+2))) (ag c2)).trans c2⟩
theorem Jz.below {w w':World} {a:Option Addr} {i:Nat} {g:Ci} (h:Jz w a i g) (hB:Below w.heap.size w w'):Jz w' a i g:=by
 obtain ⟨b,o,e,c0,c1,c2,c3,c4⟩:=h;exact ⟨b,o,e,(hB.cell (p:=(dZ b (o+i*5))) (ag c0)).trans c0,(hB.cell (p:=(dZ b (o+i*5+1))) (ag c1)).trans c1,(hB.cell (p:=(dZ b (o+i*5+2))) (ag c2)).trans c2,(hB.cell (p:=(dZ b (o+i*5+3))) (ag c3)).trans c3,(hB.cell (p:=(dZ b (o+i*5+4))) (ag c4)).trans c4⟩
theorem Dp.below {w w':World} {a:Option Addr} {i:Nat} {x:Int} (h:Dp w a i x) (hB:Below w.heap.size w w'):Dp w' a i x:=by
 obtain ⟨b,o,e,c0⟩:=h;exact ⟨b,o,e,(hB.cell (p:=(dZ b (o+i))) (ag c0)).trans c0⟩
structure vv (w:World) (m:Mi):Prop where
 h:HIn w m.ha m.hl m.h
 hc:m.hl<=m.hc
 g: ∀i,i<m.gl->Gv w m.ga i (m.g i)
 c: ∀i,i<m.cl->Jz w m.ca i (m.c i)
 t: ∀i,i<m.tl->Dp w m.ta i (m.t i)
 q: ∀i,i<m.ql->Dp w m.qa i (m.q i)
 big:m.gl<=17592186043904/\m.cl<=17592186043904/\m.tl<=17592186043904/\m.ql<=17592186043904
theorem vv.below {w w':World} {m:Mi} (h:vv w m) (hB:Below w.heap.size w w'):vv w' m:=⟨h.h.below hB,h.hc,fun i hi=>(h.g i hi).below hB,fun i hi=>(h.c i hi).below hB,fun i hi=>(h.t i hi).below hB,fun i hi=>(h.q i hi).below hB,h.big⟩
theorem Mi.get {W:World} {k:Nat} {m:Mi} {t:TypeId} (h:W.heap[k]?=some (.cells m.cells t)):(W.cell? ⟨k,0,none⟩=some (.slice m.ha m.hl m.hc)/\W.cell? ⟨k,1,none⟩=some (.slice m.ga m.gl m.gc)/\W.cell? ⟨k,2,none⟩=some (iV m.first)/\W.cell? ⟨k,3,none⟩=some (.slice m.ca m.cl m.cc)/\W.cell? ⟨k,4,none⟩=some (.slice m.ta m.tl m.tc))/\(W.cell? ⟨k,5,none⟩=some (.slice m.qa m.ql m.qc)/\W.cell? ⟨k,6,none⟩=some (iV m.st)/\W.cell? ⟨k,7,none⟩=some (iV m.fin)/\W.cell? ⟨k,8,none⟩=some (.slice m.aa m.al m.ac))/\∀i,W.frozen? ⟨k,i,none⟩=false:=by
 refine ⟨⟨?_,?_,?_,?_,?_⟩,⟨?_,?_,?_,?_⟩,fun i=>?_⟩ <;> simp[World.cell?,World.frozen?,h,Mi.cells]
theorem ve {m:Mi} {mb:Nat} (x:Int) (w:World) (hb:w.heap[mb]?=some (.cells m.cells 31)):
 Calls prog 63 #[iV x,.pointer (some ⟨mb,0,none⟩)] w fun e w'=>e=.returned (.bool (fb m.hl x))/\Below w.heap.size w w':=by
 obtain ⟨⟨c0,_⟩,_⟩:=Mi.get hb;clear hb
 by_cases h1:x<0
 .have HR:Hid (fb m.hl x=true):=by rw[Hid];unfold fb;simp[h1]
  go_enter Tryz.func63,Tryz.ntmps63
  go_wp2_with fail;go_ret;exact ⟨by rw[HR.o];rfl,bR⟩
 .by_cases h2:x>=(m.hl:Int)
  .have HR:Hid (fb m.hl x=true):=by rw[Hid];unfold fb;simp[h2]
   go_enter Tryz.func63,Tryz.ntmps63
   go_wp2_with fail;go_ret;exact ⟨by rw[HR.o];rfl,bR⟩
  .have HR:Hid (fb m.hl x=false):=by rw[Hid];unfold fb;simp;omega
   go_enter Tryz.func63,Tryz.ntmps63
   go_wp2_with fail;go_ret;exact ⟨by rw[HR.o];rfl,bR⟩
theorem Ei {m:Mi} {mb nb:Nat} (g:Gi) (w:World) (hb:w.heap[mb]?=some (.cells m.cells 31)) (hn:w.heap[nb]?=some (.cells #[.func (.func 63) #[] #[.pointer (some ⟨mb,0,none⟩)]] 110)):
 Calls prog 65 #[.agg #[iV g.at_,iV g.cut,iV g.nx],.pointer (some ⟨nb,0,none⟩)] w fun e w'=>e=.returned (.bool (fb m.hl g.at_))/\Below w.heap.size w w':=by
 have HBa:Hid (Below w.heap.size w (w.alloc (.cells #[iV g.at_,iV g.cut,iV g.nx] 76))):=bA;have hnl:nb<w.heap.size:=(aZ hn);have hml:mb<w.heap.size:=(aZ hb)
 have n0:(w.alloc (.cells #[iV g.at_,iV g.cut,iV g.nx] 76)).cell? (dZ nb 0)=some (.func (.func 63) #[] #[pZ mb]):=by
  have h1:=(HBa.o.block nb hnl).trans hn;generalize w.alloc (.cells #[iV g.at_,iV g.cut,iV g.nx] 76)=W at*;simp[World.cell?,h1]
 obtain ⟨a0,_⟩:=ae (hZ w (.cells #[iV g.at_,iV g.cut,iV g.nx] 76));have HC:=hid (ve g.at_ _ ((HBa.o.block mb hml).trans hb));clear hb hn
 go_enter Tryz.func65,Tryz.ntmps65
 go_wp2_with fail;generalize w.alloc (.cells #[iV g.at_,iV g.cut,iV g.nx] 76)=wa at*;refine HC.o.mono ?_;rintro e w1 ⟨rfl,hb1⟩;have HB1:=hid (HBa.o.trans (hb1.mono HBa.o.size));clear hb1 HC;go_wp2_with fail;go_ret;exact ⟨rfl,HB1.o⟩
theorem Mj {a:Option Addr} {n cap mb nb:Nat} {m:Mi} (g:Nat->Gi) (w:World) (hh: ∀W,Below w.heap.size w W->∀i,i<n->Gv W a i (g i)) (hb:w.heap[mb]?=some (.cells m.cells 31)) (hn:w.heap[nb]?=some (.cells #[.func (.func 63) #[] #[.pointer (some ⟨mb,0,none⟩)]] 110)) (hm:n<=2 ^ 63-1):
 Calls prog 102 #[.slice a n cap,.func (.func 65) #[] #[.pointer (some ⟨nb,0,none⟩)]] w fun e w'=>∃r:Int,e=.returned (iV r)/\Below w.heap.size w w'/\((r= -1/\∀j,j<n->fb m.hl (g j).at_=false)\/(0<=r/\∃j,j<n/\fb m.hl (g j).at_=true)):=by
 have HH:=hid hh;have HMB:Hid (∀W,Below w.heap.size w W->W.heap[mb]?=some (.cells m.cells 31)/\W.heap[nb]?=some (.cells #[.func (.func 63) #[] #[pZ mb]] 110)):=fun W hW=>⟨(hW.block _ (aZ hb)).trans hb,(hW.block _ (aZ hn)).trans hn⟩
 clear hh hb hn
 go_enter Tryz.func102,Tryz.ntmps102
 go_wp2_with fail
 go_loopw [8] (fun x wr=>∃i:Nat,i<=n/\x=iV i/\(∀j,j<i->fb m.hl (g j).at_=false)/\Below w.heap.size w wr) (fun x _=>n-(intOf x).toNat)
 case atStart=>exact ⟨0,oZ,rfl,fun j hj=>absurd hj (nL j),bR⟩
 case round=>
  obtain ⟨i,hi,rfl,hk,hb⟩:=hrel;have HK:=hid hk;have HB:=hid hb;clear hk hb
  by_cases hil:i<n
  case neg=>
   have hiI: ¬((i:Int)<(n:Int)):=by omega
   obtain rfl:i=n:=by omega
   go_wp2_with fail;go_ret;exact ⟨-1,rfl,HB.o,.inl ⟨rfl,HK.o⟩⟩
  have hiI:(i:Int)<(n:Int):=by omega
  obtain ⟨b,o,rfl,c0,c1,c2⟩:=HH.o wr HB.o i hil;have HF:=hid (Ei (g i) wr (HMB.o wr HB.o).1 (HMB.o wr HB.o).2);go_wp2_with fail;refine HF.o.mono ?_;rintro e w1 ⟨rfl,hb1⟩;have HB1:=hid (HB.o.trans (hb1.mono HB.o.size));clear hb1 HF c0 c1 c2
  cases hv:fb m.hl (g i).at_ with
  |false=>
   have HK1:Hid (∀j,j<i+1->fb m.hl (g j).at_=false):=fun j hj=>by
    by_cases e:j<i
    .exact HK.o j e
    .obtain rfl:j=i:=by omega
     exact hv
   clear hv;go_wp2_with fail;go_roundw
   case rel=>exact ⟨i+1,by omega,by go_num,HK1.o,HB1.o⟩
   case measure=>simp[intOf];omega
  |true=>
   have HN:=hid hv;clear hv;go_wp2_with fail;go_ret;exact ⟨i,rfl,HB1.o,.inr ⟨by omega,i,hil,HN.o⟩⟩
theorem I5 {a:Option Addr} {n cap mb nb:Nat} {m:Mi} (g:Nat->Gi) (w:World) (hh: ∀W,Below w.heap.size w W->∀i,i<n->Gv W a i (g i)) (hb:w.heap[mb]?=some (.cells m.cells 31)) (hn:w.heap[nb]?=some (.cells #[.func (.func 63) #[] #[.pointer (some ⟨mb,0,none⟩)]] 110)) (hm:n<=2 ^ 63-1):
 Calls prog 64 #[.slice a n cap,.func (.func 65) #[] #[.pointer (some ⟨nb,0,none⟩)]] w fun e w'=>e=.returned (.bool (!cq (fun j=>!fb m.hl (g j).at_) n))/\Below w.heap.size w w':=by
 have HI:=Mj (cap:=cap) g w hh hb hn hm;have HI':=hid HI;clear hh hm HI hb hn
 go_enter Tryz.func64,Tryz.ntmps64
 go_wp2_with fail;refine HI'.o.mono ?_;rintro e w1 ⟨r,rfl,hb,hr⟩;have HB:=hid hb
 have HR:Hid (decide (r>=0)=!cq (fun j=>!fb m.hl (g j).at_) n):=by
  rw[Hid]
  rcases hr with ⟨rfl,h1⟩| ⟨h0,j,hj,h1⟩
  .rw[dm.2 (fun j hj=>by rw[h1 j hj];rfl)];rfl
  .have e1:cq (fun j=>!fb m.hl (g j).at_) n=false:=by
    cases e:cq (fun j=>!fb m.hl (g j).at_) n with
    |false=>rfl
    |true=>have:=dm.1 e j hj;rw[h1]at this;cases this
   rw[e1,decide_eq_true (show r>=0 from h0)];rfl
 clear hb hr HI';go_wp2_with fail;go_ret;exact ⟨by rw[<-HR.o];rfl,HB.o⟩
theorem Mh {a:Option Addr} {n cap mb:Nat} {m:Mi} (g:Nat->Int) (w:World) (hh: ∀W,Below w.heap.size w W->∀i,i<n->Dp W a i (g i)) (hb:w.heap[mb]?=some (.cells m.cells 31)) (hm:n<=2 ^ 63-1):
 Calls prog 103 #[.slice a n cap,.func (.func 63) #[] #[.pointer (some ⟨mb,0,none⟩)]] w fun e w'=>∃r:Int,e=.returned (iV r)/\Below w.heap.size w w'/\((r= -1/\∀j,j<n->fb m.hl (g j)=false)\/(0<=r/\∃j,j<n/\fb m.hl (g j)=true)):=by
 have HH:=hid hh;have HMB:Hid (∀W,Below w.heap.size w W->W.heap[mb]?=some (.cells m.cells 31)):=fun W hW=>(hW.block _ (aZ hb)).trans hb
 clear hh hb
 go_enter Tryz.func103,Tryz.ntmps103
 go_wp2_with fail
 go_loopw [8] (fun x wr=>∃i:Nat,i<=n/\x=iV i/\(∀j,j<i->fb m.hl (g j)=false)/\Below w.heap.size w wr) (fun x _=>n-(intOf x).toNat)
 case atStart=>exact ⟨0,oZ,rfl,fun j hj=>absurd hj (nL j),bR⟩
 case round=>
  obtain ⟨i,hi,rfl,hk,hb⟩:=hrel;have HK:=hid hk;have HB:=hid hb;clear hk hb
  by_cases hil:i<n
  case neg=>
   have hiI: ¬((i:Int)<(n:Int)):=by omega
   obtain rfl:i=n:=by omega
   go_wp2_with fail;go_ret;exact ⟨-1,rfl,HB.o,.inl ⟨rfl,HK.o⟩⟩
  have hiI:(i:Int)<(n:Int):=by omega
  obtain ⟨b,o,rfl,c0⟩:=HH.o wr HB.o i hil;have HF:=hid (ve (g i) wr (HMB.o wr HB.o));go_wp2_with fail;refine HF.o.mono ?_;rintro e w1 ⟨rfl,hb1⟩;have HB1:=hid (HB.o.trans (hb1.mono HB.o.size));clear hb1 HF c0
  cases hv:fb m.hl (g i)with
  |false=>
   have HK1:Hid (∀j,j<i+1->fb m.hl (g j)=false):=fun j hj=>by
    by_cases e:j<i
    .exact HK.o j e
    .obtain rfl:j=i:=by omega
     exact hv
   clear hv;go_wp2_with fail;go_roundw
   case rel=>exact ⟨i+1,by omega,by go_num,HK1.o,HB1.o⟩
   case measure=>simp[intOf];omega
  |true=>
   have HN:=hid hv;clear hv;go_wp2_with fail;go_ret;exact ⟨i,rfl,HB1.o,.inr ⟨by omega,i,hil,HN.o⟩⟩
theorem yt {a:Option Addr} {n cap mb:Nat} {m:Mi} (g:Nat->Int) (w:World) (hh: ∀W,Below w.heap.size w W->∀i,i<n->Dp W a i (g i)) (hb:w.heap[mb]?=some (.cells m.cells 31)) (hm:n<=2 ^ 63-1):
 Calls prog 66 #[.slice a n cap,.func (.func 63) #[] #[.pointer (some ⟨mb,0,none⟩)]] w fun e w'=>e=.returned (.bool (!cq (fun j=>!fb m.hl (g j)) n))/\Below w.heap.size w w':=by
 have HI:=Mh (cap:=cap) g w hh hb hm;have HI':=hid HI;clear hh hm HI hb
 go_enter Tryz.func66,Tryz.ntmps66
 go_wp2_with fail;refine HI'.o.mono ?_;rintro e w1 ⟨r,rfl,hb,hr⟩;have HB:=hid hb
 have HR:Hid (decide (r>=0)=!cq (fun j=>!fb m.hl (g j)) n):=by
  rw[Hid]
  rcases hr with ⟨rfl,h1⟩| ⟨h0,j,hj,h1⟩
  .rw[dm.2 (fun j hj=>by rw[h1 j hj];rfl)];rfl
  .have e1:cq (fun j=>!fb m.hl (g j)) n=false:=by
    cases e:cq (fun j=>!fb m.hl (g j)) n with
    |false=>rfl
    |true=>have:=dm.1 e j hj;rw[h1]at this;cases this
   rw[e1,decide_eq_true (show r>=0 from h0)];rfl
 clear hb hr HI';go_wp2_with fail;go_ret;exact ⟨by rw[<-HR.o];rfl,HB.o⟩
end
end Go.Proofs.YtmggaclaoefdaabGreat
