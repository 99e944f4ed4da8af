/- Part of the proof. -/
import Derived.Test.YtmggaclaoefdaabGreatCq3
namespace Go.Proofs.YtmggaclaoefdaabGreat
open Go.RowKit Go.Proofs.Tryz
set_option linter.unusedVariables false
set_option linter.unusedSimpArgs false
set_option maxRecDepth 100000
set_option maxHeartbeats 8000000
section
open Go.Shelf
structure LI (P:Pg) (Q:Tm) (n limit:Nat) (F:FM):Prop where
 r:o8 P n (List.range n) F
 b:De F
 run:jb P (List.range n) limit 442 F=jb P (List.range n) limit 442 ⟨bt Q n,[],0⟩
 on:F.m.fin=0->F.an.length<40/\F.st<=limit/\xd limit F<442
section
variable {P:Pg} {Q:Tm} {n limit:Nat} {F:FM}
theorem LI.begin (hQ:bo Q=0) (hv:gp Q=(n:Int)) (hn:n<=12) (hl:limit<=400):LI P Q n limit ⟨bt Q n,[],0⟩:=
 ⟨qy hQ hv hn,xo rfl,rfl,fun _=>⟨by show (0:Nat)<40;omega,oZ,by unfold xd;show limit-0+(40-0)<442;omega⟩⟩
theorem LI.step (hC:i7 P) (hl:limit<=400) (L:LI P Q n limit F) (hf:F.m.fin=0) (h0:F.m.first=0\/F.st<limit):LI P Q n limit (b9 P (List.range n) F):=by
 obtain ⟨h4,hs,hp⟩:=L.on hf;obtain ⟨h1,h2⟩:=G8 (P:=P) (qs:=List.range n) hf h4 hs hp h0;have h400:F.m.fin=0->F.m.first≠0->F.st<400:=fun _ h=>by have:=h0.resolve_left h;omega
 refine ⟨L.r.step hC h400,L.b.step hC L.r h400,h1.trans L.run,fun hz=>?_⟩
 obtain ⟨a,b,c,_⟩:=h2.resolve_left (fun x=>x hz)
 exact ⟨a,b,c⟩
theorem LI.told (hC:i7 P) (hQ:bo Q=0) (hv:gp Q=(n:Int)) (hn:n<=12) (hl:limit<=400) (L:LI P Q n limit F):F.an <+:(ge P Q limit).ans/\(F.m.fin≠0->F.m.fin=((ge P Q limit).fin:Int)/\F.st=(ge P Q limit).st/\F.an=(ge P Q limit).ans):=by
 have hS:=Bq (P:=P) (n:=n) (qs:=List.range n) hC hl 442 ⟨bt Q n,[],0⟩ (Gp Q n) (lx hQ hv hn) oZ
 have hsol:ic (bm P) n limit 442 (Gp Q n)=ge P Q limit:=by
  unfold ge;rw[hv,Int.toNat_natCast]
 rw[hsol,<-L.run]at hS;have hpre:=Lw (P:=P) (qs:=List.range n) (limit:=limit) 442 F;rw[hS.2.1]at hpre;refine ⟨hpre,fun hz=>?_⟩
 rw[jk hz]at hS;exact ⟨hS.1,hS.2.2,hS.2.1⟩
end
end
theorem N0 (a:Option Addr) (ln cp k:Nat) (h:k<=ln) (hc:ln<=cp) (W:World):(Instr.slice 29 (.slice a ln cp) none (some (iV k)) none).run prog W=.ok (.slice a k cp) W:=by
 obtain ⟨i0,hi,hz0,hz1,hz2⟩:=info_parts Tryz.info87;have h':(k:Int)<=(cp:Int):=by omega
 cases a with
 |none=>simp[Instr.slice,run_underlying Tryz.underlying29,Instr.sliceBounds,run_sliceBound,sizeOf,typeInfo,hi,h',Addr.add]
 |some ad=>simp[Instr.slice,run_underlying Tryz.underlying29,Instr.sliceBounds,run_sliceBound,sizeOf,typeInfo,hi,h',Addr.add]
theorem Ed {A B:Tm} (h:br A=br B):fq A B=true:=by
 have hl:A.len=B.len:=by
  have:=congrArg List.length h
  simpa[br,az]using this
 unfold fq;rw[hl];simp only[beq_self_eq_true,Bool.true_and];refine dm.2 fun i hi=>(t8 _ _).2 ?_
 have h1:(br A).getD i .nil=a9 (A.f i):=by simp[br,az,List.getD,show i<A.len by omega]
 have h2:(br B).getD i .nil=a9 (B.f i):=by simp[br,az,List.getD,hi]
 rw[<-h1,<-h2,h]
theorem vd {l m:List Tm} (h:l.map br=m.map br):jr l m=true:=by
 have hl:l.length=m.length:=by simpa using congrArg List.length h
 unfold jr;rw[hl];simp only[beq_self_eq_true,Bool.true_and];refine dm.2 fun i hi=>Ed ?_
 have h1:(l.map br)[i]?=(m.map br)[i]?:=by rw[h]
 simp[hi,show i<l.length by omega]at h1
 simpa[List.getD,hi,show i<l.length by omega]using h1
theorem AR.take {w:World} {sa:Option Addr} {l:List Tm} (h:AR w sa l) (k:Nat):AR w sa (l.take k):=fun i hi=>by
 have hi':i<l.length:=by rw[List.length_take]at hi;omega
 have:=h i hi';rw[List.getElem_take];exact this
section
open Go.Shelf
def VO (ev fV sV:Int) (vA:List (List Tm)) (w:World) (e:Ending) (w':World):Prop:=Below w.heap.size w w'/\∃(sa:Option Addr) (ca:Nat) (an:List Tm),e=.returned (.tuple #[.agg #[.slice sa an.length ca,iV fV,iV sV],iV ev])/\AR w' sa an/\an.length<=ca/\an.length<=40/\an.map br=vA
def VE (P:Pg) (Q:Tm) (steps ev fV sV:Int) (vA:List (List Tm)):Prop:=ev=dj P Q steps/\(ev=0->(0<=steps/\steps<=400)/\(ck P=0/\bo Q=0)/\vA=(ge P Q steps.toNat).ans/\fV=((ge P Q steps.toNat).fin:Int)/\sV=((ge P Q steps.toNat).st:Int))
theorem Kr (P:Pg) (Q:Tm) (steps:Int): ∃(ev fV sV:Int) (vA:List (List Tm)),VE P Q steps ev fV sV vA/\∀w e w',Qi P Q steps w e w'->VO ev fV sV vA w e w':=by
 by_cases h:dj P Q steps=0
 .refine ⟨0,_,_,_,⟨h.symm,fun _=>⟨?_,?_,rfl,rfl,rfl⟩⟩,?_⟩
  .unfold dj at h
   split at h
   .rename_i h1;exact absurd h h1
   .split at h
    .rename_i h1;exact absurd h h1
    .split at h
     .omega
     .omega
  .unfold dj at h
   split at h
   .rename_i h1;exact absurd h h1
   .rename_i h1
    split at h
    .rename_i h2;exact absurd h h2
    .rename_i h2
     exact ⟨Classical.not_not.1 h1,Classical.not_not.1 h2⟩
  .rintro w e w' ⟨hb,⟨h1,_⟩| ⟨_,sa,ca,an,fin,st,rfl,hA,hc,h40,hf,hs,e1,e2,e3⟩⟩
   .exact absurd h h1
   .refine ⟨hb,sa,ca,an,?_,hA,hc,h40,e1.symm⟩
    rw[e2,e3,Int.toNat_of_nonneg (by omega),Int.toNat_of_nonneg hs]
    rfl
 .refine ⟨dj P Q steps,0,0,[],⟨rfl,fun e=>absurd e h⟩,?_⟩
  rintro w e w' ⟨hb,⟨_,rfl⟩| ⟨h1,_⟩⟩
  .exact ⟨hb,none,0,[],rfl,fun k hk=>absurd hk (nL _),lZ,oZ,rfl⟩
  .exact absurd h1 h
theorem MC.at {lo:Nat} {w:World} {r:Rn} {F:FM} {qs:List Nat} {an:List Tm} {x:Mx} (M:MC lo w r F qs an) (hx:mC r=x.cells):x.fst=(F.m.first:Int)/\x.st=(F.st:Int)/\x.fin=F.m.fin/\x.l8=an.length/\AR w x.a8 an:=by
 have h2:(mC r)[2]?=x.cells[2]?:=by rw[hx]
 have h6:(mC r)[6]?=x.cells[6]?:=by rw[hx]
 have h7:(mC r)[7]?=x.cells[7]?:=by rw[hx]
 have h8:(mC r)[8]?=x.cells[8]?:=by rw[hx]
 simp[mC,Mx.cells]at h2 h6 h7 h8;obtain ⟨sa,ca,hav,_,hAR⟩:=uw M.anr M.all;rw[hav]at h8
 injection h8 with e1 e2 e3
 refine ⟨by rw[<-h2,M.first],by rw[<-h6,M.st],by rw[<-h7,M.fin],e2.symm,by rw[<-e1];exact hAR⟩
theorem Cz {P:Pg} {Q:Tm} (h:ck P=0/\bo Q=0):f4 P Q=0:=by
 unfold f4;rw[if_neg (by simpa using h.1)]
 exact h.2
theorem Mc (P:Pg) (Q:Tm) (steps:Int) (w:World) (hP:kg w P) (hc:P.len<=P.cap) (hQ:ay w Q):
 Calls prog 5 #[.slice P.a P.len P.cap,.slice Q.a Q.len Q.cap,iV steps] w fun e w'=>e=.returned (.bool true)/\Below w.heap.size w w':=by
 obtain ⟨ev,fV,sV,vA,hVE,hVO⟩:=Kr P Q steps;have HVE:=hid hVE;have HSo:Hid (∀W,Below w.heap.size w W->Calls prog 18 #[.slice P.a P.len P.cap,.slice Q.a Q.len Q.cap,iV steps] W (VO ev fV sV vA W)):=fun W hW=>(xq P Q steps W (hP.below hW) hc (hQ.below hW)).mono (hVO W)
 have HRu:Hid (∀W,Below w.heap.size w W->Calls prog 17 #[.slice P.a P.len P.cap,.slice Q.a Q.len Q.cap,iV steps] W (VO ev fV sV vA W)):=fun W hW=>(Br P Q steps W (hP.below hW) hc (hQ.below hW)).mono (hVO W)
 have HSt:Hid (∀W,Below w.heap.size w W->Calls prog 8 #[.slice P.a P.len P.cap,.slice Q.a Q.len Q.cap] W (R0 P Q W)):=fun W hW=>vk P Q W (hP.below hW) hc (hQ.below hW)
 have HPi:Hid (∀W,Below w.heap.size w W->kg W P/\P.len<=P.cap):=fun W hW=>⟨hP.below hW,hc⟩
 clear hP hc hQ hVE hVO
 go_enter Tryz.func5,Tryz.ntmps5
 go_wp2_with fail;refine (Rg _).mono ?_;rintro e w1 ⟨rfl,hb1⟩;have HB1:=hid hb1;clear hb1;go_wp2_with fail;refine (Rf _).mono ?_;rintro e w2 ⟨rfl,hb2⟩;have HB2:=hid (HB1.o.trans (hb2.mono HB1.o.size));clear hb2;go_wp2_with fail;refine (HRu.o w2 HB2.o).mono ?_;rintro e w3 ⟨hb3,sa,ca,an1,rfl,hA1⟩;have HB3:=hid (HB2.o.trans (hb3.mono HB2.o.size));have HA1:=hid hA1;clear hb3 hA1;obtain ⟨w3',hW3⟩: ∃W,w3.alloc (.cells #[.slice sa an1.length ca,iV fV,iV sV] 44)=W:=⟨_,rfl⟩;have HBx:Hid (Below w3.heap.size w3 w3'):=by rw[<-hW3];exact bA
 have HX3:Hid (w3'.heap[w3.heap.size]?=some (.cells #[.slice sa an1.length ca,iV fV,iV sV] 44)):=by rw[<-hW3];exact hZ w3 _
 have hz3:w3.heap.size<w3'.heap.size:=(aZ HX3.o);have HB3':=hid (HB3.o.trans (HBx.o.mono HB3.o.size));go_wp2_with fail;clear hW3;refine (HSo.o w3' HB3'.o).mono ?_;rintro e w4 ⟨hb4,sb,cb,an2,rfl,hA2⟩;have HB4:=hid hb4;have HA2:=hid hA2;clear hb4 hA2;obtain ⟨w5,hW5⟩: ∃W,w4.alloc (.cells #[.slice sb an2.length cb,iV fV,iV sV] 44)=W:=⟨_,rfl⟩;have HBy:Hid (Below w4.heap.size w4 w5):=by rw[<-hW5];exact bA
 have HX4:Hid (w5.heap[w4.heap.size]?=some (.cells #[.slice sb an2.length cb,iV fV,iV sV] 44)):=by rw[<-hW5];exact hZ w4 _
 have hz4:w4.heap.size<w5.heap.size:=(aZ HX4.o);have HB35:=hid (HB4.o.trans (HBy.o.mono HB4.o.size));have HB5:=hid (HB3'.o.trans (HB35.o.mono HB3'.o.size));have HX35:=hid ((HB35.o.block _ hz3).trans HX3.o);have HA1':=hid (HA1.o.1.below (HBx.o.trans (HB35.o.mono (Nat.le_of_lt hz3))))
 have HSR:Hid (Calls prog 19 #[.agg #[.slice sa an1.length ca,iV fV,iV sV],.agg #[.slice sb an2.length cb,iV fV,iV sV]] w5 fun e w'=>e=.returned (.bool true)/\Below w5.heap.size w5 w'):=by
  have:=C0 (sa:=sa) (sb:=sb) (ca:=ca) (cb:=cb) an1 an2 fV sV fV sV w5 HA1'.o (HA2.o.1.below HBy.o) (by have:=HA1.o.2.2.1;omega)
  rw[vd (HA1.o.2.2.2.trans HA2.o.2.2.2.symm)]at this;simp only[beq_self_eq_true,Bool.true_and]at this;exact this
 have hne:(ev !=ev)=false:=by simp
 obtain ⟨c0,c1,c2,_,_,_⟩:=ae HX35.o;obtain ⟨d0,d1,d2,_,_,_⟩:=ae HX4.o;go_wp2_with fail;clear hW5;refine HSR.o.mono ?_;rintro e w6 ⟨rfl,hb6⟩;have HB6:=hid (HB5.o.trans (hb6.mono HB5.o.size));have HX6:Hid (w6.heap[w3.heap.size]?=some (.cells #[.slice sa an1.length ca,iV fV,iV sV] 44)):=(hb6.block _ (aZ HX35.o)).trans HX35.o;have HA6:=hid (HA1'.o.below hb6);clear hb6 HSR c0 c1 c2 d0 d1 d2 hne
 by_cases hev:ev=0
 case neg=>
  have heb:=bne_iff_ne.2 hev;clear hev;go_wp2_with fail;go_ret;exact ⟨rfl,HB6.o⟩
 have hvl:=HVE.o.2 hev;subst hev;obtain ⟨⟨hs0,hs4⟩,hpq,hvA,hfV,hsV⟩:=hvl;obtain ⟨L,hL⟩: ∃L:Nat,steps=(L:Int):=⟨steps.toNat,by omega⟩
 have hL4:L<=400:=by omega
 subst hL;rw[Int.toNat_natCast]at hvA hfV hsV;have HPQ:=hid hpq;have HC:=hid ((ji hpq.1).2);have HV:Hid (vA=(ge P Q L).ans/\fV=((ge P Q L).fin:Int)/\sV=((ge P Q L).st:Int)):=⟨hvA,hfV,hsV⟩;clear hs0 hs4 hpq hvA hfV hsV;go_wp2_with fail;refine (HSt.o w6 HB6.o).mono ?_;rintro e w7 ⟨hb7,⟨h,_⟩| ⟨_,n,r,hvn,hn12,rfl,hM7⟩⟩
 .exact absurd (Cz HPQ.o) h
 obtain ⟨x,hx,hxx⟩:=hM7.open;clear hxx;have HB7:=hid (HB6.o.trans (hb7.mono HB6.o.size));have HX7:Hid (w7.heap[w3.heap.size]?=some (.cells #[.slice sa an1.length ca,iV fV,iV sV] 44)):=(hb7.block _ (aZ HX6.o)).trans HX6.o;have HA7:=hid (HA6.o.below hb7);have HM7:Hid (mC r=x.cells/\MC w6.heap.size w7 r ⟨bt Q n,[],0⟩ (List.range n) []):=⟨hx,hM7⟩;have Hvn:=hid hvn;rw[show mV r=.agg #[.slice x.a0 x.l0 x.c0,.slice x.a1 x.l1 x.c1,iV x.fst,.slice x.a3 x.l3 x.c3,.slice x.a4 x.l4 x.c4,.slice x.a5 x.l5 x.c5,iV x.st,iV x.fin,.slice x.a8 x.l8 x.c8]from by unfold mV;rw[hx];rfl]
 obtain ⟨w8,hW8⟩: ∃W,w7.alloc (.cells #[.slice x.a0 x.l0 x.c0,.slice x.a1 x.l1 x.c1,iV x.fst,.slice x.a3 x.l3 x.c3,.slice x.a4 x.l4 x.c4,.slice x.a5 x.l5 x.c5,iV x.st,iV x.fin,.slice x.a8 x.l8 x.c8] 31)=W:=⟨_,rfl⟩;have HX8:Hid (w8.heap[w7.heap.size]?=some (.cells x.cells 31)):=by rw[<-hW8];exact hZ w7 _
 have HB8:Hid (Below w7.heap.size w7 w8):=by rw[<-hW8];exact bA
 clear hb7 hx hM7 hvn;go_wp2_with fail;clear hW8
 go_loopw [8,12] (fun ev iv wr=>∃(i:Nat) (r1:Rn) (x1:Mx) (F:FM) (an:List Tm) (lo1:Nat),i<=20/\ev=iV 0/\iv=iV (i:Int)/\mC r1=x1.cells/\MC lo1 wr r1 F (List.range n) an/\LI P Q n L F/\wr.heap[w7.heap.size]?=some (.cells x1.cells 31)/\Below w7.heap.size w7 wr) (fun _ iv _=>20-(intOf iv).toNat)
 case atStart=>exact ⟨0,r,x,⟨bt Q n,[],0⟩,[],w6.heap.size,oZ,rfl,rfl,HM7.o.1,HM7.o.2.below HB8.o,LI.begin HPQ.o.2 Hvn.o hn12 hL4,HX8.o,HB8.o⟩
 case round=>
  obtain ⟨i,r1,x1,F,an,lo1,hi,rfl,rfl,hx1,hM,hLI,hk,hB⟩:=hrel;have HM:Hid (mC r1=x1.cells/\MC lo1 wr r1 F (List.range n) an):=⟨hx1,hM⟩;have HLI:=hid hLI;have HK:=hid hk;have HB:=hid hB;have HAt:=hid (hM.at hx1);have HBw:=hid (HB7.o.trans (hB.mono HB7.o.size));have hlr:w3.heap.size<w7.heap.size:=(aZ HX7.o);have hkr:w7.heap.size<wr.heap.size:=(aZ hk);obtain ⟨⟨y0,y1,y2,y3,y4⟩,⟨y5,y6,y7,y8⟩,yf⟩:=Mx.get hk;clear hx1 hM hLI hk hB
  by_cases hgo:i<20/\x1.fin=0/\(x1.fst=0\/x1.st<(L:Int))
  case neg=>
   have HX:=hid ((HB.o.block _ hlr).trans HX7.o);have HAr:=hid (HA7.o.below HB.o);have htold:=HLI.o.told HC.o HPQ.o.2 Hvn.o hn12 hL4
   have hpre:an.map br <+:an1.map br:=by
    rw[HA1.o.2.2.2,HV.o.1,HM.o.2.ans];exact htold.1
   have hle:an.length<=an1.length:=by simpa using hpre.length_le
   have hle8:x1.l8<=an1.length:=by rw[HAt.o.2.2.2.1];exact hle
   have HAs:Hid (jr an (an1.take x1.l8)=true):=vd (by
    rw[List.map_take,HAt.o.2.2.2.1];obtain ⟨t,ht⟩:=hpre;rw[<-ht,show an.length=(an.map br).length from by simp,List.take_left])
   have hgt:=decide_eq_false (by omega)
   have hgt2:=decide_eq_false (by omega)
   have hgt3: ¬(an1.length<x1.l8):=by omega
   have hgt4:=decide_eq_false (by omega)
   have hto:=N0 sa an1.length ca x1.l8 hle8 HA1.o.2.1
   have HSA:Hid (∀W,Below wr.heap.size wr W->Calls prog 15 #[.slice x1.a8 x1.l8 x1.c8,.slice sa x1.l8 ca] W fun e w'=>e=.returned (.bool true)/\Below W.heap.size W w'):=fun W hW=>by
    have hlt:(an1.take x1.l8).length=x1.l8:=by rw[List.length_take];omega
    have:=rq (sa:=x1.a8) (sb:=sa) (ca:=x1.c8) (cb:=ca) an (an1.take x1.l8) W (HAt.o.2.2.2.2.below hW) ((HAr.o.below hW).take _) (by have:=HA1.o.2.2.1;omega)
    rw[HAs.o,hlt,<-HAt.o.2.2.2.1]at this;exact this
   have HEnd:Hid (x1.fin≠0->(x1.fin==fV)=true/\(x1.st==sV)=true/\((x1.l8:Int)==(an1.length:Int))=true):=fun hf=>by
    rw[HAt.o.2.2.1]at hf;obtain ⟨q1,q2,q3⟩:=htold.2 hf;refine ⟨?_,?_,?_⟩
    .rw[HAt.o.2.2.1,HV.o.2.1];exact beq_iff_eq.2 q1
    .rw[HAt.o.2.1,HV.o.2.2,q2];exact beq_iff_eq.2 rfl
    .have h1:=congrArg List.length q3
     rw[<-HM.o.2.ans,<-HV.o.1,<-HA1.o.2.2.2,List.length_map,List.length_map]at h1;rw[HAt.o.2.2.2.1,h1];exact beq_iff_eq.2 rfl
   have HKp:Hid (∀W,Below wr.heap.size wr W->W.cell? (dZ w7.heap.size 8)=some (.slice x1.a8 x1.l8 x1.c8)/\W.cell? (dZ w3.heap.size 0)=some (.slice sa an1.length ca)):=fun W hW=>⟨(hW.cell (ag y8)).trans y8,(ae ((hW.block _ (by omega)).trans HX.o)).1⟩
   have HK2:Hid (∀W,Below wr.heap.size wr W->(W.cell? (dZ w7.heap.size 7)=some (iV x1.fin)/\W.cell? (dZ w7.heap.size 6)=some (iV x1.st)/\W.cell? (dZ w7.heap.size 8)=some (.slice x1.a8 x1.l8 x1.c8))/\W.cell? (dZ w3.heap.size 0)=some (.slice sa an1.length ca)/\W.cell? (dZ w3.heap.size 1)=some (iV fV)/\W.cell? (dZ w3.heap.size 2)=some (iV sV)):=fun W hW=>by
    obtain ⟨g0,g1,g2,_⟩:=ae ((hW.block _ (by omega)).trans HX.o)
    exact ⟨⟨(hW.cell (ag y7)).trans y7,(hW.cell (ag y6)).trans y6,(hW.cell (ag y8)).trans y8⟩,g0,g1,g2⟩
   have HB9:Hid (Below wr.heap.size wr wr):=bR
   have hex:(¬((i:Int)<20)/\(x1.fin==0)=true)\/(¬((i:Int)<20)/\(x1.fin==0)=false/\(x1.fin==fV)=true/\(x1.st==sV)=true/\((x1.l8:Int)==(an1.length:Int))=true)\/((i:Int)<20/\(x1.fin==0)=false/\(x1.fin==fV)=true/\(x1.st==sV)=true/\((x1.l8:Int)==(an1.length:Int))=true)\/((i:Int)<20/\(x1.fin==0)=true/\(x1.fst==0)=false/\¬(x1.st<(L:Int))):=by
    by_cases h1:i<20
    .by_cases h2:x1.fin=0
     .exact rZ (.inr ⟨by omega,beq_iff_eq.2 h2,bF fun h=>hgo ⟨h1,h2,.inl h⟩,fun h=>hgo ⟨h1,h2,.inr h⟩⟩)
     .exact rZ (.inl ⟨by omega,bF h2,HEnd.o h2⟩)
    .by_cases h2:x1.fin=0
     .exact .inl ⟨by omega,beq_iff_eq.2 h2⟩
     .exact .inr (.inl ⟨by omega,bF h2,HEnd.o h2⟩)
   clear hgo htold hpre hle yf
   rcases hex with ⟨g1,hfb⟩| ⟨g1,hfb,t1,t2,t3⟩| ⟨g1,hfb,t1,t2,t3⟩| ⟨g1,hfb,g2,g3⟩
   all_goals
    go_wp2_with fail
    go_region_held3 (fun W=>W.cell? (dZ w7.heap.size 8)=some (.slice x1.a8 x1.l8 x1.c8)/\W.cell? (dZ w3.heap.size 0)=some (.slice sa an1.length ca)) (first|exact HKp.o _ HB9.o|exact HKp.o _ HB9.o.drew)
     (first
       | (go_at_call 15
          refine (HSA.o _ (by first|exact HB9.o|exact HB9.o.drew)).mono ?_
          rintro e wn ⟨rfl,hb⟩;replace HB9:=hid (Below.trans (by first|exact HB9.o|exact HB9.o.drew) (hb.mono HB9.o.size))
          clear hb))
    all_goals
     obtain ⟨⟨u7,u6,u8⟩,v0,v1,v2⟩:=HK2.o _ HB9.o;have HBf:=hid (HBw.o.trans (HB9.o.mono HBw.o.size));go_wp2_with fail;go_ret;exact ⟨rfl,HBf.o⟩
  have hi20:(i:Int)<20:=by omega
  have hfb:=beq_iff_eq.2 hgo.2.1
  have HG:Hid (F.m.fin=0/\(F.m.first=0\/F.st<L)):=by
   obtain ⟨_,h2,h3⟩:=hgo;rw[HAt.o.2.2.1]at h2;rw[HAt.o.1,HAt.o.2.1]at h3;exact ⟨h2,h3.imp (fun h=>by omega) (fun h=>by omega)⟩
  have HLs:=hid (HLI.o.step HC.o hL4 HG.o.1 HG.o.2)
  have HSp:Hid (Calls prog 13 #[.slice P.a P.len P.cap,.agg #[.slice x1.a0 x1.l0 x1.c0,.slice x1.a1 x1.l1 x1.c1,iV x1.fst,.slice x1.a3 x1.l3 x1.c3,.slice x1.a4 x1.l4 x1.c4,.slice x1.a5 x1.l5 x1.c5,iV x1.st,iV x1.fin,.slice x1.a8 x1.l8 x1.c8]] wr (Qk P wr F (List.range n))):=by
   have:=yc P wr (HPi.o wr HBw.o).1 (HPi.o wr HBw.o).2 HPQ.o.1 HM.o.2 HLI.o.r HLI.o.b (by simp;omega)
   unfold mV at this;rw[HM.o.1]at this;exact this
  have hor:(x1.fst==0)=true\/((x1.fst==0)=false/\x1.st<(L:Int)):=by
   by_cases h:x1.fst=0
   .exact .inl (beq_iff_eq.2 h)
   .exact .inr ⟨bF h,hgo.2.2.resolve_left h⟩
  clear hgo yf
  rcases hor with g1| ⟨g1,g2⟩
  all_goals
   go_wp2_with fail;refine HSp.o.mono ?_;rintro e w9 ⟨r9,an9,rfl,hb9,hM9⟩;obtain ⟨y,hy,hyy⟩:=hM9.open;clear hyy;have HX9:=hid ((hb9.block _ hkr).trans HK.o);have HB9:=hid (HB.o.trans (hb9.mono HB.o.size));have HM9:Hid (mC r9=y.cells/\MC wr.heap.size w9 r9 (b9 P (List.range n) F) (List.range n) an9):=⟨hy,hM9⟩;obtain ⟨⟨z0,z1,z2,z3,z4⟩,⟨z5,z6,z7,z8⟩,zf⟩:=Mx.get HX9.o;have zf0:=zf 0;have zf1:=zf 1;have zf2:=zf 2;have zf3:=zf 3;have zf4:=zf 4;have zf5:=zf 5;have zf6:=zf 6;have zf7:=zf 7;have zf8:=zf 8;rw[show mV r9=.agg #[.slice y.a0 y.l0 y.c0,.slice y.a1 y.l1 y.c1,iV y.fst,.slice y.a3 y.l3 y.c3,.slice y.a4 y.l4 y.c4,.slice y.a5 y.l5 y.c5,iV y.st,iV y.fin,.slice y.a8 y.l8 y.c8]from by unfold mV;rw[hy];rfl]
   clear hb9 hy hM9 zf y0 y1 y2 y3 y4 y5 y6 y7 y8;go_wp2_with fail;obtain ⟨hS1,hS2⟩:=xr (x:=y) HX9.o;go_roundw
   case rel=>exact ⟨i+1,r9,y,b9 P (List.range n) F,an9,wr.heap.size,by omega,rfl,by go_num,HM9.o.1,HM9.o.2.grown HX9.o hS2 (by decide) (fun A hA=>Fj HX9.o (Dt x1) (HM9.o.2.all A hA)),HLs.o,hS1,HB9.o.grown hS2 HB9.o.size (fun k e=>by have:=oj e;omega)⟩
   case measure=>simp[intOf];omega
end
end Go.Proofs.YtmggaclaoefdaabGreat
