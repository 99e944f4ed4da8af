/- Part of the proof. -/
import Derived.Test.YtmggaclaoefdaabGreatGBI
namespace Go.Proofs.YtmggaclaoefdaabGreat
open Go.RowKit Go.Shelf Go.Proofs.Tryz
set_option linter.unusedVariables false
set_option linter.unusedSimpArgs false
set_option maxRecDepth 100000
set_option maxHeartbeats 8000000
attribute [local go_sem] Oper.semAt_some
theorem fl {c:Cl} (hk:c.k=2) (h0:0<=c.n) (nm:ByteArray) (n:Nat):di c ⟨2,(n:Int),nm⟩=gn (cd c) nm n:=by
 unfold di gn
 have h5:(c.n==(n:Int))=decide (c.n.toNat=n):=by
  rw[Bool.eq_iff_iff];simp;omega
 show ((c.k==2)&&((c.n==(n:Int))&&(c.nm.toList==nm.toList)))=((c.nm.toList==nm.toList)&&decide (c.n.toNat=n))
 rw[hk,h5,Bool.and_comm (decide _)]
 rfl
theorem mm {c:Cl} {i:Nat} (hk:c.k=2):di c (fa i)=false:=by
 unfold di fa;simp[hk]
theorem Ee (c:Cl):di c c=true:=by
 unfold di;simp
section
variable {lo:Nat} {w w':World} {s:Nat} {r:Rn} {X:PM} {qs:List Nat} {an:List Tm}
theorem MX.lt (M:MX lo w s r X qs an): ∀k,cm s r k->k<w.heap.size:=fun k hm=>by
 rcases hm with e|e|e|e|e|e
 .rw[e];exact M.mn.blk.lt
 .exact fj M.mn.hp e
 .exact fj M.mn.go e
 .exact fj M.mn.ch e
 .exact fj M.mn.tl e
 .exact fj M.mn.anr e
theorem MX.below (M:MX lo w s r X qs an) (hB:Below w.heap.size w w'):MX lo w' s r X qs an:=⟨M.mn.below hB,M.first,M.left,M.fin⟩
theorem RK.refl (w:World) (s:Nat) (r:Rn):RK w s r r:=⟨rfl,rfl,rfl,rfl,fun _ _ h=>h⟩
theorem Jp.step {w1:World} {r1:Rn} {Y:PM} {e:Ending} (hK:RK w s r r1) (hB:Bw (cm s r) w.heap.size w w1) (h:Jp lo w1 s r1 qs an Y e w'):Jp lo w s r qs an Y e w':=by
 obtain ⟨he,r',hM,hK',hB'⟩:=h;exact ⟨he,r',hM,hK.trans hK' hB.size,kz hB hK hB'⟩
theorem Ih {i:Nat} (w:World) (M:MX lo w s r X qs an) (hlo:lo<=w.heap.size) (hO:jm r.P.len qs X) (hC:i7 r.P) (hP:jc w s r) (hf:X.first=i+1) (hi:i<X.gs.length) (hg5:X.gs.length<=5000) (htr:X.tr.length<=7990000) (hcs:X.cs.length<=999999) (hl:X.left=4000) (hfin:X.fin=0):
 Calls prog 82 #[.pointer (some ⟨s,0,none⟩),.agg #[iV ((ai X).at_:Int),iV ((ai X).cut:Int),iV ((ai X).nx:Int)]] w (Jp lo w s r qs an (bn r.P X)):=by
 have HM:=hid M;have HO:Hid (jm r.P.len qs X):=hO;have HP:Hid (jc w s r):=hP;have HC:Hid (i7 r.P):=hC;have hgo:=hO.s.go i _ (lp hf hi);have hat:(ai X).at_<X.h.length:=hgo.1;have hatl:bf X<X.h.length:=hO.s.hg.end_lt hat;have Hf:Hid (X.first=i+1):=hf;have Hl:Hid (X.left=4000):=hl;have Hfin:Hid (X.fin=0):=hfin;have HXa:Hid ((w.alloc (.cells #[iV ((ai X).at_:Int),iV ((ai X).cut:Int),iV ((ai X).nx:Int)] 76)).heap[w.heap.size]?=some (.cells #[iV ((ai X).at_:Int),iV ((ai X).cut:Int),iV ((ai X).nx:Int)] 76)):=hZ _ _;have HBa:Hid (Below w.heap.size w (w.alloc (.cells #[iV ((ai X).at_:Int),iV ((ai X).cut:Int),iV ((ai X).nx:Int)] 76))):=bA;obtain ⟨ha,hcp,hhv,hhc,_,_⟩:=ak M.mn.hp;have Hhv:Hid (r.hv=.slice ha X.h.length hcp):=hhv;have hlb:X.h.length<=1000000:=by have:=hO.s.hg.ok.few;omega
 clear M hO hP hC hf hl hfin hgo hhv
 go_enter Tryz.func82,Tryz.ntmps82
 go_wp2_with fail;generalize w.alloc (.cells #[iV ((ai X).at_:Int),iV ((ai X).cut:Int),iV ((ai X).nx:Int)] 76)=wa at*;have hwa:w.heap.size<wa.heap.size:=(aZ HXa.o)
 have HHin:Hid (∀W,Below wa.heap.size wa W->HIn W ha X.h.length (ah X.h)):=fun W hW=>by
  have h1:=(HM.o.mn.below HBa.o).below hW;have h2:=h1.hp;rw[Hhv.o]at h2;exact j3.hin h2 rfl HO.o.s.hg.nmZ
 have HK2:Hid (∀W,Below wa.heap.size wa W->W.cell? ⟨s,0,none⟩=some (.slice ha X.h.length hcp)/\W.cell? ⟨w.heap.size,0,none⟩=some (iV ((ai X).at_:Int))):=fun W hW=>by
  obtain ⟨⟨q0,_⟩,_⟩:=((HM.o.mn.below HBa.o).below hW).blk.get;rw[Hhv.o]at q0;exact ⟨q0,(ae ((hW.block _ hwa).trans HXa.o)).1⟩
 have HB2:Hid (Below wa.heap.size wa wa):=bR;obtain ⟨p0,p1⟩:=HK2.o wa bR
 go_region_held3 (fun W=>W.cell? ⟨s,0,none⟩=some (.slice ha X.h.length hcp)/\W.cell? ⟨w.heap.size,0,none⟩=some (iV ((ai X).at_:Int))) ((refine HK2.o _ ?_;repeat (first|exact HB2.o|refine Below.drew ?_))) (first
  | (go_at_call 107
     refine (zo _ (HHin.o _ (by repeat (first|exact HB2.o|refine Below.drew ?_)))).mono ?_
     rintro e w5 ⟨vb,m,rfl,hV,hvb,hm,hb5⟩;have hmw:wa.heap.size<=m:=hm;replace HB2:Hid (Below wa.heap.size wa w5):=Below.trans (by repeat (first|exact HB2.o|refine Below.drew ?_)) (hb5.mono HB2.o.size)
     have HV5:Hid (VW w5 vb m ha X.h.length hcp (ah X.h) (fun _=>none)):=hV
     clear hV hvb hm hb5)
  | (go_at_call 108
     refine (kd HO.o.s.hg hlb hat _ HV5.o).mono ?_;rintro e w6 ⟨rfl,_,hg6⟩;replace HB2:Hid (Below wa.heap.size wa w6):=Below.trans HB2.o ⟨hg6.os,hg6.tape,hg6.output,hg6.size,fun k hk=>hg6.block k (lL hk HB2.o.size) (fun e=>by have:=oj e;omega)⟩
     clear hg6))
 all_goals
  have HB6:Hid (Below w.heap.size w w6):=HBa.o.trans (HB2.o.mono HBa.o.size);have HX6:Hid (w6.heap[w.heap.size]?=some (.cells #[iV ((ai X).at_:Int),iV ((ai X).cut:Int),iV ((ai X).nx:Int)] 76)):=(HB2.o.block _ hwa).trans HXa.o;rw[show aj (ah X.h) X.h.length (ai X).at_=bf X from rfl]
  obtain ⟨hb,ho,hha,r0,r1,r2⟩:=(HHin.o w6 HB2.o).row (bf X) hatl;have hn0:=HO.o.s.hg.ok.n0 _ hatl;have hatI:(bf X:Int)<(X.h.length:Int):=by omega
  obtain ⟨q0,_⟩:=HK2.o w6 HB2.o;have hs6:wa.heap.size<=w6.heap.size:=HB2.o.size;subst hha;clear HK2 HHin p0 p1;go_wp2_with fail
  have HT:Hid (bn r.P X=if (ah X.h (bf X)).k=1 then { X with fin:=4}
   else if gn (cd (ah X.h (bf X))) oc 0 then { X with cs:=X.cs.take (ai X).cut,first:=(ai X).nx}
   else if gn (cd (ah X.h (bf X))) ku 0 then { X with first:=(ai X).nx}
   else if gn (cd (ah X.h (bf X))) lj 0 then dr r.P X
   else if gn (cd (ah X.h (bf X))) Df 2 then if (lu X).ok then pd X else dr r.P (pd X)
   else match i4 r.P 0 X with
    | (Y,true)=>Y
    | (Y,false)=>dr r.P Y):=rfl
  have HEq:Hid (¬(ah X.h (bf X)).k=1->gn (cd (ah X.h (bf X))) Df 2=true->(bf X+1<X.h.length/\bf X+2<X.h.length)/\jm r.P.len qs (pd X)/\(pd X).tr.length<=X.tr.length+4000):=fun h1 h2=>⟨(Ab HO.o Hf.o hi h1 h2).2,(Dz HO.o Hf.o hi h1 h2 ⟨4000,Hl.o,lZ⟩).2⟩
  have HFree0:Hid ((ah X.h (bf X)).k=1->ah X.h (bf X)=fa (bf X:Int)):=fun h=>HO.o.s.hg.free hatl (HO.o.s.hg.end_end hat) h
  have HKd:Hid ((ah X.h (bf X)).k=1\/(ah X.h (bf X)).k=2):=HO.o.s.hg.kind _ hatl;have HK20:Hid ((ah X.h (bf X)).k=2->Hid ((ah X.h (bf X)).k=2)):=fun h=>h
  have Hn0:Hid (0<=(ah X.h (bf X)).n):=hn0;have HFr:Hid (∀W,Calls prog 109 #[iV (bf X:Int)] W fun e w'=>e=.returned (.agg #[iV 1,iV (bf X:Int),.string ⟨#[]⟩])/\Below W.heap.size W w'):=fun W=>qd _ W
  obtain ⟨ca,cp,hcv,hcp3,hcn,hcg⟩:=ak HM.o.mn.ch;have Hcv:Hid (r.cv=.slice ca X.cs.length cp/\(ca=none->X.cs.length=0/\cp=0)):=⟨hcv,hcn⟩
  have HK6:Hid (∀W,Below w6.heap.size w6 W->(W.cell? ⟨s,2,none⟩=some (iV r.first)/\W.cell? ⟨s,3,none⟩=some (.slice ca X.cs.length cp)/\W.cell? ⟨s,7,none⟩=some (iV r.fin))/\(W.frozen? ⟨s,2,none⟩=false/\W.frozen? ⟨s,3,none⟩=false/\W.frozen? ⟨s,7,none⟩=false)/\W.cell? ⟨w.heap.size,1,none⟩=some (iV ((ai X).cut:Int))/\W.cell? ⟨w.heap.size,2,none⟩=some (iV ((ai X).nx:Int))):=fun W hW=>by
   obtain ⟨⟨_,_,x2,x3,_⟩,⟨_,x7,_⟩,xf⟩:=((HM.o.mn.below HB6.o).below hW).blk.get;rw[hcv]at x3;have hbx:=ae ((hW.block _ (by omega)).trans HX6.o)
   exact ⟨⟨x2,x3,x7⟩,⟨xf 2,xf 3,xf 7⟩,hbx.2.1,hbx.2.2.1⟩
  have HB7:Hid (Below w6.heap.size w6 w6):=bR;clear r0 r1 r2 q0 hn0 hcv hcn hcg;have HK2c:Hid ((ah X.h (bf X)).k=2->(ah X.h (bf X)).k=2):=fun h=>h
  generalize hcc:ah X.h (bf X)=c at*;have Hcc:Hid (ah X.h (bf X)=c):=hcc;clear HK2c hcc
  rcases HKd.o with hk1|hk2
  case inl=>
   have HFree:Hid (c=fa (bf X:Int)):=HFree0.o hk1
   have HF:Hid (bn r.P X= { X with fin:=4}):=by rw[Hid,HT.o,if_pos hk1]
   clear hk1;have HS0:Hid (di c (fa (bf X:Int))=true):=by rw[HFree.o];exact Ee _
   have hE0: ∀W,(binOp .eql 81 (.agg #[iV c.k,iV c.n,.string c.nm]) (.agg #[iV 1,iV (bf X:Int),.string ⟨#[]⟩])).run prog W=.ok (.bool true) W:=fun W=>by have h:=we c (fa (bf X:Int)) W;rw[HS0.o]at h;exact h
   have hG0: ∀W p q,(eqGuard .eql 81 p q (.agg #[iV c.k,iV c.n,.string c.nm]) (.agg #[iV 1,iV (bf X:Int),.string ⟨#[]⟩])).run prog W=.ok () W:=fun W p q=>vz c (fa (bf X:Int)) W p q
   go_wp2_with fail;refine (HFr.o _).mono ?_;rintro e v1 ⟨rfl,hb1⟩;replace HB7:Hid (Below w6.heap.size w6 v1):=HB7.o.trans (hb1.mono HB7.o.size);clear hb1;obtain ⟨⟨s2,s3,s7⟩,⟨f2,f3,f7⟩,b1,b2⟩:=HK6.o v1 HB7.o;have HMv:Hid (MX lo v1 s r X qs an):=HM.o.below (HB6.o.trans (HB7.o.mono HB6.o.size));have HBv:Hid (Below w.heap.size w v1):=HB6.o.trans (HB7.o.mono HB6.o.size);have hvs:w.heap.size<=v1.heap.size:=HBv.o.size;have HPv:Hid (jc v1 s r):=HP.o.next (Bw.ofBelow HBv.o) (RK.refl w s r);go_wp2_with fail
   go_end0
   have h1:=HMv.o.mn.int 7 4 (r':= { r with fin:=4}) rfl ⟨rfl,rfl,rfl,rfl,rfl,rfl⟩
   refine ⟨rfl,{ r with fin:=4},?_,⟨rfl,rfl,rfl,rfl,fun _ _ h=>h⟩,(Bw.ofBelow HBv.o).grown (af s 7 _) hvs (fun k e=> .inr (.inl (oj e).symm))⟩
   rw[HF.o];exact ⟨h1,HMv.o.first,HMv.o.left,rfl⟩
  have Hk2:Hid (c.k=2):=hk2;have HK2c:Hid ((ah X.h (bf X)).k=2):=by rw[Hid,Hcc.o];exact hk2
  have Hkn:Hid (¬c.k=1):=by rw[Hid,hk2];decide
  rw[hk2]at HT;clear HFree0 HKd HK20 hk2
  have HT2:Hid (bn r.P X=if gn (cd c) oc 0 then { X with cs:=X.cs.take (ai X).cut,first:=(ai X).nx}
   else if gn (cd c) ku 0 then { X with first:=(ai X).nx}
   else if gn (cd c) lj 0 then dr r.P X
   else if gn (cd c) Df 2 then if (lu X).ok then pd X else dr r.P (pd X)
   else match i4 r.P 0 X with
    | (Y,true)=>Y
    | (Y,false)=>dr r.P Y):=by rw[Hid,HT.o,if_neg (by decide)]
  clear HT
  by_cases h1:gn (cd c) oc 0=true
  case pos=>
   have HF:Hid (bn r.P X= { X with cs:=X.cs.take (ai X).cut,first:=(ai X).nx}):=by rw[Hid,HT2.o,if_pos h1]
   clear HT2;have HS0:Hid (di c (fa (bf X:Int))=false):=mm (i:=bf X) Hk2.o;have hE0: ∀W,(binOp .eql 81 (.agg #[iV c.k,iV c.n,.string c.nm]) (.agg #[iV 1,iV (bf X:Int),.string ⟨#[]⟩])).run prog W=.ok (.bool false) W:=fun W=>by have h:=we c (fa (bf X:Int)) W;rw[HS0.o]at h;exact h
   have hG0: ∀W p q,(eqGuard .eql 81 p q (.agg #[iV c.k,iV c.n,.string c.nm]) (.agg #[iV 1,iV (bf X:Int),.string ⟨#[]⟩])).run prog W=.ok () W:=fun W p q=>vz c (fa (bf X:Int)) W p q
   have HS1:Hid (di c ⟨2,0,⟨#[33]⟩⟩=true):=(fl Hk2.o Hn0.o oc 0).trans h1;have hE1: ∀W,(binOp .eql 81 (.agg #[iV c.k,iV c.n,.string c.nm]) (.agg #[iV 2,iV 0,.string ⟨#[33]⟩])).run prog W=.ok (.bool true) W:=fun W=>by have h:=we c ⟨2,0,⟨#[33]⟩⟩ W;rw[HS1.o]at h;exact h
   have hG1: ∀W p q,(eqGuard .eql 81 p q (.agg #[iV c.k,iV c.n,.string c.nm]) (.agg #[iV 2,iV 0,.string ⟨#[33]⟩])).run prog W=.ok () W:=fun W p q=>vz c ⟨2,0,⟨#[33]⟩⟩ W p q
   clear h1;go_wp2_with fail;refine (HFr.o _).mono ?_;rintro e v2 ⟨rfl,hb2⟩;replace HB7:=hid (HB7.o.trans (hb2.mono HB7.o.size));clear hb2;go_wp2_with fail;refine (f9 ⟨#[33]⟩ 0 _).mono ?_;rintro e v3 ⟨rfl,hb3⟩;replace HB7:=hid (HB7.o.trans (hb3.mono HB7.o.size));clear hb3;obtain ⟨⟨s2,s3,s7⟩,⟨f2,f3,f7⟩,b1,b2⟩:=HK6.o v3 HB7.o;have HMv:=hid (HM.o.below (HB6.o.trans (HB7.o.mono HB6.o.size)));have HBv:=hid (HB6.o.trans (HB7.o.mono HB6.o.size));have hvs:=HBv.o.size;have HPv:=hid (HP.o.next (Bw.ofBelow HBv.o) (RK.refl w s r));clear hE0 hG0;have hcI:((ai X).cut:Int)<=(X.cs.length:Int)\/¬((ai X).cut:Int)<=(X.cs.length:Int):=by omega
   go_wp2_with fail
   go_region
   all_goals
    have hk:(if X.cs.length<(ai X).cut then (X.cs.length:Int)else ((ai X).cut:Int)).toNat=min (ai X).cut X.cs.length:=by split <;> omega
    have hct:=HMv.o.mn.cutC (k:=min (ai X).cut X.cs.length) Hcv.o.1 Hcv.o.2 (Nat.min_le_right _ _)
    have htk:X.cs.take (min (ai X).cut X.cs.length)=X.cs.take (ai X).cut:=by
     by_cases h:(ai X).cut<=X.cs.length
     .rw[Nat.min_eq_left h]
     .rw[Nat.min_eq_right (by omega),List.take_length,List.take_of_length_le (by omega)]
    rw[htk]at hct;rw[hk]
    have HMc:Hid (MN lo (v3.setCell ⟨s,3,none⟩ (.slice ca (min (ai X).cut X.cs.length) cp)).drew s { r with cv:=.slice ca (min (ai X).cut X.cs.length) cp} X.h X.gs (X.cs.take (ai X).cut) X.tr qs an):=hct.1.below (bR.drew)
    have HCo:=hid hct.2;have hg3:=af (W:=v3) s 3 (.slice ca (min (ai X).cut X.cs.length) cp);have HBc:Hid (Bw (cm s r) w.heap.size w (v3.setCell ⟨s,3,none⟩ (.slice ca (min (ai X).cut X.cs.length) cp)).drew):=((Bw.ofBelow HBv.o).grown hg3 hvs (fun k e=> .inr (.inl (oj e).symm))).trans (Bw.ofBelow ((bR.drew).mono (lT hvs hg3.size)))
    have hsl:s<w.heap.size:=HM.o.mn.blk.lt;have x2:(v3.setCell ⟨s,3,none⟩ (.slice ca (min (ai X).cut X.cs.length) cp)).drew.cell? ⟨w.heap.size,2,none⟩=some (iV ((ai X).nx:Int)):=(cB (hg3.block w.heap.size (ag b2) (fun e=>by have:=oj e;omega))).trans b2
    obtain ⟨⟨_,_,y2,_⟩,_,yf⟩:=HMc.o.blk.get;have y2':(v3.setCell ⟨s,3,none⟩ (.slice ca (min (ai X).cut X.cs.length) cp)).drew.cell? ⟨s,2,none⟩=some (iV r.first):=y2;have yf2:=yf 2;have hws:w.heap.size<=(v3.setCell ⟨s,3,none⟩ (.slice ca (min (ai X).cut X.cs.length) cp)).drew.heap.size:=HBc.o.size;generalize (v3.setCell ⟨s,3,none⟩ (.slice ca (min (ai X).cut X.cs.length) cp)).drew=x1 at*;clear s2 s3 s7 f2 f3 f7 b1 b2 hct hk htk hg3 y2 yf hE1 hG1;go_wp2_with fail
    all_goals
     go_end0
     have h1:=HMc.o.int 2 ((ai X).nx:Int) (r':= { r with cv:=.slice ca (min (ai X).cut X.cs.length) cp,first:=((ai X).nx:Int)}) rfl ⟨rfl,rfl,rfl,rfl,rfl,rfl⟩
     refine ⟨rfl,{ r with cv:=.slice ca (min (ai X).cut X.cs.length) cp,first:=((ai X).nx:Int)},?_,⟨rfl,rfl,rfl,rfl,fun k _ hm=>?_⟩,HBc.o.grown (af s 2 _) hws (fun k e=> .inr (.inl (oj e).symm))⟩
     .rw[HF.o]
      exact ⟨h1,rfl,HMv.o.left,HMv.o.fin⟩
     .rcases hm with e|e|e|e|e|e
      .exact .inl e
      .exact .inr (.inl e)
      .exact rZ (.inl e)
      .exact rZ (.inr (.inl (HCo.o▸e)))
      .exact rZ (rZ (.inl e))
      .exact rZ (rZ (.inr e))
  by_cases h2:gn (cd c) ku 0=true
  case pos=>
   have HF:Hid (bn r.P X= { X with first:=(ai X).nx}):=by rw[Hid,HT2.o,if_neg h1,if_pos h2]
   clear HT2;have HS0:Hid (di c (fa (bf X:Int))=false):=mm (i:=bf X) Hk2.o;have hE0: ∀W,(binOp .eql 81 (.agg #[iV c.k,iV c.n,.string c.nm]) (.agg #[iV 1,iV (bf X:Int),.string ⟨#[]⟩])).run prog W=.ok (.bool false) W:=fun W=>by have h:=we c (fa (bf X:Int)) W;rw[HS0.o]at h;exact h
   have hG0: ∀W p q,(eqGuard .eql 81 p q (.agg #[iV c.k,iV c.n,.string c.nm]) (.agg #[iV 1,iV (bf X:Int),.string ⟨#[]⟩])).run prog W=.ok () W:=fun W p q=>vz c (fa (bf X:Int)) W p q
   have HS1:Hid (di c ⟨2,0,⟨#[33]⟩⟩=false):=(fl Hk2.o Hn0.o oc 0).trans (by simpa using h1)
   have hE1: ∀W,(binOp .eql 81 (.agg #[iV c.k,iV c.n,.string c.nm]) (.agg #[iV 2,iV 0,.string ⟨#[33]⟩])).run prog W=.ok (.bool false) W:=fun W=>by have h:=we c ⟨2,0,⟨#[33]⟩⟩ W;rw[HS1.o]at h;exact h
   have hG1: ∀W p q,(eqGuard .eql 81 p q (.agg #[iV c.k,iV c.n,.string c.nm]) (.agg #[iV 2,iV 0,.string ⟨#[33]⟩])).run prog W=.ok () W:=fun W p q=>vz c ⟨2,0,⟨#[33]⟩⟩ W p q
   have HS2:Hid (di c ⟨2,0,⟨#[116,114,117,101]⟩⟩=true):=(fl Hk2.o Hn0.o ku 0).trans h2;have hE2: ∀W,(binOp .eql 81 (.agg #[iV c.k,iV c.n,.string c.nm]) (.agg #[iV 2,iV 0,.string ⟨#[116,114,117,101]⟩])).run prog W=.ok (.bool true) W:=fun W=>by have h:=we c ⟨2,0,⟨#[116,114,117,101]⟩⟩ W;rw[HS2.o]at h;exact h
   have hG2: ∀W p q,(eqGuard .eql 81 p q (.agg #[iV c.k,iV c.n,.string c.nm]) (.agg #[iV 2,iV 0,.string ⟨#[116,114,117,101]⟩])).run prog W=.ok () W:=fun W p q=>vz c ⟨2,0,⟨#[116,114,117,101]⟩⟩ W p q
   clear h1 h2;go_wp2_with fail;refine (HFr.o _).mono ?_;rintro e v4 ⟨rfl,hb4⟩;replace HB7:=hid (HB7.o.trans (hb4.mono HB7.o.size));clear hb4;go_wp2_with fail;refine (f9 ⟨#[33]⟩ 0 _).mono ?_;rintro e v5 ⟨rfl,hb5⟩;replace HB7:=hid (HB7.o.trans (hb5.mono HB7.o.size));clear hb5;go_wp2_with fail;refine (f9 ⟨#[116,114,117,101]⟩ 0 _).mono ?_;rintro e v6 ⟨rfl,hb6⟩;replace HB7:=hid (HB7.o.trans (hb6.mono HB7.o.size));clear hb6;obtain ⟨⟨s2,s3,s7⟩,⟨f2,f3,f7⟩,b1,b2⟩:=HK6.o v6 HB7.o;have HMv:=hid (HM.o.below (HB6.o.trans (HB7.o.mono HB6.o.size)));have HBv:Hid (Below w.heap.size w v6):=HB6.o.trans (HB7.o.mono HB6.o.size);have hvs:w.heap.size<=v6.heap.size:=HBv.o.size;have HPv:Hid (jc v6 s r):=HP.o.next (Bw.ofBelow HBv.o) (RK.refl w s r);clear hE0 hG0 hE1 hG1;go_wp2_with fail
   go_end0
   have h1:=HMv.o.mn.int 2 ((ai X).nx:Int) (r':= { r with first:=((ai X).nx:Int)}) rfl ⟨rfl,rfl,rfl,rfl,rfl,rfl⟩
   refine ⟨rfl,{ r with first:=((ai X).nx:Int)},?_,⟨rfl,rfl,rfl,rfl,fun _ _ h=>h⟩,(Bw.ofBelow HBv.o).grown (af s 2 _) hvs (fun k e=> .inr (.inl (oj e).symm))⟩
   rw[HF.o];exact ⟨h1,rfl,HMv.o.left,HMv.o.fin⟩
  by_cases h3:gn (cd c) lj 0=true
  case pos=>
   have HF:Hid (bn r.P X=dr r.P X):=by rw[Hid,HT2.o,if_neg h1,if_neg h2,if_pos h3]
   clear HT2;have HS0:Hid (di c (fa (bf X:Int))=false):=mm (i:=bf X) Hk2.o;have hE0: ∀W,(binOp .eql 81 (.agg #[iV c.k,iV c.n,.string c.nm]) (.agg #[iV 1,iV (bf X:Int),.string ⟨#[]⟩])).run prog W=.ok (.bool false) W:=fun W=>by have h:=we c (fa (bf X:Int)) W;rw[HS0.o]at h;exact h
   have hG0: ∀W p q,(eqGuard .eql 81 p q (.agg #[iV c.k,iV c.n,.string c.nm]) (.agg #[iV 1,iV (bf X:Int),.string ⟨#[]⟩])).run prog W=.ok () W:=fun W p q=>vz c (fa (bf X:Int)) W p q
   have HS1:Hid (di c ⟨2,0,⟨#[33]⟩⟩=false):=(fl Hk2.o Hn0.o oc 0).trans (by simpa using h1)
   have hE1: ∀W,(binOp .eql 81 (.agg #[iV c.k,iV c.n,.string c.nm]) (.agg #[iV 2,iV 0,.string ⟨#[33]⟩])).run prog W=.ok (.bool false) W:=fun W=>by have h:=we c ⟨2,0,⟨#[33]⟩⟩ W;rw[HS1.o]at h;exact h
   have hG1: ∀W p q,(eqGuard .eql 81 p q (.agg #[iV c.k,iV c.n,.string c.nm]) (.agg #[iV 2,iV 0,.string ⟨#[33]⟩])).run prog W=.ok () W:=fun W p q=>vz c ⟨2,0,⟨#[33]⟩⟩ W p q
   have HS2:Hid (di c ⟨2,0,⟨#[116,114,117,101]⟩⟩=false):=(fl Hk2.o Hn0.o ku 0).trans (by simpa using h2)
   have hE2: ∀W,(binOp .eql 81 (.agg #[iV c.k,iV c.n,.string c.nm]) (.agg #[iV 2,iV 0,.string ⟨#[116,114,117,101]⟩])).run prog W=.ok (.bool false) W:=fun W=>by have h:=we c ⟨2,0,⟨#[116,114,117,101]⟩⟩ W;rw[HS2.o]at h;exact h
   have hG2: ∀W p q,(eqGuard .eql 81 p q (.agg #[iV c.k,iV c.n,.string c.nm]) (.agg #[iV 2,iV 0,.string ⟨#[116,114,117,101]⟩])).run prog W=.ok () W:=fun W p q=>vz c ⟨2,0,⟨#[116,114,117,101]⟩⟩ W p q
   have HS3:Hid (di c ⟨2,0,⟨#[102,97,105,108]⟩⟩=true):=(fl Hk2.o Hn0.o lj 0).trans h3;have hE3: ∀W,(binOp .eql 81 (.agg #[iV c.k,iV c.n,.string c.nm]) (.agg #[iV 2,iV 0,.string ⟨#[102,97,105,108]⟩])).run prog W=.ok (.bool true) W:=fun W=>by have h:=we c ⟨2,0,⟨#[102,97,105,108]⟩⟩ W;rw[HS3.o]at h;exact h
   have hG3: ∀W p q,(eqGuard .eql 81 p q (.agg #[iV c.k,iV c.n,.string c.nm]) (.agg #[iV 2,iV 0,.string ⟨#[102,97,105,108]⟩])).run prog W=.ok () W:=fun W p q=>vz c ⟨2,0,⟨#[102,97,105,108]⟩⟩ W p q
   clear h1 h2 h3;go_wp2_with fail;refine (HFr.o _).mono ?_;rintro e v7 ⟨rfl,hb7⟩;replace HB7:=hid (HB7.o.trans (hb7.mono HB7.o.size));clear hb7;go_wp2_with fail;refine (f9 ⟨#[33]⟩ 0 _).mono ?_;rintro e v8 ⟨rfl,hb8⟩;replace HB7:=hid (HB7.o.trans (hb8.mono HB7.o.size));clear hb8;go_wp2_with fail;refine (f9 ⟨#[116,114,117,101]⟩ 0 _).mono ?_;rintro e v9 ⟨rfl,hb9⟩;replace HB7:=hid (HB7.o.trans (hb9.mono HB7.o.size));clear hb9;go_wp2_with fail;refine (f9 ⟨#[102,97,105,108]⟩ 0 _).mono ?_;rintro e v10 ⟨rfl,hb10⟩;replace HB7:=hid (HB7.o.trans (hb10.mono HB7.o.size));clear hb10;obtain ⟨⟨s2,s3,s7⟩,⟨f2,f3,f7⟩,b1,b2⟩:=HK6.o v10 HB7.o;have HMv:=hid (HM.o.below (HB6.o.trans (HB7.o.mono HB6.o.size)));have HBv:=hid (HB6.o.trans (HB7.o.mono HB6.o.size));have hvs:=HBv.o.size;have HPv:Hid (jc v10 s r):=HP.o.next (Bw.ofBelow HBv.o) (RK.refl w s r);clear hE0 hG0 hE1 hG1 hE2 hG2;have HBk:Hid (Calls prog 111 #[pZ s] v10 (Jp lo v10 s r qs an (dr r.P X))):=nr v10 HMv.o (by omega) HO.o HC.o HPv.o hg5 (by omega) (by omega)
   clear s2 s3 s7 f2 f3 f7 b1 b2;go_wp2_with fail;refine HBk.o.mono ?_;rintro e z hz;have HZ:Hid (Jp lo v10 s r qs an (dr r.P X) e z):=hz;obtain ⟨rfl,_⟩:=hz;go_wp2_with fail
   go_end0
   rw[HF.o];exact HZ.o.step (RK.refl w s r) (Bw.ofBelow HBv.o)
  by_cases h4:gn (cd c) Df 2=true
  case pos=>
   have HF:Hid (bn r.P X=if (lu X).ok then pd X else dr r.P (pd X)):=by rw[Hid,HT2.o,if_neg h1,if_neg h2,if_neg h3,if_pos h4]
   have HEq1:=HEq.o Hkn.o h4;clear HT2;have HS0:Hid (di c (fa (bf X:Int))=false):=mm (i:=bf X) Hk2.o;have hE0: ∀W,(binOp .eql 81 (.agg #[iV c.k,iV c.n,.string c.nm]) (.agg #[iV 1,iV (bf X:Int),.string ⟨#[]⟩])).run prog W=.ok (.bool false) W:=fun W=>by have h:=we c (fa (bf X:Int)) W;rw[HS0.o]at h;exact h
   have hG0: ∀W p q,(eqGuard .eql 81 p q (.agg #[iV c.k,iV c.n,.string c.nm]) (.agg #[iV 1,iV (bf X:Int),.string ⟨#[]⟩])).run prog W=.ok () W:=fun W p q=>vz c (fa (bf X:Int)) W p q
   have HS1:Hid (di c ⟨2,0,⟨#[33]⟩⟩=false):=(fl Hk2.o Hn0.o oc 0).trans (by simpa using h1)
   have hE1: ∀W,(binOp .eql 81 (.agg #[iV c.k,iV c.n,.string c.nm]) (.agg #[iV 2,iV 0,.string ⟨#[33]⟩])).run prog W=.ok (.bool false) W:=fun W=>by have h:=we c ⟨2,0,⟨#[33]⟩⟩ W;rw[HS1.o]at h;exact h
   have hG1: ∀W p q,(eqGuard .eql 81 p q (.agg #[iV c.k,iV c.n,.string c.nm]) (.agg #[iV 2,iV 0,.string ⟨#[33]⟩])).run prog W=.ok () W:=fun W p q=>vz c ⟨2,0,⟨#[33]⟩⟩ W p q
   have HS2:Hid (di c ⟨2,0,⟨#[116,114,117,101]⟩⟩=false):=(fl Hk2.o Hn0.o ku 0).trans (by simpa using h2)
   have hE2: ∀W,(binOp .eql 81 (.agg #[iV c.k,iV c.n,.string c.nm]) (.agg #[iV 2,iV 0,.string ⟨#[116,114,117,101]⟩])).run prog W=.ok (.bool false) W:=fun W=>by have h:=we c ⟨2,0,⟨#[116,114,117,101]⟩⟩ W;rw[HS2.o]at h;exact h
   have hG2: ∀W p q,(eqGuard .eql 81 p q (.agg #[iV c.k,iV c.n,.string c.nm]) (.agg #[iV 2,iV 0,.string ⟨#[116,114,117,101]⟩])).run prog W=.ok () W:=fun W p q=>vz c ⟨2,0,⟨#[116,114,117,101]⟩⟩ W p q
   have HS3:Hid (di c ⟨2,0,⟨#[102,97,105,108]⟩⟩=false):=(fl Hk2.o Hn0.o lj 0).trans (by simpa using h3)
   have hE3: ∀W,(binOp .eql 81 (.agg #[iV c.k,iV c.n,.string c.nm]) (.agg #[iV 2,iV 0,.string ⟨#[102,97,105,108]⟩])).run prog W=.ok (.bool false) W:=fun W=>by have h:=we c ⟨2,0,⟨#[102,97,105,108]⟩⟩ W;rw[HS3.o]at h;exact h
   have hG3: ∀W p q,(eqGuard .eql 81 p q (.agg #[iV c.k,iV c.n,.string c.nm]) (.agg #[iV 2,iV 0,.string ⟨#[102,97,105,108]⟩])).run prog W=.ok () W:=fun W p q=>vz c ⟨2,0,⟨#[102,97,105,108]⟩⟩ W p q
   have HS4:Hid (di c ⟨2,2,⟨#[101,113]⟩⟩=true):=(fl Hk2.o Hn0.o Df 2).trans h4;have hE4: ∀W,(binOp .eql 81 (.agg #[iV c.k,iV c.n,.string c.nm]) (.agg #[iV 2,iV 2,.string ⟨#[101,113]⟩])).run prog W=.ok (.bool true) W:=fun W=>by have h:=we c ⟨2,2,⟨#[101,113]⟩⟩ W;rw[HS4.o]at h;exact h
   have hG4: ∀W p q,(eqGuard .eql 81 p q (.agg #[iV c.k,iV c.n,.string c.nm]) (.agg #[iV 2,iV 2,.string ⟨#[101,113]⟩])).run prog W=.ok () W:=fun W p q=>vz c ⟨2,2,⟨#[101,113]⟩⟩ W p q
   clear h1 h2 h3 h4;go_wp2_with fail;refine (HFr.o _).mono ?_;rintro e v11 ⟨rfl,hb11⟩;replace HB7:=hid (HB7.o.trans (hb11.mono HB7.o.size));clear hb11;go_wp2_with fail;refine (f9 ⟨#[33]⟩ 0 _).mono ?_;rintro e v12 ⟨rfl,hb12⟩;replace HB7:=hid (HB7.o.trans (hb12.mono HB7.o.size));clear hb12;go_wp2_with fail;refine (f9 ⟨#[116,114,117,101]⟩ 0 _).mono ?_;rintro e v13 ⟨rfl,hb13⟩;replace HB7:=hid (HB7.o.trans (hb13.mono HB7.o.size));clear hb13;go_wp2_with fail;refine (f9 ⟨#[102,97,105,108]⟩ 0 _).mono ?_;rintro e v14 ⟨rfl,hb14⟩;replace HB7:=hid (HB7.o.trans (hb14.mono HB7.o.size));clear hb14;go_wp2_with fail;refine (f9 ⟨#[101,113]⟩ 2 _).mono ?_;rintro e v15 ⟨rfl,hb15⟩;replace HB7:=hid (HB7.o.trans (hb15.mono HB7.o.size));clear hb15;obtain ⟨⟨s2,s3,s7⟩,⟨f2,f3,f7⟩,b1,b2⟩:=HK6.o v15 HB7.o;have HMv:=hid (HM.o.below (HB6.o.trans (HB7.o.mono HB6.o.size)));have HBv:=hid (HB6.o.trans (HB7.o.mono HB6.o.size));have hvs:=HBv.o.size;have HPv:=hid (HP.o.next (Bw.ofBelow HBv.o) (RK.refl w s r));clear hE0 hG0 hE1 hG1 hE2 hG2 hE3 hG3;have HEq2:=hid HEq1
   have hM1:=HMv.o.mn.int 2 ((ai X).nx:Int) (r':= { r with first:=((ai X).nx:Int)}) rfl ⟨rfl,rfl,rfl,rfl,rfl,rfl⟩
   have HM1:=hid hM1;have HB1:Hid (Bw (cm s r) w.heap.size w (v15.setCell ⟨s,2,none⟩ (iV ((ai X).nx:Int)))):=(Bw.ofBelow HBv.o).grown (af s 2 _) hvs (fun k e=> .inr (.inl (oj e).symm))
   have hs1:=(af (W:=v15) s 2 (iV ((ai X).nx:Int))).size;have hER:lu X=jn 4001 (bf X+1) (bf X+2) (4000,X.h,[]):=by unfold lu;rw[Hl.o];rfl
   have HSm:Hid (Calls prog 112 #[pZ s,iV ((bf X:Int)+1),iV ((bf X:Int)+2)] (v15.setCell ⟨s,2,none⟩ (iV ((ai X).nx:Int))) (Tl lo (v15.setCell ⟨s,2,none⟩ (iV ((ai X).nx:Int))) s { r with first:=((ai X).nx:Int)} X.gs X.cs X.tr qs an (lu X))):=by
    have h:=F6 (n:=4000) (a:=bf X+1) (b:=bf X+2) (v15.setCell ⟨s,2,none⟩ (iV ((ai X).nx:Int))) hM1 (by omega) HO.o.s.hg HO.o.s.hg.nmZ HEq1.1.1 HEq1.1.2 lZ (by show r.left=_;rw[HMv.o.left,Hl.o];rfl) (by omega)
    rw[Hid,hER];exact h
   have hw1:IntKind.i64.wrap ((bf X:Int)+1)=(bf X:Int)+1:=by simp[IntKind.wrap,IntKind.bits,IntKind.signed];omega
   have hw2:IntKind.i64.wrap ((bf X:Int)+2)=(bf X:Int)+2:=by simp[IntKind.wrap,IntKind.bits,IntKind.signed];omega
   clear HEq1 hM1 hER;go_wp2_with fail;generalize v15.setCell ⟨s,2,none⟩ (iV ((ai X).nx:Int))=x1 at*;refine HSm.o.mono ?_;rintro e x2 ⟨rfl,tv',hM2,hB2,ho2⟩
   have HM2:Hid (MX lo x2 s { r with first:=((ai X).nx:Int),tv:=tv',left:=(lu X).left,fin:=if (lu X).left<0 then 3 else r.fin} (pd X) qs an):=⟨hM2,rfl,rfl,by show (if _ then _ else _)=(if _ then _ else _);rw[HM.o.fin]⟩
   have HK2:Hid (RK w s r { r with first:=((ai X).nx:Int),tv:=tv',left:=(lu X).left,fin:=if (lu X).left<0 then 3 else r.fin}):=⟨rfl,rfl,rfl,rfl,fun k hk hm=>by
    rcases hm with e|e|e|e|e|e
    .exact .inl e
    .exact .inr (.inl e)
    .exact rZ (.inl e)
    .exact rZ (.inr (.inl e))
    .have e2:=e
     rcases ho2 with e'| ⟨q,e',hq⟩
     .have e3:=e'
      rw[e3]at e2;exact rZ (rZ (.inl e2))
     .rw[e']at e2;have:=oj e2;have:=HB1.o.size;omega
    .exact rZ (rZ (.inr e))⟩
   have HB2':Hid (Bw (cm s r) w.heap.size w x2):=HB1.o.trans ((hB2.mono (by have:=HB1.o.size;omega)).wide fun k _ hm=>hm)
   clear hM2 hB2 ho2 s2 s3 s7 f2 f3 f7 b1 b2
   cases hok:(lu X).ok with
   |true=>
    have HF2:Hid (bn r.P X=pd X):=by rw[Hid,HF.o,if_pos hok]
    clear hok;go_wp2_with fail
    go_end0
    rw[HF2.o];exact ⟨rfl,_,HM2.o,HK2.o,HB2'.o⟩
   |false=>
    have HF2:Hid (bn r.P X=dr r.P (pd X)):=by rw[Hid,HF.o,if_neg (by rw[hok];decide)]
    clear hok
    have HBk:Hid (Calls prog 111 #[pZ s] x2 (Jp lo x2 s { r with first:=((ai X).nx:Int),tv:=tv',left:=(lu X).left,fin:=if (lu X).left<0 then 3 else r.fin} qs an (dr r.P (pd X)))):=nr x2 HM2.o (by have:=HB2'.o.size;omega) HEq2.o.2.1 HC.o (HP.o.next HB2'.o HK2.o) hg5 (by have:=HEq2.o.2.2;omega) (by show X.cs.length<=1000000;omega)
    go_wp2_with fail;refine HBk.o.mono ?_;rintro e z hz;have HZ:=hid hz;obtain ⟨rfl,_⟩:=hz;go_wp2_with fail
    go_end0
    rw[HF2.o];exact HZ.o.step HK2.o HB2'.o
  have HF:Hid (bn r.P X=match i4 r.P 0 X with
   | (Y,true)=>Y
   | (Y,false)=>dr r.P Y):=by rw[Hid,HT2.o,if_neg h1,if_neg h2,if_neg h3,if_neg h4]
  have hTO:=pz (fr:=0) HC.o HO.o Hf.o hi HK2c.o Hfin.o ⟨4000,Hl.o,lZ⟩;have HTO:=hid hTO;clear HT2 hTO;have HS0:=hid (mm (i:=bf X) Hk2.o);have hE0: ∀W,(binOp .eql 81 (.agg #[iV c.k,iV c.n,.string c.nm]) (.agg #[iV 1,iV (bf X:Int),.string ⟨#[]⟩])).run prog W=.ok (.bool false) W:=fun W=>by have h:=we c (fa (bf X:Int)) W;rw[HS0.o]at h;exact h
  have hG0: ∀W p q,(eqGuard .eql 81 p q (.agg #[iV c.k,iV c.n,.string c.nm]) (.agg #[iV 1,iV (bf X:Int),.string ⟨#[]⟩])).run prog W=.ok () W:=fun W p q=>vz c (fa (bf X:Int)) W p q
  have HS1:Hid (di c ⟨2,0,⟨#[33]⟩⟩=false):=(fl Hk2.o Hn0.o oc 0).trans (by simpa using h1)
  have hE1: ∀W,(binOp .eql 81 (.agg #[iV c.k,iV c.n,.string c.nm]) (.agg #[iV 2,iV 0,.string ⟨#[33]⟩])).run prog W=.ok (.bool false) W:=fun W=>by have h:=we c ⟨2,0,⟨#[33]⟩⟩ W;rw[HS1.o]at h;exact h
  have hG1: ∀W p q,(eqGuard .eql 81 p q (.agg #[iV c.k,iV c.n,.string c.nm]) (.agg #[iV 2,iV 0,.string ⟨#[33]⟩])).run prog W=.ok () W:=fun W p q=>vz c ⟨2,0,⟨#[33]⟩⟩ W p q
  have HS2:Hid (di c ⟨2,0,⟨#[116,114,117,101]⟩⟩=false):=(fl Hk2.o Hn0.o ku 0).trans (by simpa using h2)
  have hE2: ∀W,(binOp .eql 81 (.agg #[iV c.k,iV c.n,.string c.nm]) (.agg #[iV 2,iV 0,.string ⟨#[116,114,117,101]⟩])).run prog W=.ok (.bool false) W:=fun W=>by have h:=we c ⟨2,0,⟨#[116,114,117,101]⟩⟩ W;rw[HS2.o]at h;exact h
  have hG2: ∀W p q,(eqGuard .eql 81 p q (.agg #[iV c.k,iV c.n,.string c.nm]) (.agg #[iV 2,iV 0,.string ⟨#[116,114,117,101]⟩])).run prog W=.ok () W:=fun W p q=>vz c ⟨2,0,⟨#[116,114,117,101]⟩⟩ W p q
  have HS3:Hid (di c ⟨2,0,⟨#[102,97,105,108]⟩⟩=false):=(fl Hk2.o Hn0.o lj 0).trans (by simpa using h3)
  have hE3: ∀W,(binOp .eql 81 (.agg #[iV c.k,iV c.n,.string c.nm]) (.agg #[iV 2,iV 0,.string ⟨#[102,97,105,108]⟩])).run prog W=.ok (.bool false) W:=fun W=>by have h:=we c ⟨2,0,⟨#[102,97,105,108]⟩⟩ W;rw[HS3.o]at h;exact h
  have hG3: ∀W p q,(eqGuard .eql 81 p q (.agg #[iV c.k,iV c.n,.string c.nm]) (.agg #[iV 2,iV 0,.string ⟨#[102,97,105,108]⟩])).run prog W=.ok () W:=fun W p q=>vz c ⟨2,0,⟨#[102,97,105,108]⟩⟩ W p q
  have HS4:Hid (di c ⟨2,2,⟨#[101,113]⟩⟩=false):=(fl Hk2.o Hn0.o Df 2).trans (by simpa using h4)
  have hE4: ∀W,(binOp .eql 81 (.agg #[iV c.k,iV c.n,.string c.nm]) (.agg #[iV 2,iV 2,.string ⟨#[101,113]⟩])).run prog W=.ok (.bool false) W:=fun W=>by have h:=we c ⟨2,2,⟨#[101,113]⟩⟩ W;rw[HS4.o]at h;exact h
  have hG4: ∀W p q,(eqGuard .eql 81 p q (.agg #[iV c.k,iV c.n,.string c.nm]) (.agg #[iV 2,iV 2,.string ⟨#[101,113]⟩])).run prog W=.ok () W:=fun W p q=>vz c ⟨2,2,⟨#[101,113]⟩⟩ W p q
  clear h1 h2 h3 h4;go_wp2_with fail;refine (HFr.o _).mono ?_;rintro e v16 ⟨rfl,hb16⟩;replace HB7:=hid (HB7.o.trans (hb16.mono HB7.o.size));clear hb16;go_wp2_with fail;refine (f9 ⟨#[33]⟩ 0 _).mono ?_;rintro e v17 ⟨rfl,hb17⟩;replace HB7:=hid (HB7.o.trans (hb17.mono HB7.o.size));clear hb17;go_wp2_with fail;refine (f9 ⟨#[116,114,117,101]⟩ 0 _).mono ?_;rintro e v18 ⟨rfl,hb18⟩;replace HB7:=hid (HB7.o.trans (hb18.mono HB7.o.size));clear hb18;go_wp2_with fail;refine (f9 ⟨#[102,97,105,108]⟩ 0 _).mono ?_;rintro e v19 ⟨rfl,hb19⟩;replace HB7:=hid (HB7.o.trans (hb19.mono HB7.o.size));clear hb19;go_wp2_with fail;refine (f9 ⟨#[101,113]⟩ 2 _).mono ?_;rintro e v20 ⟨rfl,hb20⟩;replace HB7:=hid (HB7.o.trans (hb20.mono HB7.o.size));clear hb20;obtain ⟨⟨s2,s3,s7⟩,⟨f2,f3,f7⟩,b1,b2⟩:=HK6.o v20 HB7.o;have HMv:=hid (HM.o.below (HB6.o.trans (HB7.o.mono HB6.o.size)));have HBv:=hid (HB6.o.trans (HB7.o.mono HB6.o.size));have hvs:=HBv.o.size;have HPv:=hid (HP.o.next (Bw.ofBelow HBv.o) (RK.refl w s r));clear hE0 hG0 hE1 hG1 hE2 hG2 hE3 hG3;have HTr:Hid (Calls prog 113 #[pZ s,iV 0] v20 (Rs lo v20 s r qs an (i4 r.P 0 X))):=Bp (i:=i) (fr:=0) v20 HMv.o (by omega) HO.o.s.hg Hf.o hi hg5 hat HK2c.o oZ HPv.o (fun _=>⟨4000,Hl.o,lZ⟩) (by omega) (by omega)
  clear s2 s3 s7 f2 f3 f7 b1 b2;go_wp2_with fail;refine HTr.o.mono ?_;rintro e x2 ⟨rfl,r2,hM2,hK2,hB2⟩;have HK2:=hid ((RK.refl w s r).trans hK2 hvs);have HB2':Hid (Bw (cm s r) w.heap.size w x2):=kz (Bw.ofBelow HBv.o) (RK.refl w s r) hB2;clear hK2 hB2 HTr;obtain ⟨q,hq⟩: ∃q,i4 r.P 0 X=q:=⟨_,rfl⟩;rw[hq]at hM2 HTO HF |-;obtain ⟨Z,ok⟩:=q;have HM2:Hid (MX lo x2 s r2 Z qs an):=hM2;clear hM2 hq
  cases ok with
  |true=>
   have HF2:Hid (bn r.P X=Z):=HF.o;go_wp2_with fail
   go_end0
   rw[HF2.o];exact ⟨rfl,_,HM2.o,HK2.o,HB2'.o⟩
  |false=>
   have HF2:Hid (bn r.P X=dr r.P Z):=HF.o;obtain ⟨_,lf,fn,hZ,_⟩:=HTO.o.resolve_right (fun h=>by cases h.1)
   have hZ':Z= { X with left:=lf,fin:=fn}:=hZ
   have HOz:Hid (jm r.P.len qs Z):=by rw[Hid,hZ'];exact HO.o.same rfl rfl rfl HO.o.fst rfl
   have hZs:Z.cs.length<=1000000/\Z.gs.length<=5000/\Z.tr.length<=8000000:=by rw[hZ'];exact ⟨by show X.cs.length<=_;omega,hg5,by show X.tr.length<=_;omega⟩
   have hP2:r2.P=r.P:=HK2.o.P
   have HBk:Hid (Calls prog 111 #[pZ s] x2 (Jp lo x2 s r2 qs an (dr r.P Z))):=by
    have h:=nr x2 HM2.o (by have:=HB2'.o.size;omega) (by rw[hP2];exact HOz.o) (by rw[hP2];exact HC.o) (HP.o.next HB2'.o HK2.o) hZs.2.1 hZs.2.2 hZs.1
    rw[hP2]at h;exact h
   clear hZ hZ' hZs;go_wp2_with fail;refine HBk.o.mono ?_;rintro e z hz;have HZ:=hid hz;obtain ⟨rfl,_⟩:=hz;go_wp2_with fail
   go_end0
   rw[HF2.o];exact HZ.o.step HK2.o HB2'.o
end
end Go.Proofs.YtmggaclaoefdaabGreat
