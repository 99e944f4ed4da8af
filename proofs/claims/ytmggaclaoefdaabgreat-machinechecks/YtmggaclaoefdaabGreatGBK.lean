/- Part of the proof. Part of the proof. Part of the proof. -/
import Derived.Test.YtmggaclaoefdaabGreatSq0
import Derived.Test.YtmggaclaoefdaabGreatGBH
import Derived.Test.YtmggaclaoefdaabGreatGAX
namespace Go.Proofs.YtmggaclaoefdaabGreat
open Go.RowKit
set_option linter.unusedVariables false
set_option linter.unusedSimpArgs false
structure StS (n:Nat) (qs:List Nat) (σ:Sg) (last:Int) (gl:List Gl) (h:List Cl) (gs:List Gq) (first:Nat) (κ:Int→Nat) (D:Int→Prop):Prop where
 hr:HR σ (hOf h) h.length κ D
 dl: ∀u,D u→u≤last
 sl: ∀u,last<u→σ u=none
 l0:0≤last
 ch:Chn (Rep σ (hOf h) h.length κ D) gs first gl
 ql:qs.length=n
 qr: ∀(i x:Nat),qs[i]?=some x→Rep σ (hOf h) h.length κ D x (vT ((i:Int)+1))
theorem StS.mono {n:Nat} {qs:List Nat} {σ:Sg} {last last':Int} {gl:List Gl} {h:List Cl} {gs:List Gq} {first:Nat} {κ:Int→Nat} {D:Int→Prop} (S:StS n qs σ last gl h gs first κ D) (hl:last≤last'):StS n qs σ last' gl h gs first κ D:=
 ⟨S.hr,fun u hu=>Int.le_trans (S.dl u hu) hl,fun u hu=>S.sl u (Int.lt_of_le_of_lt hl hu),Int.le_trans S.l0 hl,S.ch,S.ql,S.qr⟩
theorem ahP_len119 {f:Nat→Tm} {c n:Nat} (hO: ∀i,i<n→Okv 12 (f i)∧cnt (f i)≤60) (l:List Nat): ∀q:AhS,(∀i∈l,i<n)→(ahP f c l q).1.1.length≤q.1.1.length+119*l.length:=by
 induction l with
 |nil=>intro q _;exact Nat.le_add_right _ _
 |cons i l ih=>
  intro q hl;have hi:=hO i (hl i List.mem_cons_self);have h1:=ih (ahS f c q i) (fun k hk=>hl k (List.mem_cons_of_mem _ hk))
  have h2:=(putT_len hi.1 q.1).2;have h3:(ahS f c q i).1.1.length=(putT (f i) q.1).1.1.length:=rfl;have e:ahP f c (i::l) q=ahP f c l (ahS f c q i):=rfl;rw[e,List.length_cons];have:=hi.2;omega
section
variable {n:Nat} {qs:List Nat} {σ:Sg} {last off:Int} {S:Tm} {cc:Nat} {rest:List Gl} {X:PM} {i:Nat} {κ:Int→Nat} {D:Int→Prop}
theorem StS.goal (h:StS n qs σ last ((S,cc)::rest) X.h X.gs X.first κ D): ∃i,X.first=i+1∧i<X.gs.length∧X.gs[i]?=some (goalM X)∧(goalM X).cut=cc∧Rep σ (hOf X.h) X.h.length κ D (goalM X).at_ S∧Chn (Rep σ (hOf X.h) X.h.length κ D) X.gs (goalM X).nx rest:=by
 have hc:=h.ch;generalize hfi:X.first=fi at hc
 cases hc with
 |cons h1 h2 h3 h4=>
  rename_i i g;have hi:=(List.getElem?_eq_some_iff.1 h1).1;have hg:=goal_get hfi hi;rw[h1]at hg;have hg':=Option.some.inj hg;subst hg';exact ⟨i,rfl,hi,h1,h2,h3,h4⟩
theorem enter_sim {H B:Tm} {L:Nat} (hSt:StS n qs σ last ((S,cc)::rest) X.h X.gs X.first κ D) (hoff:last≤off) (hH:Okv 12 H∧err H=0∧cnt H≤60) (hBl:B.len≤6) (hB: ∀i,i<B.len→Okv 12 (B.f i)∧err (B.f i)=0∧cnt (B.f i)≤60) (hL:X.left=(L:Int)) (hh:X.h.length+833≤400000) (hg:X.gs.length+6≤5000):
 match meetF (L+1) σ L [(ap (ownV off) H,wha σ S)]with
 | .over=>(enterP H B (atM X) (goalM X).nx X).2=false∧(enterP H B (atM X) (goalM X).nx X).1.fin=3
 | .no k=>(enterP H B (atM X) (goalM X).nx X).2=false∧(enterP H B (atM X) (goalM X).nx X).1.fin=X.fin∧(enterP H B (atM X) (goalM X).nx X).1.left=(k:Int)
 | .yes _ σ'=>(enterP H B (atM X) (goalM X).nx X).2=true∧(∃κ' D',StS n qs σ' (off+12) ((List.range B.len).map (fun i=>(ap (ownV off) (B.f i),X.cs.length))++rest) (enterP H B (atM X) (goalM X).nx X).1.h (enterP H B (atM X) (goalM X).nx X).1.gs (enterP H B (atM X) (goalM X).nx X).1.first κ' D')∧(enterP H B (atM X) (goalM X).nx X).1.h.length≤X.h.length+833∧(enterP H B (atM X) (goalM X).nx X).1.gs.length≤X.gs.length+6:=by
 obtain ⟨i,hf,hi,hgi,hcut,hrep,hchn⟩:=hSt.goal;have hG:=hSt.hr.hg;have hat:atM X<X.h.length:=hG.end_lt hrep.lt;have hPo:PutO X.h.length (X.h,nosub) H (enP H X):=putT_po H hH.2.1 (X.h,nosub) (nosub_put X.h);have hBs:Base σ X.h κ D off nosub:=⟨hSt.hr,fun v c h=>(by cases h),fun v _ hv=>⟨fun hd=>by have:=hSt.dl _ hd;omega,hSt.sl _ (by omega)⟩,Int.le_trans hSt.l0 hoff⟩
 have hG0:Grw X.h nosub (X.h,nosub):=⟨nosub_put X.h,fun _ _=>rfl,fun _ _ h=>h,fun _ _ h=> .inl h,⟨fun u v c h=>(by cases h),fun v c h=>(by cases h)⟩,fun v c h=>(by cases h)⟩
 have hG1:Grw X.h nosub (enP H X).1:=hG0.put hH.1 hH.2.1;have hl1:(enP H X).1.1.length+1≤X.h.length+2*cnt H:=(putT_len hH.1 (X.h,nosub)).2;have hl1':(enP H X).1.1.length≤400000:=by have:=hH.2.2;omega
 have hHR1:=hG1.hr hBs hl1';obtain ⟨t,ht,htl,hbd⟩:=hPo.at_;have rH:Rep σ (hOf (enP H X).1.1) (enP H X).1.1.length (κg D κ off (enP H X).1) (Dg D off nosub (enP H X).1) t (ap (ownV off) H):=hG1.term hBs hl1' (Nat.le_refl _) hbd;have rS:Rep σ (hOf X.h) X.h.length κ D (atM X) (wha σ S):=hrep.end_ hSt.hr (wha_wha hSt.hr.dec hrep.nn) (wha_nn hSt.hr.dec hrep.nn)
 have hER:enR H (atM X) X=smH (L+1) t (atM X) (L,(enP H X).1.1,[]):=by
  unfold enR;rw[ht,hL,Int.toNat_natCast,Int.toNat_natCast]
 have hSm:=sm_meet (Dg D off nosub (enP H X).1) (L+1) t (atM X) L (enP H X).1.1 [] σ (κg D κ off (enP H X).1) (ap (ownV off) H) (wha σ S) (Nat.lt_succ_self _) hHR1 rH (hG1.rep hBs rS);rw[←hER]at hSm
 have hlR:(enR H (atM X) X).l.length=(enP H X).1.1.length:=by
  have hG3:HG (hOf (enP H X).1.1) (enP H X).1.1.length:=hHR1.hg;have:(enR H (atM X) X).Good (L,(enP H X).1.1,[]):=by rw[hER];exact smH_good _ _ _ _ ⟨hG3,hG3.nmZ⟩ htl (by show atM X<(enP H X).1.1.length;have:X.h.length≤(enP H X).1.1.length:=hPo.len;omega)
  exact this.len
 have hf1: ¬fullB (enP H X).1.1 X.gs=true:=by
  unfold fullB;simp;omega
 unfold enterP;rw[if_neg hf1]
 cases hr:enR H (atM X) X with
 |no x l' bs'=>
  rw[hr]at hSm;rw[if_pos (show (MR.no x l' bs').ok=false from rfl)]
  rcases hSm with ⟨hx,hm⟩| ⟨k,hx,hm⟩
  ·have:=hm (L+1) [] (Nat.lt_succ_self _)
   rw[List.append_nil]at this;rw[this];subst hx;exact ⟨rfl,rfl⟩
  ·have:=hm (L+1) [] (Nat.lt_succ_self _)
   rw[List.append_nil]at this;rw[this];subst hx;refine ⟨rfl,?_,rfl⟩
   show (if (k:Int)<0 then (3:Int)else X.fin)=X.fin
   rw[if_neg (by omega)]
 |yes s=>
  rw[hr]at hSm;obtain ⟨σ',κ2,hHR2,hR2,_,hd2,hm⟩:=hSm;obtain ⟨F',hF',e⟩:=hm (L+1) [] (Nat.lt_succ_self _);rw[List.append_nil]at e;obtain ⟨F,rfl⟩: ∃F,F'=F+1:=⟨F'-1,by omega⟩
  have e':meetF (L+1) σ L [(ap (ownV off) H,wha σ S)]=.yes s.1 σ':=e;rw[e',if_neg (show¬(MR.yes s).ok=false by simp[MR.ok])]
  have hls:s.2.1.length=(enP H X).1.1.length:=by rw[hr]at hlR;exact hlR
  have hl0:(enR H (atM X) X).l=s.2.1:=by rw[hr];rfl
  have hB2: ∀i,i<B.len→Okv 12 (B.f i)∧err (B.f i)=0:=fun i hi=>⟨(hB i hi).1,(hB i hi).2.1⟩
  have hbl: ∀i∈bwL B.len,i<B.len:=fun i hi=>by simpa[bwL]using hi
  have hGm:=grw_meet (at':=atM X) hG hH.2.1 hH.1 hlR;rw[hl0]at hGm;have hAl:(enA H B (atM X) (goalM X).nx X)=ahP B.f X.cs.length (bwL B.len) ((s.2.1,(enP H X).1.2),X.gs,(goalM X).nx):=by unfold enA;rw[hl0]
  have hA:=Grw.ahP (c:=X.cs.length) hB2 (bwL B.len) ((s.2.1,(enP H X).1.2),X.gs,(goalM X).nx) hbl hGm;have hA119:=ahP_len119 (c:=X.cs.length) (fun i hi=>⟨(hB i hi).1,(hB i hi).2.2⟩) (bwL B.len) ((s.2.1,(enP H X).1.2),X.gs,(goalM X).nx) hbl
  have hgl:=ahP_goals (c:=X.cs.length) hB2 (bwL B.len) ((s.2.1,(enP H X).1.2),X.gs,(goalM X).nx) hbl hGm.pi (by
   have hgo:(goalM X).nx≤X.gs.length:=by
    have hc:=hchn;generalize (goalM X).nx=z at hc
    cases hc with
    |nil=>exact Nat.zero_le _
    |cons h1 _ _ _=>exact (List.getElem?_eq_some_iff.1 h1).1
   exact hgo)
  have hCh:=fun(R:Nat→Tm→Prop)=>ahP_chn (R:=R) (θ:=fun i=>ap (ownV off) (B.f i)) (c:=X.cs.length) hB2 (bwL B.len) ((s.2.1,(enP H X).1.2),X.gs,(goalM X).nx) rest hbl hGm
  rw[bwL_len]at hA119 hgl;rw[←hAl]at hA hA119 hgl hCh;have hc60:=hH.2.2;have hA119':(enA H B (atM X) (goalM X).nx X).1.1.length≤s.2.1.length+119*B.len:=hA119;have hgl':(enA H B (atM X) (goalM X).nx X).2.1.length=X.gs.length+B.len:=hgl.2.2.1
  have hf2: ¬fullB (enA H B (atM X) (goalM X).nx X).1.1 (enA H B (atM X) (goalM X).nx X).2.1=true:=by
   unfold fullB;simp;omega
  rw[if_neg hf2];have hl3:(enA H B (atM X) (goalM X).nx X).1.1.length≤X.h.length+833:=by omega
  have hD1: ∀u,Dg D off nosub (enP H X).1 u→u≤off+12:=fun u hu=>by
   rcases hu with h| ⟨v,c,_,h2,rfl⟩
   ·have:=hSt.dl u h;omega
   ·have:=(hG1.pos v c h2).2;omega
  have hBs2:Base σ' s.2.1 κ2 (Dg D off nosub (enP H X).1) off (enP H X).1.2:=by
   refine ⟨hHR2,fun v c h=>?_,fun v hv hp=>?_,hBs.off⟩
   ·obtain ⟨y,ey,hy,_⟩:=hG1.pi.var v c h
    exact ⟨y,ey,by omega,hR2 _ _ (hG1.var hBs (by rw[h,ey]))⟩
   ·have hnd: ¬Dg D off nosub (enP H X).1 (off+v):=fun hd=>by
     rcases hd with h| ⟨v',c,_,h2,h3⟩
     ·exact (hBs.new v rfl hp).1 h
     ·have:v=v':=by omega
      subst this;rw[hv]at h2;cases h2
    exact ⟨hnd,(hd2 _ hnd).trans (hBs.new v rfl hp).2⟩
  refine ⟨rfl,⟨κg (Dg D off nosub (enP H X).1) κ2 off (enA H B (atM X) (goalM X).nx X).1,Dg (Dg D off nosub (enP H X).1) off (enP H X).1.2 (enA H B (atM X) (goalM X).nx X).1,hA.1.hr hBs2 (by omega),fun u hu=>?_,fun u hu=>?_,by have:=hBs.off;omega,?_,hSt.ql,fun j x hx=>hA.1.rep hBs2 (hR2 _ _ (hG1.rep hBs (hSt.qr j x hx)))⟩,hl3,by show (enA H B (atM X) (goalM X).nx X).2.1.length≤_;omega⟩
  ·rcases hu with h| ⟨v,c,_,h2,rfl⟩
   ·exact hD1 u h
   ·have:=(hA.1.pos v c h2).2;omega
  ·have hnd: ¬Dg D off nosub (enP H X).1 u:=fun h=>by have:=hD1 u h;omega
   rw[hd2 u hnd];exact hSt.sl u (by omega)
  ·have:=hCh (Rep σ' (hOf (enA H B (atM X) (goalM X).nx X).1.1) (enA H B (atM X) (goalM X).nx X).1.1.length (κg (Dg D off nosub (enP H X).1) κ2 off (enA H B (atM X) (goalM X).nx X).1) (Dg (Dg D off nosub (enP H X).1) off (enP H X).1.2 (enA H B (atM X) (goalM X).nx X).1)) (fun i hi t lo hb=>hA.1.term hBs2 (by omega) (Nat.le_refl _) hb) (hchn.imp fun a u r=>hA.1.rep hBs2 (hR2 _ _ (hG1.rep hBs r)))
   have e3:(bwL B.len).reverse=List.range B.len:=by unfold bwL;rw[List.reverse_reverse]
   rw[e3]at this;exact this
end
end Go.Proofs.YtmggaclaoefdaabGreat

namespace Go.Proofs.YtmggaclaoefdaabGreat
open Go.RowKit
set_option linter.unusedVariables false
set_option linter.unusedSimpArgs false
theorem fitP_congr {P:Cls} {t u:Tm} (h1:t.nm=u.nm) (h2:t.len=u.len) (i:Nat):fitP P t i=fitP P u i:=by unfold fitP;rw[h1,h2]
theorem tryF_fin {P:Pg} {t:Tm} {was:Chq} {at' nx:Nat}: ∀(f i:Nat) {X:PM},X.fin≠0→tryF P t was at' nx f i X=(X,false):=by
 intro f i X h
 cases f with
 |zero=>rfl
 |succ f=>
  unfold tryF
  cases fitP (cls P) t i with
  |none=>rfl
  |some j=>exact if_pos h
theorem enter_yes {H B:Tm} {at' nx:Nat} {X:PM} (h:(enterP H B at' nx X).2=true):(enterP H B at' nx X).1.fin=X.fin:=by
 unfold enterP at h ⊢
 by_cases h1:fullB (enP H X).1.1 X.gs=true
 ·rw[if_pos h1]at h;cases h
 rw[if_neg h1]at h ⊢
 by_cases h2:(enR H at' X).ok=false
 ·rw[if_pos h2]at h;cases h
 rw[if_neg h2]at h ⊢
 by_cases h3:fullB (enA H B at' nx X).1.1 (enA H B at' nx X).2.1=true
 ·rw[if_pos h3]at h;cases h
 rw[if_neg h3]
 show (if (enR H at' X).left<0 then (3:Int)else X.fin)=X.fin
 have hok':(enR H at' X).ok=true:=by simpa using h2
 rw[if_neg]
 cases hr:enR H at' X with
 |yes s=>show¬((s.1:Int))<0;omega
 |no a b c=>rw[hr]at hok';cases hok'
structure TrS (n:Nat) (qs:List Nat) (X:PM) (Y:PS) (gl:List Gl) (q:PM × Bool) (p:PS × Bool):Prop where
 ok:q.2=p.2
 kp:p.1.ans=Y.ans∧p.1.st=Y.st∧Y.last≤p.1.last
 fin:q.1.fin=(p.1.fin:Int)
 no:p.2=false→p.1.ch=Y.ch∧∃lf fn:Int,q.1= { X with left:=lf,fin:=fn}
 yes:p.2=true→p.1.fin=0∧(∃κ D,StS n qs p.1.σ p.1.last p.1.gl q.1.h q.1.gs q.1.first κ D)∧Ext X q.1∧q.1.h.length≤X.h.length+833∧q.1.gs.length≤X.gs.length+6∧((q.1.cs=X.cs∧p.1.ch=Y.ch)∨∃k,q.1.cs=X.cs++ [{ wasM X with cl:=k}]∧p.1.ch=Y.ch++ [⟨gl,k,Y.σ⟩])
section
variable {n:Nat} {qs:List Nat} {σ:Sg} {last:Int} {S:Tm} {cc:Nat} {rest:List Gl} {X:PM} {κ:Int→Nat} {D:Int→Prop} {P:Pg}
theorem try_simM (hC:ClOk P) (hSt:StS n qs σ last ((S,cc)::rest) X.h X.gs X.first κ D) (hh:X.h.length+833≤400000) (hg:X.gs.length+6≤5000) (hgo: ∀(i:Nat) (g:Gq),X.gs[i]?=some g→g.at_<X.h.length∧g.nx≤i) {T:Tm} (hT:T.nm=(wha σ S).nm∧T.len=(wha σ S).len):
 ∀(f k L:Nat) (Y:PS),Y.σ=σ→last≤Y.last→Y.fin=0→Y.ch.length=X.cs.length→L≤4000→TrS n qs X Y ((S,cc)::rest) (tryF P T (wasM X) (atM X) (goalM X).nx f k { X with left:=(L:Int),fin:=0}) (tryP (cls P) ((S,cc)::rest) (wha σ S) f k Y L):=by
 obtain ⟨i,hf,hi,hgi,hcut,hrep,hchn⟩:=hSt.goal;have hatl:atM X<X.h.length:=hSt.hr.hg.end_lt hrep.lt;intro f
 induction f with
 |zero=>
  intro k L Y hσ hl hfin hch hL;exact ⟨rfl,⟨rfl,rfl,Int.le_refl _⟩,by show (0:Int)=(Y.fin:Int);rw[hfin];rfl,fun _=>⟨rfl,_,_,rfl⟩,fun h=>by cases h⟩
 |succ f ih=>
  intro k L Y hσ hl hfin hch hL;subst hσ;rw[tryF,tryP,fitP_congr hT.1 hT.2]
  cases hfit:fitP (cls P) (wha Y.σ S) k with
  |none=>exact ⟨rfl,⟨rfl,rfl,Int.le_refl _⟩,by show (0:Int)=(Y.fin:Int);rw[hfin];rfl,fun _=>⟨rfl,_,_,rfl⟩,fun h=>by cases h⟩
  |some j=>
   have hj:=(fit_bd hfit).2;rw[cls_len]at hj;have hhd:=hC.hd j hj;have hbd:=hC.bd j hj;have hbd': ∀i,i<(P.bd j).len→Okv 12 ((P.bd j).f i)∧err ((P.bd j).f i)=0∧cnt ((P.bd j).f i)≤1000:=fun i hi=>⟨(hbd.2 i hi).1,(hbd.2 i hi).2.1,by have:=(hbd.2 i hi).2.2;omega⟩
   have hG1:HG (hOf { X with left:=(L:Int),fin:=0}.h) { X with left:=(L:Int),fin:=0}.h.length:=hSt.hr.hg
   have hSt':StS n qs Y.σ last ((S,cc)::rest) ({ X with left:=(L:Int),fin:=0}:PM).h ({ X with left:=(L:Int),fin:=0}:PM).gs ({ X with left:=(L:Int),fin:=0}:PM).first κ D:=hSt
   have hS:=enter_sim (X:= { X with left:=(L:Int),fin:=0}) (off:=Y.last) (L:=L) hSt' hl hhd hbd.1 hbd.2 rfl hh hg
   have hU:=undo_enter (n:=L) (nx:=(goalM X).nx) (X:= { X with left:=(L:Int),fin:=0}) hG1 hhd.2.1 hhd.1 hbd' hatl rfl
   have hGr:=enter_grow (n:=L) (nx:=(goalM X).nx) (X:= { X with left:=(L:Int),fin:=0}) hG1 hhd.2.1 hbd' hatl rfl hL rfl
   have hE:=(enter_ext (H:=P.hd j) (B:=P.bd j) (at':=atM X) (nx:=(goalM X).nx) (n:=L) (X:= { X with left:=(L:Int),fin:=0}) hG1 hhd.2.1 hhd.1 hbd.2 hatl rfl).1
   have hFi:=enter_yes (H:=P.hd j) (B:=P.bd j) (at':=atM X) (nx:=(goalM X).nx) (X:= { X with left:=(L:Int),fin:=0})
   have e1:atM { X with left:=(L:Int),fin:=0} =atM X:=rfl
   have e2:goalM { X with left:=(L:Int),fin:=0} =goalM X:=rfl
   rw[e1,e2]at hS
   show TrS n qs X Y ((S,cc)::rest) (if (0:Int)≠0 then _ else _) _
   rw[if_neg (by simp)]
   show TrS n qs X Y ((S,cc)::rest) (match enterP (P.hd j) (P.bd j) (atM X) (goalM X).nx { X with left:=(L:Int),fin:=0} with
    | (Y,true)=>(match fitP (cls P) T (j+1)with
      |none=>Y
      |some k=> { Y with cs:=Y.cs++ [{ wasM X with cl:=k}]},true)
    | (Y,false)=>tryF P T (wasM X) (atM X) (goalM X).nx f (j+1) (undoP (wasM X) Y)) (match meetF (L+1) Y.σ L [(ap (ownV Y.last) ((cls P).getD j (.nil,[])).1,wha Y.σ S)]with
   | .over=>({ Y with last:=Y.last+12,fin:=3},false)
   | .no L'=>tryP (cls P) ((S,cc)::rest) (wha Y.σ S) f (j+1) { Y with last:=Y.last+12} L'
   | .yes _ σ'=>({ Y with last:=Y.last+12,σ:=σ',gl:=((((cls P).getD j (.nil,[])).2).map fun b=>(ap (ownV Y.last) b,Y.ch.length))++((S,cc)::rest).tail,ch:=match fitP (cls P) (wha Y.σ S) (j+1)with
      |none=>Y.ch
      |some k=>Y.ch++ [⟨(S,cc)::rest,k,Y.σ⟩]},true))
   rw[cls_get P hj]
   show TrS n qs X Y ((S,cc)::rest) (match enterP (P.hd j) (P.bd j) (atM X) (goalM X).nx { X with left:=(L:Int),fin:=0} with
    | (Y,true)=>(match fitP (cls P) T (j+1)with
      |none=>Y
      |some k=> { Y with cs:=Y.cs++ [{ wasM X with cl:=k}]},true)
    | (Y,false)=>tryF P T (wasM X) (atM X) (goalM X).nx f (j+1) (undoP (wasM X) Y)) (match meetF (L+1) Y.σ L [(ap (ownV Y.last) (can (P.hd j)),wha Y.σ S)]with
   | .over=>({ Y with last:=Y.last+12,fin:=3},false)
   | .no L'=>tryP (cls P) ((S,cc)::rest) (wha Y.σ S) f (j+1) { Y with last:=Y.last+12} L'
   | .yes _ σ'=>({ Y with last:=Y.last+12,σ:=σ',gl:=(((kidsL (P.bd j)).map can).map fun b=>(ap (ownV Y.last) b,Y.ch.length))++((S,cc)::rest).tail,ch:=match fitP (cls P) (wha Y.σ S) (j+1)with
      |none=>Y.ch
      |some k=>Y.ch++ [⟨(S,cc)::rest,k,Y.σ⟩]},true))
   rw[ap_can]
   generalize enterP (P.hd j) (P.bd j) (atM X) (goalM X).nx { X with left:=(L:Int),fin:=0} =q at*
   obtain ⟨Z,ok⟩:=q
   have hU':undoP (wasM X) Z= { X with left:=Z.left,fin:=Z.fin}:=hU
   cases hm:meetF (L+1) Y.σ L [(ap (ownV Y.last) (P.hd j),wha Y.σ S)]with
   |over=>
    rw[hm]at hS;obtain ⟨s1,s2⟩:=hS;have s1':ok=false:=s1;have s2':Z.fin=3:=s2;subst s1'
    show TrS n qs X Y ((S,cc)::rest) (tryF P T (wasM X) (atM X) (goalM X).nx f (j+1) (undoP (wasM X) Z)) _
    rw[hU',tryF_fin _ _ (by show Z.fin≠0;rw[s2'];decide)]
    exact ⟨rfl,⟨rfl,rfl,by show Y.last≤Y.last+12;omega⟩,by show Z.fin=((3:Nat):Int);rw[s2'];rfl,fun _=>⟨rfl,_,_,rfl⟩,fun h=>by cases h⟩
   |no L'=>
    rw[hm]at hS;obtain ⟨s1,s2,s3⟩:=hS;have s1':ok=false:=s1;have s2':Z.fin=0:=s2;have s3':Z.left=(L':Int):=s3;subst s1'
    show TrS n qs X Y ((S,cc)::rest) (tryF P T (wasM X) (atM X) (goalM X).nx f (j+1) (undoP (wasM X) Z)) (tryP (cls P) ((S,cc)::rest) (wha Y.σ S) f (j+1) { Y with last:=Y.last+12} L')
    rw[hU',s2',s3'];obtain ⟨n',en,hn'⟩:=hGr.2.2 s2';have en':Z.left=(n':Int):=en
    have h1:=ih (j+1) L' { Y with last:=Y.last+12} rfl (by show last≤Y.last+12;omega) hfin hch (by omega)
    exact ⟨h1.ok,⟨h1.kp.1,h1.kp.2.1,by have h2:Y.last+12≤_:=h1.kp.2.2;exact Int.le_trans (by omega) h2⟩,h1.fin,h1.no,fun h=>by have:=h1.yes h;rw[show ({ Y with last:=Y.last+12}:PS).σ=Y.σ from rfl]at this;exact this⟩
   |yes k' σ'=>
    rw[hm]at hS;obtain ⟨s1,⟨κ',D',s2⟩,s3,s4⟩:=hS;have s1':ok=true:=s1;subst s1';have hcs:Z.cs=X.cs:=hGr.2.1;have hfi:Z.fin=0:=hFi rfl
    have hgl:(((kidsL (P.bd j)).map can).map fun b=>(ap (ownV Y.last) b,Y.ch.length))++((S,cc)::rest).tail=((List.range (P.bd j).len).map fun i=>(ap (ownV Y.last) ((P.bd j).f i),X.cs.length))++rest:=by
     rw[hch];unfold kidsL;rw[List.map_map,List.map_map]
     congr 1
     exact List.map_congr_left fun i _=>by show (ap _ (can _),_)=_;rw[ap_can]
    rw[hgl];have hX:Ext X Z:=⟨hE.len,hE.tr,hE.gs⟩;rw[fitP_congr hT.1 hT.2]
    show TrS n qs X Y ((S,cc)::rest) (match fitP (cls P) (wha Y.σ S) (j+1)with
     |none=>Z
     |some k=> { Z with cs:=Z.cs++ [{ wasM X with cl:=k}]},true) ({ Y with last:=Y.last+12,σ:=σ',gl:=((List.range (P.bd j).len).map fun i=>(ap (ownV Y.last) ((P.bd j).f i),X.cs.length))++rest,ch:=match fitP (cls P) (wha Y.σ S) (j+1)with
     |none=>Y.ch
     |some k=>Y.ch++ [⟨(S,cc)::rest,k,Y.σ⟩]},true)
    cases fitP (cls P) (wha Y.σ S) (j+1)with
    |none=>exact ⟨rfl,⟨rfl,rfl,by show Y.last≤Y.last+12;omega⟩,by show Z.fin=(Y.fin:Int);rw[hfi,hfin];rfl,fun h=>(by cases h),fun _=>⟨hfin,⟨κ',D',s2⟩,hX,s3,s4,.inl ⟨hcs,rfl⟩⟩⟩
    |some k2=>exact ⟨rfl,⟨rfl,rfl,by show Y.last≤Y.last+12;omega⟩,by show Z.fin=(Y.fin:Int);rw[hfi,hfin];rfl,fun h=>(by cases h),fun _=>⟨hfin,⟨κ',D',s2⟩,hX.same rfl rfl rfl,s3,s4,.inr ⟨k2,by show Z.cs++_=_;rw[hcs],rfl⟩⟩⟩
def ChS (n:Nat) (qs:List Nat) (h:List Cl) (gs:List Gq) (last:Int) (c:Chq) (k:Chc):Prop:=c.cl=k.k∧∃S cc rest κ D,k.gl=(S,cc)::rest∧(wha k.σ S).v=0∧StS n qs k.σ last k.gl h gs c.goal κ D
structure SimC (n:Nat) (qs:List Nat) (X:PM) (Y:PS):Prop where
 cl:X.cs.length=Y.ch.length
 chs: ∀(i:Nat) c k,X.cs[i]?=some c→Y.ch[i]?=some k→ChS n qs (undoP c X).h (undoP c X).gs Y.last c k
structure SimM (n:Nat) (qs:List Nat) (X:PM) (Y:PS):Prop where
 fin:X.fin=(Y.fin:Int)
 c:Y.fin=0→SimC n qs X Y
 on:Y.fin=0→∃κ D,StS n qs Y.σ Y.last Y.gl X.h X.gs X.first κ D
structure SzM (st:Nat) (X:PM):Prop where
 h:X.h.length≤726+833*st
 gs:X.gs.length≤6+6*st
 c: ∀c∈X.cs,c.hp+833≤726+833*st∧c.gs+6≤6+6*st
theorem ChS.mono {h:List Cl} {gs:List Gq} {l l':Int} {c:Chq} {k:Chc} (H:ChS n qs h gs l c k) (hl:l≤l'):ChS n qs h gs l' c k:=by
 obtain ⟨h1,S,cc,rest,κ,D,h2,h3,h4⟩:=H;exact ⟨h1,S,cc,rest,κ,D,h2,h3,h4.mono hl⟩
theorem rep_name {h:Nat→Cl} {len i:Nat} {U:Tm} (r:Rep σ h len κ D i U) (hv:(wha σ U).v=0):(h (endA h len i)).k=2∧(nameT (h (endA h len i))).nm=(wha σ U).nm∧(nameT (h (endA h len i))).len=(wha σ U).len:=by
 cases r with
 |var _ _ hv'=>exact absurd hv hv'
 |fn _ _ _ hk hnm hn _=>exact ⟨hk,hnm,by show (h (endA h len i)).n.toNat=_;rw[hn,Int.toNat_natCast]⟩
theorem SimC.ext {Y Y':PS} {X':PM} (H:SimC n qs X Y) {m:Nat} {P:Pg} (hO:OkM m qs X) (E:Ext X X') (hc:X'.cs=X.cs) (hY:Y'.ch=Y.ch) (hl:Y.last≤Y'.last):SimC n qs X' Y':=by
 refine ⟨by rw[hc,hY];exact H.cl,fun i c k h1 h2=>?_⟩
 rw[hc]at h1;rw[hY]at h2;have hC:=hO.ch c (List.mem_of_getElem? h1);have hs:=E.undo hC.hp hC.tr hC.gs;rw[hs.h,hs.gs];exact (H.chs i c k h1 h2).mono hl
theorem TrS.sim {X:PM} {Y:PS} {m:Nat} {q:PM × Bool} {p:PS × Bool} (hO:OkM m qs X) (hv:(wha Y.σ S).v=0) (hSt:StS n qs Y.σ Y.last ((S,cc)::rest) X.h X.gs X.first κ D) (hC:SimC n qs X Y) (hT:TrS n qs X Y ((S,cc)::rest) q p) (hp:p.2=true):SimM n qs q.1 p.1:=by
 obtain ⟨h1,h2,h3,h4,h5,h6⟩:=hT.yes hp;refine ⟨hT.fin,fun _=>?_,fun _=>h2⟩
 rcases h6 with ⟨e1,e2⟩| ⟨k2,e1,e2⟩
 ·refine ⟨by rw[e1,e2];exact hC.cl,fun i c k g1 g2=>?_⟩
  rw[e1]at g1;rw[e2]at g2;have hc:=hO.ch c (List.mem_of_getElem? g1);have hs:=h3.undo hc.hp hc.tr hc.gs;rw[hs.h,hs.gs];exact (hC.chs i c k g1 g2).mono hT.kp.2.2
 ·refine ⟨by rw[e1,e2,List.length_append,List.length_append,hC.cl];rfl,fun i c k g1 g2=>?_⟩
  rw[e1]at g1;rw[e2]at g2
  by_cases hi:i<X.cs.length
  ·rw[List.getElem?_append_left hi]at g1
   rw[List.getElem?_append_left (by rw[←hC.cl];exact hi)]at g2
   have hc:=hO.ch c (List.mem_of_getElem? g1);have hs:=h3.undo hc.hp hc.tr hc.gs;rw[hs.h,hs.gs];exact (hC.chs i c k g1 g2).mono hT.kp.2.2
  ·have hcl:=hC.cl
   rw[List.getElem?_append_right (by omega)]at g1 g2
   have hi0:i=X.cs.length:=by
    have:=(List.getElem?_eq_some_iff.1 g1).1;simp at this;omega
   subst hi0;simp at g1;rw[hcl]at g2;simp at g2;subst g1 g2
   have hs:=h3.undo (c:= { wasM X with cl:=k2}) (Nat.le_refl _) (Nat.le_refl _) (Nat.le_refl _)
   have hw:=undo_was X
   have e3:(undoP { wasM X with cl:=k2} X).h=X.h:=hw.1
   have e4:(undoP { wasM X with cl:=k2} X).gs=X.gs:=hw.2.1
   rw[hs.h,hs.gs,e3,e4];exact ⟨rfl,S,cc,rest,κ,D,rfl,hv,hSt.mono hT.kp.2.2⟩
theorem TrS.sz {X:PM} {Y:PS} {gl:List Gl} {st:Nat} {q:PM × Bool} {p:PS × Bool} (hT:TrS n qs X Y gl q p) (hp:p.2=true) (h1:X.h.length+833≤726+833*st) (h2:X.gs.length+6≤6+6*st) (hc: ∀c∈X.cs,c.hp+833≤726+833*st∧c.gs+6≤6+6*st):SzM st q.1:=by
 obtain ⟨_,_,_,h4,h5,h6⟩:=hT.yes hp;refine ⟨by omega,by omega,fun c hm=>?_⟩
 rcases h6 with ⟨e1,_⟩| ⟨k2,e1,_⟩
 ·rw[e1]at hm;exact hc c hm
 ·rw[e1]at hm
  rcases List.mem_append.1 hm with h|h
  ·exact hc c h
  ·rw[List.mem_singleton]at h
   subst h;exact ⟨h1,h2⟩
theorem back_simM (hC:ClOk P) {st:Nat} (hst:st≤400): ∀(f:Nat) (X:PM) (Y:PS),OkM P.len qs X→SzM st X→X.fin=(Y.fin:Int)→(Y.fin=0→SimC n qs X Y)→X.cs.length<f→SimM n qs (backF P f X) (backP (cls P) f Y)∧SzM st (backF P f X)∧(backP (cls P) f Y).ans=Y.ans∧(backP (cls P) f Y).st=Y.st:=by
 intro f
 induction f with
 |zero=>intro X Y _ _ _ _ h;exact absurd h (Nat.not_lt_zero _)
 |succ f ih=>
  intro X Y hO hz hfin hS hlt;rw[backF,backP]
  by_cases hf:Y.fin≠0
  ·rw[if_pos hf,if_pos (by rw[hfin];omega)]
   exact ⟨⟨hfin,fun h=>absurd h hf,fun h=>absurd h hf⟩,hz,rfl,rfl⟩
  have hf0:Y.fin=0:=Classical.not_not.1 hf;rw[if_neg hf,if_neg (by rw[hfin,hf0];simp)]
  have hSC:=hS hf0;have hcl:=hSC.cl
  cases hl:X.cs.getLast? with
  |none=>
   have hn:X.cs= []:=List.getLast?_eq_none_iff.1 hl;have hn':Y.ch= []:=List.length_eq_zero_iff.1 (by rw[←hcl,hn];rfl)
   rw[hn'];exact ⟨⟨rfl,fun h=>absurd (show (1:Nat)=0 from h) (by decide),fun h=>absurd (show (1:Nat)=0 from h) (by decide)⟩,⟨hz.h,hz.gs,hz.c⟩,rfl,rfl⟩
  |some c=>
   have hm:=List.mem_of_getLast? hl;have hpos:0<X.cs.length:=List.length_pos_of_mem hm;have hg1:X.cs[X.cs.length-1]?=some c:=by rw[←List.getLast?_eq_getElem?];exact hl
   obtain ⟨k,hl'⟩: ∃k,Y.ch.getLast?=some k:=by
    cases h:Y.ch.getLast? with
    |none=>exact absurd (show X.cs.length=0 by rw[hcl,List.getLast?_eq_none_iff.1 h];rfl) (by omega)
    |some k=>exact ⟨k,rfl⟩
   have hg2:Y.ch[X.cs.length-1]?=some k:=by rw[hcl,←List.getLast?_eq_getElem?];exact hl'
   rw[hl'];obtain ⟨ek,S,cc,rest,κ,D,hgl,hv,hSt⟩:=hSC.chs _ c k hg1 hg2;have hc:=hO.ch c hm;have hO1:=hO.back hl;have hzc:=hz.c c hm;have hfx:X.fin=0:=by rw[hfin,hf0];rfl
   have eX:({ undoP c { X with cs:=X.cs.dropLast} with left:=4000}:PM)= { undoP c { X with cs:=X.cs.dropLast} with left:=((4000:Nat):Int),fin:=0}:=by
    show ({ undoP c { X with cs:=X.cs.dropLast} with left:=4000}:PM)= { undoP c { X with cs:=X.cs.dropLast} with left:=4000,fin:=0}
    have:(undoP c { X with cs:=X.cs.dropLast}).fin=0:=hfx
    rw[←this]
   have hul:=undo_len hc.hp
   have hSt1:StS n qs k.σ Y.last ((S,cc)::rest) (undoP c { X with cs:=X.cs.dropLast}).h (undoP c { X with cs:=X.cs.dropLast}).gs (undoP c { X with cs:=X.cs.dropLast}).first κ D:=by rw[←hgl];exact hSt
   have hh1:(undoP c { X with cs:=X.cs.dropLast}).h.length+833≤726+833*st:=by
    have:(undoP c { X with cs:=X.cs.dropLast}).h.length=c.hp:=hul
    omega
   have hg3:(undoP c { X with cs:=X.cs.dropLast}).gs.length+6≤6+6*st:=by
    show (X.gs.take c.gs).length+6≤_
    rw[List.length_take];omega
   have hSC1:SimC n qs (undoP c { X with cs:=X.cs.dropLast}) { Y with ch:=Y.ch.dropLast,σ:=k.σ}:=by
    refine ⟨?_,fun i d k' g1 g2=>?_⟩
    ·show X.cs.dropLast.length=Y.ch.dropLast.length
     rw[List.length_dropLast,List.length_dropLast,hcl]
    ·have g1':X.cs.dropLast[i]?=some d:=g1
     have g2':Y.ch.dropLast[i]?=some k':=g2
     have hil:i<X.cs.length-1:=by
      have:=(List.getElem?_eq_some_iff.1 g1').1;rw[List.length_dropLast]at this;exact this
     rw[List.getElem?_dropLast,if_pos hil]at g1';rw[List.getElem?_dropLast,if_pos (by omega)]at g2'
     have hD:=hO.ch d (List.mem_of_getElem? g1')
     have hle:LeC d c:=by
      have:=List.pairwise_iff_getElem.1 hO.mono i (X.cs.length-1) (by omega) (by omega) hil
      rw[List.getElem?_eq_getElem (by omega)]at g1' hg1
      rw[Option.some.inj g1',Option.some.inj hg1]at this;exact this
     have hu:=undo_undo (X:=X) hle.1 hle.2.1 hle.2.2 hc.hp hc.tr
     have e1:(undoP d (undoP c { X with cs:=X.cs.dropLast})).h=(undoP d X).h:=hu.h
     have e2:(undoP d (undoP c { X with cs:=X.cs.dropLast})).gs=(undoP d X).gs:=hu.gs
     rw[e1,e2];exact hSC.chs i d k' g1' g2'
   obtain ⟨i0,hf1,hi1,hgi1,hcut1,hrep1,hchn1⟩:=hSt1.goal;have hnm:=rep_name hrep1 hv
   have hT:=try_simM (P:=P) hC hSt1 (by omega) (by omega) hO1.s.go (T:=nameT (hOf (undoP c { X with cs:=X.cs.dropLast}).h (atM (undoP c { X with cs:=X.cs.dropLast})))) ⟨hnm.2.1,hnm.2.2⟩ (P.len+1) c.cl 4000 { Y with ch:=Y.ch.dropLast,σ:=k.σ} rfl (Int.le_refl _) hf0 hSC1.cl.symm (Nat.le_refl _)
   have eT:tryM P c.cl ({ undoP c { X with cs:=X.cs.dropLast} with left:=4000}:PM)=tryF P (nameT (hOf (undoP c { X with cs:=X.cs.dropLast}).h (atM (undoP c { X with cs:=X.cs.dropLast})))) (wasM (undoP c { X with cs:=X.cs.dropLast})) (atM (undoP c { X with cs:=X.cs.dropLast})) (goalM (undoP c { X with cs:=X.cs.dropLast})).nx (P.len+1) c.cl { undoP c { X with cs:=X.cs.dropLast} with left:=((4000:Nat):Int),fin:=0}:=by
    rw[eX];rfl
   have eP:tryP (cls P) k.gl (hdT k.σ k.gl) ((cls P).length+1) k.k { Y with ch:=Y.ch.dropLast,σ:=k.σ} 4000=tryP (cls P) ((S,cc)::rest) (wha k.σ S) (P.len+1) c.cl { Y with ch:=Y.ch.dropLast,σ:=k.σ} 4000:=by
    rw[cls_len,hgl,ek];rfl
   show SimM n qs (match tryM P c.cl ({ undoP c { X with cs:=X.cs.dropLast} with left:=4000}:PM)with| (Z,true)=>Z| (Z,false)=>backF P f Z) (match tryP (cls P) k.gl (hdT k.σ k.gl) ((cls P).length+1) k.k { Y with ch:=Y.ch.dropLast,σ:=k.σ} 4000 with| (Z,true)=>Z| (Z,false)=>backP (cls P) f Z)∧SzM st (match tryM P c.cl ({ undoP c { X with cs:=X.cs.dropLast} with left:=4000}:PM)with| (Z,true)=>Z| (Z,false)=>backF P f Z)∧(match tryP (cls P) k.gl (hdT k.σ k.gl) ((cls P).length+1) k.k { Y with ch:=Y.ch.dropLast,σ:=k.σ} 4000 with| (Z,true)=>Z| (Z,false)=>backP (cls P) f Z).ans=Y.ans∧(match tryP (cls P) k.gl (hdT k.σ k.gl) ((cls P).length+1) k.k { Y with ch:=Y.ch.dropLast,σ:=k.σ} 4000 with| (Z,true)=>Z| (Z,false)=>backP (cls P) f Z).st=Y.st
   rw[eT,eP]
   have hzd: ∀d∈(undoP c { X with cs:=X.cs.dropLast}).cs,d.hp+833≤726+833*st∧d.gs+6≤6+6*st:=fun d hd=>hz.c d (List.dropLast_subset _ hd)
   have hcs1:(undoP c { X with cs:=X.cs.dropLast}).cs.length<f:=by
    show X.cs.dropLast.length<f
    rw[List.length_dropLast];omega
   generalize undoP c { X with cs:=X.cs.dropLast} =Z at*
   generalize tryF P (nameT (hOf Z.h (atM Z))) (wasM Z) (atM Z) (goalM Z).nx (P.len+1) c.cl { Z with left:=((4000:Nat):Int),fin:=0} =q at*
   generalize tryP (cls P) ((S,cc)::rest) (wha k.σ S) (P.len+1) c.cl { Y with ch:=Y.ch.dropLast,σ:=k.σ} 4000=p at*
   have hTy:=fun hp:p.2=true=>hT.sim hO1 hv hSt1 hSC1 hp
   have hTz:=fun hp:p.2=true=>hT.sz hp hh1 hg3 hzd
   obtain ⟨q1,q2⟩:=q;obtain ⟨p1,p2⟩:=p;have hok:q2=p2:=hT.ok;subst hok
   cases q2 with
   |true=>exact ⟨hTy rfl,hTz rfl,hT.kp.1,hT.kp.2.1⟩
   |false=>
    obtain ⟨e1,lf,fn,e2⟩:=hT.no rfl;have e1':=e1;have e2':=e2;subst e2';have hlast:=hT.kp.2.2
    have:=ih { Z with left:=lf,fin:=fn} p1 (hO1.same rfl rfl rfl hO1.fst rfl) ⟨by show Z.h.length≤_;omega,by show Z.gs.length≤_;omega,hzd⟩ hT.fin (fun _=>hSC1.ext (P:=P) hO1 ((Ext.refl Z).same rfl rfl rfl) rfl e1' hlast) hcs1
    exact ⟨this.1,this.2.1,this.2.2.1.trans hT.kp.1,this.2.2.2.trans hT.kp.2.1⟩
end
end Go.Proofs.YtmggaclaoefdaabGreat

namespace Go.Proofs.YtmggaclaoefdaabGreat
open Go.RowKit
set_option linter.unusedVariables false
set_option linter.unusedSimpArgs false
theorem isT_congr {t u:Tm} (h1:t.nm=u.nm) (h2:t.len=u.len) (nm:ByteArray) (n:Nat):isT t nm n=isT u nm n:=by unfold isT;rw[h1,h2]
theorem SzM.mono {st st':Nat} {X:PM} (h:SzM st X) (hs:st≤st'):SzM st' X:=⟨by have:=h.h;omega,by have:=h.gs;omega,fun c hc=>⟨by have:=(h.c c hc).1;omega,by have:=(h.c c hc).2;omega⟩⟩
section
variable {n:Nat} {qs:List Nat} {P:Pg} {X:PM} {Y:PS} {st:Nat}
theorem bk_sim (hC:ClOk P) (hst:st≤400) (hO:OkM P.len qs X) (hz:SzM st X) (hf:X.fin=(Y.fin:Int)) (hS:Y.fin=0→SimC n qs X Y) (hcl:X.cs.length=Y.ch.length):SimM n qs (backM P X) (bk (cls P) Y)∧SzM st (backM P X)∧(bk (cls P) Y).ans=Y.ans∧(bk (cls P) Y).st=Y.st:=by
 unfold backM bk;rw[←hcl];exact back_simM hC hst (X.cs.length+1) X Y hO hz hf hS (Nat.lt_succ_self _)
theorem SimC.sub {X':PM} {Y':PS} (H:SimC n qs X Y) (k:Nat) (h1:X'.h=X.h) (h2:X'.gs=X.gs) (h3:X'.tr=X.tr) (hc:X'.cs=X.cs.take k) (hY:Y'.ch=Y.ch.take k) (hl:Y.last≤Y'.last):SimC n qs X' Y':=by
 refine ⟨by rw[hc,hY,List.length_take,List.length_take,H.cl],fun i c d g1 g2=>?_⟩
 rw[hc,List.getElem?_take]at g1;rw[hY,List.getElem?_take]at g2;have e1:(undoP c X').h=(undoP c X).h:=by show rstH (X'.h.take c.hp) (X'.tr.drop c.tr)=_;rw[h1,h3];rfl
 have e2:(undoP c X').gs=(undoP c X).gs:=by show X'.gs.take c.gs=_;rw[h2];rfl
 rw[e1,e2]
 by_cases hi:i<k
 ·rw[if_pos hi]at g1 g2
  exact (H.chs i c d g1 g2).mono hl
 ·rw[if_neg hi]at g1;cases g1
theorem SimC.same {X':PM} {Y':PS} (H:SimC n qs X Y) (h1:X'.h=X.h) (h2:X'.gs=X.gs) (h3:X'.tr=X.tr) (hc:X'.cs=X.cs) (hY:Y'.ch=Y.ch) (hl:Y.last≤Y'.last):SimC n qs X' Y':=
 H.sub (max X.cs.length Y.ch.length) h1 h2 h3 (by rw[hc,List.take_of_length_le (by omega)]) (by rw[hY,List.take_of_length_le (by omega)]) hl
theorem StS.next {σ:Sg} {last:Int} {gl gl':List Gl} {h:List Cl} {gs:List Gq} {first f':Nat} {κ:Int→Nat} {D:Int→Prop} (S:StS n qs σ last gl h gs first κ D) (hc:Chn (Rep σ (hOf h) h.length κ D) gs f' gl'):StS n qs σ last gl' h gs f' κ D:=⟨S.hr,S.dl,S.sl,S.l0,hc,S.ql,S.qr⟩
set_option maxHeartbeats 1000000 in
theorem take_simM {S:Tm} {cc:Nat} {rest:List Gl} (hC:ClOk P) (hst:st+1≤400) (hO:OkM P.len qs X) (hz:SzM st X) (hl:X.left=4000) (hM:SimM n qs X Y) (hfy:Y.fin=0) (hgl:Y.gl=(S,cc)::rest):SimM n qs (takeM P X) (stepP (cls P) Y)∧SzM (st+1) (takeM P X)∧(stepP (cls P) Y).ans=Y.ans∧(stepP (cls P) Y).st=Y.st:=by
 obtain ⟨κ,D,hSt0⟩:=hM.on hfy;have hSt:StS n qs Y.σ Y.last ((S,cc)::rest) X.h X.gs X.first κ D:=by rw[←hgl];exact hSt0
 have hSC:=hM.c hfy;have hfx:X.fin=0:=by rw[hM.fin,hfy];rfl
 have hzs:=hz.mono (Nat.le_succ st);obtain ⟨i,hf,hi,hgi,hcut,hrep,hchn⟩:=hSt.goal;have hh:=hz.h;have hg:=hz.gs;have hdT:hdT Y.σ Y.gl=wha Y.σ S:=by rw[hgl];rfl
 have htail:Y.gl.tail=rest:=by rw[hgl];rfl
 have hhead:(Y.gl.headD (.nil,0)).2=cc:=by rw[hgl];rfl
 have hSC1:SimC n qs X { Y with gl:=rest}:=hSC.same rfl rfl rfl rfl rfl (Int.le_refl _)
 unfold takeM stepP;rw[hdT,htail,hhead];simp only[]
 by_cases hv:(wha Y.σ S).v=0
 case neg=>
  have hk:(hOf X.h (atM X)).k=1:=by
   cases hrep with
   |var _ h0 hv' hD hl' he=>
    have e:atM X=κ (wha Y.σ S).v:=he;rw[e];exact (hSt.hr.fr _ hD (root_of hSt.hr.dec h0 hv')).2.1
   |fn _ _ hv'=>exact absurd hv' hv
  rw[if_pos hk,if_pos hv];exact ⟨⟨rfl,fun h=>absurd (show (4:Nat)=0 from h) (by decide),fun h=>absurd (show (4:Nat)=0 from h) (by decide)⟩,⟨hzs.h,hzs.gs,hzs.c⟩,rfl,rfl⟩
 have hnm:=rep_name hrep hv;have hk2:(hOf X.h (atM X)).k=2:=hnm.1;have hkn: ¬(hOf X.h (atM X)).k=1:=by rw[hk2];decide
 have hT: ∀nm k,isT (nameT (hOf X.h (atM X))) nm k=isT (wha Y.σ S) nm k:=fun nm k=>isT_congr hnm.2.1 hnm.2.2 nm k
 rw[if_neg hkn,if_neg (show¬(wha Y.σ S).v≠0 by simp[hv]),hT,hT,hT,hT]
 by_cases h1:isT (wha Y.σ S) nCut 0=true
 ·rw[if_pos h1,if_pos h1,hcut]
  refine ⟨⟨hM.fin,fun _=>hSC.sub cc rfl rfl rfl rfl rfl (Int.le_refl _),fun _=>⟨κ,D,hSt.next hchn⟩⟩,⟨hzs.h,hzs.gs,fun c hc=>hzs.c c (List.take_subset _ _ hc)⟩,rfl,rfl⟩
 rw[if_neg h1,if_neg h1]
 by_cases h2:isT (wha Y.σ S) nTrue 0=true
 ·rw[if_pos h2,if_pos h2]
  exact ⟨⟨hM.fin,fun _=>hSC.same rfl rfl rfl rfl rfl (Int.le_refl _),fun _=>⟨κ,D,hSt.next hchn⟩⟩,⟨hzs.h,hzs.gs,hzs.c⟩,rfl,rfl⟩
 rw[if_neg h2,if_neg h2]
 by_cases h3:isT (wha Y.σ S) nFail 0=true
 ·rw[if_pos h3,if_pos h3]
  exact bk_sim hC hst hO hzs hM.fin (fun _=>hSC1) hSC.cl
 rw[if_neg h3,if_neg h3]
 by_cases h4:isT (wha Y.σ S) nEq 2=true
 ·rw[if_pos h4,if_pos h4]
  have hlen:(wha Y.σ S).len=2:=by unfold isT at h4;simp at h4;exact h4.2
  have hkids: ∀j,j<(wha Y.σ S).len→Rep Y.σ (hOf X.h) X.h.length κ D (atM X+1+j) ((wha Y.σ S).f j):=by
   cases hrep with
   |var _ _ hv'=>exact absurd hv hv'
   |fn _ _ _ _ _ _ hk=>exact hk
  have hSm:=sm_meet D 4001 (atM X+1) (atM X+2) 4000 X.h [] Y.σ κ ((wha Y.σ S).f 0) ((wha Y.σ S).f 1) (by omega) hSt.hr (hkids 0 (by omega)) (hkids 1 (by omega))
  have hER:eqR X=smH 4001 (atM X+1) (atM X+2) (4000,X.h,[]):=by unfold eqR;rw[hl];rfl
  rw[←hER]at hSm;obtain ⟨e1,e2,e3⟩:=eq_out hO hf hi hkn (by rw[hT];exact h4) ⟨4000,hl,Nat.le_refl _⟩
  have hlR:(eqX X).h.length=X.h.length:=by
   obtain ⟨a1,a2,a3⟩:=eq_args hO hf hi hkn (by rw[hT];exact h4)
   have:(eqR X).Good (4000,X.h,[]):=by rw[hER];exact smH_good _ _ _ _ ⟨hO.s.hg,hO.s.hg.nmZ⟩ a2 a3
   exact this.len
  have hzE:SzM (st+1) (eqX X):=⟨by rw[hlR];exact hzs.h,hzs.gs,hzs.c⟩
  have hCE: ∀Y':PS,Y'.ch=Y.ch→Y.last≤Y'.last→SimC n qs (eqX X) Y':=fun Y' hc hl=>hSC.ext (P:=P) hO e1 rfl hc hl
  cases hr:eqR X with
  |no x l' bs'=>
   rw[hr]at hSm;rw[if_neg (show¬(MR.no x l' bs').ok=true by simp[MR.ok])]
   have hfin:(eqX X).fin=if x<0 then 3 else X.fin:=by
    show (if (eqR X).left<0 then (3:Int)else X.fin)=_
    rw[hr];rfl
   rcases hSm with ⟨hx,hm⟩| ⟨k,hx,hm⟩
   ·have hme:=hm 4001 [] (by omega)
    rw[List.append_nil]at hme;rw[hme];subst hx;have hf3:(eqX X).fin=3:=by rw[hfin,if_pos (by decide)]
    have hbk:backM P (eqX X)=eqX X:=by unfold backM;rw[backF,if_pos (by rw[hf3];decide)]
    rw[hbk];exact ⟨⟨hf3,fun h=>absurd (show (3:Nat)=0 from h) (by decide),fun h=>absurd (show (3:Nat)=0 from h) (by decide)⟩,hzE,rfl,rfl⟩
   ·have hme:=hm 4001 [] (by omega)
    rw[List.append_nil]at hme;rw[hme];subst hx;have hf0:(eqX X).fin=(Y.fin:Int):=by rw[hfin,if_neg (by omega)];exact hM.fin
    exact bk_sim hC hst e2 hzE hf0 (fun _=>hCE { Y with gl:=rest} rfl (Int.le_refl _)) hSC.cl
  |yes s=>
   rw[hr]at hSm;rw[if_pos (show (MR.yes s).ok=true from rfl)]
   obtain ⟨σ',κ2,hHR2,hR2,_,hd2,hm⟩:=hSm;obtain ⟨F',hF',e⟩:=hm 4001 [] (by omega)
   rw[List.append_nil]at e;obtain ⟨F,rfl⟩: ∃F,F'=F+1:=⟨F'-1,by omega⟩
   have e':=e;rw[e'];have hEh:(eqX X).h=s.2.1:=by show (eqR X).l=_;rw[hr];rfl
   have hEf:(eqX X).fin=X.fin:=by
    show (if (eqR X).left<0 then (3:Int)else X.fin)=_
    rw[hr]
    show (if ((s.1:Nat):Int)<0 then (3:Int)else X.fin)=_
    rw[if_neg (by omega)]
   refine ⟨⟨by rw[hEf];exact hM.fin,fun _=>hCE _ rfl (Int.le_refl _),fun _=>⟨κ2,D,?_⟩⟩,hzE,rfl,rfl⟩
   rw[hEh];exact ⟨hHR2,hSt.dl,fun u hu=>(hd2 u (fun hd=>by have h1:=hSt.dl u hd;have h2:Y.last<u:=hu;omega)).trans (hSt.sl u hu),hSt.l0,hchn.imp fun a U r=>hR2 a U r,hSt.ql,fun j x hx=>hR2 _ _ (hSt.qr j x hx)⟩
 rw[if_neg h4,if_neg h4]
 have eX:X= { X with left:=((4000:Nat):Int),fin:=0}:=by
  show X= { X with left:=4000,fin:=0}
  rw[←hl,←hfx]
 have hTr:=try_simM (P:=P) hC hSt (by omega) (by omega) hO.s.go (T:=nameT (hOf X.h (atM X))) ⟨hnm.2.1,hnm.2.2⟩ (P.len+1) 0 4000 { Y with gl:=rest} rfl (Int.le_refl _) hfy hSC.cl.symm (Nat.le_refl _)
 have eT:tryM P 0 X=tryF P (nameT (hOf X.h (atM X))) (wasM X) (atM X) (goalM X).nx (P.len+1) 0 { X with left:=((4000:Nat):Int),fin:=0}:=by
  rw[←eX];rfl
 rw[eT,cls_len,hgl]
 generalize tryF P (nameT (hOf X.h (atM X))) (wasM X) (atM X) (goalM X).nx (P.len+1) 0 { X with left:=((4000:Nat):Int),fin:=0} =q at*
 have hTy:=fun(p:PS × Bool) (hT:TrS n qs X { Y with gl:=rest} ((S,cc)::rest) q p) (hp:p.2=true)=>hT.sim (Y:= { Y with gl:=rest}) hO hv hSt hSC1 hp
 have hTz:=fun(p:PS × Bool) (hT:TrS n qs X { Y with gl:=rest} ((S,cc)::rest) q p) (hp:p.2=true)=>hT.sz (st:=st+1) hp (by omega) (by omega) hzs.c
 generalize tryP (cls P) ((S,cc)::rest) (wha Y.σ S) (P.len+1) 0 { Y with gl:=rest} 4000=p at*
 obtain ⟨q1,q2⟩:=q;obtain ⟨p1,p2⟩:=p;have hok:q2=p2:=hTr.ok;subst hok
 cases q2 with
 |true=>exact ⟨hTy _ hTr rfl,hTz _ hTr rfl,hTr.kp.1,hTr.kp.2.1⟩
 |false=>
  obtain ⟨a1,lf,fn,a2⟩:=hTr.no rfl;have a1':=a1;have a2':=a2;subst a2';have hlast:=hTr.kp.2.2
  have:=bk_sim (X:= { X with left:=lf,fin:=fn}) (Y:=p1) hC hst (hO.same rfl rfl rfl hO.fst rfl) ⟨hzs.h,hzs.gs,hzs.c⟩ hTr.fin (fun _=>hSC.same rfl rfl rfl rfl a1' hlast) (by rw[a1'];exact hSC.cl)
  exact ⟨this.1,this.2.1,this.2.2.1.trans hTr.kp.1,this.2.2.2.trans hTr.kp.2.1⟩
end
end Go.Proofs.YtmggaclaoefdaabGreat
