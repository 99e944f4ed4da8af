/- Part of the proof. -/
import Derived.Test.YtmggaclaoefdaabGreatGBE
namespace Go.Proofs.YtmggaclaoefdaabGreat
open Go.RowKit
set_option linter.unusedVariables false
set_option linter.unusedSimpArgs false
set_option maxRecDepth 100000
set_option maxHeartbeats 8000000
theorem Na {α:Type} (l:List α) {a b:Nat} (h:a<=b):l.drop a=(l.take b).drop a++l.drop b:=by
 by_cases hb:b<=l.length
 .conv=>lhs;rw[<-List.take_append_drop b l]
  rw[List.drop_append,List.length_take,Nat.min_eq_left hb,Nat.sub_eq_zero_of_le h,List.drop_zero]
 .rw[List.take_of_length_le (by omega),List.drop_of_length_le (show l.length<=b by omega),List.append_nil]
structure Qc (h:List Cl) (gs:List Gq) (tr qs:List Nat):Prop where
 hg:HG (ah h) h.length
 go: ∀(i:Nat) (g:Gq),gs[i]?=some g->g.at_<h.length/\g.nx<=i
 tl: ∀x∈tr,x<h.length
 qu: ∀x∈qs,x<h.length
structure rn (X Y:PM):Prop where
 len:X.h.length<=Y.h.length
 tr: ∃new,Y.tr=X.tr++new/\(∀i,i<X.h.length->i ∉ new->ah Y.h i=ah X.h i)/\∀i∈new,i<X.h.length->ah X.h i=fa i
 gs:Y.gs.take X.gs.length=X.gs
structure J3 (c:jo) (X Y:PM):Prop where
 h:(am c Y).h=(am c X).h
 gs:(am c Y).gs=(am c X).gs
 tr:(am c Y).tr=(am c X).tr
theorem fy {c:jo} {X:PM} (h:c.hp<=X.h.length):(am c X).h.length=c.hp:=by
 show (gw (X.h.take c.hp) (X.tr.drop c.tr)).length=_
 rw[mq,List.length_take];omega
theorem na {c:jo} {X:PM} (h:c.hp<=X.h.length) {i:Nat} (hi:i<c.hp):ah (am c X).h i=if i∈X.tr.drop c.tr then fa i else ah X.h i:=by
 show ah (gw (X.h.take c.hp) (X.tr.drop c.tr)) i=_
 rw[Fy,yk hi,List.length_take,Nat.min_eq_left h]
 by_cases hm:i∈X.tr.drop c.tr
 .rw[if_pos ⟨hm,hi⟩,if_pos hm]
 .rw[if_neg (fun c=>hm c.1),if_neg hm]
theorem rn.gsl {X Y:PM} (E:rn X Y):X.gs.length<=Y.gs.length:=by
 have:=congrArg List.length E.gs;rw[List.length_take]at this;omega
theorem rn.trl {X Y:PM} (E:rn X Y):X.tr.length<=Y.tr.length:=by
 obtain ⟨new,e,_⟩:=E.tr;rw[e,List.length_append];omega
theorem rn.undo {X Y:PM} (E:rn X Y) {c:jo} (h1:c.hp<=X.h.length) (h2:c.tr<=X.tr.length) (h3:c.gs<=X.gs.length):J3 c X Y:=by
 have hl:=E.len;obtain ⟨new,e,ho,hb⟩:=E.tr;refine ⟨?_,?_,?_⟩
 .refine zz (by rw[fy (by omega),fy h1]) fun i hi=>?_
  rw[fy (by omega)]at hi
  rw[na (by omega) hi,na h1 hi,e,List.drop_append_of_le_length h2]
  by_cases m1:i∈X.tr.drop c.tr
  .rw[if_pos m1,if_pos (List.mem_append.2 (.inl m1))]
  .rw[if_neg m1]
   by_cases m2:i∈new
   .rw[if_pos (List.mem_append.2 (.inr m2)),hb i m2 (by omega)]
   .rw[if_neg (fun c=>(List.mem_append.1 c).elim m1 m2),ho i (by omega) m2]
 .show Y.gs.take c.gs=X.gs.take c.gs
  rw[<-E.gs,List.take_take,Nat.min_eq_left h3]
 .show Y.tr.take c.tr=X.tr.take c.tr
  rw[e,List.take_append_of_le_length h2]
theorem xk {c d:jo} {X:PM} (h1:c.hp<=d.hp) (h2:c.tr<=d.tr) (h3:c.gs<=d.gs) (hd:d.hp<=X.h.length) (hd2:d.tr<=X.tr.length):J3 c X (am d X):=by
 have hl:=fy hd;refine ⟨?_,?_,?_⟩
 .refine zz (by rw[fy (by omega),fy (by omega)]) fun i hi=>?_
  rw[fy (by omega)]at hi
  rw[na (by omega) hi,na (by omega) hi,na hd (by omega),Na X.tr h2]
  show (if i∈(X.tr.take d.tr).drop c.tr then _ else _)=_
  by_cases m1:i∈(X.tr.take d.tr).drop c.tr
  .rw[if_pos m1,if_pos (List.mem_append.2 (.inl m1))]
  .rw[if_neg m1]
   by_cases m2:i∈X.tr.drop d.tr
   .rw[if_pos m2,if_pos (List.mem_append.2 (.inr m2))]
   .rw[if_neg m2,if_neg (fun c=>(List.mem_append.1 c).elim m1 m2)]
 .show (X.gs.take d.gs).take c.gs=X.gs.take c.gs
  rw[List.take_take,Nat.min_eq_left h3]
 .show (X.tr.take d.tr).take c.tr=X.tr.take c.tr
  rw[List.take_take,Nat.min_eq_left h2]
structure Jn (n:Nat) (qs:List Nat) (X:PM) (c:jo):Prop where
 goal:1<=c.goal/\c.goal<=c.gs
 cl:c.cl<=n
 hp:c.hp<=X.h.length
 tr:c.tr<=X.tr.length
 gs:c.gs<=X.gs.length
 ok:Qc (am c X).h (am c X).gs (am c X).tr qs
 fn:(ah (am c X).h (bf (am c X))).k=2
def Tb (c d:jo):Prop:=c.hp<=d.hp/\c.tr<=d.tr/\c.gs<=d.gs
structure jm (n:Nat) (qs:List Nat) (X:PM):Prop where
 s:Qc X.h X.gs X.tr qs
 fst:X.first<=X.gs.length
 ch: ∀c∈X.cs,Jn n qs X c
 mono:X.cs.Pairwise Tb
theorem Jn.same {n:Nat} {qs:List Nat} {X Y:PM} {c:jo} (h:Jn n qs X c) (hs:J3 c X Y) (h1:c.hp<=Y.h.length) (h2:c.tr<=Y.tr.length) (h3:c.gs<=Y.gs.length):Jn n qs Y c:=⟨h.goal,h.cl,h1,h2,h3,by rw[hs.h,hs.gs,hs.tr];exact h.ok,by
 have e:bf (am c Y)=bf (am c X):=by
  unfold bf ai;rw[hs.h,hs.gs]
  rfl
 rw[e,hs.h];exact h.fn⟩
theorem Jn.ext {n:Nat} {qs:List Nat} {X Y:PM} {c:jo} (h:Jn n qs X c) (E:rn X Y):Jn n qs Y c:=h.same (E.undo h.hp h.tr h.gs) (lT h.hp E.len) (lT h.tr E.trl) (lT h.gs E.gsl)
theorem jm.ext {n:Nat} {qs:List Nat} {X Y:PM} (M:jm n qs X) (E:rn X Y) (hs:Qc Y.h Y.gs Y.tr qs) (hf:Y.first<=Y.gs.length) (hc:Y.cs.Sublist X.cs):jm n qs Y:=⟨hs,hf,fun c h=>(M.ch c (hc.subset h)).ext E,M.mono.sublist hc⟩
theorem rn.same {X Y Z:PM} (E:rn X Y) (h1:Z.h=Y.h) (h2:Z.tr=Y.tr) (h3:Z.gs=Y.gs):rn X Z:=⟨by rw[h1];exact E.len,by rw[h1,h2];exact E.tr,by rw[h3];exact E.gs⟩
theorem rn.refl (X:PM):rn X X:=⟨lZ,⟨[],(List.append_nil _).symm,fun _ _ _=>rfl,fun _ h=>by cases h⟩,List.take_length⟩
theorem jm.back {n:Nat} {qs:List Nat} {X:PM} (M:jm n qs X) {c:jo} (hc:X.cs.getLast?=some c):jm n qs (am c { X with cs:=X.cs.dropLast}):=by
 have hm:c∈X.cs:=List.mem_of_getLast? hc;have hC:=M.ch c hm
 have hsplit:X.cs=X.cs.dropLast++ [c]:=by
  obtain ⟨hne,e⟩:=List.getLast?_eq_some_iff.1 hc;rw[e,List.dropLast_concat]
 have hmo:=hsplit▸M.mono;rw[List.pairwise_append]at hmo;refine ⟨hC.ok,?_,fun d hd=>?_,hmo.1⟩
 .show c.goal<=(X.gs.take c.gs).length
  rw[List.length_take,Nat.min_eq_left hC.gs];exact hC.goal.2
 .have hle:=hmo.2.2 d hd c (List.mem_singleton.2 rfl)
  have hD:=M.ch d (List.dropLast_subset _ hd);have hl:=fy hC.hp
  have h1:(am c { X with cs:=X.cs.dropLast}).h.length=c.hp:=hl
  have h2:(am c { X with cs:=X.cs.dropLast}).tr.length=c.tr:=by
   show (X.tr.take c.tr).length=_
   rw[List.length_take,Nat.min_eq_left hC.tr]
  have h3:(am c { X with cs:=X.cs.dropLast}).gs.length=c.gs:=by
   show (X.gs.take c.gs).length=_
   rw[List.length_take,Nat.min_eq_left hC.gs]
  have hu:=xk (X:=X) hle.1 hle.2.1 hle.2.2 hC.hp hC.tr;exact hD.same ⟨hu.h,hu.gs,hu.tr⟩ (by rw[h1];exact hle.1) (by rw[h2];exact hle.2.1) (by rw[h3];exact hle.2.2)
inductive i3 (σ:Sg) (h:Nat->Cl) (len:Nat) (κ:Int->Nat) (D:Int->Prop):Nat->Tm->Prop
 |var {i:Nat} {S:Tm}:i<len->0<=S.v->(wha σ S).v≠0->D (wha σ S).v->(wha σ S).len=0->aj h len i=κ (wha σ S).v->i3 σ h len κ D i S
 |fn {i:Nat} {S:Tm}:i<len->0<=S.v->(wha σ S).v=0->(h (aj h len i)).k=2->(h (aj h len i)).nm=(wha σ S).nm->(h (aj h len i)).n=((wha σ S).len:Int)->(∀j,j<(wha σ S).len->i3 σ h len κ D (aj h len i+1+j) ((wha σ S).f j))->i3 σ h len κ D i S
structure HR (σ:Sg) (h:Nat->Cl) (len:Nat) (κ:Int->Nat) (D:Int->Prop):Prop where
 dec:Dj σ
 hg:HG h len
 pos: ∀u,D u->0<u
 ij: ∀u v,D u->D v->σ u=none->σ v=none->κ u=κ v->u=v
 fr: ∀u,D u->σ u=none->κ u<len/\(h (κ u)).k=1/\(h (κ u)).n=(κ u:Int)
section
variable {σ:Sg} {h:Nat->Cl} {len:Nat} {κ:Int->Nat} {D:Int->Prop}
theorem i3.lt {i:Nat} {S:Tm} (r:i3 σ h len κ D i S):i<len:=by cases r <;> assumption
theorem i3.nn {i:Nat} {S:Tm} (r:i3 σ h len κ D i S):0<=S.v:=by cases r <;> assumption
theorem iu (hd:Dj σ) {S:Tm} (h0:0<=S.v) (hv:(wha σ S).v≠0):σ (wha σ S).v=none:=zv hd _ S h0 (Nat.lt_succ_self _) hv
theorem HR.end_ (H:HR σ h len κ D) {u:Int} (hu:D u) (hn:σ u=none):aj h len (κ u)=κ u:=ix (.root (H.fr u hu hn).1 fun c=>c.2 (H.fr u hu hn).2.2)
theorem HR.no_leads (H:HR σ h len κ D) {u:Int} (hu:D u) (hn:σ u=none):leads h (κ u)= []:=by
 obtain ⟨_,h1,h2⟩:=H.fr u hu hn;unfold leads;rw[if_pos h1,if_pos h2]
theorem ul {z n:Nat} (hk:(h z).k=2) (hn:(h z).n=(n:Int)):leads h z=(List.range n).map fun j=>z+1+j:=by
 unfold leads;rw[if_neg (by omega),hn]
 rfl
inductive mf {α β:Type} (R:α->β->Prop):List α->List β->Prop
 |nil:mf R [] []
 |cons {a:α} {b:β} {xs:List α} {ys:List β}:R a b->mf R xs ys->mf R (a::xs) (b::ys)
theorem mf.app {α β:Type} {R:α->β->Prop} {xs cs:List α} {ys ds:List β} (h:mf R xs ys) (k:mf R cs ds):mf R (xs++cs) (ys++ds):=by
 induction h with
 |nil=>exact k
 |cons h1 h2 ih=>exact .cons h1 ih
def Uj:WO->vy->Prop
 | .free k,.ok k'=>k=k'
 | .found k,.hit k'=>k=k'
 | .over,.over=>True
 |_,_=>False
theorem D4 (H:HR σ h len κ D) {x:Int} (hx:D x) (hxn:σ x=none): ∀(n:Nat) (ts:List Tm) (is:List Nat),mf (fun i S=>i3 σ h len κ D i S) is ts->Uj (ba σ x n ts) (ja h len (κ x) n is):=by
 intro n
 induction n with
 |zero=>
  intro ts is hF
  cases hF with
  |nil=>exact rfl
  |cons=>exact trivial
 |succ n ih=>
  intro ts is hF
  cases hF with
  |nil=>exact rfl
  |cons hr hF=>
   rename_i i S is ts;rw[my,show ja h len (κ x) (n+1) (i::is)=if aj h len i=κ x then .hit n else ja h len (κ x) n (leads h (aj h len i)++is)from rfl]
   cases hr with
   |var hi h0 hv hD hl he=>
    by_cases hux:(wha σ S).v=x
    .rw[if_pos hux,if_pos (by rw[he,hux])]
     exact rfl
    .have hne: ¬aj h len i=κ x:=fun e=>hux (H.ij _ _ hD hx (iu H.dec h0 hv) hxn (by rw[<-he];exact e))
     rw[if_neg hux,if_neg hne,yi hl,he,H.no_leads hD (iu H.dec h0 hv)];exact ih _ _ hF
   |fn hi h0 hv hk hnm hn hkids=>
    have hxp:=H.pos x hx
    have hne: ¬aj h len i=κ x:=fun e=>by
     rw[e]at hk;have:=(H.fr x hx hxn).2.1;omega
    rw[if_neg (by omega),if_neg hne,ul hk hn]
    refine ih _ _ (mf.app ?_ hF);unfold az
    have: ∀m,m<=(wha σ S).len->mf (fun i S=>i3 σ h len κ D i S) ((List.range m).map fun j=>aj h len i+1+j) ((List.range m).map (wha σ S).f):=by
     intro m
     induction m with
     |zero=>intro _;exact .nil
     |succ m im=>
      intro hm;rw[List.range_succ,List.map_append,List.map_append];exact mf.app (im (by omega)) (.cons (hkids m (by omega)) .nil)
    exact this _ lZ
theorem jd.bnd {v r:Nat} (hk:(h v).k=1) (hn:(h v).n=(v:Int)) (hr:r<len) (hne:r≠v) (hroot: ¬((h r).k=1/\(h r).n≠r)) {i z:Nat} (E:jd h len i z):jd (gz h v r) len i (if z=v then r else z):=by
 induction E with
 |root hi hnr=>
  rename_i i
  by_cases e:i=v
  .subst e
   rw[if_pos rfl];refine .step hi (by rw[px];exact hk) (by rw[px];rfl) hne (.root hr ?_)
   rw[dt hne];exact hroot
  .rw[if_neg e]
   exact .root hi (by rw[dt e];exact hnr)
 |step hi hk' hn' hji E ih=>
  rename_i i j z
  have e:i≠v:=fun e=>by
   subst e;rw[hn]at hn';exact hji (by omega)
  exact .step hi (by rw[dt e];exact hk') (by rw[dt e];exact hn') hji ih
theorem uu (H:HG h len) {v r:Nat} (hk:(h v).k=1) (hn:(h v).n=(v:Int)) (hr:r<len) (hne:r≠v) (hre:aj h len r=r) {i:Nat} (hi:i<len):aj (gz h v r) len i=if aj h len i=v then r else aj h len i:=by
 refine ix (jd.bnd hk hn hr hne (fun c=>?_) (H.endR hi))
 have h1:=H.end_or hr;rw[hre]at h1
 rcases h1 with h1|h1
 .exact c.2 h1.2
 .omega
theorem F0 {h:Nat->Cl} {len i z v:Nat} (E:jd h len i z) (r:vu h v z):vu h v i:=by
 induction E with
 |root=>exact r
 |step hi hk hn hji E ih=>
  refine .step ?_ (ih r);rw[Gu.leads ⟨hk,hn,hji⟩];simp
theorem He (H:HR σ h len κ D) {x:Int} (hx:D x) (hxn:σ x=none) {T:Tm} (hT:T.v=0) {t:Nat} (ht:t<len) (hte:aj h len t=t) (htk:(h t).k=2) {i:Nat} {S:Tm} (r:i3 σ h len κ D i S):
 ¬vu h (κ x) i->i3 (upd σ x T) (gz h (κ x) t) len κ D i S:=by
 obtain ⟨f1,f2,f3⟩:=H.fr x hx hxn;have hne:t≠κ x:=fun e=>by rw[e]at htk;omega
 have hE:=fun {i:Nat} (hi:i<len)=>uu H.hg f2 f3 ht hne hte hi
 have hxp:=H.pos x hx;have hW:=fun(U:Tm) (hU:0<=U.v)=>zu H.dec hxp hxn (U:=T) (.inl hT) (fun c=>absurd hT c) _ U rfl hU
 induction r with
 |var hi h0 hv hD hl he=>
  rename_i i S;intro hR;have hux:(wha σ S).v≠x:=fun e=>hR (F0 (H.hg.endR hi) (by rw[he,e];exact .here))
  have hw:wha (upd σ x T) S=wha σ S:=by rw[hW S h0,if_neg hux]
  have hec:aj h len i≠κ x:=fun e=>hux (H.ij _ _ hD hx (iu H.dec h0 hv) hxn (by rw[<-he];exact e))
  exact .var hi h0 (by rw[hw];exact hv) (by rw[hw];exact hD) (by rw[hw];exact hl) (by rw[hw,hE hi,if_neg hec];exact he)
 |fn hi h0 hv hk hnm hn hkids ih=>
  rename_i i S;intro hR;have hw:wha (upd σ x T) S=wha σ S:=by rw[hW S h0,if_neg (by omega)]
  have hec:aj h len i≠κ x:=fun e=>by rw[e]at hk;omega
  have he:aj (gz h (κ x) t) len i=aj h len i:=by rw[hE hi,if_neg hec]
  refine .fn hi h0 (by rw[hw];exact hv) (by rw[he,dt hec];exact hk) (by rw[he,dt hec,hw];exact hnm) (by rw[he,dt hec,hw];exact hn) (fun j hj=>?_)
  rw[hw]at hj |-;rw[he];refine ih j hj fun c=>hR (F0 (H.hg.endR hi) (.step ?_ c))
  rw[ul hk hn];exact List.mem_map.2 ⟨j,List.mem_range.2 hj,rfl⟩
theorem Hd (H:HR σ h len κ D) {x:Int} (hx:D x) (hxn:σ x=none) {T:Tm} (hT:T.v=0) {t:Nat} (hte:aj h len t=t) (htk:(h t).k=2) (rT:i3 σ h len κ D t T) (hRt: ¬vu h (κ x) t) {i:Nat} {S:Tm} (r:i3 σ h len κ D i S):
 i3 (upd σ x T) (gz h (κ x) t) len κ D i S:=by
 have ht:=rT.lt;obtain ⟨f1,f2,f3⟩:=H.fr x hx hxn;have hne:t≠κ x:=fun e=>by rw[e]at htk;omega
 have hE:=fun {i:Nat} (hi:i<len)=>uu H.hg f2 f3 ht hne hte hi
 have hxp:=H.pos x hx;have hW:=fun(U:Tm) (hU:0<=U.v)=>zu H.dec hxp hxn (U:=T) (.inl hT) (fun c=>absurd hT c) _ U rfl hU
 have rA:=He H hx hxn hT ht hte htk rT hRt
 induction r with
 |var hi h0 hv hD hl he=>
  rename_i i S
  by_cases hux:(wha σ S).v=x
  .have hw:wha (upd σ x T) S=T:=by rw[hW S h0,if_pos hux]
   have he':aj (gz h (κ x) t) len i=t:=by rw[hE hi,if_pos (by rw[he,hux])]
   have hwT:wha (upd σ x T) T=T:=ld hT;have het:aj (gz h (κ x) t) len t=t:=by rw[hE ht,hte,if_neg hne]
   cases rA with
   |var _ _ hv'=>rw[hwT]at hv';exact absurd hT hv'
   |fn _ _ hv' hk' hnm' hn' hkids'=>
    rw[hwT]at hv' hnm' hn' hkids';rw[het]at hk' hnm' hn' hkids';refine .fn hi h0 (by rw[hw];exact hv') (by rw[he'];exact hk') (by rw[he',hw];exact hnm') (by rw[he',hw];exact hn') (fun j hj=>?_)
    rw[hw]at hj |-;rw[he'];exact hkids' j hj
  .have hw:wha (upd σ x T) S=wha σ S:=by rw[hW S h0,if_neg hux]
   have hec:aj h len i≠κ x:=fun e=>hux (H.ij _ _ hD hx (iu H.dec h0 hv) hxn (by rw[<-he];exact e))
   exact .var hi h0 (by rw[hw];exact hv) (by rw[hw];exact hD) (by rw[hw];exact hl) (by rw[hw,hE hi,if_neg hec];exact he)
 |fn hi h0 hv hk hnm hn hkids ih=>
  rename_i i S;have hw:wha (upd σ x T) S=wha σ S:=by rw[hW S h0,if_neg (by omega)]
  have hec:aj h len i≠κ x:=fun e=>by rw[e]at hk;omega
  have he:aj (gz h (κ x) t) len i=aj h len i:=by rw[hE hi,if_neg hec]
  refine .fn hi h0 (by rw[hw];exact hv) (by rw[he,dt hec];exact hk) (by rw[he,dt hec,hw];exact hnm) (by rw[he,dt hec,hw];exact hn) (fun j hj=>?_)
  rw[hw]at hj |-;rw[he];exact ih j hj
theorem O9 (H:HR σ h len κ D) {x:Int} (hx:D x) (hxn:σ x=none) {T:Tm} (hT:T.v=0) {t:Nat} (ht:t<len) (htk:(h t).k=2) (hRt: ¬vu h (κ x) t):HR (upd σ x T) (gz h (κ x) t) len κ D:=by
 obtain ⟨f1,f2,f3⟩:=H.fr x hx hxn;have hne:t≠κ x:=fun e=>by rw[e]at htk;omega
 have hu: ∀u,upd σ x T u=none->σ u=none/\u≠x:=fun u e=>by
  unfold upd at e
  by_cases c:u=x
  .rw[if_pos c]at e;cases e
  .rw[if_neg c]at e;exact ⟨e,c⟩
 refine ⟨Ac H.dec (.inl hT),H.hg.bind f1 f2 ht hne hRt,H.pos,fun u v du dv eu ev e=>H.ij u v du dv (hu u eu).1 (hu v ev).1 e,fun u du eu=>?_⟩
 obtain ⟨e1,e2⟩:=hu u eu;have hκ:κ u≠κ x:=fun e=>e2 (H.ij u x du hx e1 hxn e)
 rw[dt hκ];exact H.fr u du e1
def zc (κ:Int->Nat) (u:Int) (c:Nat):Int->Nat:=fun z=>if z=u then c else κ z
theorem Gb (H:HR σ h len κ D) {d u:Int} (hd:D d) (hu:D u) (hdn:σ d=none) (hun:σ u=none) (hdu:u<d) {Z:Tm} (hZ:Z.v=u) {e c:Nat} (hec:(e=κ d/\c=κ u)\/(e=κ u/\c=κ d)):
 HR (upd σ d Z) (gz h e c) len (zc κ u c) D:=by
 have hup:=H.pos u hu;have hne:κ u≠κ d:=fun x=>by have:=H.ij u d hu hd hun hdn x;omega
 obtain ⟨a1,a2,a3⟩:=H.fr d hd hdn;obtain ⟨b1,b2,b3⟩:=H.fr u hu hun
 have hce:c≠e:=by rcases hec with ⟨rfl,rfl⟩| ⟨rfl,rfl⟩ <;> omega
 have hcF:c<len/\(h c).k=1/\(h c).n=(c:Int)/\leads h c= []:=by
  rcases hec with ⟨rfl,rfl⟩| ⟨rfl,rfl⟩
  .exact ⟨b1,b2,b3,H.no_leads hu hun⟩
  .exact ⟨a1,a2,a3,H.no_leads hd hdn⟩
 have heF:e<len/\(h e).k=1:=by
  rcases hec with ⟨rfl,rfl⟩| ⟨rfl,rfl⟩
  .exact ⟨a1,a2⟩
  .exact ⟨b1,b2⟩
 have hup': ∀v,upd σ d Z v=none->σ v=none/\v≠d:=fun v e=>by
  unfold upd at e
  by_cases c:v=d
  .rw[if_pos c]at e;cases e
  .rw[if_neg c]at e;exact ⟨e,c⟩
 have hnr: ¬vu h e c:=fun r=>by
  cases r with
  |here=>exact hce rfl
  |step hj _=>rw[hcF.2.2.2]at hj;cases hj
 have hκ: ∀v,D v->σ v=none->v≠d->v≠u->κ v≠e/\κ v≠c:=fun v dv vn h1 h2=>by
  have k1:κ v≠κ d:=fun x=>h1 (H.ij v d dv hd vn hdn x)
  have k2:κ v≠κ u:=fun x=>h2 (H.ij v u dv hu vn hun x)
  rcases hec with ⟨rfl,rfl⟩| ⟨rfl,rfl⟩
  .exact ⟨k1,k2⟩
  .exact ⟨k2,k1⟩
 refine ⟨Ac H.dec (.inr ⟨by omega,by omega⟩),H.hg.bind heF.1 heF.2 hcF.1 hce hnr,H.pos,fun v w dv dw ev ew x=>?_,fun v dv ev=>?_⟩
 .obtain ⟨v1,v2⟩:=hup' v ev
  obtain ⟨w1,w2⟩:=hup' w ew;unfold zc at x
  by_cases hvu:v=u
  .by_cases hwu:w=u
   .rw[hvu,hwu]
   .rw[if_pos hvu,if_neg hwu]at x
    exact absurd x.symm (hκ w dw w1 w2 hwu).2
  .by_cases hwu:w=u
   .rw[if_neg hvu,if_pos hwu]at x
    exact absurd x (hκ v dv v1 v2 hvu).2
   .rw[if_neg hvu,if_neg hwu]at x
    exact H.ij v w dv dw v1 w1 x
 .obtain ⟨v1,v2⟩:=hup' v ev
  unfold zc
  by_cases hvu:v=u
  .rw[if_pos hvu,dt hce]
   exact ⟨hcF.1,hcF.2.1,hcF.2.2.1⟩
  .rw[if_neg hvu,dt (hκ v dv v1 v2 hvu).1]
   exact H.fr v dv v1
theorem Bg (H:HR σ h len κ D) {d u:Int} (hd:D d) (hu:D u) (hdn:σ d=none) (hun:σ u=none) (hdu:u<d) {Z:Tm} (hZ:Z.v=u) (hZl:Z.len=0) {e c:Nat} (hec:(e=κ d/\c=κ u)\/(e=κ u/\c=κ d)) {i:Nat} {S:Tm} (r:i3 σ h len κ D i S):
 i3 (upd σ d Z) (gz h e c) len (zc κ u c) D i S:=by
 have hup:=H.pos u hu;have hdp:=H.pos d hd;have hne:κ u≠κ d:=fun x=>by have:=H.ij u d hu hd hun hdn x;omega
 obtain ⟨a1,a2,a3⟩:=H.fr d hd hdn;obtain ⟨b1,b2,b3⟩:=H.fr u hu hun
 have hce:c≠e:=by rcases hec with ⟨rfl,rfl⟩| ⟨rfl,rfl⟩ <;> omega
 have heF:(h e).k=1/\(h e).n=(e:Int):=by
  rcases hec with ⟨rfl,rfl⟩| ⟨rfl,rfl⟩
  .exact ⟨a2,a3⟩
  .exact ⟨b2,b3⟩
 have hcF:c<len/\aj h len c=c:=by
  rcases hec with ⟨rfl,rfl⟩| ⟨rfl,rfl⟩
  .exact ⟨b1,H.end_ hu hun⟩
  .exact ⟨a1,H.end_ hd hdn⟩
 have hE:=fun {i:Nat} (hi:i<len)=>uu H.hg heF.1 heF.2 hcF.1 hce hcF.2 hi
 have hW:=fun(U:Tm) (hU:0<=U.v)=>zu H.dec hdp hdn (U:=Z) (.inr ⟨by omega,by omega⟩) (fun _=>by rw[hZ];exact hun) _ U rfl hU
 induction r with
 |var hi h0 hv hD hl he=>
  rename_i i S;have hvn:=iu H.dec h0 hv
  by_cases h1:(wha σ S).v=d
  .have hw:wha (upd σ d Z) S=Z:=by rw[hW S h0,if_pos h1]
   have he':aj (gz h e c) len i=c:=by
    rw[hE hi,he,h1]
    rcases hec with ⟨rfl,rfl⟩| ⟨rfl,rfl⟩
    .rw[if_pos rfl]
    .rw[if_neg (fun x=>hne x.symm)]
   exact .var hi h0 (by rw[hw];omega) (by rw[hw,hZ];exact hu) (by rw[hw];exact hZl) (by rw[hw,he',hZ];unfold zc;rw[if_pos rfl])
  .have hw:wha (upd σ d Z) S=wha σ S:=by rw[hW S h0,if_neg h1]
   by_cases h2:(wha σ S).v=u
   .have he':aj (gz h e c) len i=c:=by
     rw[hE hi,he,h2]
     rcases hec with ⟨rfl,rfl⟩| ⟨rfl,rfl⟩
     .rw[if_neg hne]
     .rw[if_pos rfl]
    exact .var hi h0 (by rw[hw];exact hv) (by rw[hw];exact hD) (by rw[hw];exact hl) (by rw[hw,he',h2];unfold zc;rw[if_pos rfl])
   .have k1:κ (wha σ S).v≠κ d:=fun x=>h1 (H.ij _ d hD hd hvn hdn x)
    have k2:κ (wha σ S).v≠κ u:=fun x=>h2 (H.ij _ u hD hu hvn hun x)
    have he':aj (gz h e c) len i=κ (wha σ S).v:=by
     rw[hE hi,he,if_neg]
     rcases hec with ⟨rfl,rfl⟩| ⟨rfl,rfl⟩
     .exact k1
     .exact k2
    exact .var hi h0 (by rw[hw];exact hv) (by rw[hw];exact hD) (by rw[hw];exact hl) (by rw[hw,he'];unfold zc;rw[if_neg h2])
 |fn hi h0 hv hk hnm hn hkids ih=>
  rename_i i S;have hw:wha (upd σ d Z) S=wha σ S:=by rw[hW S h0,if_neg (by omega)]
  have hec':aj h len i≠e:=fun x=>by rw[x]at hk;omega
  have he:aj (gz h e c) len i=aj h len i:=by rw[hE hi,if_neg hec']
  refine .fn hi h0 (by rw[hw];exact hv) (by rw[he,dt hec'];exact hk) (by rw[he,dt hec',hw];exact hnm) (by rw[he,dt hec',hw];exact hn) (fun j hj=>?_)
  rw[hw]at hj |-;rw[he];exact ih j hj
end
def Di (D:Int->Prop) (σ:Sg) (κ:Int->Nat) (L:Nat) (l:List Cl) (qs:List (Tm × Tm)):MR->Prop
 | .yes s=>∃σ' κ',HR σ' (ah s.2.1) s.2.1.length κ' D/\(∀i U,i3 σ (ah l) l.length κ D i U->i3 σ' (ah s.2.1) s.2.1.length κ' D i U)/\s.1<=L/\(∀v,¬D v->σ' v=σ v)/\∀F ps,L<F->∃F',s.1<F'/\ao F σ L (qs++ps)=ao F' σ' s.1 ps
 | .no x _ _=>(x= -1/\∀F ps,L<F->ao F σ L (qs++ps)=.over)\/∃k:Nat,x=(k:Int)/\∀F ps,L<F->ao F σ L (qs++ps)=.no k
theorem i3.end_ {σ:Sg} {h:Nat->Cl} {len:Nat} {κ:Int->Nat} {D:Int->Prop} (H:HR σ h len κ D) {i:Nat} {S:Tm} (r:i3 σ h len κ D i S) (hw:wha σ (wha σ S)=wha σ S) (hp:0<=(wha σ S).v):i3 σ h len κ D (aj h len i) (wha σ S):=by
 have he:=H.hg.end_end r.lt;have hl:=H.hg.end_lt r.lt
 cases r with
 |var hi h0 hv hD hl' he'=>exact .var hl hp (by rw[hw];exact hv) (by rw[hw];exact hD) (by rw[hw];exact hl') (by rw[hw,he];exact he')
 |fn hi h0 hv hk hnm hn hkids=>exact .fn hl hp (by rw[hw];exact hv) (by rw[he];exact hk) (by rw[he,hw];exact hnm) (by rw[he,hw];exact hn) (fun j hj=>by rw[hw]at hj |-;rw[he];exact hkids j hj)
theorem m9 {σ:Sg} (hd:Dj σ) {S:Tm} (h0:0<=S.v):wha σ (wha σ S)=wha σ S:=by
 by_cases hv:(wha σ S).v=0
 .exact ld hv
 .exact gh (iu hd h0 hv)
theorem Dr {σ:Sg} (hd:Dj σ) {S:Tm} (h0:0<=S.v):0<=(wha σ S).v:=(Qp hd _ S rfl h0).1
theorem Af {D:Int->Prop} {σ:Sg} {κ:Int->Nat} {n:Nat} {l:List Cl} {bs:List Nat} (H:HR σ (ah l) l.length κ D) {X T:Tm} {A B:Nat} (hX0:X.v≠0) (hXD:D X.v) (hXl:X.len=0) (hXn:σ X.v=none) (hA:A=κ X.v) (rT:i3 σ (ah l) l.length κ D B T) (hBe:aj (ah l) l.length B=B) (hTw:wha σ T=T) (hne:X.v≠T.v)
 (hTk:(T.v=0/\(ah l B).k=2)\/(T.v≠0/\D T.v/\T.len=0/\σ T.v=none/\B=κ T.v)) {qs:List (Tm × Tm)}
 (hm: ∀F ps,n<F->ao (F+1) σ (n+1) (qs++ps)=match ba σ X.v n [T]with
    | .over=> .over
    | .found k=> .no k
    | .free k=>ao F (put σ X T) k ps):Di D σ κ (n+1) l qs (r6 A B (n,l,bs)):=by
 subst hA;have hXp:=H.pos _ hXD;have hW:=D4 H hXD hXn n [T] [B] (.cons rT .nil);obtain ⟨f1,f2,f3⟩:=H.fr _ hXD hXn
 have hm': ∀F ps,n+1<F->ao F σ (n+1) (qs++ps)=match ba σ X.v n [T]with
  | .over=> .over
  | .found k=> .no k
  | .free k=>ao (F-1) (put σ X T) k ps:=fun F ps hF=>by
  obtain ⟨F',rfl⟩: ∃F',F=F'+1:=⟨F-1,by omega⟩
  exact hm F' ps (by omega)
 unfold r6
 show Di D σ κ (n+1) l qs (match ja (ah l) l.length (κ X.v) n [B]with
  | .ok k=> .yes (k,ig l (jy l (κ X.v) B).1 (jy l (κ X.v) B).2,bs++ [(jy l (κ X.v) B).1])
  |q=> .no q.left l bs)
 have hle:=(zr (ah l) l.length (κ X.v) n [B]).1;have hnr:=F9 H.hg (H.end_ hXD hXn) n [B]
 cases hlk:ja (ah l) l.length (κ X.v) n [B]with
 |over=>
  rw[hlk]at hW
  cases hwi:ba σ X.v n [T]with
  |over=>
   refine .inl ⟨rfl,fun F ps hF=>?_⟩
   rw[hm' F ps hF,hwi]
  |found k=>rw[hwi]at hW;exact hW.elim
  |free k=>rw[hwi]at hW;exact hW.elim
 |hit k=>
  rw[hlk]at hW
  cases hwi:ba σ X.v n [T]with
  |over=>rw[hwi]at hW;exact hW.elim
  |found k'=>
   rw[hwi]at hW;obtain rfl:k'=k:=hW;refine .inr ⟨k',rfl,fun F ps hF=>?_⟩
   rw[hm' F ps hF,hwi]
  |free k=>rw[hwi]at hW;exact hW.elim
 |ok k=>
  have hkn:=hle k hlk;have hRt: ¬vu (ah l) (κ X.v) B:=hnr k hlk B (by simp) rT.lt
  rw[hlk]at hW
  cases hwi:ba σ X.v n [T]with
  |over=>rw[hwi]at hW;exact hW.elim
  |found k=>rw[hwi]at hW;exact hW.elim
  |free k'=>
   rw[hwi]at hW;obtain rfl:k'=k:=hW;rw[hwi]at hm'
   have fin: ∀(e c:Nat) (σ':Sg) (κ':Int->Nat),e<l.length->jy l (κ X.v) B=(e,c)->put σ X T=σ'->(∀v,¬D v->σ' v=σ v)->HR σ' (gz (ah l) e c) l.length κ' D->(∀i U,i3 σ (ah l) l.length κ D i U->i3 σ' (gz (ah l) e c) l.length κ' D i U)->Di D σ κ (n+1) l qs (.yes (k',ig l (jy l (κ X.v) B).1 (jy l (κ X.v) B).2,bs++ [(jy l (κ X.v) B).1])):=by
    intro e c σ' κ' he hs hp hd hH hR;rw[hs];refine ⟨σ',κ',?_,?_,by show k'<=n+1;omega,hd,fun F ps hF=>⟨F-1,by show k'<F-1;omega,?_⟩⟩
    .show HR σ' (ah (ig l e c)) (ig l e c).length κ' D
     rw[tz he,jw];exact hH
    .show∀i U,_->i3 σ' (ah (ig l e c)) (ig l e c).length κ' D i U
     rw[tz he,jw];exact hR
    .rw[hm' F ps hF]
     show ao (F-1) (put σ X T) k' ps=ao (F-1) σ' k' ps
     rw[hp]
   rcases hTk with ⟨hT0,hBk⟩| ⟨hT0,hTD,hTl,hTn,hB⟩
   .refine fin (κ X.v) B (upd σ X.v T) κ f1 (by unfold jy;rw[if_neg (by omega)]) (by unfold put;rw[if_neg (by omega)]) (fun v hv=>if_neg (show¬v=_ from fun c=>hv (by rw[c];exact hXD))) (O9 H hXD hXn hT0 rT.lt hBk hRt) (fun i U r=>Hd H hXD hXn hT0 hBe hBk rT hRt r)
   .subst hB
    have hTp:=H.pos _ hTD;obtain ⟨g1,g2,g3⟩:=H.fr _ hTD hTn;have hκ:κ X.v≠κ T.v:=fun x=>hne (H.ij _ _ hXD hTD hXn hTn x)
    have hsw: ∃e c,jy l (κ X.v) (κ T.v)=(e,c)/\((e=κ X.v/\c=κ T.v)\/(e=κ T.v/\c=κ X.v)):=by
     unfold jy
     by_cases hlt:(ah l (κ T.v)).k=1/\κ X.v<κ T.v
     .exact ⟨κ T.v,κ X.v,if_pos hlt,.inr ⟨rfl,rfl⟩⟩
     .exact ⟨κ X.v,κ T.v,if_neg hlt,.inl ⟨rfl,rfl⟩⟩
    obtain ⟨e,c,hs,hec⟩:=hsw
    have hel:e<l.length:=by rcases hec with ⟨rfl,_⟩| ⟨rfl,_⟩ <;> assumption
    by_cases hlt:X.v<T.v
    .have hec':=hec.symm
     exact fin e c (upd σ T.v X) (zc κ X.v c) hel hs (by unfold put;rw[if_pos hlt]) (fun v hv=>if_neg (show¬v=_ from fun c=>hv (by rw[c];exact hTD))) (Gb H hTD hXD hTn hXn hlt rfl hec') (fun i U r=>Bg H hTD hXD hTn hXn hlt rfl hXl hec' r)
    .exact fin e c (upd σ X.v T) (zc κ T.v c) hel hs (by unfold put;rw[if_neg hlt]) (fun v hv=>if_neg (show¬v=_ from fun c=>hv (by rw[c];exact hXD))) (Gb H hXD hTD hXn hTn (by omega) rfl hec) (fun i U r=>Bg H hXD hTD hXn hTn (by omega) rfl hTl hec r)
theorem Di.trans {D:Int->Prop} {σ σ':Sg} {κ κ':Int->Nat} {L:Nat} {l:List Cl} {q1 q2:List (Tm × Tm)} {s:MS} (hR: ∀i U,i3 σ (ah l) l.length κ D i U->i3 σ' (ah s.2.1) s.2.1.length κ' D i U) (hle:s.1<=L) (hdo: ∀v,¬D v->σ' v=σ v) (hm: ∀F ps,L<F->∃F',s.1<F'/\ao F σ L (q1++ps)=ao F' σ' s.1 ps) {r:MR} (h2:Di D σ' κ' s.1 s.2.1 q2 r):Di D σ κ L l (q1++q2) r:=by
 cases r with
 |yes s2=>
  obtain ⟨σ2,κ2,H2,R2,le2,d2,m2⟩:=h2;refine ⟨σ2,κ2,H2,fun i U r=>R2 i U (hR i U r),by omega,fun v hv=>(d2 v hv).trans (hdo v hv),fun F ps hF=>?_⟩
  obtain ⟨F',h1,e1⟩:=hm F (q2++ps) hF;obtain ⟨F2,h2,e2⟩:=m2 F' ps h1;exact ⟨F2,h2,by rw[List.append_assoc,e1,e2]⟩
 |no x l2 b2=>
  rcases h2 with ⟨hx,h2⟩| ⟨k,hx,h2⟩
  .refine .inl ⟨hx,fun F ps hF=>?_⟩
   obtain ⟨F',h1,e1⟩:=hm F (q2++ps) hF;rw[List.append_assoc,e1,h2 F' ps h1]
  .refine .inr ⟨k,hx,fun F ps hF=>?_⟩
   obtain ⟨F',h1,e1⟩:=hm F (q2++ps) hF;rw[List.append_assoc,e1,h2 F' ps h1]
theorem Di.more {D:Int->Prop} {σ:Sg} {κ:Int->Nat} {L:Nat} {l:List Cl} {q1 q2:List (Tm × Tm)} {x:Int} {l':List Cl} {bs':List Nat} (h:Di D σ κ L l q1 (.no x l' bs')):Di D σ κ L l (q1++q2) (.no x l' bs'):=by
 rcases h with ⟨hx,h⟩| ⟨k,hx,h⟩
 .exact .inl ⟨hx,fun F ps hF=>by rw[List.append_assoc];exact h F _ hF⟩
 .exact .inr ⟨k,hx,fun F ps hF=>by rw[List.append_assoc];exact h F _ hF⟩
def S5 (D:Int->Prop) (f:Nat):Prop:=∀(a b L:Nat) (l:List Cl) (bs:List Nat) (σ:Sg) (κ:Int->Nat) (S T:Tm),L<f->HR σ (ah l) l.length κ D->i3 σ (ah l) l.length κ D a S->i3 σ (ah l) l.length κ D b T->Di D σ κ L l [(S,T)] (jn f a b (L,l,bs))
theorem N7 {D:Int->Prop} {f:Nat} (ih:S5 D f) {A B L N:Nat} {l:List Cl} {bs:List Nat} {σ:Sg} {κ:Int->Nat} {X Y:Tm} (hL:L<f) (H:HR σ (ah l) l.length κ D) (hN:X.len=N)
 (rX: ∀j,j<N->i3 σ (ah l) l.length κ D (A+1+j) (X.f j)) (rY: ∀j,j<N->i3 σ (ah l) l.length κ D (B+1+j) (Y.f j)):
 ∀k,k<=N->Di D σ κ L l ((jp X Y).take k) (m8 (jn f) A B k (L,l,bs)):=by
 intro k
 induction k with
 |zero=>intro _;exact ⟨σ,κ,H,fun i U r=>r,lZ,fun _ _=>rfl,fun F ps hF=>⟨F,hF,rfl⟩⟩
 |succ k ik=>
  intro hk;have h1:=ik (by omega)
  have htk:(jp X Y).take (k+1)=(jp X Y).take k++ [(X.f k,Y.f k)]:=by
   unfold jp;rw[hN,List.take_add_one,List.getElem?_map,List.getElem?_range (show k<N by omega)]
   rfl
  rw[htk]
  show Di D σ κ L l _ (match m8 (jn f) A B k (L,l,bs)with| .yes s'=>jn f (A+1+k) (B+1+k) s'|r=>r)
  cases hs:m8 (jn f) A B k (L,l,bs)with
  |yes s=>
   rw[hs]at h1;obtain ⟨σ',κ',H',R',le',d',m'⟩:=h1;exact Di.trans R' le' d' m' (ih (A+1+k) (B+1+k) s.1 s.2.1 s.2.2 σ' κ' (X.f k) (Y.f k) (by omega) H' (R' _ _ (rX k (by omega))) (R' _ _ (rY k (by omega))))
  |no x l' bs'=>
   rw[hs]at h1;exact h1.more
theorem N6 {D:Int->Prop} {f:Nat} (ih:S5 D f):S5 D (f+1):=by
 intro a b L l bs σ κ S T hL H rS rT
 cases L with
 |zero=>
  refine .inl ⟨rfl,fun F ps hF=>?_⟩
  obtain ⟨F',rfl⟩: ∃F',F=F'+1:=⟨F-1,by omega⟩
  rfl
 |succ n=>
  show Di D σ κ (n+1) l [(S,T)] (xc (jn f) (aj (ah l) l.length a) (aj (ah l) l.length b) (n,l,bs))
  have hS0:=rS.nn;have hT0:=rT.nn;have rSe:=rS.end_ H (m9 H.dec hS0) (Dr H.dec hS0);have rTe:=rT.end_ H (m9 H.dec hT0) (Dr H.dec hT0);have hAe:=H.hg.end_end rS.lt;have hBe:=H.hg.end_end rT.lt;unfold xc
  show Di D σ κ (n+1) l [(S,T)] (if (ah l (aj (ah l) l.length a)).k=1/\aj (ah l) l.length a=aj (ah l) l.length b then .yes (n,l,bs)
   else if (ah l (aj (ah l) l.length a)).k=1 then r6 (aj (ah l) l.length a) (aj (ah l) l.length b) (n,l,bs)
   else if (ah l (aj (ah l) l.length b)).k=1 then r6 (aj (ah l) l.length b) (aj (ah l) l.length a) (n,l,bs)
   else if¬((ah l (aj (ah l) l.length a)).n=(ah l (aj (ah l) l.length b)).n/\(ah l (aj (ah l) l.length a)).nm.toList=(ah l (aj (ah l) l.length b)).nm.toList)then .no n l bs
   else m8 (jn f) (aj (ah l) l.length a) (aj (ah l) l.length b) (ah l (aj (ah l) l.length a)).n.toNat (n,l,bs))
  have one: ∀(F:Nat) (ps:List (Tm × Tm)),[(S,T)]++ps=(S,T)::ps:=fun _ _=>rfl
  cases rS with
  |var hi h0 hv hD hl he=>
   have hSn:=iu H.dec h0 hv;have hAk:(ah l (aj (ah l) l.length a)).k=1:=by rw[he];exact (H.fr _ hD hSn).2.1
   cases rT with
   |var hi' h0' hv' hD' hl' he'=>
    have hTn:=iu H.dec h0' hv'
    by_cases hAB:aj (ah l) l.length a=aj (ah l) l.length b
    .have huv:(wha σ S).v=(wha σ T).v:=H.ij _ _ hD hD' hSn hTn (by rw[<-he,<-he'];exact hAB)
     rw[if_pos ⟨hAk,hAB⟩];refine ⟨σ,κ,H,fun i U r=>r,by show n<=n+1;omega,fun _ _=>rfl,fun F ps hF=>?_⟩
     obtain ⟨F',rfl⟩: ∃F',F=F'+1:=⟨F-1,by omega⟩
     exact ⟨F',by show n<F';omega,Bs hv huv⟩
    .have huv:(wha σ S).v≠(wha σ T).v:=fun e=>hAB (by rw[he,he',e])
     rw[if_neg (fun c=>hAB c.2),if_pos hAk]
     exact Af H hv hD hl hSn he rTe hBe (m9 H.dec h0') huv (.inr ⟨hv',hD',hl',hTn,he'⟩) (fun F ps hF=>rh hv huv)
   |fn hi' h0' hv' hk' hnm' hn' hkids'=>
    have hAB: ¬aj (ah l) l.length a=aj (ah l) l.length b:=fun e=>by rw[e]at hAk;omega
    have huv:(wha σ S).v≠(wha σ T).v:=by omega
    rw[if_neg (fun c=>hAB c.2),if_pos hAk]
    exact Af H hv hD hl hSn he rTe hBe (m9 H.dec h0') huv (.inl ⟨hv',hk'⟩) (fun F ps hF=>rh hv huv)
  |fn hi h0 hv hk hnm hn hkids=>
   have hAk: ¬(ah l (aj (ah l) l.length a)).k=1:=by omega
   cases rT with
   |var hi' h0' hv' hD' hl' he'=>
    have hTn:=iu H.dec h0' hv';have hBk:(ah l (aj (ah l) l.length b)).k=1:=by rw[he'];exact (H.fr _ hD' hTn).2.1
    rw[if_neg (fun c=>hAk c.1),if_neg hAk,if_pos hBk]
    exact Af H hv' hD' hl' hTn he' rSe hAe (m9 H.dec h0) (by omega) (.inl ⟨hv,hk⟩) (fun F ps hF=>vh hv hv')
   |fn hi' h0' hv' hk' hnm' hn' hkids'=>
    have hBk: ¬(ah l (aj (ah l) l.length b)).k=1:=by omega
    rw[if_neg (fun c=>hAk c.1),if_neg hAk,if_neg hBk]
    by_cases hsame:(wha σ S).nm.toList=(wha σ T).nm.toList/\(wha σ S).len=(wha σ T).len
    .rw[if_neg (fun c=>c ⟨by rw[hn,hn',hsame.2],by rw[hnm,hnm',hsame.1]⟩),hn,Int.toNat_natCast]
     have hK:=N7 (bs:=bs) ih (show n<f by omega) H (X:=wha σ S) (Y:=wha σ T) rfl hkids (fun j hj=>hkids' j (by omega)) (wha σ S).len lZ
     have hz:(jp (wha σ S) (wha σ T)).take (wha σ S).len=jp (wha σ S) (wha σ T):=List.take_of_length_le (by unfold jp;simp)
     rw[hz]at hK;generalize m8 (jn f) (aj (ah l) l.length a) (aj (ah l) l.length b) (wha σ S).len (n,l,bs)=r at hK
     have hon: ∀F ps,n+1<F->ao F σ (n+1) ([(S,T)]++ps)=ao (F-1) σ n (jp (wha σ S) (wha σ T)++ps):=fun F ps hF=>by
      obtain ⟨F',rfl⟩: ∃F',F=F'+1:=⟨F-1,by omega⟩
      exact F7 hv hv' hsame.1 hsame.2
     cases r with
     |yes s=>
      obtain ⟨σ',κ',H',R',le',d',m'⟩:=hK;refine ⟨σ',κ',H',R',by omega,d',fun F ps hF=>?_⟩
      obtain ⟨F',h1,e1⟩:=m' (F-1) ps (by omega)
      exact ⟨F',h1,by rw[hon F ps hF,e1]⟩
     |no x l' bs'=>
      rcases hK with ⟨hx,hK⟩| ⟨k,hx,hK⟩
      .exact .inl ⟨hx,fun F ps hF=>by rw[hon F ps hF,hK _ _ (by omega)]⟩
      .exact .inr ⟨k,hx,fun F ps hF=>by rw[hon F ps hF,hK _ _ (by omega)]⟩
    .rw[if_pos (fun c=>hsame ⟨by rw[<-hnm,<-hnm'];exact c.2,by have:=c.1;rw[hn,hn']at this;omega⟩)]
     refine .inr ⟨n,rfl,fun F ps hF=>?_⟩
     obtain ⟨F',rfl⟩: ∃F',F=F'+1:=⟨F-1,by omega⟩
     exact Bu hv hv' hsame
theorem Fu (D:Int->Prop): ∀f,S5 D f:=by
 intro f
 induction f with
 |zero=>intro a b L l bs σ κ S T hL;exact absurd hL (nL L)
 |succ f ih=>exact N6 ih
theorem Hw {w:World} {lo g cap n:Nat} {t:TypeId} {xs:List Value} (h:w.ownsRow lo t 1 (.slice (some ⟨g,0,none⟩) n cap) n xs) (i:Nat) (x:Value):
 (w.setCell ⟨g,i,none⟩ x).ownsRow lo t 1 (.slice (some ⟨g,0,none⟩) n cap) n (xs.set i x):=by
 obtain ⟨h1,h2⟩:=h
 rcases h2 with ⟨h2,_⟩| ⟨g',cap',cur,hv,hlo,hg,hnc,hcm,hsz,htk⟩
 .cases h2
 cases hv;refine ⟨by simp[h1],.inr ⟨g,cap,cur.setIfInBounds i x,rfl,hlo,?_,hnc,hcm,by simp[hsz],?_⟩⟩
 .simp only[World.setCell,Array.getElem?_modify]
  simp[hg]
 .rw[<-htk]
  simp[List.take_set]
theorem yu {T:Tm}:cnt (a9 T)=cnt T:=by
 induction T with
 |nil=>rfl
 |mk v nm a len cap f ih=>
  show 1+bj (fun i=>cnt (if i<len then a9 (f i)else .nil)) len=1+bj (fun i=>cnt (f i)) len
  congr 1
  have: ∀k,k<=len->bj (fun i=>cnt (if i<len then a9 (f i)else .nil)) k=bj (fun i=>cnt (f i)) k:=by
   intro k
   induction k with
   |zero=>intro _;rfl
   |succ k ihk=>
    intro hk
    show bj _ k+cnt (if k<len then a9 (f k)else .nil)=bj _ k+cnt (f k)
    rw[ihk (by omega),if_pos (by omega),ih k]
  exact this len lZ
theorem Cy {g h:Nat->Nat} {k:Nat} (e: ∀i,i<k->g i=h i):bj g k=bj h k:=by
 induction k with
 |zero=>rfl
 |succ k ih=>rw[bj,bj,ih (fun i hi=>e i (by omega)),e k (by omega)]
end Go.Proofs.YtmggaclaoefdaabGreat
