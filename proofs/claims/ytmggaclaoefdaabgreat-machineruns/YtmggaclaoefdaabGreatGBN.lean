/- Part of the proof. -/
import Derived.Test.YtmggaclaoefdaabGreatGBM
import Derived.Test.YtmggaclaoefdaabGreatMzF
namespace Go.Proofs.YtmggaclaoefdaabGreat
open Go.RowKit Go.Proofs.Tryz
set_option linter.unusedVariables false
set_option linter.unusedSimpArgs false
set_option maxRecDepth 100000
set_option maxHeartbeats 8000000
theorem Lg {σ:Sg} {h:Nat->Cl} {len:Nat} {κ:Int->Nat} {D:Int->Prop} (H:HR σ h len κ D) {i:Nat} {S:Tm} (r:i3 σ h len κ D i S):mf (fun i S=>i3 σ h len κ D i S) (leads h (aj h len i)) (az (wha σ S)):=by
 cases r with
 |var hi h0 hv hD hl he=>
  rw[yi hl,he,H.no_leads hD (iu H.dec h0 hv)];exact .nil
 |fn hi h0 hv hk hnm hn hkids=>
  rw[ul hk hn];unfold az
  have: ∀m,m<=(wha σ S).len->mf (fun i S=>i3 σ h len κ D i S) ((List.range m).map fun j=>aj h len i+1+j) ((List.range m).map (wha σ S).f):=by
   intro m
   induction m with
   |zero=>intro _;exact .nil
   |succ m im=>
    intro hm;rw[List.range_succ,List.map_append,List.map_append];exact mf.app (im (by omega)) (.cons (hkids m (by omega)) .nil)
  exact this _ lZ
theorem xn (h:Nat->Cl) (len:Nat) (i:Nat) (l:List Nat):gd h len (i::l)=od h len i+gd h len l:=by simp[gd]
theorem Ky (h:Nat->Cl) (len:Nat) (l m:List Nat):gd h len (l++m)=gd h len l+gd h len m:=by simp[gd]
theorem Ld {σ:Sg} {h:Nat->Cl} {len:Nat} {κ:Int->Nat} {D:Int->Prop} (H:HR σ h len κ D): ∀(k:Nat) (ts:List Tm) (is:List Nat),mf (fun i S=>i3 σ h len κ D i S) is ts->dx σ k ts=if gd h len is<=k then some (k-gd h len is)else none:=by
 intro k
 induction k with
 |zero=>
  intro ts is hF
  cases hF with
  |nil=>rfl
  |cons hr hF=>
   rename_i i S is ts;have h1:=qx H.hg hr.lt;rw[xn,if_neg (by omega)]
   rfl
 |succ k ih=>
  intro ts is hF
  cases hF with
  |nil=>rw[xv];rfl
  |cons hr hF=>
   rename_i i S is ts;have h1:=qx H.hg hr.lt;have h2:=ih _ _ (mf.app (Lg H hr) hF)
   show dx σ k (az (wha σ S)++ts)=_
   rw[h2,Ky,xn]
   by_cases hle:gd h len (leads h (aj h len i))+gd h len is<=k
   .rw[if_pos hle,if_pos (by omega)]
    congr 1
    omega
   .rw[if_neg hle,if_neg (by omega)]
theorem Pq {α β:Type} {R:α->β->Prop}: ∀(l:List α) (m:List β),l.length=m.length->(∀(i:Nat) a b,l[i]?=some a->m[i]?=some b->R a b)->mf R l m:=by
 intro l
 induction l with
 |nil=>
  intro m hl _
  cases m with
  |nil=>exact .nil
  |cons b m=>simp at hl
 |cons a l ih=>
  intro m hl hR
  cases m with
  |nil=>simp at hl
  |cons b m=>exact .cons (hR 0 a b rfl rfl) (ih m (by simpa using hl) fun i x y h1 h2=>hR (i+1) x y (by simpa using h1) (by simpa using h2))
theorem Pk {π:Int->Int} (T:Tm):a9 (ap (iq π) T)=ap (iq π) T:=by
 induction T with
 |nil=>rfl
 |mk v nm a n cap f ih=>
  by_cases hv:v=0
  .subst hv
   rw[kv _ (show (Tm.mk 0 nm a n cap f).v=0 from rfl)]
   show Tm.mk 0 nm none n 0 (fun i=>if i<n then a9 (if i<n then ap _ (f i)else .nil)else .nil)=Tm.mk 0 nm none n 0 (fun i=>if i<n then ap _ (f i)else .nil)
   congr 1
   funext i
   by_cases hi:i<n
   .rw[if_pos hi,if_pos hi];exact ih i
   .rw[if_neg hi,if_neg hi]
  .rw[jf _ (show (Tm.mk v nm a n cap f).v≠0 from hv)]
   exact Ae _
section
variable {n:Nat} {qs:List Nat} {σ:Sg} {last:Int} {gl:List Gl} {h:List Cl} {gs:List Gq} {first:Nat} {κ:Int->Nat} {D:Int->Prop}
theorem wj.query (S:wj n qs σ last gl h gs first κ D):mf (fun i S=>i3 σ (ah h) h.length κ D i S) qs (da n):=by
 refine Pq _ _ (by rw[S.ql];simp[da]) fun i a b h1 h2=>?_
 have h3:=S.qr i a h1;unfold da at h2;rw[List.getElem?_map]at h2;obtain ⟨j,e1,e2⟩:=Option.map_eq_some_iff.1 h2;have hi:i<n:=by rw[<-S.ql];exact (List.getElem?_eq_some_iff.1 h1).1
 rw[List.getElem?_range hi]at e1;have e3:=oj e1;subst e3;rw[<-e2];exact h3
theorem Ex (S:wj n qs σ last gl h gs first κ D) {k:Nat} (hr:dx σ 200 (da n)=some k):io σ n=jv h qs:=by
 have hfin:=Bc 200 (da n) k hr
 have hq: ∀(i:Nat) (hi:i<n),gy (ah h) h.length (qs[i]'(by rw[S.ql];exact hi))=ap (xg κ) (ex σ 200 (vT ((i:Int)+1)))/\∀u∈cz (ex σ 200 (vT ((i:Int)+1))),D u/\σ u=none:=fun i hi=>by
  have h1:=S.qr i _ (gE (by rw[S.ql];exact hi))
  refine Oi S.hr h1 200 (hfin _ ?_);unfold da;exact List.mem_map.2 ⟨i,List.mem_range.2 hi,rfl⟩
 have e1:qs.map (gy (ah h) h.length)=((List.range n).map fun i:Nat=>ex σ 200 (vT ((i:Int)+1))).map (ap (xg κ)):=by
  apply List.ext_getElem
  .simp[S.ql]
  .intro i h1 h2
   have hi:i<n:=by simpa[S.ql]using h1
   simp only[List.getElem_map,List.getElem_range];exact (hq i hi).1
 have hD: ∀T∈((List.range n).map fun i:Nat=>ex σ 200 (vT ((i:Int)+1))),∀u∈cz T,D u/\σ u=none:=fun T hT=>by
  obtain ⟨i,hi,rfl⟩:=List.mem_map.1 hT;exact (hq i (List.mem_range.1 hi)).2
 unfold io jv;rw[e1];simp only[];generalize ((List.range n).map fun i:Nat=>ex σ 200 (vT ((i:Int)+1)))=l at*
 have hg0: ∀u:Int,((κ u:Int)+1)≠0:=fun u=>by omega
 have e2:(l.map (ap (xg κ))).map cz=(l.map cz).map (List.map fun u=>((κ u:Int)+1)):=by
  rw[List.map_map,List.map_map];exact List.map_congr_left fun T _=>Nz (g:=fun u=>((κ u:Int)+1)) hg0 T
 have hin: ∀u∈(l.map cz).flatten,D u/\σ u=none:=fun u hu=>by
  obtain ⟨m,hm,hu⟩:=List.mem_flatten.1 hu;obtain ⟨T,hT,rfl⟩:=List.mem_map.1 hm;exact hD T hT u hu
 have hij: ∀u∈(l.map cz).flatten,∀v∈(l.map cz).flatten,((κ u:Int)+1)=((κ v:Int)+1)->u=v:=fun u hu v hv e=>S.hr.ij u v (hin u hu).1 (hin v hv).1 (hin u hu).2 (hin v hv).2 (by omega)
 have e3:bg [] ((l.map cz).flatten.map fun u=>((κ u:Int)+1))=(bg [] (l.map cz).flatten).map fun u=>((κ u:Int)+1):=Np (l.map cz).flatten [] (by simpa using hij)
 rw[e2,<-List.map_flatten,e3,List.map_map];refine List.map_congr_left fun T hT=>?_
 rw[Pk]
 show _=ap (iq (jz ((bg [] (l.map cz).flatten).map fun u=>((κ u:Int)+1)))) (ap (fun u=>a9 (vT ((κ u:Int)+1))) T)
 rw[Rh (g:=fun u=>((κ u:Int)+1)) hg0]
 refine Ko T fun v hv=>?_
 have hvm:v∈(l.map cz).flatten:=List.mem_flatten.2 ⟨cz T,List.mem_map.2 ⟨T,hT,rfl⟩,hv⟩;unfold iq jz;rw[O8 (g:=fun u=>((κ u:Int)+1)) _ fun u hu hc=>hij u ((Lz _ _ hu).resolve_left (by simp)) v hvm hc]
end
structure wt (P:Pg) (n:Nat) (qs:List Nat) (F:FM) (Y:PS):Prop where
 m:zh n qs F.m Y
 an:F.an=Y.ans
 st:F.st=Y.st
 few:Y.fin=0->Y.ans.length<40
 ok:jm P.len qs F.m
 sz:Dh Y.st F.m
 s4:Y.st<=400
section
variable {P:Pg} {n:Nat} {qs:List Nat} {F:FM} {Y:PS}
theorem Dh.gs5 {st:Nat} {X:PM} (h:Dh st X) (hs:st<=400):X.gs.length<=5000:=by have:=h.gs;omega
theorem kc (S:zh n qs F.m Y) (hf:Y.fin=0):F.m.first=0↔Y.gl= []:=by
 obtain ⟨κ,D,h⟩:=S.on hf;have hc:=h.ch;generalize F.m.first=z at hc |-;generalize Y.gl=g at hc |-
 cases hc with
 |nil=>exact ⟨fun _=>rfl,fun _=>rfl⟩
 |cons=>exact ⟨fun h=>(by omega),fun h=>(by cases h)⟩
theorem o5 (hC:i7 P) (S:wt P n qs F Y) (hf:Y.fin=0) (h0:F.m.first=0):wt P n qs (a6 P qs F) (ej (bm P) n Y)/\(ej (bm P) n Y).st=Y.st:=by
 obtain ⟨κ,D,hSt⟩:=S.m.on hf;have hroom:=Ld hSt.hr 200 (da n) qs hSt.query;have hfew:=S.few hf;unfold a6 ej
 by_cases h2:200<gd (ah F.m.h) F.m.h.length qs
 .rw[if_neg (by omega)]at hroom
  rw[if_pos h2,hroom];exact ⟨⟨⟨rfl,fun h=>absurd (show (3:Nat)=0 from h) (by decide),fun h=>absurd (show (3:Nat)=0 from h) (by decide)⟩,S.an,S.st,fun h=>absurd (show (3:Nat)=0 from h) (by decide),S.ok.same rfl rfl rfl S.ok.fst rfl,⟨S.sz.h,S.sz.gs,S.sz.c⟩,S.s4⟩,rfl⟩
 rw[if_pos (by omega)]at hroom
 rw[if_neg h2,hroom,S.an];have hfr:=Ex hSt hroom
 show wt P n qs (if 40<=Y.ans.length+1 then { F with m:= { F.m with fin:=1},an:=Y.ans++ [jv F.m.h qs]} else { F with m:=dr P F.m,an:=Y.ans++ [jv F.m.h qs]}) (if Y.ans.length+1=40 then { Y with ans:=Y.ans++ [io Y.σ n],fin:=1} else bk (bm P) { Y with ans:=Y.ans++ [io Y.σ n]})/\(if Y.ans.length+1=40 then { Y with ans:=Y.ans++ [io Y.σ n],fin:=1} else bk (bm P) { Y with ans:=Y.ans++ [io Y.σ n]}).st=Y.st
 rw[hfr]
 by_cases h4:Y.ans.length+1=40
 .rw[if_pos h4,if_pos (by omega)]
  exact ⟨⟨⟨rfl,fun h=>absurd (show (1:Nat)=0 from h) (by decide),fun h=>absurd (show (1:Nat)=0 from h) (by decide)⟩,rfl,S.st,fun h=>absurd (show (1:Nat)=0 from h) (by decide),S.ok.same rfl rfl rfl S.ok.fst rfl,⟨S.sz.h,S.sz.gs,S.sz.c⟩,S.s4⟩,rfl⟩
 .rw[if_neg h4,if_neg (by omega)]
  have hb:=zt (X:=F.m) (Y:= { Y with ans:=Y.ans++ [jv F.m.h qs]}) hC S.s4 S.ok S.sz S.m.fin (fun _=>(S.m.c hf).same rfl rfl rfl rfl rfl (Int.le_refl _)) (S.m.c hf).cl
  have hst:=hb.2.2.2;have han:=hb.2.2.1;refine ⟨⟨hb.1,han.symm,by rw[hst];exact S.st,fun _=>?_,(nu hC S.ok (S.sz.gs5 S.s4)).ok,by rw[hst];exact hb.2.1,by rw[hst];exact S.s4⟩,hst⟩
  rw[han,List.length_append];simp;omega
theorem p6 (hC:i7 P) (S:wt P n qs F Y) (hf:Y.fin=0) (h0:F.m.first≠0) (hs:Y.st+1<=400):wt P n qs { F with m:=bn P { F.m with left:=4000},st:=F.st+1} (eh (bm P) { Y with st:=Y.st+1})/\(eh (bm P) { Y with st:=Y.st+1}).st=Y.st+1/\(eh (bm P) { Y with st:=Y.st+1}).ans=Y.ans:=by
 have hne:Y.gl≠ []:=fun e=>h0 ((kc S.m hf).2 e)
 obtain ⟨⟨T,cc⟩,rest,hgl⟩: ∃g rest,Y.gl=g::rest:=by
  cases hg:Y.gl with
  |nil=>exact absurd hg hne
  |cons g rest=>exact ⟨g,rest,rfl⟩
 have hO:jm P.len qs { F.m with left:=4000}:=S.ok.same rfl rfl rfl S.ok.fst rfl
 have hSC:=S.m.c hf;obtain ⟨κ,D,hSt⟩:=S.m.on hf
 have hM:zh n qs { F.m with left:=4000} { Y with st:=Y.st+1}:=⟨S.m.fin,fun _=>hSC.same rfl rfl rfl rfl rfl (Int.le_refl _),fun _=>⟨κ,D,hSt⟩⟩
 have hT:=G6 (S:=T) (cc:=cc) (rest:=rest) (st:=Y.st) hC hs hO ⟨S.sz.h,S.sz.gs,S.sz.c⟩ rfl hM hf hgl;have hst:=hT.2.2.2;have han:=hT.2.2.1;have hf1:F.m.first=F.m.first-1+1:=by omega
 have hfl:=S.ok.fst;have hfx:F.m.fin=0:=by rw[S.m.fin,hf];rfl
 have hTk:=nh (X:= { F.m with left:=4000}) hC hO (S.sz.gs5 S.s4) hf1 (by show F.m.first-1<F.m.gs.length;omega) hfx ⟨4000,rfl,lZ⟩
 exact ⟨⟨hT.1,by rw[han];exact S.an,by rw[hst,S.st],fun _=>by rw[han];exact S.few hf,hTk.ok,by rw[hst];exact hT.2.1,by rw[hst];exact hs⟩,hst,han⟩
end
noncomputable def jb (P:Pg) (qs:List Nat) (limit:Nat):Nat->FM->FM
 |0,F=>F
 |f+1,F=>if F.m.fin≠0 then F else if F.m.first=0 then jb P qs limit f (a6 P qs F)
  else if F.st=limit then { F with m:= { F.m with fin:=2} } else jb P qs limit f { F with m:=bn P { F.m with left:=4000},st:=F.st+1}
theorem K9 {P:qh} {n limit f:Nat} {X:PS} (hf:X.fin=0) (hg:X.gl= []):ic P n limit (f+1) X=ic P n limit f (ej P n X):=by
 obtain ⟨gl,ch,σ,last,ans,fin,st⟩:=X;simp only at hf hg;subst hf hg
 rfl
theorem Oe {P:qh} {n limit f:Nat} {X:PS} (hf:X.fin=0) (hg:X.gl≠ []):ic P n limit (f+1) X=if X.st=limit then { X with fin:=2} else ic P n limit f (eh P { X with st:=X.st+1}):=by
 obtain ⟨gl,ch,σ,last,ans,fin,st⟩:=X;simp only at hf hg;subst hf
 cases gl with
 |nil=>exact absurd rfl hg
 |cons g l=>rfl
section
variable {P:Pg} {n:Nat} {qs:List Nat} {limit:Nat}
theorem Bq (hC:i7 P) (hl:limit<=400): ∀(f:Nat) (F:FM) (Y:PS),wt P n qs F Y->Y.st<=limit->(jb P qs limit f F).m.fin=((ic (bm P) n limit f Y).fin:Int)/\(jb P qs limit f F).an=(ic (bm P) n limit f Y).ans/\(jb P qs limit f F).st=(ic (bm P) n limit f Y).st:=by
 intro f
 induction f with
 |zero=>intro F Y S _;exact ⟨S.m.fin,S.an,S.st⟩
 |succ f ih=>
  intro F Y S hst;rw[jb]
  by_cases hf:Y.fin≠0
  .rw[if_pos (by rw[S.m.fin];omega),ic,if_pos hf]
   exact ⟨S.m.fin,S.an,S.st⟩
  have hf0:Y.fin=0:=Classical.not_not.1 hf;rw[if_neg (by rw[S.m.fin,hf0];simp)]
  by_cases h0:F.m.first=0
  .have hg:=(kc S.m hf0).1 h0
   rw[if_pos h0,K9 hf0 hg];obtain ⟨h1,h2⟩:=o5 hC S hf0 h0;exact ih _ _ h1 (by rw[h2];exact hst)
  .have hne:Y.gl≠ []:=fun e=>h0 ((kc S.m hf0).2 e)
   rw[if_neg h0,Oe hf0 hne]
   by_cases hs:Y.st=limit
   .rw[if_pos hs,if_pos (by rw[S.st];exact hs)]
    exact ⟨rfl,S.an,S.st⟩
   .rw[if_neg hs,if_neg (by rw[S.st];exact hs)]
    obtain ⟨h1,h2,h3⟩:=p6 hC S hf0 h0 (by omega)
    exact ih _ _ h1 (by rw[h2];omega)
end
def xd (limit:Nat) (F:FM):Nat:=(limit-F.st)+(40-F.an.length)
section
variable {P:Pg} {qs:List Nat} {limit:Nat} {F:FM}
theorem o6 (h4:F.an.length<40):(a6 P qs F).st=F.st/\((a6 P qs F).m.fin=0->(a6 P qs F).an.length=F.an.length+1/\F.an.length+1<40):=by
 unfold a6
 by_cases h2:200<gd (ah F.m.h) F.m.h.length qs
 .rw[if_pos h2];exact ⟨rfl,fun h=>absurd (show (3:Int)=0 from h) (by decide)⟩
 rw[if_neg h2]
 by_cases h3:40<=F.an.length+1
 .rw[if_pos h3];exact ⟨rfl,fun h=>absurd (show (1:Int)=0 from h) (by decide)⟩
 rw[if_neg h3];exact ⟨rfl,fun _=>⟨by show (F.an++ [_]).length=_;simp,by omega⟩⟩
theorem jk (h:F.m.fin≠0) (f:Nat):jb P qs limit f F=F:=by
 cases f with
 |zero=>rfl
 |succ f=>rw[jb,if_pos h]
theorem mv (h: ¬F.m.fin≠0) (h0:F.m.first=0) (f:Nat):jb P qs limit (f+1) F=jb P qs limit f (a6 P qs F):=by rw[jb,if_neg h,if_pos h0]
theorem mt (h: ¬F.m.fin≠0) (h0:F.m.first≠0) (hs:F.st=limit) (f:Nat):jb P qs limit (f+1) F= { F with m:= { F.m with fin:=2} }:=by rw[jb,if_neg h,if_neg h0,if_pos hs]
theorem ka (h: ¬F.m.fin≠0) (h0:F.m.first≠0) (hs: ¬F.st=limit) (f:Nat):jb P qs limit (f+1) F=jb P qs limit f { F with m:=bn P { F.m with left:=4000},st:=F.st+1}:=by rw[jb,if_neg h,if_neg h0,if_neg hs]
theorem x9: ∀(f:Nat) (F:FM),F.m.fin≠0\/(F.an.length<40/\F.st<=limit/\xd limit F<f)->jb P qs limit (f+1) F=jb P qs limit f F:=by
 intro f
 induction f with
 |zero=>
  intro F h
  rcases h with h| ⟨_,_,h⟩
  .rw[jk h,jk h]
  .exact absurd h (nL _)
 |succ f ih=>
  intro F h
  by_cases hf:F.m.fin≠0
  .rw[jk hf,jk hf]
  obtain ⟨h4,hl,hp⟩:=h.resolve_left hf
  by_cases h0:F.m.first=0
  .rw[mv hf h0,mv hf h0]
   have ha:=o6 (P:=P) (qs:=qs) h4;refine ih _ ?_
   by_cases hf2:(a6 P qs F).m.fin=0
   .obtain ⟨e1,e2⟩:=ha.2 hf2
    refine .inr ⟨by omega,by rw[ha.1];exact hl,?_⟩
    unfold xd at hp |-;rw[ha.1,e1];omega
   .exact .inl hf2
  .by_cases hs:F.st=limit
   .rw[mt hf h0 hs,mt hf h0 hs]
   .rw[ka hf h0 hs,ka hf h0 hs]
    refine ih _ (.inr ⟨h4,by show F.st+1<=limit;omega,?_⟩)
    unfold xd at hp |-
    show limit-(F.st+1)+(40-F.an.length)<f
    omega
theorem k6: ∀(k:Nat) (f:Nat) (F:FM),F.m.fin≠0\/(F.an.length<40/\F.st<=limit/\xd limit F<f)->jb P qs limit f (au P qs k F)=jb P qs limit f F:=by
 intro k
 induction k with
 |zero=>intro f F _;rfl
 |succ k ih=>
  intro f F h;rw[au]
  by_cases hc:F.m.fin=0/\F.m.first=0
  .rw[if_pos hc]
   obtain ⟨h4,hl,hp⟩:=h.resolve_left (fun x=>x hc.1)
   have ha:=o6 (P:=P) (qs:=qs) h4;rw[ih f _ ?_,<-x9 f F h,mv (by simp[hc.1]) hc.2]
   by_cases hf2:(a6 P qs F).m.fin=0
   .obtain ⟨e1,e2⟩:=ha.2 hf2
    refine .inr ⟨by omega,by rw[ha.1];exact hl,?_⟩
    unfold xd at hp |-;rw[ha.1,e1];omega
   .exact .inl hf2
  .rw[if_neg hc]
theorem jx: ∀(k:Nat) (F:FM),F.m.fin≠0\/40-F.an.length<k->(F.m.fin=0->F.an.length<40)->((au P qs k F).m.fin≠0\/(au P qs k F).m.first≠0)/\(au P qs k F).st=F.st/\((au P qs k F).m.fin=0->F.an.length<=(au P qs k F).an.length/\(au P qs k F).an.length<40):=by
 intro k
 induction k with
 |zero=>
  intro F h h4
  rcases h with h|h
  .exact ⟨.inl h,rfl,fun e=>absurd e h⟩
  .exact absurd h (nL _)
 |succ k ih=>
  intro F h h4;rw[au]
  by_cases hc:F.m.fin=0/\F.m.first=0
  .rw[if_pos hc]
   have ha:=o6 (P:=P) (qs:=qs) (h4 hc.1)
   have:=ih (a6 P qs F) (by
    by_cases hf2:(a6 P qs F).m.fin=0
    .have:=h.resolve_left (fun x=>x hc.1)
     have:=h4 hc.1;exact .inr (by rw[(ha.2 hf2).1];omega)
    .exact .inl hf2) (fun hf2=>by rw[(ha.2 hf2).1];exact (ha.2 hf2).2)
   refine ⟨this.1,this.2.1.trans ha.1,fun hf2=>?_⟩
   have h5:=this.2.2 hf2;refine ⟨?_,h5.2⟩
   by_cases hf3:(a6 P qs F).m.fin=0
   .have:=(ha.2 hf3).1
    omega
   .have:au P qs k (a6 P qs F)=a6 P qs F:=by
     cases k with
     |zero=>rfl
     |succ k=>rw[au,if_neg (fun c=>hf3 c.1)]
    rw[this]at hf2;exact absurd hf2 hf3
  .rw[if_neg hc]
   refine ⟨?_,rfl,fun e=>⟨lZ,h4 e⟩⟩
   by_cases hf:F.m.fin=0
   .exact .inr (fun e=>hc ⟨hf,e⟩)
   .exact .inl hf
noncomputable def tk (F:FM):FM:=if F.m.fin=0 then { F with m:= { F.m with fin:=2} } else F
theorem K8: ∀(k:Nat) (f:Nat) (F:FM),F.m.fin≠0\/(F.an.length<40/\F.st<=limit/\xd limit F<f/\F.m.first≠0/\limit-F.st<k)->tk (pj P qs limit k F)=jb P qs limit f F\/f=0:=by
 intro k
 induction k with
 |zero=>
  intro f F h
  rcases h with h| ⟨_,_,_,_,h⟩
  .cases f with
   |zero=>exact .inr rfl
   |succ f=>
    refine .inl ?_;rw[jk h]
    show tk F=F
    rw[tk,if_neg h]
  .exact absurd h (nL _)
 |succ k ih=>
  intro f F h
  cases f with
  |zero=>exact .inr rfl
  |succ f=>
   refine .inl ?_;rw[pj]
   by_cases hf:F.m.fin≠0
   .rw[if_neg (fun c=>hf c.1),jk hf,tk,if_neg hf]
   obtain ⟨h4,hl,hp,h0,hk⟩:=h.resolve_left hf;have hf0:F.m.fin=0:=Classical.not_not.1 hf
   by_cases hs:F.st=limit
   .rw[mt hf h0 hs,if_neg (by omega),tk,if_pos hf0]
   .rw[ka hf h0 hs,if_pos ⟨hf0,by omega⟩]
    have hst:b9 P qs F=au P qs 41 { F with m:=bn P { F.m with left:=4000},st:=F.st+1}:=by
     unfold b9;rw[if_pos ⟨hf0,h0⟩]
    rw[hst]
    have hcond:({ F with m:=bn P { F.m with left:=4000},st:=F.st+1}:FM).m.fin≠0\/(({ F with m:=bn P { F.m with left:=4000},st:=F.st+1}:FM).an.length<40/\({ F with m:=bn P { F.m with left:=4000},st:=F.st+1}:FM).st<=limit/\xd limit ({ F with m:=bn P { F.m with left:=4000},st:=F.st+1}:FM)<f):=.inr ⟨h4,by show F.st+1<=limit;omega,by unfold xd at hp |-;show limit-(F.st+1)+(40-F.an.length)<f;omega⟩
    have hd:=jx (P:=P) (qs:=qs) 41 ({ F with m:=bn P { F.m with left:=4000},st:=F.st+1}:FM) (.inr (by omega)) (fun _=>h4)
    have hm:=k6 (P:=P) (qs:=qs) (limit:=limit) 41 f _ hcond;have hfp:0<f:=by unfold xd at hp;omega
    have hGs:({ F with m:=bn P { F.m with left:=4000},st:=F.st+1}:FM).st=F.st+1:=rfl
    have hGa:({ F with m:=bn P { F.m with left:=4000},st:=F.st+1}:FM).an.length=F.an.length:=rfl
    generalize ({ F with m:=bn P { F.m with left:=4000},st:=F.st+1}:FM)=G at*
    rw[<-hm];refine (ih f (au P qs 41 G) ?_).resolve_right (by omega)
    by_cases hf2:(au P qs 41 G).m.fin=0
    .have h5:=hd.2.2 hf2
     have h6:=hd.2.1;refine .inr ⟨h5.2,by omega,?_,hd.1.resolve_left (fun x=>x hf2),by omega⟩
     unfold xd at hp |-;omega
    .exact .inl hf2
theorem Od (h0:F.an= []) (hs:F.st=0) (hl:limit<=400):tk (pj P qs limit (limit+1) (au P qs 41 F))=jb P qs limit 442 F:=by
 have hn:F.an.length=0:=by rw[h0];rfl
 have hp:xd limit F<442:=by unfold xd;omega
 have hd:=jx (P:=P) (qs:=qs) 41 F (.inr (by omega)) (fun _=>by omega)
 rw[<-k6 (P:=P) (qs:=qs) (limit:=limit) 41 442 F (.inr ⟨by omega,by omega,hp⟩)]
 refine (K8 (limit+1) 442 (au P qs 41 F) ?_).resolve_right (by omega)
 by_cases hf2:(au P qs 41 F).m.fin=0
 .have h5:=hd.2.2 hf2
  have h6:=hd.2.1;refine .inr ⟨h5.2,by omega,?_,hd.1.resolve_left (fun x=>x hf2),by omega⟩
  unfold xd;omega
 .exact .inl hf2
theorem Fa (F:FM):F.an <+:(a6 P qs F).an:=by
 unfold a6
 split
 .exact List.prefix_refl _
 .split
  .exact List.prefix_append _ _
  .exact List.prefix_append _ _
theorem Lw: ∀(f:Nat) (F:FM),F.an <+:(jb P qs limit f F).an:=by
 intro f
 induction f with
 |zero=>intro F;exact List.prefix_refl _
 |succ f ih=>
  intro F
  by_cases hf:F.m.fin≠0
  .rw[jk hf];exact List.prefix_refl _
  by_cases h0:F.m.first=0
  .rw[mv hf h0];exact (Fa F).trans (ih _)
  by_cases hs:F.st=limit
  .rw[mt hf h0 hs];exact List.prefix_refl _
  .rw[ka hf h0 hs];exact ih { F with m:=bn P { F.m with left:=4000},st:=F.st+1}
theorem G8 {f:Nat} (hf:F.m.fin=0) (h4:F.an.length<40) (hl:F.st<=limit) (hp:xd limit F<f) (h0:F.m.first=0\/F.st<limit):
 jb P qs limit f (b9 P qs F)=jb P qs limit f F/\((b9 P qs F).m.fin≠0\/((b9 P qs F).an.length<40/\(b9 P qs F).st<=limit/\xd limit (b9 P qs F)<f/\(b9 P qs F).m.first≠0)):=by
 unfold b9
 by_cases hc:F.m.fin=0/\F.m.first≠0
 .rw[if_pos hc]
  have hs:=h0.resolve_left hc.2;have hn: ¬F.m.fin≠0:=by simp[hf]
  have hd:=jx (P:=P) (qs:=qs) 41 ({ F with m:=bn P { F.m with left:=4000},st:=F.st+1}:FM) (.inr (by omega)) (fun _=>h4)
  have hm:=k6 (P:=P) (qs:=qs) (limit:=limit) 41 f ({ F with m:=bn P { F.m with left:=4000},st:=F.st+1}:FM) (.inr ⟨h4,by show F.st+1<=limit;omega,by unfold xd at hp |-;show limit-(F.st+1)+(40-F.an.length)<f;omega⟩)
  refine ⟨?_,?_⟩
  .rw[hm,<-ka hn hc.2 (by omega),x9 f F (.inr ⟨h4,hl,hp⟩)]
  .by_cases hf2:(au P qs 41 ({ F with m:=bn P { F.m with left:=4000},st:=F.st+1}:FM)).m.fin=0
   .have h5:=hd.2.2 hf2
    have h6:_=F.st+1:=hd.2.1;have h7:F.an.length<=_:=h5.1;refine .inr ⟨h5.2,by omega,?_,hd.1.resolve_left (fun x=>x hf2)⟩
    unfold xd at hp |-;omega
   .exact .inl hf2
 .rw[if_neg hc]
  have hd:=jx (P:=P) (qs:=qs) 41 F (.inr (by omega)) (fun _=>h4)
  refine ⟨k6 41 f F (.inr ⟨h4,hl,hp⟩),?_⟩
  by_cases hf2:(au P qs 41 F).m.fin=0
  .have h5:=hd.2.2 hf2
   have h6:=hd.2.1;refine .inr ⟨h5.2,by omega,?_,hd.1.resolve_left (fun x=>x hf2)⟩
   unfold xd at hp |-;omega
  .exact .inl hf2
end
section
open Go.Shelf
attribute [local go_sem] Oper.semAt_some
structure Uh (n:Nat) (qs:List Nat) (F G:FM):Prop where
 ok:jm n qs G.m
 gs:G.m.gs.length<=5000
 tr:G.m.tr.length<=F.m.tr.length+4000
 cs:G.m.cs.length<=F.m.cs.length
 an:G.an.length<=F.an.length+1
 st:G.st=F.st
 go:G.m.fin=0->G.an.length=F.an.length+1/\F.an.length+1<40
theorem vq {P:Pg} (hC:i7 P) {qs:List Nat} {F:FM} (hO:jm P.len qs F.m) (hg:F.m.gs.length<=5000):Uh P.len qs F (a6 P qs F):=by
 unfold a6
 by_cases h2:200<gd (ah F.m.h) F.m.h.length qs
 .rw[if_pos h2];exact ⟨hO.same rfl rfl rfl hO.fst rfl,hg,Nat.le_add_right _ _,lZ,Nat.le_add_right _ _,rfl,fun h=>absurd (show (3:Int)=0 from h) (by decide)⟩
 rw[if_neg h2];have hl:(F.an++ [jv F.m.h qs]).length=F.an.length+1:=by simp
 by_cases h3:40<=F.an.length+1
 .rw[if_pos h3];exact ⟨hO.same rfl rfl rfl hO.fst rfl,hg,Nat.le_add_right _ _,lZ,by show (F.an++ [_]).length<=_;omega,rfl,fun h=>absurd (show (1:Int)=0 from h) (by decide)⟩
 rw[if_neg h3];have hb:=nu hC hO hg;exact ⟨hb.ok,hb.gs,hb.tr,hb.cs,by show (F.an++ [_]).length<=_;omega,rfl,fun _=>⟨hl,by omega⟩⟩
section
variable {lo:Nat} {w w':World} {s:Nat} {r:Rn} {X:PM} {qs:List Nat} {an:List Tm}
theorem m5 {st0:Nat} (w:World) (M:MX lo w s r X qs an) (hlo:lo<=w.heap.size) (hO:jm r.P.len qs X) (hC:i7 r.P) (hP:jc w s r) (hg5:X.gs.length<=5000) (htr:X.tr.length<=7800000) (hcs:X.cs.length<=1000000) (hq:qs.length<=12) (han:an.length<=9999900):
 Calls prog 47 #[.pointer (some ⟨s,0,none⟩)] w (Pw lo w s r qs (au r.P qs 41 ⟨X,an.map br,st0⟩)):=by
 have HM:Hid (MX lo w s r X qs an):=M;have HO0:Hid (jm r.P.len qs X):=hO;have HP0:Hid (jc w s r):=hP;have HC:Hid (i7 r.P):=hC;clear M hO hP hC
 go_enter Tryz.func47,Tryz.ntmps47
 go_wp2_with fail
 go_loopg [] 41 (fun fu wr=>∃(r1:Rn) (F:FM) (an1:List Tm),MX lo wr s r1 F.m qs an1/\an1.map br=F.an/\jm r.P.len qs F.m/\RA w s r r1/\Bw (cm s r) w.heap.size w wr/\jc wr s r1/\au r.P qs 41 ⟨X,an.map br,st0⟩=au r.P qs fu F/\(F.m.fin≠0\/40-an1.length<fu)/\F.m.gs.length<=5000/\F.m.tr.length+4000*fu<=7800000+4000*41/\F.m.cs.length<=1000000/\an1.length+fu<=9999900+41)
 case atStart=>
  exact ⟨r,⟨X,an.map br,st0⟩,an,HM.o,rfl,HO0.o,RA.refl w s r,Bw.refl _ _ _,HP0.o,rfl,.inr (by omega),hg5,by show X.tr.length+_<=_;omega,hcs,by omega⟩
 case round=>
  obtain ⟨r1,F,an1,hM1,hA1,hO1,hK1,hB1,hP1,hE1,hfu,hgl,htl,hcl,hal⟩:=hrel;have HM1:Hid (MX lo wr s r1 F.m qs an1):=hM1;have HA1:Hid (an1.map br=F.an):=hA1;have HO1:Hid (jm r.P.len qs F.m):=hO1;have HK1:Hid (RA w s r r1):=hK1;have HB1:Hid (Bw (cm s r) w.heap.size w wr):=hB1;have HP1:Hid (jc wr s r1):=hP1;have HE1:Hid (au r.P qs 41 ⟨X,an.map br,st0⟩=au r.P qs gk F):=hE1;have Hfu:Hid (F.m.fin≠0\/40-an1.length<gk):=hfu;obtain ⟨⟨_,_,y2,_⟩,⟨_,y7,_⟩,_⟩:=hM1.mn.blk.get;rw[hM1.first]at y2;rw[hM1.fin]at y7;have hws:=hB1.size;clear hM1 hA1 hO1 hK1 hB1 hP1 hE1 hfu
  by_cases hfin:F.m.fin=0
  case neg=>
   have hfb:(F.m.fin==0)=false:=bF hfin
   have HF:Hid (au r.P qs 41 ⟨X,an.map br,st0⟩=F):=by
    rw[Hid,HE1.o]
    cases gk with
    |zero=>rfl
    |succ f=>rw[au,if_neg (fun c=>hfin c.1)]
   clear hfin;go_wp2_with fail
   go_end0
   rw[HF.o];exact ⟨rfl,r1,an1,HM1.o,HA1.o,HK1.o,HB1.o⟩
  have hfb:(F.m.fin==0)=true:=beq_iff_eq.2 hfin;have HFin:Hid (F.m.fin=0):=hfin
  by_cases h0:F.m.first=0
  case neg=>
   have h0b:((F.m.first:Int)==0)=false:=bF (by omega)
   have HF:Hid (au r.P qs 41 ⟨X,an.map br,st0⟩=F):=by
    rw[Hid,HE1.o]
    cases gk with
    |zero=>rfl
    |succ f=>rw[au,if_neg (fun c=>h0 c.2)]
   clear hfin h0;go_wp2_with fail
   go_end0
   rw[HF.o];exact ⟨rfl,r1,an1,HM1.o,HA1.o,HK1.o,HB1.o⟩
  have h0b:((F.m.first:Int)==0)=true:=beq_iff_eq.2 (by omega)
  have hgk:40-an1.length<gk:=Hfu.o.resolve_left (fun x=>x hfin)
  obtain ⟨f,rfl⟩: ∃f,gk=f+1:=⟨gk-1,by omega⟩
  have HF:Hid (au r.P qs 41 ⟨X,an.map br,st0⟩=au r.P qs f (a6 r.P qs F)):=by rw[Hid,HE1.o,au,if_pos ⟨hfin,h0⟩]
  have hP1':r1.P=r.P:=HK1.o.P
  have HAn:Hid (Calls prog 83 #[pZ s] wr (Pw lo wr s r1 qs (a6 r.P qs F))):=by
   have h:=C5 (st0:=F.st) wr HM1.o (by omega) (by rw[hP1'];exact HO1.o) (by rw[hP1'];exact HC.o) HP1.o hgl (by omega) hcl hq (by omega)
   rw[hP1',HA1.o]at h;exact h
  have hOut:=vq HC.o HO1.o hgl;have HOut:Hid (Uh r.P.len qs F (a6 r.P qs F)):=hOut;clear hfin h0 hOut HE1;go_wp2_with fail;refine HAn.o.mono ?_;rintro e w2 ⟨rfl,r2,an2,hM2,hA2,hK2,hB2⟩;have HM2:Hid (MX lo w2 s r2 (a6 r.P qs F).m qs an2):=hM2;have HA2:Hid (an2.map br=(a6 r.P qs F).an):=hA2;have HK2:Hid (RA w s r r2):=HK1.o.trans hK2 hws;have HB2:Hid (Bw (cm s r) w.heap.size w w2):=Cj HB1.o HK1.o hB2;have HP2:Hid (jc w2 s r2):=HP1.o.nextA hB2 hK2;have hl2:an2.length=(a6 r.P qs F).an.length:=by rw[<-hA2,List.length_map]
  have hl1:an1.length=F.an.length:=by rw[<-HA1.o,List.length_map]
  have ho1:=HOut.o.tr;have ho2:=HOut.o.cs;have ho3:=HOut.o.an;clear hM2 hA2 hK2 hB2 HAn;go_wp2_with fail
  go_roundg f
  case measure=>omega
  case rel=>
   refine ⟨r2,a6 r.P qs F,an2,HM2.o,HA2.o,HOut.o.ok,HK2.o,HB2.o,HP2.o,HF.o,?_,HOut.o.gs,by omega,by omega,by omega⟩
   by_cases hf2:(a6 r.P qs F).m.fin=0
   .have:=HOut.o.go hf2
    exact .inr (by omega)
   .exact .inl hf2
def Rl (lo:Nat) (w:World) (s:Nat) (r:Rn) (qs:List Nat) (F:FM) (e:Ending) (w':World):Prop:=e=.returned (.tuple #[])/\∃r' an',MX lo w' s r' F.m qs an'/\an'.map br=F.an/\r'.st=(F.st:Int)/\r'.qv=r.qv/\r'.P=r.P/\(∀k,k<w.heap.size->cm s r' k->cm s r k)/\Bw (cm s r) w.heap.size w w'
theorem ls {P:Pg}: ∀(k:Nat) (F:FM),(au P qs k F).st=F.st:=by
 intro k
 induction k with
 |zero=>intro F;rfl
 |succ k ih=>
  intro F;rw[au]
  by_cases hc:F.m.fin=0/\F.m.first=0
  .rw[if_pos hc,ih]
   unfold a6
   split
   .rfl
   .split <;> rfl
  .rw[if_neg hc]
theorem xz {st0:Nat} (w:World) (M:MX lo w s r X qs an) (hlo:lo<=w.heap.size) (hO:jm r.P.len qs X) (hC:i7 r.P) (hP:jc w s r) (hg5:X.gs.length<=5000) (htr:X.tr.length<=7700000) (hcs:X.cs.length<=999000) (hq:qs.length<=12) (han:an.length<=9999900) (hst:r.st=(st0:Int)) (hs0:st0<=1000000):
 Calls prog 42 #[.pointer (some ⟨s,0,none⟩)] w (Rl lo w s r qs (b9 r.P qs ⟨X,an.map br,st0⟩)):=by
 have HM:Hid (MX lo w s r X qs an):=M;have HO:Hid (jm r.P.len qs X):=hO;have HP:Hid (jc w s r):=hP;have HC:Hid (i7 r.P):=hC;have Hst:Hid (r.st=(st0:Int)):=hst;obtain ⟨⟨_,_,y2,_⟩,⟨y6,y7,_,_,y10⟩,yf⟩:=M.mn.blk.get;rw[M.first]at y2;rw[M.fin]at y7;rw[hst]at y6;have yf6:=yf 6;have yf10:=yf 10;clear yf
 by_cases hc:X.fin=0/\X.first≠0
 case neg=>
  have HF:Hid (b9 r.P qs ⟨X,an.map br,st0⟩=au r.P qs 41 ⟨X,an.map br,st0⟩):=by rw[Hid];unfold b9;rw[if_neg hc]
  have HSt:Hid (Calls prog 47 #[pZ s] w (Pw lo w s r qs (au r.P qs 41 ⟨X,an.map br,st0⟩))):=m5 w M hlo hO hC hP hg5 (by omega) (by omega) hq han
  have hbs:(X.fin==0)=false\/((X.fin==0)=true/\((X.first:Int) !=0)=false):=by
   by_cases hf:X.fin=0
   .refine .inr ⟨beq_iff_eq.2 hf,?_⟩
    have:X.first=0:=Classical.byContradiction fun h=>hc ⟨hf,h⟩
    rw[this];rfl
   .exact .inl (bF hf)
  clear M hO hP hC hc hst
  have Hend:Hid (∀e w',Pw lo w s r qs (au r.P qs 41 ⟨X,an.map br,st0⟩) e w'->Rl lo w s r qs (b9 r.P qs ⟨X,an.map br,st0⟩) e w'):=fun e w' h=>by
   obtain ⟨he,r',an',h1,h2,h3,h4⟩:=h;rw[HF.o];exact ⟨he,r',an',h1,h2,by rw[h3.st,Hst.o,ls],h3.q,h3.P,h3.own,h4⟩
  rcases hbs with h1| ⟨h1,h2⟩
  all_goals
   go_enter Tryz.func42,Tryz.ntmps42
   go_wp2_with fail;refine HSt.o.mono ?_;rintro e z hz;have HZ:Hid (Rl lo w s r qs (b9 r.P qs ⟨X,an.map br,st0⟩) e z):=Hend.o e z hz;obtain ⟨rfl,_⟩:=hz;go_wp2_with fail
   go_end0
   exact HZ.o
 obtain ⟨i,hf⟩: ∃i,X.first=i+1:=⟨X.first-1,by omega⟩
 have hi:i<X.gs.length:=by have:=hO.fst;omega
 have h1:(X.fin==0)=true:=beq_iff_eq.2 hc.1;have h2:((X.first:Int) !=0)=true:=bne_iff_ne.2 (by omega)
 have Hf:Hid (X.first=i+1):=hf;have Hc:Hid (X.fin=0):=hc.1
 have HF:Hid (b9 r.P qs ⟨X,an.map br,st0⟩=au r.P qs 41 ⟨bn r.P { X with left:=4000},an.map br,st0+1⟩):=by rw[Hid];unfold b9;rw[if_pos hc]
 have hM1:=M.mn.int 6 ((st0:Int)+1) (r':= { r with st:=(st0:Int)+1}) rfl ⟨rfl,rfl,rfl,rfl,rfl,rfl⟩
 have hM2:=hM1.int 10 4000 (r':= { r with st:=(st0:Int)+1,left:=4000}) rfl ⟨rfl,rfl,rfl,rfl,rfl,rfl⟩
 have HM2:Hid (MX lo ((w.setCell (dZ s 6) (iV ((st0:Int)+1))).setCell (dZ s 10) (iV 4000)) s { r with st:=(st0:Int)+1,left:=4000} { X with left:=4000} qs an):=⟨hM2,M.first,rfl,M.fin⟩
 have HB2:Hid (Bw (cm s r) w.heap.size w ((w.setCell (dZ s 6) (iV ((st0:Int)+1))).setCell (dZ s 10) (iV 4000))):=((Bw.refl _ _ w).grown (af s 6 _) lZ (fun k e=> .inr (.inl (oj e).symm))).grown (af s 10 _) (af s 6 _).size (fun k e=> .inr (.inl (oj e).symm))
 have HR2:Hid (∀k,k<w.heap.size->cm s { r with st:=(st0:Int)+1,left:=4000} k->cm s r k):=fun k _ h=>h
 have HP2:Hid (jc ((w.setCell (dZ s 6) (iV ((st0:Int)+1))).setCell (dZ s 10) (iV 4000)) s { r with st:=(st0:Int)+1,left:=4000}):=by
  have h:=HP.o.nextA (r':= { r with left:=4000}) HB2.o ⟨rfl,rfl,rfl,fun _ _ h=>h⟩
  exact ⟨h.pin,h.cap,h.few,h.blk,h.hd,h.bd⟩
 have hO2:jm r.P.len qs { X with left:=4000}:=hO.same rfl rfl rfl hO.fst rfl
 have HTO:Hid (Tg r.P.len qs { X with left:=4000} (bn r.P { X with left:=4000})):=nh hC hO2 hg5 hf hi hc.1 ⟨4000,rfl,lZ⟩
 obtain ⟨gb,cg,hgv,y0',y1',y2'⟩:=HM2.o.goal (i:=i) hf hi
 have HKp:Hid (∀W,Below ((w.setCell (dZ s 6) (iV ((st0:Int)+1))).setCell (dZ s 10) (iV 4000)).heap.size ((w.setCell (dZ s 6) (iV ((st0:Int)+1))).setCell (dZ s 10) (iV 4000)) W->W.cell? (dZ s 1)=some (sZ gb X.gs.length cg)/\W.cell? (dZ s 2)=some (iV ((i:Int)+1))/\W.cell? (dZ gb (i*3))=some (iV ((ai X).at_:Int))/\W.cell? (dZ gb (i*3+1))=some (iV ((ai X).cut:Int))/\W.cell? (dZ gb (i*3+2))=some (iV ((ai X).nx:Int))):=fun W hW=>by
  have hMW:=HM2.o.below hW;obtain ⟨gb',cg',hgv',z0,z1,z2⟩:=hMW.goal (i:=i) hf hi;have e1:r.gv=sZ gb X.gs.length cg:=hgv;have e2:r.gv=sZ gb' X.gs.length cg':=hgv';rw[e1]at e2;cases e2;obtain ⟨⟨_,c1,c2,_⟩,_⟩:=hMW.mn.blk.get;have c1':W.cell? (dZ s 1)=some r.gv:=c1;have c2':W.cell? (dZ s 2)=some (iV r.first):=c2;rw[e1]at c1';rw[M.first,hf]at c2';exact ⟨c1',by rw[c2'];simp,z0,z1,z2⟩
 have HTk:Hid (∀W,Below ((w.setCell (dZ s 6) (iV ((st0:Int)+1))).setCell (dZ s 10) (iV 4000)).heap.size ((w.setCell (dZ s 6) (iV ((st0:Int)+1))).setCell (dZ s 10) (iV 4000)) W->Calls prog 82 #[pZ s,.agg #[iV ((ai X).at_:Int),iV ((ai X).cut:Int),iV ((ai X).nx:Int)]] W (Jp lo W s { r with st:=(st0:Int)+1,left:=4000} qs an (bn r.P { X with left:=4000}))):=fun W hW=>
  Ih (i:=i) W (HM2.o.below hW) (by have:=hW.size;have:=HB2.o.size;omega) hO2 hC (HP2.o.nextA (Bw.ofBelow hW) (RA.refl _ _ _)) hf hi hg5 (by show X.tr.length<=7990000;omega) (by show X.cs.length<=999999;omega) rfl hc.1
 have hw6:IntKind.i64.wrap ((st0:Int)+1)=(st0:Int)+1:=by simp[IntKind.wrap,IntKind.bits,IntKind.signed];omega
 have hwi:IntKind.i64.wrap ((i:Int)+1-1)=(i:Int):=by simp[IntKind.wrap,IntKind.bits,IntKind.signed];omega
 have hwi0:IntKind.i64.wrap (i:Int)=(i:Int):=by simp[IntKind.wrap,IntKind.bits,IntKind.signed];omega
 have hiI:(i:Int)<(X.gs.length:Int):=by omega
 have hi0:(0:Int)<=(i:Int):=by omega
 have hs2:w.heap.size<=((w.setCell (dZ s 6) (iV ((st0:Int)+1))).setCell (dZ s 10) (iV 4000)).heap.size:=HB2.o.size;have HBz:Hid (Below ((w.setCell (dZ s 6) (iV ((st0:Int)+1))).setCell (dZ s 10) (iV 4000)).heap.size ((w.setCell (dZ s 6) (iV ((st0:Int)+1))).setCell (dZ s 10) (iV 4000)) ((w.setCell (dZ s 6) (iV ((st0:Int)+1))).setCell (dZ s 10) (iV 4000))):=bR;obtain ⟨s1,s2,g0,g1,g2⟩:=HKp.o _ HBz.o;clear M hO hP hC hst hM1 hM2 hO2 hgv y0' y1' y2' hc hf
 go_enter Tryz.func42,Tryz.ntmps42
 go_wp2_with fail;generalize ((w.setCell (dZ s 6) (iV ((st0:Int)+1))).setCell (dZ s 10) (iV 4000))=w2 at*;clear y2 y6 y7 y10 yf6 yf10
 go_region_with (first
  | (go_at_call 82
     refine (HTk.o _ (by repeat (first|exact bR|refine Below.drew ?_))).mono ?_
     rintro e w5 ⟨rfl,r5,hM5,hK5,hB5⟩
     have HM5:Hid (MX lo w5 s r5 (bn r.P { X with left:=4000}) qs an):=hM5
     have HK5:Hid (RA w2 s { r with st:=(st0:Int)+1,left:=4000} r5):=⟨hK5.q,hK5.st,hK5.P,hK5.own⟩
     have HB5:Hid (Bw (cm s { r with st:=(st0:Int)+1,left:=4000}) w2.heap.size w2 w5):=Bw.trans (by repeat (first|exact Bw.refl _ _ _|refine Bw.drew ?_)) (hB5.mono lZ)
     clear hM5 hK5 hB5))
 all_goals
  have hP5:r5.P=r.P:=HK5.o.P;have ho1:=HTO.o.tr
  have ho1':(bn r.P { X with left:=4000}).tr.length<=X.tr.length+8000:=ho1
  have ho2:=HTO.o.cs
  have ho2':(bn r.P { X with left:=4000}).cs.length<=X.cs.length+1:=ho2
  have hs5:w2.heap.size<=w5.heap.size:=HB5.o.size;have HP5:Hid (jc w5 s r5):=HP2.o.nextA HB5.o HK5.o
  have HSt:Hid (Calls prog 47 #[pZ s] w5 (Pw lo w5 s r5 qs (au r.P qs 41 ⟨bn r.P { X with left:=4000},an.map br,st0+1⟩))):=by
   have h:=m5 (st0:=st0+1) w5 HM5.o (by omega) (by rw[hP5];exact HTO.o.ok) (by rw[hP5];exact HC.o) HP5.o HTO.o.gs (by omega) (by omega) hq han
   rw[hP5]at h;exact h
  have HRw:Hid (RA w s { r with st:=(st0:Int)+1,left:=4000} r5):=⟨HK5.o.q,HK5.o.st,HK5.o.P,fun k hk hm=>HK5.o.own k (by omega) hm⟩
  have HBw:Hid (Bw (cm s r) w.heap.size w w5):=HB2.o.trans ((HB5.o.mono hs2).wide fun k _ h=>h)
  clear s1 s2 g0 g1 g2 ho1 ho2;go_wp2_with fail;refine HSt.o.mono ?_;rintro e z ⟨rfl,r9,an9,hM9,hA9,hK9,hB9⟩
  have HZ:Hid (Rl lo w s r qs (b9 r.P qs ⟨X,an.map br,st0⟩) (.returned (.tuple #[])) z):=by
   rw[Hid,HF.o];refine ⟨rfl,r9,an9,hM9,hA9,?_,hK9.q.trans HRw.o.q,hK9.P.trans hP5,fun k hk hm=>HRw.o.own k hk (hK9.own k (by omega) hm),HBw.o.trans ((hB9.mono (by omega)).wide fun k hk hm=>HRw.o.own k hk hm)⟩
   rw[hK9.st,HRw.o.st,ls];simp
  clear hM9 hA9 hK9 hB9;go_wp2_with fail
  go_end0
  exact HZ.o
end
end
end Go.Proofs.YtmggaclaoefdaabGreat
