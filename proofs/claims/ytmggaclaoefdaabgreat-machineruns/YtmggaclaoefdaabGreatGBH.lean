/- Part of the proof. -/
import Derived.Test.YtmggaclaoefdaabGreatGBG
namespace Go.Proofs.YtmggaclaoefdaabGreat
open Go.RowKit
set_option linter.unusedVariables false
set_option linter.unusedSimpArgs false
set_option maxRecDepth 100000
set_option maxHeartbeats 8000000
theorem Fm {nm:ByteArray} {a:Option Addr} {len cap:Nat} {f:Nat->Tm} {i:Nat} (hi:i<len) {v:Int} (hv:v∈cz (f i)):v∈cz (.mk 0 nm a len cap f):=by
 unfold cz;rw[if_pos rfl];exact List.mem_flatten.2 ⟨_,List.mem_map.2 ⟨i,List.mem_range.2 hi,rfl⟩,hv⟩
theorem Ko {θ θ':Int->Tm} (T:Tm):(∀v∈cz T,θ v=θ' v)->ap θ T=ap θ' T:=by
 induction T with
 |nil=>intro _;rfl
 |mk v nm a len cap f ih=>
  intro h
  by_cases hv:v=0
  .subst hv
   rw[kv _ (show (Tm.mk 0 nm a len cap f).v=0 from rfl),kv _ (show (Tm.mk 0 nm a len cap f).v=0 from rfl)]
   congr 1
   funext i
   show (if i<len then ap θ (f i)else Tm.nil)=(if i<len then ap θ' (f i)else Tm.nil)
   by_cases hi:i<len
   .rw[if_pos hi,if_pos hi]
    exact ih i fun v hv=>h v (Fm hi hv)
   .rw[if_neg hi,if_neg hi]
  .rw[jf _ (show (Tm.mk v nm a len cap f).v≠0 from hv),jf _ (show (Tm.mk v nm a len cap f).v≠0 from hv)]
   exact h v (by unfold cz;rw[if_neg hv];simp)
theorem Ra {N:Int} {θ:Int->Tm} (h: ∀v,cnt (θ v)=1) (T:Tm):d9 N T->cnt (ap θ T)=cnt T:=by
 induction T with
 |nil=>intro h;exact h.elim
 |mk v nm a len cap f ih=>
  intro hT
  by_cases hv:v=0
  .subst hv
   rw[kv _ (show (Tm.mk 0 nm a len cap f).v=0 from rfl)]
   show 1+bj (fun i=>cnt (if i<len then ap θ (f i)else Tm.nil)) len=1+bj (fun i=>cnt (f i)) len
   rw[Cy fun i hi=>by
    show cnt (if i<len then ap θ (f i)else Tm.nil)=cnt (f i)
    rw[if_pos hi];exact ih i (hT.2.2.2.2 i hi)]
  .rw[jf _ (show (Tm.mk v nm a len cap f).v≠0 from hv)]
   have h3:len=0:=(hT.2.2.1 hv).2;subst h3;exact h v
def Qb (p:HSt):Prop:=(∀u v c,p.2 u=some c->p.2 v=some c->u=v)/\∀v c,p.2 v=some c->c<(p.1.length:Int)
theorem On (v:Int) (p:HSt) (h:Qb p):Qb (kt v p).1:=by
 unfold kt
 cases hσ:p.2 v with
 |some c=>exact h
 |none=>
  have hL:(p.1++ [fa p.1.length]).length=p.1.length+1:=by simp
  refine ⟨fun u u' c h1 h2=>?_,fun u c h1=>?_⟩
  .have h1':(if u=v then some (p.1.length:Int)else p.2 u)=some c:=h1
   have h2':(if u'=v then some (p.1.length:Int)else p.2 u')=some c:=h2
   by_cases e1:u=v
   .by_cases e2:u'=v
    .rw[e1,e2]
    .rw[if_pos e1]at h1'
     rw[if_neg e2]at h2';have:=h.2 _ _ h2';have:=oj h1';omega
   .by_cases e2:u'=v
    .rw[if_neg e1]at h1'
     rw[if_pos e2]at h2';have:=h.2 _ _ h1';have:=oj h2';omega
    .rw[if_neg e1]at h1'
     rw[if_neg e2]at h2';exact h.1 _ _ _ h1' h2'
  .have h1':(if u=v then some (p.1.length:Int)else p.2 u)=some c:=h1
   show c<((p.1++ [fa p.1.length]).length:Int)
   by_cases e1:u=v
   .rw[if_pos e1]at h1'
    have:=oj h1';omega
   .rw[if_neg e1]at h1'
    have:=h.2 _ _ h1';omega
theorem F3 (T:Tm): ∀p:HSt,Qb p->Qb (bp T p).1:=by
 induction T with
 |nil=>intro p h;exact h
 |mk v nm a len cap f ih=>
  intro p h;unfold bp
  by_cases hv:v=0
  .rw[if_neg (by simp[hv])]
   have hK: ∀k,Qb (i5 (fun i=>bp (f i)) p.1.length k (p.1++(⟨2,len,nm⟩::j4 p.1.length len),p.2)):=by
    intro k
    induction k with
    |zero=>
     refine ⟨h.1,fun v c hc=>?_⟩
     have:=h.2 v c hc
     show c<((p.1++((⟨2,len,nm⟩:Cl)::j4 p.1.length len)).length:Int)
     rw[List.length_append];omega
    |succ k ik=>
     have h1:=ih k _ ik;exact ⟨h1.1,fun v c hc=>by have:=h1.2 v c hc;simpa[i5]using this⟩
   exact hK len
  .rw[if_pos hv]
   exact On v p h
theorem i3.ref {σ:Sg} {h:Nat->Cl} {len:Nat} {κ:Int->Nat} {D:Int->Prop} (H:HG h len) {i d:Nat} {S:Tm} (hi:i<len) (r:Gu h i d) (R:i3 σ h len κ D d S):i3 σ h len κ D i S:=by
 have he:=(pu H hi r).2
 cases R with
 |var _ h0 hv hD hl hx=>exact .var hi h0 hv hD hl (by rw[he];exact hx)
 |fn _ h0 hv hk hnm hn hkids=>exact .fn hi h0 hv (by rw[he];exact hk) (by rw[he];exact hnm) (by rw[he];exact hn) (fun j hj=>by rw[he];exact hkids j hj)
theorem Bd.rep {σ:Sg} {h:Nat->Cl} {len:Nat} {κ:Int->Nat} {D:Int->Prop} (H:HG h len) {σp:Int->Option Int} {lo hi:Nat} (hhi:hi<=len) {θ:Int->Tm} (T:Tm):(∀v∈cz T,∀y:Nat,σp v=some (y:Int)->i3 σ h len κ D y (θ v))->∀c,Bd h σp lo hi T c->i3 σ h len κ D c (ap θ T):=by
 induction T with
 |nil=>intro _ c B;exact B.elim
 |mk v nm a n cap f ih=>
  intro hθ c B
  by_cases hv:v=0
  .subst hv
   obtain ⟨h1,h2,h3,h4⟩:=B.2 rfl;have hc:c<len:=by omega
   have he:aj h len c=c:=ix (jd.root hc (fun ⟨e,_⟩=>by rw[h3]at e;have:(2:Int)=1:=e;omega))
   have hU:ap θ (.mk 0 nm a n cap f)=.mk 0 nm none n 0 (fun i=>if i<n then ap θ (f i)else .nil):=kv _ rfl
   have hw:wha σ (ap θ (.mk 0 nm a n cap f))=ap θ (.mk 0 nm a n cap f):=ld (by rw[hU];rfl)
   refine .fn hc (by rw[hU];exact Int.le_refl _) (by rw[hw,hU];rfl) (by rw[he,h3]) (by rw[hw,he,h3,hU];rfl) (by rw[hw,he,h3,hU];rfl) (fun j hj=>?_)
   rw[hw,hU]at hj |-;have hj':j<n:=hj
   show i3 σ h len κ D _ (if j<n then ap θ (f j)else .nil)
   rw[if_pos hj',he];obtain ⟨d,e1,e2,e3⟩:=h4 j hj';exact i3.ref H (by omega) ⟨by rw[e1];rfl,by rw[e1];rfl,e2⟩ (ih j (fun u hu=>hθ u (Fm hj' hu)) d e3)
  .have hU:ap θ (.mk v nm a n cap f)=θ v:=jf _ hv
   rw[hU];exact hθ v (by unfold cz;rw[if_neg hv];simp) c (B.1 hv)
theorem Ri (T:Tm) {N:Int}:d9 N T->ap (fun v=>a9 (vT v)) T=a9 T:=by
 induction T with
 |nil=>intro h;exact h.elim
 |mk v nm a n cap f ih=>
  intro hT
  by_cases hv:v=0
  .subst hv
   rw[kv _ (show (Tm.mk 0 nm a n cap f).v=0 from rfl)]
   show Tm.mk 0 nm none n 0 (fun i=>if i<n then ap _ (f i)else .nil)=Tm.mk 0 nm none n 0 (fun i=>if i<n then a9 (f i)else .nil)
   congr 1
   funext i
   by_cases hi:i<n
   .rw[if_pos hi,if_pos hi];exact ih i (hT.2.2.2.2 i hi)
   .rw[if_neg hi,if_neg hi]
  .rw[jf _ (show (Tm.mk v nm a n cap f).v≠0 from hv)]
   obtain ⟨h1,h2⟩:=hT.2.2.1 hv;exact j8 rfl h1.symm h2.symm (fun i hi=>absurd hi (nL i))
def xg (κ:Int->Nat) (u:Int):Tm:=a9 (vT ((κ u:Int)+1))
theorem Oi {σ:Sg} {h:Nat->Cl} {len:Nat} {κ:Int->Nat} {D:Int->Prop} (H:HR σ h len κ D) {i:Nat} {S:Tm} (R:i3 σ h len κ D i S): ∀d,ph σ d S->gy h len i=ap (xg κ) (ex σ d S)/\∀u∈cz (ex σ d S),D u/\σ u=none:=by
 induction R with
 |var hi h0 hv hD hl he=>
  rename_i i S;intro d hF
  cases d with
  |zero=>exact hF.elim
  |succ d=>
   have hn:=iu H.dec h0 hv;have hx:ex σ (d+1) S=.mk (wha σ S).v ⟨#[]⟩ none 0 0 (fun _=> .nil):=by rw[ex,if_neg hv]
   rw[hx];refine ⟨?_,fun u hu=>?_⟩
   .rw[sp (by rw[he];exact (H.fr _ hD hn).2.1),he]
    exact (jf (xg κ) (T:=.mk (wha σ S).v ⟨#[]⟩ none 0 0 (fun _=> .nil)) hv).symm
   .unfold cz at hu
    rw[if_neg hv]at hu;obtain rfl:u=(wha σ S).v:=by simpa using hu
    exact ⟨hD,hn⟩
 |fn hi h0 hv hk hnm hn hkids ih=>
  rename_i i S;intro d hF
  cases d with
  |zero=>exact hF.elim
  |succ d=>
   have hx:ex σ (d+1) S=.mk 0 (wha σ S).nm none (wha σ S).len 0 (fun i=>ex σ d ((wha σ S).f i)):=by rw[ex,if_pos hv]
   rw[hx];refine ⟨?_,fun u hu=>?_⟩
   .rw[zm H.hg hi hk hn,hnm,kv _ (show (Tm.mk 0 (wha σ S).nm none (wha σ S).len 0 (fun i=>ex σ d ((wha σ S).f i))).v=0 from rfl)]
    show Tm.mk 0 _ none (wha σ S).len 0 _=Tm.mk 0 _ none (wha σ S).len 0 _
    congr 1
    funext j
    show (if j<(wha σ S).len then _ else Tm.nil)=(if j<(wha σ S).len then ap (xg κ) (ex σ d ((wha σ S).f j))else Tm.nil)
    by_cases hj:j<(wha σ S).len
    .rw[if_pos hj,if_pos hj]
     exact (ih j hj d (hF j hj)).1
    .rw[if_neg hj,if_neg hj]
   .unfold cz at hu
    rw[if_pos rfl]at hu;obtain ⟨l,hl,hu⟩:=List.mem_flatten.1 hu;obtain ⟨j,hj,rfl⟩:=List.mem_map.1 hl;have hj':=List.mem_range.1 hj;exact (ih j hj' d (hF j hj')).2 u hu
theorem Nz {g:Int->Int} (hg: ∀u,g u≠0) (U:Tm):cz (ap (fun u=>a9 (vT (g u))) U)=(cz U).map g:=by
 induction U with
 |nil=>rfl
 |mk v nm a n cap f ih=>
  by_cases hv:v=0
  .subst hv
   rw[kv _ (show (Tm.mk 0 nm a n cap f).v=0 from rfl)]
   show (if (0:Int)=0 then ((List.range n).map fun i=>cz (if i<n then ap (fun u=>a9 (vT (g u))) (f i)else .nil)).flatten else [0])=(if (0:Int)=0 then ((List.range n).map fun i=>cz (f i)).flatten else [0]).map g
   rw[if_pos rfl,if_pos rfl,List.map_flatten,List.map_map]
   congr 1
   refine List.map_congr_left fun i hi=>?_
   have hi':=List.mem_range.1 hi;rw[if_pos hi'];exact ih i
  .rw[jf _ (show (Tm.mk v nm a n cap f).v≠0 from hv)]
   show cz (a9 (vT (g v)))=(if v=0 then _ else [v]).map g
   rw[if_neg hv,sm]
   show (if g v=0 then _ else [g v])= [g v]
   rw[if_neg (hg v)]
theorem Rh {g:Int->Int} (hg: ∀u,g u≠0) (θ:Int->Tm) (U:Tm):ap θ (ap (fun u=>a9 (vT (g u))) U)=ap (fun u=>θ (g u)) U:=by
 induction U with
 |nil=>rfl
 |mk v nm a n cap f ih=>
  by_cases hv:v=0
  .subst hv
   rw[kv _ (show (Tm.mk 0 nm a n cap f).v=0 from rfl),kv _ (show (Tm.mk 0 nm a n cap f).v=0 from rfl),kv _ (by rfl)]
   show Tm.mk 0 nm none n 0 (fun i=>if i<n then ap θ (if i<n then ap _ (f i)else .nil)else .nil)=Tm.mk 0 nm none n 0 (fun i=>if i<n then ap _ (f i)else .nil)
   congr 1
   funext i
   by_cases hi:i<n
   .rw[if_pos hi,if_pos hi,if_pos hi];exact ih i
   .rw[if_neg hi,if_neg hi]
  .rw[jf _ (show (Tm.mk v nm a n cap f).v≠0 from hv),jf _ (show (Tm.mk v nm a n cap f).v≠0 from hv),mj]
   exact jf θ (T:=vT (g v)) (hg v)
theorem Np {g:Int->Int} (l:List Int): ∀s:List Int,(∀u∈s++l,∀v∈s++l,g u=g v->u=v)->bg (s.map g) (l.map g)=(bg s l).map g:=by
 induction l with
 |nil=>intro s _;rw[List.map_nil,uy,uy]
 |cons x l ih=>
  intro s hij;have e1:bg s (x::l)=bg (bg s [x]) l:=by rw[<-fm];rfl
  have e2:bg (s.map g) ((x::l).map g)=bg (bg (s.map g) [g x]) (l.map g):=by rw[<-fm];rfl
  rw[e1,e2,kn,kn]
  by_cases hx:x∈s
  .rw[if_pos hx,if_pos (List.mem_map.2 ⟨x,hx,rfl⟩)]
   exact ih s fun u hu v hv=>hij u (by simp at hu |-;rcases hu with h|h;(·exact .inl h);(·exact rZ h)) v (by simp at hv |-;rcases hv with h|h;(·exact .inl h);(·exact rZ h))
  .have hgx: ¬g x∈s.map g:=fun c=>by
    obtain ⟨u,hu,e⟩:=List.mem_map.1 c;have:=hij u (by simp[hu]) x (by simp) e
    exact hx (this▸hu)
   rw[if_neg hx,if_neg hgx,show s.map g++ [g x]=(s++ [x]).map g by simp]
   exact ih (s++ [x]) fun u hu v hv=>hij u (by simp at hu |-;exact hu) v (by simp at hv |-;exact hv)
theorem O8 {g:Int->Int} {v:Int}: ∀s:List Int,(∀u∈s,g u=g v->u=v)->(s.map g).idxOf (g v)=s.idxOf v:=by
 intro s
 induction s with
 |nil=>intro _;rfl
 |cons x s ih=>
  intro h;rw[List.map_cons,List.idxOf_cons,List.idxOf_cons]
  by_cases e:x=v
  .subst e;simp
  .have e': ¬g x=g v:=fun c=>e (h x (by simp) c)
   have b1:=bF e;have b2:=bF e';rw[ih fun u hu=>h u (by simp[hu]),b1,b2]
theorem Lz {u:Int} (l:List Int): ∀s:List Int,u∈bg s l->u∈s\/u∈l:=by
 induction l with
 |nil=>intro s h;rw[uy]at h;exact .inl h
 |cons x l ih=>
  intro s h;have e1:bg s (x::l)=bg (bg s [x]) l:=by rw[<-fm];rfl
  rw[e1]at h
  rcases ih _ h with h|h
  .rw[kn]at h
   split at h
   .exact .inl h
   .simp at h
    rcases h with h|h
    .exact .inl h
    .exact .inr (by simp[h])
  .exact .inr (by simp[h])
theorem jd.grow {h h':Nat->Cl} {len len' i z:Nat} (hag: ∀i,i<len->h' i=h i) (hl:len<=len') (E:jd h len i z):jd h' len' i z:=by
 induction E with
 |root hi hr=>exact .root (by omega) (by rw[hag _ hi];exact hr)
 |step hi hk hn hji E ih=>exact .step (by omega) (by rw[hag _ hi];exact hk) (by rw[hag _ hi];exact hn) hji ih
theorem yq {h h':Nat->Cl} {len len' i:Nat} (H:HG h len) (hag: ∀i,i<len->h' i=h i) (hl:len<=len') (hi:i<len):aj h' len' i=aj h len i:=ix ((H.endR hi).grow hag hl)
theorem i3.grow {σ:Sg} {h h':Nat->Cl} {len len':Nat} {κ κ':Int->Nat} {D D':Int->Prop} (H:HG h len) (hag: ∀i,i<len->h' i=h i) (hl:len<=len') (hD: ∀u,D u->D' u) (hκ: ∀u,D u->κ' u=κ u) {i:Nat} {S:Tm} (r:i3 σ h len κ D i S):i3 σ h' len' κ' D' i S:=by
 induction r with
 |var hi h0 hv hDu hlen he=>exact .var (by omega) h0 hv (hD _ hDu) hlen (by rw[yq H hag hl hi,he,hκ _ hDu])
 |fn hi h0 hv hk hnm hn hkids ih=>
  have e:=yq H hag hl hi;have hz:=hag _ (H.end_lt hi);exact .fn (by omega) h0 hv (by rw[e,hz];exact hk) (by rw[e,hz];exact hnm) (by rw[e,hz];exact hn) (fun j hj=>by rw[e];exact ih j hj)
open Classical in
noncomputable def κg (D0:Int->Prop) (κ0:Int->Nat) (off:Int) (p:HSt):Int->Nat:=fun u=>if D0 u then κ0 u else ((p.2 (u-off)).getD 0).toNat
def Dg (D0:Int->Prop) (off:Int) (s0:Int->Option Int) (p:HSt):Int->Prop:=fun u=>D0 u\/∃v c,s0 v=none/\p.2 v=some c/\u=off+v
structure Az (σ:Sg) (h0:List Cl) (κ0:Int->Nat) (D0:Int->Prop) (off:Int) (s0:Int->Option Int):Prop where
 hr:HR σ (ah h0) h0.length κ0 D0
 var: ∀v c,s0 v=some c->∃y:Nat,c=y/\y<h0.length/\i3 σ (ah h0) h0.length κ0 D0 y (vT (off+v))
 new: ∀v,s0 v=none->0<v->¬D0 (off+v)/\σ (off+v)=none
 off:0<=off
structure r8 (h0:List Cl) (s0:Int->Option Int) (p:HSt):Prop where
 pi:li h0.length p
 old: ∀i,i<h0.length->ah p.1 i=ah h0 i
 up: ∀v c,s0 v=some c->p.2 v=some c
 nw: ∀v c,p.2 v=some c->s0 v=some c\/(h0.length:Int)<=c
 ri:Qb p
 pos: ∀v c,p.2 v=some c->0<v/\v<=12
section
variable {σ:Sg} {h0:List Cl} {κ0:Int->Nat} {D0:Int->Prop} {off:Int} {s0:Int->Option Int} {p:HSt}
theorem tp (B:Az σ h0 κ0 D0 off s0) (G:r8 h0 s0 p) {v c:Int} (h1:s0 v=none) (h2:p.2 v=some c): ∃y:Nat,c=y/\κg D0 κ0 off p (off+v)=y/\h0.length<=y/\y<p.1.length/\ah p.1 y=fa y:=by
 obtain ⟨y,e,hy,hf⟩:=G.pi.var v c h2
 have hl:h0.length<=y:=by
  rcases G.nw v c h2 with e'|e'
  .rw[h1]at e';cases e'
  .omega
 refine ⟨y,e,?_,hl,hy,hf hl⟩;unfold κg;rw[if_neg (B.new v h1 (G.pos v c h2).1).1,show off+v-off=v by omega,h2,e]
 rfl
theorem qj {u:Int} (h:D0 u):κg D0 κ0 off p u=κ0 u:=by unfold κg;rw[if_pos h]
theorem r8.hr (B:Az σ h0 κ0 D0 off s0) (G:r8 h0 s0 p) (few:p.1.length<=400000):HR σ (ah p.1) p.1.length (κg D0 κ0 off p) (Dg D0 off s0 p):=by
 have hl:=G.pi.low;refine ⟨B.hr.dec,G.pi.hg B.hr.hg G.old few,fun u hu=>?_,fun u v hu hv un vn e=>?_,fun u hu un=>?_⟩
 .rcases hu with h| ⟨v,c,h1,h2,rfl⟩
  .exact B.hr.pos u h
  .have:=B.off;have:=(G.pos v c h2).1;omega
 .rcases hu with h| ⟨a,c,h1,h2,rfl⟩
  .rcases hv with h'| ⟨b,c',k1,k2,rfl⟩
   .rw[qj h,qj h']at e
    exact B.hr.ij u v h h' un vn e
   .obtain ⟨y,_,e2,e3,_⟩:=tp B G k1 k2
    rw[qj h,e2]at e;have:=(B.hr.fr u h un).1;omega
  .obtain ⟨y,ey,e2,e3,_⟩:=tp B G h1 h2
   rcases hv with h'| ⟨b,c',k1,k2,rfl⟩
   .rw[qj h',e2]at e
    have:=(B.hr.fr v h' vn).1;omega
   .obtain ⟨y',ey',e2',e3',_⟩:=tp B G k1 k2
    rw[e2,e2']at e;have:a=b:=G.ri.1 a b c h2 (by rw[k2,ey',ey,e])
    rw[this]
 .rcases hu with h| ⟨a,c,h1,h2,rfl⟩
  .obtain ⟨f1,f2,f3⟩:=B.hr.fr u h un
   rw[qj h,G.old _ f1];exact ⟨by omega,f2,f3⟩
  .obtain ⟨y,ey,e2,e3,e4,e5⟩:=tp B G h1 h2
   rw[e2,e5];exact ⟨e4,rfl,rfl⟩
theorem r8.rep (B:Az σ h0 κ0 D0 off s0) (G:r8 h0 s0 p) {i:Nat} {S:Tm} (r:i3 σ (ah h0) h0.length κ0 D0 i S):i3 σ (ah p.1) p.1.length (κg D0 κ0 off p) (Dg D0 off s0 p) i S:=
 r.grow B.hr.hg G.old G.pi.low (fun u h=> .inl h) (fun u h=>qj h)
theorem r8.var (B:Az σ h0 κ0 D0 off s0) (G:r8 h0 s0 p) {v:Int} {y:Nat} (h:p.2 v=some (y:Int)):i3 σ (ah p.1) p.1.length (κg D0 κ0 off p) (Dg D0 off s0 p) y (vT (off+v)):=by
 cases hs:s0 v with
 |some c=>
  obtain ⟨y',e,_,r⟩:=B.var v c hs;have:=G.up v c hs;rw[h]at this;have:y=y':=by have:=oj this;omega
  subst this;exact G.rep B r
 |none=>
  obtain ⟨y',ey,e2,e3,e4,e5⟩:=tp B G hs h;have:y=y':=by omega
  subst this;have hp:=(G.pos v _ h).1;have ho:=B.off;have hw:wha σ (vT (off+v))=vT (off+v):=gh (B.new v hs hp).2;have hv:(vT (off+v)).v=off+v:=rfl;refine .var e4 (by rw[hv];omega) (by rw[hw,hv];omega) (by rw[hw,hv];exact .inr ⟨v,_,hs,h,rfl⟩) (by rw[hw];rfl) ?_
  rw[hw,hv,e2];exact ix (jd.root e4 (fun ⟨_,e⟩=>by rw[e5]at e;exact e rfl))
theorem r8.term (B:Az σ h0 κ0 D0 off s0) (G:r8 h0 s0 p) (few:p.1.length<=400000) {T:Tm} {lo hi t:Nat} (hhi:hi<=p.1.length) (b:Bd (ah p.1) p.2 lo hi T t):i3 σ (ah p.1) p.1.length (κg D0 κ0 off p) (Dg D0 off s0 p) t (ap (fh off) T):=
 Bd.rep (G.hr B few).hg hhi T (fun v hv y hy=>G.var B hy) t b
end
theorem Bj (T:Tm):d9 12 T->∀p:HSt,(∀v c,p.2 v=some c->0<v/\v<=12)->∀v c,(bp T p).1.2 v=some c->0<v/\v<=12:=by
 induction T with
 |nil=>intro h;exact h.elim
 |mk v nm a len cap f ih=>
  intro hT p hp;unfold bp
  by_cases hv:v=0
  .rw[if_neg (by simp[hv])]
   have hK: ∀k,k<=len->∀u c,(i5 (fun i=>bp (f i)) p.1.length k (p.1++(⟨2,len,nm⟩::j4 p.1.length len),p.2)).2 u=some c->0<u/\u<=12:=by
    intro k
    induction k with
    |zero=>intro _ u c h;exact hp u c h
    |succ k ik=>
     intro hk u c h;exact ih k (hT.2.2.2.2 k (by omega)) _ (ik (by omega)) u c h
   exact hK len lZ
  .rw[if_pos hv]
   intro u c h;unfold kt at h
   cases hs:p.2 v with
   |some d=>rw[hs]at h;exact hp u c h
   |none=>
    rw[hs]at h;have h':(if u=v then some (p.1.length:Int)else p.2 u)=some c:=h
    by_cases e:u=v
    .subst e
     exact ⟨by have:=hT.1;omega,hT.2.1⟩
    .rw[if_neg e]at h'
     exact hp u c h'
theorem r8.put {h0:List Cl} {s0:Int->Option Int} {p:HSt} (G:r8 h0 s0 p) {T:Tm} (hO:d9 12 T) (hE:iz T=0):r8 h0 s0 (bp T p).1:=by
 have Q:=iw T hE p G.pi;have hl:=G.pi.low;refine ⟨Q.inv,fun i hi=>(Q.old i (by omega)).trans (G.old i hi),fun v c h=>Q.up v c (G.up v c h),fun v c h=>?_,F3 T p G.ri,Bj T hO p G.pos⟩
 rcases Q.new v c h with e|e
 .exact G.nw v c e
 .exact .inr (by omega)
theorem r8.ahP {h0:List Cl} {s0:Int->Option Int} {f:Nat->Tm} {c n:Nat} (hO: ∀i,i<n->d9 12 (f i)/\iz (f i)=0) (l:List Nat): ∀q:Ax,(∀i∈l,i<n)->r8 h0 s0 q.1->r8 h0 s0 (ahP f c l q).1/\q.1.1.length<=(ahP f c l q).1.1.length/\(∀i,i<q.1.1.length->ah (ahP f c l q).1.1 i=ah q.1.1 i)/\∀v c',q.1.2 v=some c'->(ahP f c l q).1.2 v=some c':=by
 induction l with
 |nil=>intro q _ G;exact ⟨G,lZ,fun _ _=>rfl,fun _ _ h=>h⟩
 |cons i l ih=>
  intro q hl G;have hi:=hO i (hl i List.mem_cons_self);have Q:=iw (f i) hi.2 q.1 G.pi;have h1:=ih (pe f c q i) (fun k hk=>hl k (List.mem_cons_of_mem _ hk)) (G.put hi.1 hi.2)
  have e:Go.Proofs.YtmggaclaoefdaabGreat.ahP f c (i::l) q=Go.Proofs.YtmggaclaoefdaabGreat.ahP f c l (pe f c q i):=rfl;rw[e];have hlen:q.1.1.length<=(pe f c q i).1.1.length:=Q.len;exact ⟨h1.1,lT hlen h1.2.1,fun k hk=>(h1.2.2.1 k (by omega)).trans (Q.old k hk),fun v c' h=>h1.2.2.2 v c' (Q.up v c' h)⟩
inductive Dk (R:Nat->Tm->Prop) (gs:List Gq):Nat->List Gl->Prop
 |nil:Dk R gs 0 []
 |cons {i:Nat} {g:Gq} {t:Tm} {c:Nat} {l:List Gl}:gs[i]?=some g->g.cut=c->R g.at_ t->Dk R gs g.nx l->Dk R gs (i+1) ((t,c)::l)
theorem Dk.app {R:Nat->Tm->Prop} {gs m:List Gq} {i:Nat} {l:List Gl} (h:Dk R gs i l):Dk R (gs++m) i l:=by
 induction h with
 |nil=>exact .nil
 |cons h1 h2 h3 _ ih=>exact .cons (by rw[List.getElem?_append_left (List.getElem?_eq_some_iff.1 h1).1];exact h1) h2 h3 ih
theorem Dk.imp {R R':Nat->Tm->Prop} {gs:List Gq} {i:Nat} {l:List Gl} (h:Dk R gs i l) (hR: ∀a t,R a t->R' a t):Dk R' gs i l:=by
 induction h with
 |nil=>exact .nil
 |cons h1 h2 h3 _ ih=>exact .cons h1 h2 (hR _ _ h3) ih
theorem Gk {R:Nat->Tm->Prop} {θ:Nat->Tm} {h0:List Cl} {s0:Int->Option Int} {f:Nat->Tm} {c n:Nat} (hO: ∀i,i<n->d9 12 (f i)/\iz (f i)=0) (l:List Nat): ∀(q:Ax) (rest:List Gl),(∀i∈l,i<n)->r8 h0 s0 q.1->(∀i∈l,∀t lo,Bd (ah (ahP f c l q).1.1) (ahP f c l q).1.2 lo (ahP f c l q).1.1.length (f i) t->R t (θ i))->Dk R q.2.1 q.2.2 rest->Dk R (ahP f c l q).2.1 (ahP f c l q).2.2 (l.reverse.map (fun i=>(θ i,c))++rest):=by
 induction l with
 |nil=>intro q rest _ _ _ h;exact h
 |cons i l ih=>
  intro q rest hl G hR h;have hi:=hO i (hl i List.mem_cons_self);have Q:=iw (f i) hi.2 q.1 G.pi;have hl': ∀k∈l,k<n:=fun k hk=>hl k (List.mem_cons_of_mem _ hk)
  have G1:=G.put hi.1 hi.2;have hF:=r8.ahP (c:=c) hO l (pe f c q i) hl' G1;have e:ahP f c (i::l) q=ahP f c l (pe f c q i):=rfl;rw[e]at hR |-;have e2:((i::l).reverse.map fun i=>(θ i,c))++rest=(l.reverse.map fun i=>(θ i,c))++((θ i,c)::rest):=by simp
  rw[e2];refine ih (pe f c q i) _ hl' G1 (fun k hk=>hR k (List.mem_cons_of_mem _ hk)) ?_
  obtain ⟨t,ht,htl,hb⟩:=Q.at_;refine Dk.cons (g:=⟨(bp (f i) q.1).2.toNat,c,q.2.2⟩) (by show (q.2.1++ [_])[q.2.1.length]?=_;simp) rfl ?_ h.app
  show R (bp (f i) q.1).2.toNat (θ i)
  rw[ht,Int.toNat_natCast];exact hR i List.mem_cons_self t q.1.1.length (Bd.mono (fun k _ h2=>hF.2.2.1 k h2) (fun v c' h=>hF.2.2.2 v c' h) lZ hF.2.1 (f i) t hb)
structure i7 (P:Pg):Prop where
 hd: ∀j,j<P.len->d9 12 (P.hd j)/\iz (P.hd j)=0/\cnt (P.hd j)<=60
 bd: ∀j,j<P.len->(P.bd j).len<=6/\∀i,i<(P.bd j).len->d9 12 ((P.bd j).f i)/\iz ((P.bd j).f i)=0/\cnt ((P.bd j).f i)<=60
theorem rl {f:Nat->Tm} {c n L0:Nat} (hO: ∀i,i<n->d9 12 (f i)/\iz (f i)=0) (l:List Nat): ∀q:Ax,(∀i∈l,i<n)->li L0 q.1->q.2.2<=q.2.1.length->(∀(i:Nat) (g:Gq),(ahP f c l q).2.1[i]?=some g->q.2.1[i]?=some g\/(g.at_<(ahP f c l q).1.1.length/\g.nx<=i))/\(ahP f c l q).2.2<=(ahP f c l q).2.1.length/\(ahP f c l q).2.1.length=q.2.1.length+l.length/\q.1.1.length<=(ahP f c l q).1.1.length:=by
 induction l with
 |nil=>intro q _ _ h;exact ⟨fun i g e=> .inl e,h,rfl,lZ⟩
 |cons i l ih=>
  intro q hl I h;have hi:=hO i (hl i List.mem_cons_self);have Q:=iw (f i) hi.2 q.1 I;have e:ahP f c (i::l) q=ahP f c l (pe f c q i):=rfl;have e1:(pe f c q i).2.1=q.2.1++ [⟨(bp (f i) q.1).2.toNat,c,q.2.2⟩]:=rfl;have e2:(pe f c q i).2.2=q.2.1.length+1:=rfl;obtain ⟨h1,h2,h3,h4⟩:=ih (pe f c q i) (fun k hk=>hl k (List.mem_cons_of_mem _ hk)) Q.inv (by rw[e1,e2,List.length_append];exact lZ)
  have hlen:q.1.1.length<=(pe f c q i).1.1.length:=Q.len;rw[e];refine ⟨fun k g hk=>?_,h2,by rw[h3,e1,List.length_append,List.length_cons];simp;omega,by omega⟩
  rcases h1 k g hk with e3|e3
  .rw[e1]at e3
   by_cases hkl:k<q.2.1.length
   .rw[List.getElem?_append_left hkl]at e3
    exact .inl e3
   .rw[List.getElem?_append_right (by omega)]at e3
    obtain ⟨hk0,e4⟩:=List.getElem?_eq_some_iff.1 e3;simp at hk0;have hk1:k=q.2.1.length:=by omega
    subst hk1;simp at e4;subst e4;obtain ⟨t,ht,htl,_⟩:=Q.at_;refine .inr ⟨?_,h⟩
    show (bp (f i) q.1).2.toNat<_
    rw[ht,Int.toNat_natCast];have:t<(pe f c q i).1.1.length:=htl;omega
  .exact .inr e3
section
variable {H B:Tm} {at' nx n:Nat} {X:PM}
theorem B2 (hG:HG (ah X.h) X.h.length) (hH:iz H=0) (hOk:d9 12 H) (hlen:(dh H at' X).l.length=(dk H X).1.1.length):r8 (dh H at' X).l (dk H X).1.2 ((dh H at' X).l,(dk H X).1.2):=by
 have hPo:ws X.h.length (X.h,el) H (dk H X):=iw H hH (X.h,el) (jt X.h);have hri:Qb (dk H X).1:=F3 H (X.h,el) ⟨fun u v c h=>(by cases h),fun v c h=>(by cases h)⟩
 have hpos: ∀v c,(dk H X).1.2 v=some c->0<v/\v<=12:=Bj H hOk (X.h,el) (fun v c h=>by cases h)
 refine ⟨⟨fun v c e=>?_,fun x h1 h2=>absurd h2 (by show¬x<(dh H at' X).l.length;omega),lZ⟩,fun _ _=>rfl,fun _ _ h=>h,fun _ _ h=> .inl h,⟨hri.1,fun v c h=>?_⟩,hpos⟩
 .obtain ⟨y,e1,e2,_⟩:=hPo.inv.var v c e
  exact ⟨y,e1,by show y<(dh H at' X).l.length;omega,fun h3=>absurd h3 (by omega)⟩
 .have:=hri.2 v c h
  show c<((dh H at' X).l.length:Int)
  omega
theorem yp (hG:HG (ah X.h) X.h.length) (hH:iz H=0) (hOk:d9 12 H) (hB: ∀i,i<B.len->d9 12 (B.f i)/\iz (B.f i)=0/\cnt (B.f i)<=60) (hat:at'<X.h.length) (hn:X.left=(n:Int)):
 rn X (a7 H B at' nx X).1/\((a7 H B at' nx X).2=true->nx<=X.gs.length->(∀(i:Nat) (g:Gq),X.gs[i]?=some g->g.at_<X.h.length/\g.nx<=i)->∀qs,(∀x∈X.tr,x<X.h.length)->(∀x∈qs,x<X.h.length)->Qc (a7 H B at' nx X).1.h (a7 H B at' nx X).1.gs (a7 H B at' nx X).1.tr qs/\(a7 H B at' nx X).1.first<=(a7 H B at' nx X).1.gs.length/\(a7 H B at' nx X).1.gs.length<=5000/\(a7 H B at' nx X).1.fin=X.fin):=by
 have hPo:ws X.h.length (X.h,el) H (dk H X):=iw H hH (X.h,el) (jt X.h);have hl0:X.h.length<=(dk H X).1.1.length:=hPo.len;have hold: ∀i,i<X.h.length->ah (dk H X).1.1 i=ah X.h i:=hPo.old;unfold a7
 by_cases hf:dp (dk H X).1.1 X.gs=true
 .rw[if_pos hf]
  exact ⟨⟨hl0,⟨[],(List.append_nil _).symm,fun i hi _=>hold i hi,fun _ h=>by cases h⟩,List.take_length⟩,fun h=>by cases h⟩
 rw[if_neg hf]
 have hl1:(dk H X).1.1.length<=400000:=by
  have hf':dp (dk H X).1.1 X.gs=false:=by simpa using hf
  unfold dp at hf';simp at hf';omega
 have hG3:HG (ah (dk H X).1.1) (dk H X).1.1.length:=hPo.inv.hg hG hold hl1;obtain ⟨t,ht,htl,_⟩:=hPo.at_
 have hER:dh H at' X=jn (n+1) t at' (n,(dk H X).1.1,[]):=by
  unfold dh;rw[ht,hn,Int.toNat_natCast,Int.toNat_natCast]
 have hGd:(dh H at' X).Good (n,(dk H X).1.1,[]):=by rw[hER];exact gj _ _ _ _ ⟨hG3,hG3.nmZ⟩ htl (by show at'<(dk H X).1.1.length;omega)
 have hUd:(dh H at' X).Und (n,(dk H X).1.1,[]):=by rw[hER];exact zx _ _ _ _ ⟨hG3,hG3.nmZ⟩ htl (by show at'<(dk H X).1.1.length;omega)
 obtain ⟨new,u1,u2,u3⟩:=hUd;have u1':(dh H at' X).bs=new:=u1;have hln:(dh H at' X).l.length=(dk H X).1.1.length:=hGd.len;have hb: ∀i∈new,i<X.h.length->ah X.h i=fa i:=fun i hi hl=>(hold i hl).symm.trans (u3 i hi).2
 have ho: ∀i,i<X.h.length->i ∉ new->ah (dh H at' X).l i=ah X.h i:=fun i hi hm=>(u2 i hm).trans (hold i hi)
 by_cases hok:(dh H at' X).ok=false
 .rw[if_pos hok]
  exact ⟨⟨by show X.h.length<=(dh H at' X).l.length;omega,⟨new,by rw[<-u1'],ho,hb⟩,List.take_length⟩,fun h=>by cases h⟩
 rw[if_neg hok];have hB2: ∀i,i<B.len->d9 12 (B.f i)/\iz (B.f i)=0:=fun i hi=>⟨(hB i hi).1,(hB i hi).2.1⟩
 have hbl: ∀i∈ke B.len,i<B.len:=fun i hi=>by simpa[ke]using hi
 have hGr:=B2 hG hH hOk hln;have hA:=r8.ahP (c:=X.cs.length) hB2 (ke B.len) (((dh H at' X).l,(dk H X).1.2),X.gs,nx) hbl hGr;have hA1:r8 (dh H at' X).l (dk H X).1.2 (gu H B at' nx X).1:=hA.1;have hA2:(dh H at' X).l.length<=(gu H B at' nx X).1.1.length:=hA.2.1;have hA3: ∀i,i<(dh H at' X).l.length->ah (gu H B at' nx X).1.1 i=ah (dh H at' X).l i:=hA.2.2.1
 have hPre:=Ag (c:=X.cs.length) (fun i hi=>⟨(hB i hi).1,(hB i hi).2.1,by have:=(hB i hi).2.2;omega⟩) (((dh H at' X).l,(dk H X).1.2),X.gs,nx) (fun v c e=>by
  obtain ⟨y,e1,e2,_⟩:=hPo.inv.var v c e;exact ⟨y,e1,by show y<(dh H at' X).l.length;omega⟩) (ke B.len) hbl
 have hgs:(gu H B at' nx X).2.1.take X.gs.length=X.gs:=hPre.2.2
 have hE: ∀(a b:Int),rn X { X with h:=(gu H B at' nx X).1.1,gs:=(gu H B at' nx X).2.1,first:=(gu H B at' nx X).2.2,tr:=X.tr++(dh H at' X).bs,left:=a,fin:=b}:=fun a b=>
  ⟨by show X.h.length<=(gu H B at' nx X).1.1.length;omega,⟨new,by rw[<-u1'],fun i hi hm=>(hA3 i (by omega)).trans (ho i hi hm),hb⟩,hgs⟩
 by_cases hf2:dp (gu H B at' nx X).1.1 (gu H B at' nx X).2.1=true
 .rw[if_pos hf2]
  exact ⟨hE _ _,fun h=>by cases h⟩
 .rw[if_neg hf2]
  refine ⟨hE _ _,fun _ hnx hgo qs htl' hqs=>?_⟩
  have hf':dp (gu H B at' nx X).1.1 (gu H B at' nx X).2.1=false:=by simpa using hf2
  unfold dp at hf';simp at hf';have hI0:li (dh H at' X).l.length ((dh H at' X).l,(dk H X).1.2):=hGr.pi;have hgl:=rl (c:=X.cs.length) hB2 (ke B.len) (((dh H at' X).l,(dk H X).1.2),X.gs,nx) hbl hI0 hnx;have hok':(dh H at' X).ok=true:=by simpa using hok
  have hnn: ¬(dh H at' X).left<0:=by
   cases hr:dh H at' X with
   |yes s=>show¬((s.1:Int))<0;omega
   |no a b c=>rw[hr]at hok';cases hok'
  refine ⟨⟨hA1.pi.hg hGd.hg hA3 (by have:=hf'.1;omega),fun i g hg=>?_,fun x hx=>?_,fun x hx=>?_⟩,hgl.2.1,by have:=hf'.2;show (gu H B at' nx X).2.1.length<=5000;omega,?_⟩
  .rcases hgl.1 i g hg with e|e
   .have:=hgo i g e
    exact ⟨by show g.at_<(gu H B at' nx X).1.1.length;omega,this.2⟩
   .exact e
  .have hx':x∈X.tr++(dh H at' X).bs:=hx
   show x<(gu H B at' nx X).1.1.length
   rcases List.mem_append.1 hx' with h|h
   .have:=htl' x h;omega
   .rw[u1']at h
    have:x<(dk H X).1.1.length:=(u3 x h).1;omega
  .have:=hqs x hx
   show x<(gu H B at' nx X).1.1.length
   omega
  .show (if _ then _ else _)=_
   rw[if_neg hnn]
theorem I0 (h0:X.fin=0):(a7 H B at' nx X).1.fin=0\/(a7 H B at' nx X).1.fin=3:=by
 have hi: ∀c:Prop,[Decidable c]->(if c then (3:Int)else X.fin)=0\/(if c then (3:Int)else X.fin)=3:=fun c _=>by
  by_cases h:c
  .rw[if_pos h];exact .inr rfl
  .rw[if_neg h];exact .inl h0
 unfold a7
 split
 .exact .inr rfl
 .split
  .exact hi _
  .split
   .exact .inr rfl
   .exact hi _
end
structure Nv (n:Nat) (qs:List Nat) (X Y:PM):Prop where
 ext:rn X Y
 ok:jm n qs Y
 gs:Y.gs.length<=5000
 tr:Y.tr.length<=X.tr.length+4000
 cs:Y.cs=X.cs\/∃k,Y.cs=X.cs++ [{ dn X with cl:=k}]
 fin:Y.fin=0
def Nw (n:Nat) (qs:List Nat) (X:PM) (q:PM × Bool):Prop:=
 (q.2=false/\∃lf fn:Int,q.1= { X with left:=lf,fin:=fn} /\(fn=0\/fn=3)/\(fn=0->∃n:Nat,lf=(n:Int)/\n<=4000))\/(q.2=true/\Nv n qs X q.1)
theorem A4 (X:PM):(am (dn X) X).h=X.h/\(am (dn X) X).gs=X.gs/\(am (dn X) X).tr=X.tr:=by
 refine ⟨?_,List.take_length,List.take_length⟩
 show gw (X.h.take X.h.length) (X.tr.drop X.tr.length)=X.h
 rw[List.take_length,List.drop_length]
 rfl
theorem Dy {P:qh} {t:Tm} {i j:Nat} (h:cj P t i=some j):i<=j/\j<P.length:=by
 unfold cj at h;have h1:=List.find?_some h;have h2:=List.mem_of_find?_eq_some h;rw[List.mem_range]at h2;simp at h1;exact ⟨h1.1,h2⟩
theorem Kv {P:Pg} (hC:i7 P) {qs:List Nat} {X:PM} {i:Nat} (hO:jm P.len qs X) (hf:X.first=i+1) (hi:i<X.gs.length) (hk2:(ah X.h (bf X)).k=2) (T:Tm):
 ∀(f k:Nat) (lf fn:Int),(fn=0\/fn=3)->(fn=0->∃n:Nat,lf=(n:Int)/\n<=4000)->Nw P.len qs X (j5 P T (dn X) (bf X) (ai X).nx f k { X with left:=lf,fin:=fn}):=by
 have hg:X.gs[i]?=some (ai X):=by
  unfold ai;rw[hf,Nat.add_sub_cancel,List.getD_eq_getElem?_getD,gE hi]
  rfl
 have hgo:=hO.s.go i _ hg;have hatl:bf X<X.h.length:=hO.s.hg.end_lt hgo.1;intro f
 induction f with
 |zero=>intro k lf fn h1 h2;exact .inl ⟨rfl,lf,fn,rfl,h1,h2⟩
 |succ f ih=>
  intro k lf fn h1 h2;unfold j5
  cases hfit:cj (bm P) T k with
  |none=>exact .inl ⟨rfl,lf,fn,rfl,h1,h2⟩
  |some j=>
   have hj:=Dy hfit;rw[iy]at hj
   show Nw P.len qs X (if fn≠0 then _ else _)
   by_cases hfn:fn=0
   case neg=>rw[if_pos hfn];exact .inl ⟨rfl,lf,fn,rfl,h1,h2⟩
   rw[if_neg (by simp[hfn])]
   subst hfn;obtain ⟨n,hlf,hn4⟩:=h2 rfl;have hhd:=hC.hd j hj.2;have hbd:=hC.bd j hj.2
   have hG1:HG (ah { X with left:=lf,fin:=0}.h) { X with left:=lf,fin:=0}.h.length:=hO.s.hg
   have hE:=yp (H:=P.hd j) (B:=P.bd j) (at':=bf X) (nx:=(ai X).nx) (n:=n) (X:= { X with left:=lf,fin:=0}) hG1 hhd.2.1 hhd.1 hbd.2 hatl hlf
   have hU:=ot (n:=n) (nx:=(ai X).nx) (X:= { X with left:=lf,fin:=0}) hG1 hhd.2.1 hhd.1 (fun i hi=>⟨(hbd.2 i hi).1,(hbd.2 i hi).2.1,by have:=(hbd.2 i hi).2.2;omega⟩) hatl hlf
   have hGr:=oz (n:=n) (nx:=(ai X).nx) (X:= { X with left:=lf,fin:=0}) hG1 hhd.2.1 (fun i hi=>⟨(hbd.2 i hi).1,(hbd.2 i hi).2.1,by have:=(hbd.2 i hi).2.2;omega⟩) hatl hlf hn4 rfl
   have hFn:=I0 (H:=P.hd j) (B:=P.bd j) (at':=bf X) (nx:=(ai X).nx) (X:= { X with left:=lf,fin:=0}) rfl
   generalize a7 (P.hd j) (P.bd j) (bf X) (ai X).nx { X with left:=lf,fin:=0} =q at*
   obtain ⟨Z,ok⟩:=q
   cases ok with
   |false=>
    show Nw P.len qs X (j5 P T (dn X) (bf X) (ai X).nx f (j+1) (am (dn X) Z))
    have hU':am (dn X) Z= { X with left:=Z.left,fin:=Z.fin}:=hU
    rw[hU'];refine ih (j+1) Z.left Z.fin hFn fun h=>?_
    obtain ⟨n',e1,e2⟩:=hGr.2.2 h;exact ⟨n',e1,by omega⟩
   |true=>
    obtain ⟨s1,s2,s3,s4⟩:=hE.2 rfl (by have:=hgo.2;show (ai X).nx<=X.gs.length;omega) hO.s.go qs hO.s.tl hO.s.qu
    have s1':Qc Z.h Z.gs Z.tr qs:=s1;have hX:rn X Z:=⟨hE.1.len,hE.1.tr,hE.1.gs⟩;have hcs:Z.cs=X.cs:=hGr.2.1;have hZ:jm P.len qs Z:=hO.ext hX s1' s2 (by rw[hcs];exact List.Sublist.refl _)
    refine .inr ⟨rfl,?_⟩
    show Nv P.len qs X (match cj (bm P) T (j+1)with|none=>Z|some k=> { Z with cs:=Z.cs++ [{ dn X with cl:=k}]})
    have htr:Z.tr.length<=X.tr.length+4000:=hGr.1.2.2.1
    cases hft:cj (bm P) T (j+1)with
    |none=>exact ⟨hX,hZ,s3,htr,.inl hcs,s4⟩
    |some k2=>
     have hk:=Dy hft;rw[iy]at hk
     have hE2:rn X { Z with cs:=Z.cs++ [{ dn X with cl:=k2}]}:=hX.same rfl rfl rfl
     have hs:=hE2.undo (c:= { dn X with cl:=k2}) lZ lZ lZ
     have hw:=A4 X
     have hC2:Jn P.len qs X { dn X with cl:=k2}:=by
      refine ⟨⟨by show 1<=X.first;omega,by show X.first<=X.gs.length;omega⟩,by show k2<=P.len;omega,lZ,lZ,lZ,?_,?_⟩
      .show Qc (am (dn X) X).h (am (dn X) X).gs (am (dn X) X).tr qs
       rw[hw.1,hw.2.1,hw.2.2];exact hO.s
      .show (ah (am (dn X) X).h (bf (am (dn X) X))).k=2
       have e:bf (am (dn X) X)=bf X:=by
        unfold bf ai;rw[hw.1,hw.2.1]
        rfl
       rw[e,hw.1];exact hk2
     refine ⟨hE2,⟨s1',s2,fun c hc=>?_,?_⟩,s3,htr,.inr ⟨k2,by show Z.cs++_=_;rw[hcs]⟩,s4⟩
     .have hc':=hc
      rcases List.mem_append.1 hc' with h|h
      .rw[hcs]at h
       exact (hO.ch c h).ext hE2
      .rw[List.mem_singleton]at h
       subst h;exact hC2.ext hE2
     .show (Z.cs++ [{ dn X with cl:=k2}]).Pairwise Tb
      rw[hcs,List.pairwise_append];refine ⟨hO.mono,List.pairwise_singleton _ _,fun c hc d hd=>?_⟩
      rw[List.mem_singleton]at hd;subst hd;have:=hO.ch c hc;exact ⟨this.hp,this.tr,this.gs⟩
theorem pz {P:Pg} (hC:i7 P) {qs:List Nat} {X:PM} {i fr:Nat} (hO:jm P.len qs X) (hf:X.first=i+1) (hi:i<X.gs.length) (hk2:(ah X.h (bf X)).k=2) (hn:X.fin=0) (hl: ∃n:Nat,X.left=(n:Int)/\n<=4000):Nw P.len qs X (i4 P fr X):=by
 have:=Kv hC hO hf hi hk2 (cd (ah X.h (bf X))) (P.len+1) fr X.left X.fin (.inl hn) (fun _=>hl)
 exact this
end Go.Proofs.YtmggaclaoefdaabGreat
