/- Part of the proof. -/
import Derived.Test.YtmggaclaoefdaabGreatBnd5
namespace Go.Proofs.YtmggaclaoefdaabGreat
open Go.RowKit Go.Proofs.Tryz
set_option linter.unusedVariables false
set_option linter.unusedSimpArgs false
set_option maxRecDepth 100000
set_option maxHeartbeats 8000000
theorem ow (T:Tm):iz T=0->d9 12 T:=by
 induction T with
 |nil=>intro h;exact absurd h (by decide+kernel)
 |mk v nm a len cap f ih=>
  intro h
  have hp:e9 v nm len=0:=by
   by_cases hp:e9 v nm len=0
   .exact hp
   .rw[iz,if_neg hp]at h;exact h
  rw[iz,if_pos hp]at h
  have hk: ∀i,i<len->iz (f i)=0:=by
   intro i hi;have h0:=gm (fun i=>iz (f i)) (Nat.le_of_lt hi) h
   have h1:=gm (fun i=>iz (f i)) (show i+1<=len from hi) h
   rw[fst,if_pos h0]at h1;exact h1
  by_cases hv:v=0
  .rw[e9,if_neg (by simpa using hv)]at hp
   split at hp
   .omega
   .split at hp
    .omega
    .exact ⟨by omega,by omega,fun h=>absurd hv h,by omega,fun i hi=>ih i (hk i hi)⟩
  .rw[e9,if_pos hv,Jr]at hp
   split at hp
   .omega
   .split at hp
    .omega
    .split at hp
     .rename_i hn
      split at hp
      .omega
      .refine ⟨by omega,by omega,fun _=>⟨?_,by omega⟩,by omega,fun i hi=>ih i (hk i hi)⟩
       rw[ByteArray.toList_eq]at hn;cases nm;simp at hn;simp[hn]
     .omega
theorem o4 {T:Tm} (h:ei T=0):iz T=0:=by
 by_cases hc:cnt T<=60
 .rw[ei,if_pos hc]at h;exact h
 .rw[ei,if_neg hc]at h;omega
def a9:Tm->Tm
 | .nil=> .mk 0 ⟨#[]⟩ none 0 0 (fun _=> .nil)
 | .mk v nm _ len _ f=> .mk v nm none len 0 (fun i=>if i<len then a9 (f i)else .nil)
theorem ip (T:Tm):a9 T=.mk T.v T.nm none T.len 0 (fun i=>if i<T.len then a9 (T.f i)else .nil):=by
 cases T with
 |nil=>
  show Tm.mk 0 ⟨#[]⟩ none 0 0 (fun _=> .nil)=Tm.mk 0 ⟨#[]⟩ none 0 0 _
  congr 1
 |mk=>rfl
theorem j8 {T U:Tm} (h1:T.v=U.v) (h2:T.nm=U.nm) (h3:T.len=U.len) (h4: ∀i,i<T.len->a9 (T.f i)=a9 (U.f i)):a9 T=a9 U:=by
 rw[ip T,ip U,h1,h2,h3]
 congr 1
 funext i
 by_cases hi:i<U.len
 .rw[if_pos hi,if_pos hi];exact h4 i (by omega)
 .rw[if_neg hi,if_neg hi]
theorem Gg {T U:Tm} (h:a9 T=a9 U):T.v=U.v/\T.nm=U.nm/\T.len=U.len/\∀i,i<T.len->a9 (T.f i)=a9 (U.f i):=by
 rw[ip T,ip U]at h
 injection h with h1 h2 _ h3 _ h4
 refine ⟨h1,h2,h3,fun i hi=>?_⟩
 have:=congrFun h4 i
 rwa [if_pos hi,if_pos (by omega)]at this
theorem sq {T U:Tm} (h:Ff T U):a9 T=a9 U:=by
 induction T generalizing U with
 |nil=>exact j8 h.1.symm h.2.1.symm h.2.2.symm (fun i hi=>absurd hi (nL i))
 |mk v nm a len cap f ih=>exact j8 h.1 h.2.1 h.2.2.1 (fun i hi=>ih i (h.2.2.2 i hi))
theorem t8 (T:Tm): ∀U,ib T U=true↔a9 T=a9 U:=by
 induction T with
 |nil=>
  intro U;rw[t9]
  constructor
  .intro h
   simp only[Bool.and_eq_true,beq_iff_eq,fq]at h;obtain ⟨h1,h2,h3,_⟩:=h;exact j8 h1 (nm_eq h2) (by omega) (fun i hi=>absurd hi (nL i))
  .intro h
   obtain ⟨h1,h2,h3,_⟩:=Gg h;simp only[Bool.and_eq_true,beq_iff_eq,fq];exact ⟨h1,by rw[h2],by rw[h3],rfl⟩
 |mk v nm a len cap f ih=>
  intro U;rw[t9]
  constructor
  .intro h
   simp only[Bool.and_eq_true,beq_iff_eq,fq]at h;obtain ⟨h1,h2,h3,h4⟩:=h;exact j8 h1 (nm_eq h2) (by omega) (fun i hi=>(ih i _).1 (dm.1 h4 i hi))
  .intro h
   obtain ⟨h1,h2,h3,h4⟩:=Gg h;simp only[Bool.and_eq_true,beq_iff_eq,fq];exact ⟨h1,by rw[h2],by rw[h3],dm.2 (fun i hi=>(ih i _).2 (h4 i hi))⟩
where
 nm_eq {a b:ByteArray} (h:a.toList=b.toList):a=b:=by
  rw[ByteArray.toList_eq,ByteArray.toList_eq]at h;cases a;cases b;simp at h;simp[h]
theorem Ae (T:Tm):a9 (a9 T)=a9 T:=by
 induction T with
 |nil=>rfl
 |mk v nm a len cap f ih=>
  refine j8 rfl rfl rfl (fun i hi=>?_)
  have hi':i<len:=hi
  show a9 (if i<len then a9 (f i)else .nil)=a9 (f i)
  rw[if_pos hi'];exact ih i
def ap (θ:Int->Tm):Tm->Tm
 | .nil=> .mk 0 ⟨#[]⟩ none 0 0 (fun _=> .nil)
 | .mk v nm _ len _ f=>if v=0 then .mk 0 nm none len 0 (fun i=>if i<len then ap θ (f i)else .nil)else θ v
theorem jf (θ:Int->Tm) {T:Tm} (h:T.v≠0):ap θ T=θ T.v:=by
 cases T with
 |nil=>exact absurd rfl h
 |mk v nm a len cap f=>
  have h: ¬v=0:=h;rw[ap,if_neg h];rfl
theorem kv (θ:Int->Tm) {T:Tm} (h:T.v=0):ap θ T=.mk 0 T.nm none T.len 0 (fun i=>if i<T.len then ap θ (T.f i)else .nil):=by
 cases T with
 |nil=>
  show Tm.mk 0 ⟨#[]⟩ none 0 0 (fun _=> .nil)=Tm.mk 0 ⟨#[]⟩ none 0 0 _
  congr 1
 |mk v nm a len cap f=>
  have h:v=0:=h;rw[ap,if_pos h];rfl
theorem mj (θ:Int->Tm) (T:Tm):ap θ (a9 T)=ap θ T:=by
 induction T with
 |nil=>
  show (if (0:Int)=0 then Tm.mk 0 ⟨#[]⟩ none 0 0 (fun i=>if i<0 then ap θ .nil else .nil)else θ 0)=Tm.mk 0 ⟨#[]⟩ none 0 0 (fun _=> .nil)
  rw[if_pos rfl]
  congr 1
 |mk v nm a len cap f ih=>
  show ap θ (.mk v nm none len 0 _)=_
  rw[ap,ap]
  split
  .congr 1
   funext i
   by_cases hi:i<len
   .rw[if_pos hi,if_pos hi,if_pos hi];exact ih i
   .rw[if_neg hi,if_neg hi]
  .rfl
theorem nm_eq {a b:ByteArray} (h:a.toList=b.toList):a=b:=by
 rw[ByteArray.toList_eq,ByteArray.toList_eq]at h;cases a;cases b;simp at h;simp[h]
theorem Pf {σ:Sg}: ∀(d:Nat) (T:Tm),ph σ d T->a9 (ex σ (d+1) T)=a9 (ex σ d T):=by
 intro d
 induction d with
 |zero=>intro T h;exact False.elim h
 |succ d ih=>
  intro T h;rw[ex,ex]
  by_cases hv:(wha σ T).v=0
  .rw[if_pos hv,if_pos hv]
   exact j8 rfl rfl rfl (fun i hi=>ih _ (h i hi))
  .rw[if_neg hv,if_neg hv]
theorem Pe {σ:Sg} {d e:Nat} {T:Tm} (hd:ph σ d T) (he:ph σ e T):a9 (ex σ d T)=a9 (ex σ e T):=by
 have key: ∀j d,ph σ d T->a9 (ex σ (d+j) T)=a9 (ex σ d T)/\ph σ (d+j) T:=by
  intro j
  induction j with
  |zero=>intro d h;exact ⟨rfl,h⟩
  |succ j ih=>
   intro d h;obtain ⟨h1,h2⟩:=ih d h;exact ⟨by rw[<-Nat.add_assoc,Pf _ _ h2,h1],by rw[<-Nat.add_assoc];exact h2.mono⟩
 rcases Nat.le_total d e with h|h
 .obtain ⟨j,rfl⟩:=Nat.exists_eq_add_of_le h
  exact (key j d hd).1.symm
 .obtain ⟨j,rfl⟩:=Nat.exists_eq_add_of_le h
  exact (key j e he).1
def ans (σ:Sg):Int->Tm:=fun v=>a9 (ex σ 200 (vT v))
theorem Ac {σ:Sg} (hd:Dj σ) {i:Int} {U:Tm} (hU:U.v=0\/(0<U.v/\U.v<i)):Dj (upd σ i U):=by
 intro v V h;unfold upd at h
 by_cases e:v=i
 .rw[if_pos e]at h
  obtain rfl:=oj h;rw[e];exact hU
 .rw[if_neg e]at h
  exact hd v V h
theorem zu {σ:Sg} (hd:Dj σ) {i:Int} {U:Tm} (hi:0<i) (hn:σ i=none) (hU:U.v=0\/(0<U.v/\U.v<i)) (hUn:U.v≠0->σ U.v=none):
 ∀(k:Nat) (T:Tm),T.v.toNat=k->0<=T.v->wha (upd σ i U) T=if (wha σ T).v=i then U else wha σ T:=by
 have hd':=Ac hd hU;intro k
 induction k using Nat.strongRecOn with
 |_ k ih=>
  intro T hk h0
  by_cases hv:T.v=0
  .rw[ld hv,ld hv,if_neg (by omega)]
  by_cases hTi:T.v=i
  .have e1:upd σ i U T.v=some U:=by unfold upd;rw[if_pos hTi]
   rw[ll hd' h0 hv e1,gh (T:=T) (by rw[hTi];exact hn),if_pos hTi]
   by_cases hu:U.v=0
   .exact ld hu
   .refine gh ?_
    unfold upd;rw[if_neg (by omega)]
    exact hUn hu
  .have e1:upd σ i U T.v=σ T.v:=by unfold upd;rw[if_neg hTi]
   cases hs:σ T.v with
   |none=>rw[gh (by rw[e1];exact hs),gh hs,if_neg hTi]
   |some V=>
    rw[ll hd' h0 hv (by rw[e1];exact hs),ll hd h0 hv hs]
    rcases hd _ _ hs with h| ⟨h1,h2⟩
    .exact ih V.v.toNat (by omega) V rfl (by omega)
    .exact ih V.v.toNat (by omega) V rfl (by omega)
def T3 (Y:Tm):Int->Tm:=fun v=>a9 (Y.f (v.toNat-1))
def PP (Y T:Tm) (w:World) (e:Ending) (w':World):Prop:=∃X:Tm,e=.returned X.val/\Below w.heap.size w w'/\ay w' X/\a9 X=ap (T3 Y) T/\∀k,k<w.heap.size->NB k Y->NB k X
theorem NB.retop {k:Nat} {T:Tm} {v:Int} {nm:ByteArray} (h:NB k T):NB k (.mk v nm T.a T.len T.cap T.f):=by
 cases T with
 |nil=>exact ⟨fun h0=>absurd h0 (Nat.lt_irrefl 0),fun i hi=>absurd hi (nL i)⟩
 |mk=>exact h
def iq (π:Int->Int):Int->Tm:=fun v=>a9 (vT (π v))
theorem Qp {σ:Sg} (hd:Dj σ): ∀(k:Nat) (T:Tm),T.v.toNat=k->0<=T.v->0<=(wha σ T).v/\(wha σ T).v<=T.v:=by
 intro k
 induction k using Nat.strongRecOn with
 |_ k ih=>
  intro T hk h0
  by_cases hv:T.v=0
  .rw[ld hv];omega
  cases hs:σ T.v with
  |none=>rw[gh hs];omega
  |some U=>
   rw[ll hd h0 hv hs]
   rcases hd _ _ hs with h| ⟨h1,h2⟩
   .have:=ih U.v.toNat (by omega) U rfl (by omega);omega
   .have:=ih U.v.toNat (by omega) U rfl (by omega);omega
theorem ur (X:Tm): ∀(ts:List Tm) (i:Nat),i<ts.length->(((cy ts).set (i*3) (iV X.v)).set (i*3+1) (.string X.nm)).set (i*3+2) (.slice X.a X.len X.cap)=cy (ts.set i X):=by
 intro ts
 induction ts with
 |nil=>intro i hi;exact absurd hi (nL i)
 |cons T ts ih=>
  intro i hi;have hc: ∀U:Tm,∀us,cy (U::us)=iV U.v::Value.string U.nm::Value.slice U.a U.len U.cap::cy us:=fun U us=>by simp[cy,cells3]
  cases i with
  |zero=>rw[hc];show _=cy (X::ts);rw[hc];rfl
  |succ i=>
   have h:=ih i (by simp at hi;omega)
   rw[hc,show (i+1)*3=i*3+1+1+1 from by omega]
   show _=cy (T::ts.set i X)
   rw[hc,<-h]
   rfl
theorem ui {w:World} {lo g cap n:Nat} {ts:List Tm} (h:w.ownsRow lo 67 3 (.slice (some ⟨g,0,none⟩) n cap) n (cy ts)) (hl:ts.length=n) {i:Nat} (hi:i<n) (X:Tm):
 (((w.setCell ⟨g,i*3,none⟩ (iV X.v)).setCell ⟨g,i*3+1,none⟩ (.string X.nm)).setCell ⟨g,i*3+2,none⟩ (.slice X.a X.len X.cap)).ownsRow lo 67 3 (.slice (some ⟨g,0,none⟩) n cap) n (cy (ts.set i X)):=by
 obtain ⟨h1,h2⟩:=h
 rcases h2 with ⟨h2,_⟩| ⟨g',cap',cur,hv,hlo,hg,hnc,hcm,hsz,htk⟩
 .cases h2
 cases hv;refine ⟨?_,.inr ⟨g,cap,((cur.setIfInBounds (i*3) (iV X.v)).setIfInBounds (i*3+1) (.string X.nm)).setIfInBounds (i*3+2) (.slice X.a X.len X.cap),rfl,hlo,?_,hnc,hcm,?_,?_⟩⟩
 .rw[<-ur X ts i (by omega)];simp[h1]
 .simp only[World.setCell,Array.getElem?_modify]
  simp[hg]
 .simp[hsz]
 .rw[<-ur X ts i (by omega),<-htk]
  simp[List.take_set]
theorem rz {w w':World} (h:Below w.heap.size w w') (o:Obj):Below w.heap.size w (w'.alloc o):=h.alloc h.size o
theorem Dc {W Wx w1:World} (h:Below W.heap.size W Wx) (h1:Below Wx.heap.size Wx w1):Below W.heap.size W w1:=h.trans (h1.mono h.size)
theorem oq (W:World) (o p:Obj):((W.alloc o).alloc p).heap[W.heap.size]?=some o/\((W.alloc o).alloc p).heap[W.heap.size+1]?=some p:=by
 constructor
 .rw[jZ _ _ (by simp)];exact hZ W _
 .have:=hZ (W.alloc o) p
  rwa [show (W.alloc o).heap.size=W.heap.size+1 from by simp]at this
theorem H8 {w:World} {lo g cap n:Nat} {t:TypeId} {xs:List Value} (h:w.ownsRow lo t 1 (.slice (some ⟨g,0,none⟩) n cap) n xs) (i:Nat) (x:Value):
 (w.setCell ⟨g,i,none⟩ x).ownsRow lo t 1 (.slice (some ⟨g,0,none⟩) n cap) n (xs.set i x):=by
 obtain ⟨h1,h2⟩:=h
 rcases h2 with ⟨h2,_⟩| ⟨g',cap',cur,hv,hlo,hg,hnc,hcm,hsz,htk⟩
 .cases h2
 cases hv;refine ⟨by simp[h1],.inr ⟨g,cap,cur.setIfInBounds i x,rfl,hlo,?_,hnc,hcm,by simp[hsz],?_⟩⟩
 .simp only[World.setCell,Array.getElem?_modify]
  simp[hg]
 .rw[<-htk]
  simp[List.take_set]
theorem Fz (lead:Nat->List Nat) (h4: ∀x,(lead x).length<=4) (y:Nat): ∀i,(vt lead i y).length<=4*i:=by
 intro i
 induction i with
 |zero=>exact lZ
 |succ i ih=>
  rw[uh,List.length_append,List.length_replicate];have:= @List.count_le_length _ _ y (lead i);have:=h4 i;omega
theorem kh.kept {lo:Nat} {w w':World} {v:Value} {l:List Nat} {row:Option Nat} (h:kh lo w v l) (hg:w.grownBy w' row) (hn:v.ownBlock=none\/v.ownBlock≠row):kh lo w' v l:=by
 refine World.ownsRow.kept h hg ?_
 rcases hn with e|e
 .exact .inl e
 .exact .inr e
theorem kh.below {lo:Nat} {w w':World} {v:Value} {l:List Nat} (h:kh lo w v l) (hb:Below w.heap.size w w'):kh lo w' v l:=by
 refine h.kept (aq hb none) ?_
 cases v.ownBlock with
 |none=>exact .inl rfl
 |some g=>exact .inr (by simp)
theorem Hp {α:Type} (f:Nat->α) (n i:Nat) (x:α):((List.range n).map f).set i x=(List.range n).map fun j=>if j=i then x else f j:=by
 refine List.ext_getElem (by simp) fun j h1 h2=>?_
 rw[List.getElem_set];simp only[List.getElem_map,List.getElem_range]
 by_cases e:i=j
 .rw[if_pos e,if_pos e.symm]
 .rw[if_neg e,if_neg (fun h=>e h.symm)]
theorem P4 (z:Value) (hz:z.cells= #[z]) (n:Nat):(madeCells z.cells (n*1)).toList=(List.range n).map fun _:Nat=>z:=by
 rw[hz,Nat.mul_one,toList_madeCells_one];refine List.ext_getElem (by simp) fun i h1 h2=>?_
 simp
theorem kh.form {lo:Nat} {w:World} {v:Value} {l:List Nat} (h:kh lo w v l): ∃sa cp,v=.slice sa l.length cp/\∀k (hk:k<l.length),∃g,sa=some ⟨g,0,none⟩/\w.cell? ⟨g,k,none⟩=some (iV (l[k]:Int)):=by
 rcases h.2 with ⟨hv,h0⟩| ⟨g,cp,cur,hv,_⟩
 .exact ⟨none,0,by rw[hv,h0],fun k hk=>by omega⟩
 .refine ⟨some (dZ g 0),cp,hv,fun k hk=>⟨g,rfl,?_⟩⟩
  have h':=hv▸h;refine (h'.cellAt k (by omega)).trans ?_
  rw[List.getElem?_map,gE hk]
  rfl
theorem nk {α:Type} (f:Nat->α) (n i:Nat) (h:i<n):((List.range n).map f)[i]?=some (f i):=by simp[h]
theorem nl {w:World} {lo g n cap:Nat} {t:TypeId} {s:Nat} {xs:List Value} (h:w.ownsRow lo t s (.slice (some ⟨g,0,none⟩) n cap) n xs) (i:Nat):w.frozen? ⟨g,i,none⟩=false:=by
 rcases h.2 with ⟨h',_⟩| ⟨g',cap',cur,h',_,hg',_⟩
 .cases h'
 .cases h';simp[World.frozen?,hg']
def dy (h:Nat->Cl) (len x:Nat):List Nat:=if x<len then leads h x else []
theorem za (h:Nat->Cl) (len:Nat):Dl len (dy h len)↔Dl len (leads h):=by
 constructor
 .rintro ⟨r,hr⟩
  exact ⟨r,fun x hx y hy=>hr x hx y (by unfold dy;rw[if_pos hx];exact hy)⟩
 .rintro ⟨r,hr⟩
  exact ⟨r,fun x hx y hy=>hr x hx y (by unfold dy at hy;rw[if_pos hx]at hy;exact hy)⟩
structure HOk (h:Nat->Cl) (len:Nat):Prop where
 n0: ∀i,i<len->0<=(h i).n
 n4: ∀i,i<len->(h i).k≠1->(h i).n<=4
 inn: ∀i,i<len->∀y∈leads h i,y<len
 few:len<=400000
theorem HOk.four {h:Nat->Cl} {len:Nat} (H:HOk h len) (x:Nat):(dy h len x).length<=4:=by
 unfold dy
 by_cases hx:x<len
 .rw[if_pos hx]
  unfold leads
  by_cases hk:(h x).k=1
  .rw[if_pos hk]
   split <;> simp
  .rw[if_neg hk,List.length_map,List.length_range]
   have:=H.n4 x hx hk;omega
 .rw[if_neg hx];simp
theorem HOk.din {h:Nat->Cl} {len:Nat} (H:HOk h len): ∀x,x<len->∀y∈dy h len x,y<len:=fun x hx y hy=>by
 unfold dy at hy;rw[if_pos hx]at hy;exact H.inn x hx y hy
theorem KI.len {n:Nat} {deps rd:Nat->List Nat} {c:Nat->Int} {q:List Nat} {k:Nat} {ds:List Nat} (h:KI n deps rd c q k ds):q.length<=n:=by
 have:=List.Nodup.length_le_of_subset h.nd (fun x hx=>List.mem_range.2 (h.lt x hx):q ⊆ List.range n)
 rwa [List.length_range]at this
def J1 (h:Nat->Cl) (i m:Nat):Bool:=cq (fun j=>(h (i+1+j)).k==1) m
def fx (h:Nat->Cl) (len i:Nat):Int:=
 if (h i).k=1 then (if nz (h i).n 0 ((len:Int)-1)=true then (if (h i).nm.toList= []then 0 else 1)else 5)
 else if (h i).k=2 then (if fw (h i).nm=true/\nz (h i).n 0 4=true/\¬((h i).nm.toList= [33]/\0<(h i).n)then (if (len:Int)-1<(i:Int)+(h i).n then 5 else if J1 h i (h i).n.toNat=true then 0 else 1)else 1)
 else 1
def ez (h:Nat->Cl) (len:Nat):Nat->Int
 |0=>0
 |k+1=>if ez h len k≠0 then ez h len k else fx h len k
theorem C7 {h:Nat->Cl} {len i:Nat} (h0:ez h len i=0) (h1:fx h len i≠0): ∀k,i<k->ez h len k=fx h len i:=by
 intro k
 induction k with
 |zero=>intro hk;omega
 |succ k ih=>
  intro hk
  show (if ez h len k≠0 then ez h len k else fx h len k)=_
  by_cases e:k=i
  .subst e;rw[if_neg (by simpa using h0)]
  .have:=ih (by omega)
   rw[if_pos (by rw[this];exact h1),this]
theorem m6 {h:Nat->Cl} {len:Nat}: ∀k,ez h len k=0->∀i,i<k->fx h len i=0:=by
 intro k
 induction k with
 |zero=>intro _ i hi;omega
 |succ k ih=>
  intro h0 i hi
  have h1:ez h len k=0:=by
   by_cases e:ez h len k=0
   .exact e
   .have:ez h len (k+1)=ez h len k:=if_pos e
    rw[this]at h0;exact h0
  by_cases e:i=k
  .subst e
   have:ez h len (i+1)=fx h len i:=if_neg (by simpa using h1)
   rw[this]at h0;exact h0
  .exact ih h1 i (by omega)
def zj (h:Nat->Cl) (len:Nat) (e:Int):Prop:=
 (400000<len/\e=2)\/(len<=400000/\ez h len len≠0/\e=ez h len len)\/(len<=400000/\ez h len len=0/\((Dl len (leads h)/\e=0)\/(¬Dl len (leads h)/\e=4)))
theorem zj.same {h:Nat->Cl} {len:Nat} {e e':Int} (H:zj h len e) (H':zj h len e'):e=e':=by
 rcases H with ⟨a,b⟩| ⟨a,b,c⟩| ⟨a,b,c⟩ <;> rcases H' with ⟨a',b'⟩| ⟨a',b',c'⟩| ⟨a',b',c'⟩ <;> first|omega|skip
 rcases c with ⟨c,d⟩| ⟨c,d⟩ <;> rcases c' with ⟨c',d'⟩| ⟨c',d'⟩
 .omega
 .exact absurd c c'
 .exact absurd c' c
 .omega
theorem th {n l m:Int}:nz n l m=true↔l<=n/\n<=m:=by unfold nz;simp
theorem Ch {h:Nat->Cl} {len:Nat} (hl:len<=400000) (h0:ez h len len=0):HOk h len:=by
 have hz:=m6 len h0
 have hcase: ∀i,i<len->((h i).k=1/\0<=(h i).n/\(h i).n<=(len:Int)-1)\/((h i).k=2/\0<=(h i).n/\(h i).n<=4/\(i:Int)+(h i).n<=(len:Int)-1):=fun i hi=>by
  have h1:=hz i hi;unfold fx at h1
  by_cases hk:(h i).k=1
  .rw[if_pos hk]at h1
   by_cases hb:nz (h i).n 0 ((len:Int)-1)=true
   .have:=th.1 hb;exact .inl ⟨hk,this.1,this.2⟩
   .rw[if_neg hb]at h1;omega
  .rw[if_neg hk]at h1
   by_cases hk2:(h i).k=2
   .rw[if_pos hk2]at h1
    split at h1
    .rename_i hc
     have:=th.1 hc.2.1
     split at h1
     .omega
     .exact .inr ⟨hk2,this.1,this.2,by omega⟩
    .omega
   .rw[if_neg hk2]at h1;omega
 refine ⟨fun i hi=>?_,fun i hi hk=>?_,fun i hi y hy=>?_,hl⟩
 .rcases hcase i hi with h|h <;> omega
 .rcases hcase i hi with h|h <;> omega
 .unfold leads at hy
  rcases hcase i hi with ⟨hk,h1,h2⟩| ⟨hk,h1,h2,h3⟩
  .rw[if_pos hk]at hy
   split at hy
   .cases hy
   .rw[List.mem_singleton]at hy;omega
  .rw[if_neg (by omega)]at hy
   obtain ⟨j,hj,rfl⟩:=List.mem_map.1 hy;have:=List.mem_range.1 hj;omega
def fb (len:Nat) (n:Int):Bool:=decide (n<0) ||decide (n>=(len:Int))
theorem Lt (a:Option Addr) (len cap:Nat) (n:Int) (w:World):
 Calls prog 154 #[.slice a len cap,iV n] w fun e w'=>e=.returned (.bool (fb len n))/\w'=w:=by
 by_cases h0:n<0
 .have h0b:=decide_eq_true h0
  have HR:Hid (fb len n=true):=by rw[Hid];unfold fb;rw[h0b];rfl
  clear h0
  go_enter Tryz.func154,Tryz.ntmps154
  go_wp2_with fail;go_ret;exact ⟨by rw[HR.o];rfl,rfl⟩
 .have h0b:=decide_eq_false h0
  have HR:Hid (fb len n=decide (n>=(len:Int))):=by rw[Hid];unfold fb;rw[h0b];rfl
  clear h0
  go_enter Tryz.func154,Tryz.ntmps154
  go_wp2_with fail;go_ret;exact ⟨by rw[HR.o];rfl,rfl⟩
def ze (len:Nat) (n:Int) (nm:ByteArray):Int:=if fb len n=true then 5 else if nm.toList= []then 0 else 1
theorem Oj (a:Option Addr) (len cap:Nat) (k n:Int) (nm:ByteArray) (w:World):
 Calls prog 131 #[.slice a len cap,.agg #[iV k,iV n,.string nm]] w fun e w'=>e=.returned (iV (ze len n nm))/\Below w.heap.size w w':=by
 have HNo:Hid (∀W,Calls prog 154 #[.slice a len cap,iV n] W fun e w'=>e=.returned (.bool (fb len n))/\w'=W):=fun W=>Lt a len cap n W
 go_enter Tryz.func131,Tryz.ntmps131
 go_wp2_with fail;refine (HNo.o _).mono ?_;rintro e w1 ⟨rfl,h1⟩;rw[h1];clear h1 w1
 cases hb:fb len n with
 |true=>
  have HR:Hid (ze len n nm=5):=by rw[Hid];unfold ze;rw[if_pos hb]
  clear hb;go_wp2_with fail;go_ret;exact ⟨by rw[HR.o];rfl,bA⟩
 |false=>
  by_cases h0:nm.toList= []
  .have HR:Hid (ze len n nm=0):=by rw[Hid];unfold ze;rw[if_neg (by rw[hb];simp),if_pos h0]
   clear hb;go_wp2_with fail;go_ret;exact ⟨by rw[HR.o];rfl,bA⟩
  .have hie:(!nm.toList.isEmpty)=true:=by cases hx:nm.toList with
    |nil=>exact absurd hx h0
    |cons=>rfl
   have HR:Hid (ze len n nm=1):=by rw[Hid];unfold ze;rw[if_neg (by rw[hb];simp),if_neg h0]
   clear hb;go_wp2_with fail;go_ret;exact ⟨by rw[HR.o];rfl,bA⟩
def Ro (nm:ByteArray):Tm:=.mk 0 nm none 0 0 (fun _=> .nil)
theorem Qy {w:World} {nm:ByteArray} (h:nm.size<=maxLen):ay w (Ro nm):=⟨h,oZ,fun i hi=>absurd hi (nL i)⟩
theorem Ib (nm:ByteArray):ei (Ro nm)=if fw nm=true then 0 else 1:=by
 have hc:cnt (Ro nm)=1:=rfl;have he:iz (Ro nm)=if e9 0 nm 0=0 then 0 else e9 0 nm 0:=rfl
 have hp:e9 0 nm 0=if fw nm=true then 0 else 1:=by
  unfold e9;rw[if_neg (by simp)]
  cases fw nm <;> simp
 unfold ei;rw[hc,if_pos (by decide),he,hp]
 cases fw nm <;> simp
def ft (n:Int) (nm:ByteArray):Bool:=decide (0<=n)&&(decide (n<=if (nm.toList== [33])=true then 0 else 4)&&fw nm)
theorem Id (k n:Int) (nm:ByteArray) (w:World) (hs:nm.size<=maxLen):
 Calls prog 155 #[.agg #[iV k,iV n,.string nm]] w fun e w'=>e=.returned (.bool (ft n nm))/\Below w.heap.size w w':=by
 have HCk:Hid (∀W,Calls prog 98 #[.agg #[iV 0,.string nm,nZ]] W fun e w'=>e=.returned (iV (if fw nm=true then 0 else 1))/\Below W.heap.size W w'):=fun W=>by
  have:=rk (Ro nm) W (Qy hs);rw[Ib]at this;exact this
 have HBa:Hid (Below w.heap.size w (w.alloc (.cells #[iV k,iV n,.string nm] 81))):=bA;clear hs
 cases hc:(nm.toList== [33])with
 |true=>
  have hmm:(if (nm.toList== [33])=true then (0:Int)else 4)=0:=by rw[hc];simp
  by_cases h0:0<=n
  case neg=>
   have h0b:=decide_eq_false (by omega)
   have HR:Hid (ft n nm=false):=by rw[Hid];unfold ft;rw[decide_eq_false h0];rfl
   clear h0 hmm
   go_enter Tryz.func155,Tryz.ntmps155
   go_wp2_with fail;go_ret;exact ⟨by rw[HR.o];rfl,HBa.o⟩
  have h0b:=decide_eq_true (by omega)
  by_cases h1:n<=0
  case neg=>
   have h1b:=decide_eq_false h1;have HR:Hid (ft n nm=false):=by rw[Hid];unfold ft;rw[hmm,h1b];simp
   clear h0 h1 hmm
   go_enter Tryz.func155,Tryz.ntmps155
   go_wp2_with fail;go_ret;exact ⟨by rw[HR.o];rfl,HBa.o⟩
  have h1b:=decide_eq_true h1;have HR:Hid (ft n nm=fw nm):=by rw[Hid];unfold ft;rw[hmm,h1b,decide_eq_true h0];simp
  clear h0 h1 hmm
  go_enter Tryz.func155,Tryz.ntmps155
  go_wp2_with fail;refine (HCk.o _).mono ?_;rintro e w2 ⟨rfl,hb2⟩;have HB2:=hid (HBa.o.trans (hb2.mono HBa.o.size));clear hb2 HCk
  cases hn:fw nm with
  |true=>
   have HN:=hid hn;clear hn;go_wp2_with fail;go_ret;exact ⟨by rw[HR.o,HN.o];rfl,HB2.o⟩
  |false=>
   have HN:=hid hn;clear hn;go_wp2_with fail;go_ret;exact ⟨by rw[HR.o,HN.o];rfl,HB2.o⟩
 |false=>
  have hmm:(if (nm.toList== [33])=true then (0:Int)else 4)=4:=by rw[hc];simp
  by_cases h0:0<=n
  case neg=>
   have h0b:=decide_eq_false (by omega)
   have HR:Hid (ft n nm=false):=by rw[Hid];unfold ft;rw[decide_eq_false h0];rfl
   clear h0 hmm
   go_enter Tryz.func155,Tryz.ntmps155
   go_wp2_with fail;go_ret;exact ⟨by rw[HR.o];rfl,HBa.o⟩
  have h0b:=decide_eq_true (by omega)
  by_cases h1:n<=4
  case neg=>
   have h1b:=decide_eq_false h1;have HR:Hid (ft n nm=false):=by rw[Hid];unfold ft;rw[hmm,h1b];simp
   clear h0 h1 hmm
   go_enter Tryz.func155,Tryz.ntmps155
   go_wp2_with fail;go_ret;exact ⟨by rw[HR.o];rfl,HBa.o⟩
  have h1b:=decide_eq_true h1;have HR:Hid (ft n nm=fw nm):=by rw[Hid];unfold ft;rw[hmm,h1b,decide_eq_true h0];simp
  clear h0 h1 hmm
  go_enter Tryz.func155,Tryz.ntmps155
  go_wp2_with fail;refine (HCk.o _).mono ?_;rintro e w2 ⟨rfl,hb2⟩;have HB2:=hid (HBa.o.trans (hb2.mono HBa.o.size));clear hb2 HCk
  cases hn:fw nm with
  |true=>
   have HN:=hid hn;clear hn;go_wp2_with fail;go_ret;exact ⟨by rw[HR.o,HN.o];rfl,HB2.o⟩
  |false=>
   have HN:=hid hn;clear hn;go_wp2_with fail;go_ret;exact ⟨by rw[HR.o,HN.o];rfl,HB2.o⟩
theorem pp (T:Tm):(a9 T).v=T.v:=by rw[ip];rfl
theorem ty (T:Tm):(a9 T).nm=T.nm:=by rw[ip];rfl
theorem lw (T:Tm):(a9 T).len=T.len:=by rw[ip];rfl
theorem xh (T:Tm) {i:Nat} (h:i<T.len):(a9 T).f i=a9 (T.f i):=by
 rw[ip];show (if i<T.len then a9 (T.f i)else .nil)=_;rw[if_pos h]
def cs (σ:Sg):Sg:=fun v=>(σ v).map a9
theorem R6 (σ:Sg): ∀(k:Nat) (T:Tm),wh (cs σ) k (a9 T)=a9 (wh σ k T):=by
 intro k
 induction k with
 |zero=>intro T;rfl
 |succ k ih=>
  intro T;rw[wh,wh,pp]
  by_cases hv:T.v=0
  .rw[if_pos hv,if_pos hv]
  .rw[if_neg hv,if_neg hv]
   unfold cs
   cases hs:σ T.v with
   |none=>rfl
   |some U=>exact ih U
theorem qk (σ:Sg) (T:Tm):wha (cs σ) (a9 T)=a9 (wha σ T):=by
 unfold wha;rw[pp];exact R6 σ _ T
theorem yj (T:Tm):az (a9 T)=(az T).map a9:=by
 unfold az;rw[lw,List.map_map]
 apply List.map_congr_left
 intro i hi;exact xh T (List.mem_range.1 hi)
theorem Gy (σ:Sg) (x:Int): ∀(L:Nat) (ts:List Tm),ba (cs σ) x L (ts.map a9)=ba σ x L ts:=by
 intro L
 induction L with
 |zero=>intro ts;cases ts <;> rfl
 |succ L ih=>
  intro ts
  cases ts with
  |nil=>rfl
  |cons t ts=>
   rw[List.map_cons,my,my,qk,pp,yj,<-List.map_append,ih]
theorem Kf (σ:Sg) (X T:Tm):put (cs σ) (a9 X) (a9 T)=cs (put σ X T):=by
 unfold put;rw[pp,pp]
 have e: ∀(i:Int) (U:Tm),upd (cs σ) i (a9 U)=cs (upd σ i U):=fun i U=>by
  funext j
  show (if j=i then some (a9 U)else (σ j).map a9)=(if j=i then some U else σ j).map a9
  split <;> rfl
 split
 .exact e _ _
 .exact e _ _
def Dn (p:Tm × Tm):Tm × Tm:=(a9 p.1,a9 p.2)
theorem Kq {S T:Tm} (h:S.len=T.len):jp (a9 S) (a9 T)=(jp S T).map Dn:=by
 unfold jp;rw[lw,List.map_map]
 apply List.map_congr_left
 intro i hi;have hi:=List.mem_range.1 hi
 show ((a9 S).f i,(a9 T).f i)=(a9 (S.f i),a9 (T.f i))
 rw[xh S hi,xh T (h▸hi)]
def Sz:MO->MO
 | .over=> .over
 | .no k=> .no k
 | .yes k σ=> .yes k (cs σ)
theorem Bv: ∀(F:Nat) (σ:Sg) (L:Nat) (ps:List (Tm × Tm)),ao F (cs σ) L (ps.map Dn)=Sz (ao F σ L ps):=by
 intro F
 induction F with
 |zero=>intro σ L ps;rfl
 |succ F ih=>
  intro σ L ps
  cases ps with
  |nil=>cases L <;> rfl
  |cons p ps=>
   obtain ⟨x,y⟩:=p
   cases L with
   |zero=>rfl
   |succ L=>
    show ao (F+1) (cs σ) (L+1) ((a9 x,a9 y)::ps.map Dn)=_
    have w1: ∀(a:Int) (t:Tm),ba (cs σ) a L [a9 t]=ba σ a L [t]:=fun a t=>Gy σ a L [t]
    rw[ao,ao,qk,qk,pp,pp,ty,ty,lw,lw,w1,w1]
    by_cases h1:(wha σ x).v≠0
    .rw[if_pos h1,if_pos h1]
     by_cases h2:(wha σ x).v=(wha σ y).v
     .rw[if_pos h2,if_pos h2];exact ih σ L ps
     .rw[if_neg h2,if_neg h2]
      cases ba σ (wha σ x).v L [wha σ y]with
      |over=>rfl
      |found k=>rfl
      |free k=>show ao F (put (cs σ) (a9 (wha σ x)) (a9 (wha σ y))) k (ps.map Dn)=Sz (ao F (put σ (wha σ x) (wha σ y)) k ps);rw[Kf];exact ih _ _ _
    .rw[if_neg h1,if_neg h1]
     by_cases h2:(wha σ y).v≠0
     .rw[if_pos h2,if_pos h2]
      cases ba σ (wha σ y).v L [wha σ x]with
      |over=>rfl
      |found k=>rfl
      |free k=>show ao F (put (cs σ) (a9 (wha σ y)) (a9 (wha σ x))) k (ps.map Dn)=Sz (ao F (put σ (wha σ y) (wha σ x)) k ps);rw[Kf];exact ih _ _ _
     .rw[if_neg h2,if_neg h2]
      by_cases h3:(wha σ x).nm.toList=(wha σ y).nm.toList/\(wha σ x).len=(wha σ y).len
      .rw[if_pos h3,if_pos h3,Kq h3.2,<-List.map_append];exact ih _ _ _
      .rw[if_neg h3,if_neg h3];rfl
theorem Bf (σ:Sg): ∀(n:Nat) (ts:List Tm),dx (cs σ) n (ts.map a9)=dx σ n ts:=by
 intro n
 induction n with
 |zero=>intro ts;cases ts <;> rfl
 |succ n ih=>
  intro ts
  cases ts with
  |nil=>rfl
  |cons t ts=>
   show dx (cs σ) n (az (wha (cs σ) (a9 t))++ts.map a9)=dx σ n (az (wha σ t)++ts)
   rw[qk,yj,<-List.map_append,ih]
theorem Su (σ:Sg): ∀(d:Nat) (T:Tm),a9 (ex (cs σ) d (a9 T))=a9 (ex σ d T):=by
 intro d
 induction d with
 |zero=>intro T;rfl
 |succ d ih=>
  intro T;rw[ex,ex,qk,pp,ty,lw]
  by_cases h:(wha σ T).v=0
  .rw[if_pos h,if_pos h]
   refine j8 rfl rfl rfl (fun i hi=>?_)
   have hi:i<(wha σ T).len:=hi
   show a9 (ex (cs σ) d ((a9 (wha σ T)).f i))=a9 (ex σ d ((wha σ T).f i))
   rw[xh _ hi];exact ih _
  .rw[if_neg h,if_neg h]
def cz:Tm->List Int
 | .nil=> []
 | .mk v _ _ len _ f=>if v=0 then ((List.range len).map fun i=>cz (f i)).flatten else [v]
theorem sm (T:Tm):cz (a9 T)=cz T:=by
 induction T with
 |nil=>rfl
 |mk v nm a len cap f ih=>
  show (if v=0 then ((List.range len).map fun i=>cz (if i<len then a9 (f i)else .nil)).flatten else [v])=(if v=0 then ((List.range len).map fun i=>cz (f i)).flatten else [v])
  have e:((List.range len).map fun i=>cz (if i<len then a9 (f i)else .nil))=(List.range len).map fun i=>cz (f i):=by
   apply List.map_congr_left
   intro i hi;rw[if_pos (List.mem_range.1 hi)];exact ih i
  rw[e]
def bg (s:List Int) (l:List Int):List Int:=l.foldl (fun s v=>if v∈s then s else s++ [v]) s
theorem uy (s:List Int):bg s []=s:=rfl
theorem fm (s l m:List Int):bg s (l++m)=bg (bg s l) m:=by unfold bg;rw[List.foldl_append]
theorem kn (s:List Int) (v:Int):bg s [v]=if v∈s then s else s++ [v]:=rfl
def jz (s:List Int) (v:Int):Int:=(s.idxOf v:Int)+1
theorem mx (l:List Int): ∀s:List Int,s <+:bg s l:=by
 induction l with
 |nil=>intro s;exact List.prefix_refl s
 |cons v l ih=>
  intro s
  show s <+:bg (if v∈s then s else s++ [v]) l
  refine List.IsPrefix.trans ?_ (ih _)
  split
  .exact List.prefix_refl s
  .exact List.prefix_append s [v]
theorem Cs (l:List Int): ∀(s:List Int) (v:Int),v∈l->v∈bg s l:=by
 induction l with
 |nil=>intro s v h;simp at h
 |cons x l ih=>
  intro s v h
  rcases List.mem_cons.1 h with rfl|h
  .show v∈bg (if v∈s then s else s++ [v]) l
   refine (mx l _).subset ?_
   split
   .assumption
   .exact List.mem_append.2 (.inr (by simp))
  .exact ih _ v h
theorem sw {s s':List Int} (h:s <+:s') {v:Int} (hv:v∈s):jz s' v=jz s v:=by
 obtain ⟨t,rfl⟩:=h;unfold jz;rw[List.idxOf_append,if_pos hv]
abbrev Gl:=Tm × Nat
structure Fg where
 gl:List Gl
 k:Nat
 σ:Sg
structure PS where
 gl:List Gl
 ch:List Fg
 σ:Sg
 last:Int
 ans:List (List Tm)
 fin:Nat
 st:Nat
abbrev qh:=List (Tm × List Tm)
def gn (t:Tm) (nm:ByteArray) (n:Nat):Bool:=(t.nm.toList==nm.toList)&&decide (t.len=n)
def cj (P:qh) (t:Tm) (i:Nat):Option Nat:=(List.range P.length).find? fun j=>decide (i<=j)&&gn (P.getD j (.nil,[])).1 t.nm t.len
def fh (last:Int):Int->Tm:=fun v=>vT (last+v)
def fd (P:qh) (gs:List Gl) (t:Tm):Nat->Nat->PS->Nat->PS × Bool
 |0,_,X,_=>(X,false)
 |f+1,i,X,L=>match cj P t i with
  |none=>(X,false)
  |some j=>match ao (L+1) X.σ L [(ap (fh X.last) (P.getD j (.nil,[])).1,t)]with
   | .over=>({ X with last:=X.last+12,fin:=3},false)
   | .no L'=>fd P gs t f (j+1) { X with last:=X.last+12} L'
   | .yes _ σ'=>({ X with last:=X.last+12,σ:=σ',gl:=((P.getD j (.nil,[])).2.map fun b=>(ap (fh X.last) b,X.ch.length))++gs.tail,ch:=match cj P t (j+1)with
      |none=>X.ch
      |some k=>X.ch++ [⟨gs,k,X.σ⟩]},true)
def Av (σ:Sg) (gs:List Gl):Tm:=wha σ (gs.headD (.nil,0)).1
def gx (P:qh):Nat->PS->PS
 |0,X=>X
 |f+1,X=>if X.fin≠0 then X else match X.ch.getLast? with
  |none=> { X with fin:=1}
  |some c=>match fd P c.gl (Av c.σ c.gl) (P.length+1) c.k { X with ch:=X.ch.dropLast,σ:=c.σ} 4000 with
   | (Y,true)=>Y
   | (Y,false)=>gx P f Y
def bk (P:qh) (X:PS):PS:=gx P (X.ch.length+1) X
def oc:ByteArray:=⟨#[33]⟩
def ku:ByteArray:=⟨#[116,114,117,101]⟩
def lj:ByteArray:=⟨#[102,97,105,108]⟩
def Df:ByteArray:=⟨#[101,113]⟩
def eh (P:qh) (X:PS):PS:=
 let t:=Av X.σ X.gl
 let Y:PS:= { X with gl:=X.gl.tail}
 if t.v≠0 then { Y with fin:=4}
 else if gn t oc 0 then { Y with ch:=X.ch.take (X.gl.headD (.nil,0)).2}
 else if gn t ku 0 then Y
 else if gn t lj 0 then bk P Y
 else if gn t Df 2 then match ao 4001 X.σ 4000 [(t.f 0,t.f 1)]with
  | .over=> { Y with fin:=3}
  | .no _=>bk P Y
  | .yes _ σ'=> { Y with σ:=σ'}
 else match fd P X.gl t (P.length+1) 0 Y 4000 with
  | (Z,true)=>Z
  | (Z,false)=>bk P Z
def io (σ:Sg) (n:Nat):List Tm:=
 let l:=(List.range n).map fun i:Nat=>ex σ 200 (vT ((i:Int)+1))
 l.map fun T=>a9 (ap (iq (jz (bg [] (l.map cz).flatten))) T)
def da (n:Nat):List Tm:=(List.range n).map fun i:Nat=>vT ((i:Int)+1)
def ej (P:qh) (n:Nat) (X:PS):PS:=match dx X.σ 200 (da n)with
 |none=> { X with fin:=3}
 |some _=>if X.ans.length+1=40 then { X with ans:=X.ans++ [io X.σ n],fin:=1} else bk P { X with ans:=X.ans++ [io X.σ n]}
def ic (P:qh) (n limit:Nat):Nat->PS->PS
 |0,X=>X
 |f+1,X=>if X.fin≠0 then X else match X.gl with
  | []=>ic P n limit f (ej P n X)
  |_::_=>if X.st=limit then { X with fin:=2} else ic P n limit f (eh P { X with st:=X.st+1})
end Go.Proofs.YtmggaclaoefdaabGreat
