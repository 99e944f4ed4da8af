/- Part of the proof. Part of the proof. Part of the proof. Part of the proof. Part of the proof. Part of the proof. Part of the proof. Part of the proof. -/
import Derived.Test.YtmggaclaoefdaabGreatSq0
import Derived.Test.YtmggaclaoefdaabGreatGAF
import Derived.Deep.RegionLaw
import Derived.RegionTactic
import Derived.ChangeAlike
import Derived.BigRegion
namespace Go.Proofs.YtmggaclaoefdaabGreat
open Go.RowKit
abbrev Sg:=Int→Option Tm
def heldR (v:Value):Option (DataW Value × List MemPlace):=some (.held v,[])
theorem keyed3:Maps.Keyed Tryz.prog 3:=Maps.int_keyed Tryz.underlying3
theorem key3 {i:Int} (h0:0≤i) (h1:i≤1000000):keyOf Tryz.prog 3 (.int .i64 i)=some (.int .i64 i):=
 Maps.keyOf_int_mk Tryz.underlying3 (by
  have a:IntKind.i64.min≤i:=Int.le_trans (by decide) h0
  have b:i≤IntKind.i64.max:=Int.le_trans h1 (by decide)
  rw[Lit.wf,Bool.and_eq_true,decide_eq_true_eq,decide_eq_true_eq];exact ⟨a,b⟩)
def upd (σ:Sg) (i:Int) (T:Tm):Sg:=fun j=>if j=i then some T else σ j
def Okv (N:Int):Tm→Prop
 | .nil=>False
 | .mk v nm _ len _ f=>0≤v∧v≤N∧(v≠0→nm=⟨#[]⟩∧len=0)∧len≤4∧∀i,i<len→Okv N (f i)
def wh (σ:Sg):Nat→Tm→Tm
 |0,T=>T
 |k+1,T=>if T.v=0 then T else match σ T.v with
  |none=>T
  |some U=>wh σ k U
def wha (σ:Sg) (T:Tm):Tm:=wh σ (T.v.toNat+1) T
def Dec (σ:Sg):Prop:=∀v U,σ v=some U→U.v=0∨(0<U.v∧U.v<v)
theorem wh_enough {σ:Sg} (hd:Dec σ): ∀(k:Nat) (T:Tm),0≤T.v→T.v.toNat<k→wh σ k T=wha σ T:=by
 intro k
 induction k with
 |zero=>intro T _ h;omega
 |succ k ih=>
  intro T h0 hk;unfold wha;rw[wh,wh]
  by_cases hv:T.v=0
  ·rw[if_pos hv,if_pos hv]
  ·rw[if_neg hv,if_neg hv]
   cases hs:σ T.v with
   |none=>rfl
   |some U=>
    simp only
    rcases hd _ _ hs with h1| ⟨h1,h2⟩
    ·rw[ih U (by omega) (by omega)]
     by_cases hT:T.v.toNat=0
     ·omega
     ·obtain ⟨j,hj⟩: ∃j,T.v.toNat=j+1:=⟨T.v.toNat-1,by omega⟩
      rw[hj];unfold wha;rw[wh,wh,if_pos h1,if_pos h1]
    ·rw[ih U (by omega) (by omega),ih' hd U T.v.toNat (by omega) (by omega)]
where
 ih' {σ:Sg} (hd:Dec σ) (U:Tm) (k:Nat) (h0:0≤U.v) (hk:U.v.toNat<k):wh σ k U=wha σ U:=by
  have: ∀(j k:Nat) (U:Tm),0≤U.v→U.v.toNat<j→U.v.toNat<k→wh σ j U=wh σ k U:=by
   intro j
   induction j with
   |zero=>intro k U _ h;omega
   |succ j ih=>
    intro k U h0 hj hk;obtain ⟨k,rfl⟩: ∃k',k=k'+1:=⟨k-1,by omega⟩
    rw[wh,wh]
    by_cases hv:U.v=0
    ·rw[if_pos hv,if_pos hv]
    ·rw[if_neg hv,if_neg hv]
     cases hs:σ U.v with
     |none=>rfl
     |some V=>
      simp only
      rcases hd _ _ hs with h1| ⟨h1,h2⟩
      ·exact ih k V (by omega) (by omega) (by omega)
      ·exact ih k V (by omega) (by omega) (by omega)
  exact this k (U.v.toNat+1) U h0 hk (by omega)
theorem wha_fn {σ:Sg} {T:Tm} (h:T.v=0):wha σ T=T:=by unfold wha;rw[wh,if_pos h]
theorem wha_none {σ:Sg} {T:Tm} (h:σ T.v=none):wha σ T=T:=by
 unfold wha;rw[wh]
 by_cases hv:T.v=0
 ·rw[if_pos hv]
 ·rw[if_neg hv,h]
theorem wha_some {σ:Sg} (hd:Dec σ) {T U:Tm} (h0:0≤T.v) (hv:T.v≠0) (h:σ T.v=some U):wha σ T=wha σ U:=by
 have e:wha σ T=wh σ T.v.toNat U:=by unfold wha;rw[wh,if_neg hv,h]
 rw[e]
 rcases hd _ _ h with h1| ⟨h1,h2⟩
 ·exact wh_enough hd _ _ (by omega) (by omega)
 ·exact wh_enough hd _ _ (by omega) (by omega)
theorem wh_root {σ:Sg} (hd:Dec σ): ∀(k:Nat) (T:Tm),0≤T.v→T.v.toNat<k→(wh σ k T).v≠0→σ (wh σ k T).v=none:=by
 intro k
 induction k with
 |zero=>intro T _ h;omega
 |succ k ih=>
  intro T h0 hk hv;rw[wh]at hv ⊢
  by_cases hT:T.v=0
  ·rw[if_pos hT]at hv;exact absurd hT hv
  ·rw[if_neg hT]at hv ⊢
   cases hs:σ T.v with
   |none=>simp only;exact hs
   |some U=>
    rw[hs]at hv;simp only at hv ⊢
    rcases hd _ _ hs with h| ⟨h1,h2⟩
    ·exact ih U (by omega) (by omega) hv
    ·exact ih U (by omega) (by omega) hv
end Go.Proofs.YtmggaclaoefdaabGreat

namespace Go.Proofs.YtmggaclaoefdaabGreat
open Go.RowKit
theorem setL {w:World} {b:Nat} {x y z c:Value} {t:TypeId} (h:w.heap[b]?=some (.cells #[x,y,z] t)):(w.setCell ⟨b,2,none⟩ c).heap[b]?=some (.cells #[x,y,c] t):=by
 simp only[World.setCell,Array.getElem?_modify];simp[h]
end Go.Proofs.YtmggaclaoefdaabGreat

namespace Go.Proofs.YtmggaclaoefdaabGreat
open Go.RowKit
theorem NB.kid {k:Nat} {T:Tm} (h:NB k T) {i:Nat} (hi:i<T.len):NB k (T.f i):=by
 cases T with
 |nil=>exact absurd hi (Nat.not_lt_zero i)
 |mk=>exact h.2 i hi
theorem NB.root {k:Nat} {T:Tm} (h:NB k T) (h0:0<T.len): ∃b o,T.a=some ⟨b,o,none⟩∧b≠k:=by
 cases T with
 |nil=>exact absurd h0 (Nat.not_lt_zero 0)
 |mk=>exact h.1 h0
def kidsL (T:Tm):List Tm:=(List.range T.len).map T.f
theorem kidsL_nil {T:Tm} (h:T.len=0):kidsL T= []:=by rw[kidsL,h];rfl
inductive WO where
 |over
 |found (L:Nat)
 |free (L:Nat)
def within (σ:Sg) (x:Int):Nat→List Tm→WO
 |L,[]=> .free L
 |0,_::_=> .over
 |L+1,t::ts=>if (wha σ t).v=x then .found L else within σ x L (kidsL (wha σ t)++ts)
theorem within_succ (σ:Sg) (x:Int) (L:Nat) (t:Tm) (ts:List Tm):within σ x (L+1) (t::ts)=if (wha σ t).v=x then .found L else within σ x L (kidsL (wha σ t)++ts):=rfl
end Go.Proofs.YtmggaclaoefdaabGreat

namespace Go.Proofs.YtmggaclaoefdaabGreat
open Go.RowKit
def roomF (σ:Sg):Nat→List Tm→Option Nat
 |n,[]=>some n
 |0,_::_=>none
 |n+1,t::ts=>roomF σ n (kidsL (wha σ t)++ts)
theorem roomF_nil (σ:Sg) (n:Nat):roomF σ n []=some n:=by cases n <;> rfl
end Go.Proofs.YtmggaclaoefdaabGreat

namespace Go.Proofs.YtmggaclaoefdaabGreat
open Go.RowKit
def Fin (σ:Sg):Nat→Tm→Prop
 |0,_=>False
 |d+1,T=>∀i,i<(wha σ T).len→Fin σ d ((wha σ T).f i)
def ex (σ:Sg):Nat→Tm→Tm
 |0,_=> .nil
 |d+1,T=>if (wha σ T).v=0 then .mk 0 (wha σ T).nm none (wha σ T).len 0 (fun i=>ex σ d ((wha σ T).f i))else .mk (wha σ T).v ⟨#[]⟩ none 0 0 (fun _=> .nil)
theorem Fin.mono {σ:Sg}: ∀{d:Nat} {T:Tm},Fin σ d T→Fin σ (d+1) T:=by
 intro d
 induction d with
 |zero=>intro T h;exact False.elim h
 |succ d ih=>intro T h i hi;exact ih (h i hi)
theorem room_fin {σ:Sg}: ∀(n:Nat) (ts:List Tm) (k:Nat),roomF σ n ts=some k→∀t∈ts,Fin σ n t:=by
 intro n
 induction n with
 |zero=>
  intro ts k h t ht
  cases ts with
  |nil=>simp at ht
  |cons x r=>simp[roomF]at h
 |succ n ih=>
  intro ts k h t ht
  cases ts with
  |nil=>simp at ht
  |cons x r=>
   have h:roomF σ n (kidsL (wha σ x)++r)=some k:=h;have h2:=ih _ _ h
   rcases List.mem_cons.1 ht with rfl|ht
   ·intro i hi
    exact h2 _ (List.mem_append.2 (.inl (by simp[kidsL];exact ⟨i,hi,rfl⟩)))
   ·exact (h2 t (List.mem_append.2 (.inr ht))).mono
end Go.Proofs.YtmggaclaoefdaabGreat

namespace Go.Proofs.YtmggaclaoefdaabGreat
open Go.RowKit
theorem step_append_own_at {P:Program} {ops:Array Oper} {o:Oper} {a:Act} {w:World} {K:Act→World→Prop} {Q:Exit→Act→World→Prop} {E:Prop}
 (hg:o.guard=none) (s x:Operand) (t:TypeId) (hop:o.op=Op.call { callee:=Callee.builtin Builtin.append,args:= #[s,x],argTypes:= #[t,t]})
 (base:Nat) (e:TypeId) (i:TypeInfo) (z:Value) (size bytes:Nat) (ht:P.underlying t=some (.slice e)) (hi:P.info? e=some i) (hz:i.zero=some z)
 (hsize:i.size=size) (hby:i.bytes=bytes) (hzs:z.cells.size=size) (hsz:0<size)
 (v:Value) (n:Nat) (xs:List Value) (hs:a.eval s=v) (hown:w.ownsRow base e size v n xs)
 (ad:Addr) (m c:Nat) (news:List Value) (hx:a.eval x=.slice (some ad) m c) (hl:news.length=m*size) (hnews: ∀j u,news[j]?=some u→w.cell? (ad.add j)=some u) (h1: ∀u∈news,u.oneCell'=true)
 (h63:n+m≤maxLen) (hbytes:(n+m)*bytes≤140737488355328) (hbase:base≤w.heap.size) (hm:0<m)
 (h: ∀g cap' w',w'.ownsRow base e size (.slice (some ⟨g,0,none⟩) (n+m) cap') (n+m) (xs++news)→w.grownBy w' v.ownBlock→(some g=v.ownBlock∨g=w.heap.size)→K (a.put o.dst (.slice (some ⟨g,0,none⟩) (n+m) cap')) w'):
 if Region.wanted o (yielded ops a.tmps)=true then Oper.wp P o a w K Q else E:=by
 have hw:Region.wanted o (yielded ops a.tmps)=true:=by simp[Region.wanted,hg]
 rw[if_pos hw];obtain ⟨v',w',hr,h2,h3,h4,h5⟩:=run_append_own_at (P:=P) w base t o.type e i z size bytes ht hi hz hsize hby hzs hsz v n xs hown ad m c news hl hnews h1 h63 hbytes hbase
 rcases h2.2 with ⟨h6,_⟩| ⟨g,cap',cur,rfl,_⟩
 ·have:=(h4.1 h6).2;omega
 unfold Oper.wp;simp[execOp,hop,resolve,invoke,builtin,hs,hx,hr,Result.andThen];refine h g cap' w' h2 h3 ?_
 rcases h5 with e|e
 ·exact .inl (by rw[←e];rfl)
 ·exact .inr (Option.some.inj e)
theorem alloc3 (w:World) (o0 o1 o2:Obj):(((w.alloc o0).alloc o1).alloc o2).heap[w.heap.size+1]?=some o1∧(((w.alloc o0).alloc o1).alloc o2).heap[w.heap.size+2]?=some o2∧Below w.heap.size w (((w.alloc o0).alloc o1).alloc o2):=by
 have s1:(w.alloc o0).heap.size=w.heap.size+1:=by simp
 have s2:((w.alloc o0).alloc o1).heap.size=w.heap.size+2:=by simp
 refine ⟨?_,?_,((((Below.refl _ _).alloc (Nat.le_refl _) _).alloc (by omega) _).alloc (by omega) _)⟩
 ·rw[heapOld _ _ (by omega),←s1];exact heap_alloc_new _ _
 ·rw[←s2];exact heap_alloc_new _ _
theorem news1 (w:World) (X:Tm): ∀j u,(flat [X])[j]?=some u→(w.alloc (.cells #[iV X.v,.string X.nm,.slice X.a X.len X.cap] 67)).cell? ((⟨w.heap.size,0,none⟩:Addr).add j)=some u:=by
 intro j u hj;have hb:=heap_alloc_new w (.cells #[iV X.v,.string X.nm,.slice X.a X.len X.cap] 67);rw[addr_add,cell_of_row _ _ _ _ _ _ hb]
 simpa[flat,cells3]using hj
end Go.Proofs.YtmggaclaoefdaabGreat

namespace Go.Proofs.YtmggaclaoefdaabGreat
open Go.RowKit
def vT (n:Int):Tm:=.mk n ⟨#[]⟩ none 0 0 (fun _=> .nil)
theorem vT_in (w:World) (n:Int):TIn w (vT n):=⟨Nat.zero_le _,Nat.zero_le _,fun i hi=>absurd hi (Nat.not_lt_zero i)⟩
end Go.Proofs.YtmggaclaoefdaabGreat

namespace Go.Proofs.YtmggaclaoefdaabGreat
open Go.RowKit
theorem Tryz.info3:(Tryz.prog.info? 3).map (fun i=>(i.zero,i.size,i.bytes))=some (some (iV 0),1,8):=by kernel_rfl
theorem step_run {P:Program} {ops:Array Oper} {o:Oper} {a:Act} {w:World} {K:Act→World→Prop} {Q:Exit→Act→World→Prop} {E:Prop}
 (hg:o.guard=none) (s x:Operand) (t:TypeId) (hop:o.op=Op.call { callee:=Callee.builtin Builtin.append,args:= #[s,x],argTypes:= #[t,t]})
 (v u v':Value) (w':World) (hs:a.eval s=v) (hx:a.eval x=u) (hr:(Builtin.append_ #[t,t] o.type #[v,u]).run P w=.ok v' w') (hK:K (a.put o.dst v') w'):
 if Region.wanted o (yielded ops a.tmps)=true then Oper.wp P o a w K Q else E:=by
 have hw:Region.wanted o (yielded ops a.tmps)=true:=by simp[Region.wanted,hg]
 rw[if_pos hw];unfold Oper.wp;simp[execOp,hop,resolve,invoke,builtin,hs,hx,hr,Result.andThen];exact hK
def put (σ:Sg) (x t:Tm):Sg:=if x.v<t.v then upd σ t.v x else upd σ x.v t
def Good (w:World) (b m:Nat) (tv:Value) (N:Int) (T:Tm):Prop:=TIn w T∧Okv N T∧NB b T∧NB m T∧∀g,tv.ownBlock=some g→NB g T
end Go.Proofs.YtmggaclaoefdaabGreat
