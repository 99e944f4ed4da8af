/- Part of the proof. Part of the proof. Part of the proof. Part of the proof. Part of the proof. Part of the proof. -/
import Derived.Test.YtmggaclaoefdaabGreatSq0
import Derived.Test.YtmggaclaoefdaabGreatGAI
import Derived.Test.YtmggaclaoefdaabGreatRf1
import Derived.Test.YtmggaclaoefdaabGreatGAC
import Derived.Test.YtmggaclaoefdaabGreatGAF
import Derived.Test.YtmggaclaoefdaabGreatGAG
namespace Go.Proofs.YtmggaclaoefdaabGreat
open Go.RowKit
def byOf (Y:Tm):Int→Tm:=fun v=>can (Y.f (v.toNat-1))
def PP (Y T:Tm) (w:World) (e:Ending) (w':World):Prop:=∃X:Tm,e=.returned X.val∧Below w.heap.size w w'∧TIn w' X∧can X=ap (byOf Y) T∧∀k,k<w.heap.size→NB k Y→NB k X
structure LstQ (lo:Nat) (Y:Tm) (w:World) (v:Value) (ts us:List Tm):Prop where
 own:w.ownsRow lo 67 3 v ts.length (flat ts)
 all: ∀T∈ts,TIn w T∧(∀k,k<lo→NB k Y→NB k T)∧∀k,v.ownBlock=some k→NB k T
 len:ts.length=us.length
 sim: ∀i,i<ts.length→can (ts.getD i .nil)=us.getD i .nil
theorem LstQ.keep {lo:Nat} {Y:Tm} {w w':World} {v:Value} {ts us:List Tm} (h:LstQ lo Y w v ts us) (hB:Below w.heap.size w w'):LstQ lo Y w' v ts us:=by
 refine ⟨h.own.kept (grown_of_below hB none) ?_,fun T hT=>⟨(h.all T hT).1.below hB,(h.all T hT).2⟩,h.len,h.sim⟩
 cases v.ownBlock with
 |none=>exact .inl rfl
 |some g=>exact .inr (by simp)
theorem LstQ.more {lo:Nat} {Y:Tm} {w4 w5:World} {v v':Value} {ts us:List Tm} {T U:Tm} (h:LstQ lo Y w4 v ts us) (hT:TIn w4 T) (hA: ∀k,k<lo→NB k Y→NB k T)
 (hN: ∀g,v.ownBlock=some g→NB g T) (hS:can T=U)
 (hown:w5.ownsRow lo 67 3 v' (ts.length+1) (flat ts++flat [T])) (hg:w4.grownBy w5 v.ownBlock) (hat:v'.ownBlock=v.ownBlock∨v'.ownBlock=some w4.heap.size):LstQ lo Y w5 v' (ts++ [T]) (us++ [U]):=by
 have hnb: ∀X:Tm,TIn w4 X→(∀g,v.ownBlock=some g→NB g X)→∀g,v'.ownBlock=some g→NB g X:=fun X h1 h2 g hg=>by
  rcases hat with e|e
  ·exact h2 g (by rw[←e];exact hg)
  ·have:g=w4.heap.size:=by rw[e]at hg;exact (Option.some.inj hg).symm
   exact h1.nb (by omega)
 refine ⟨?_,?_,?_,?_⟩
 ·rw[flat_append,List.length_append];exact hown
 ·intro X hX
  rcases List.mem_append.1 hX with hX|hX
  ·obtain ⟨h1,h2,h3⟩:=h.all X hX
   exact ⟨h1.grown hg h3,h2,hnb _ h1 h3⟩
  ·rw[List.mem_singleton]at hX
   subst hX;exact ⟨hT.grown hg hN,hA,hnb _ hT hN⟩
 ·rw[List.length_append,List.length_append,h.len];rfl
 ·intro i hi
  rw[List.length_append]at hi
  by_cases hl:i<ts.length
  ·have h1:=h.sim i hl
   simpa[List.getD,List.getElem?_append_left hl,List.getElem?_append_left (show i<us.length by rw[←h.len];exact hl)]using h1
  ·have hi':i=ts.length:=by simp at hi;omega
   subst hi';have e:us.length=ts.length:=h.len.symm
   simpa[List.getD,List.getElem?_append_right,e]using hS
theorem LstQ.terms {lo:Nat} {Y:Tm} {w:World} {v:Value} {ts us:List Tm} (h:LstQ lo Y w v ts us):
 ∃T:Tm,v=.slice T.a T.len T.cap∧TIn w T∧(∀k,k<lo→NB k Y→NB k T)∧T.len=us.length∧∀i,i<T.len→can (T.f i)=us.getD i .nil:=by
 have hget: ∀i (hi:i<ts.length),ts.getD i .nil=ts[i]:=fun i hi=>by simp[List.getD,List.getElem?_eq_getElem hi]
 rcases h.own.2 with ⟨rfl,h0⟩| ⟨g,cap,cur,rfl,hlo,hgg,hnc,hcm,hsz,htk⟩
 ·refine ⟨.mk 0 ⟨#[]⟩ none 0 0 (fun _=> .nil),rfl,⟨Nat.zero_le _,Nat.zero_le _,fun i hi=>absurd hi (Nat.not_lt_zero i)⟩,fun k _ _=>⟨fun h=>absurd h (Nat.lt_irrefl 0),fun i hi=>absurd hi (Nat.not_lt_zero i)⟩,?_,fun i hi=>absurd hi (Nat.not_lt_zero i)⟩
  show 0=us.length
  rw[←h.len,h0]
 ·refine ⟨.mk 0 ⟨#[]⟩ (some ⟨g,0,none⟩) ts.length cap (fun i=>ts.getD i .nil),rfl,⟨Nat.zero_le _,(show ts.length≤maxLen from Nat.le_trans hnc hcm),fun i hi=>?_⟩,fun k hk hY=>⟨fun _=>⟨g,0,rfl,by omega⟩,fun i hi=>?_⟩,h.len,fun i hi=>h.sim i hi⟩
  ·obtain ⟨f0,f1,f2⟩:=flat_get ts i hi
   have hm:=h.all _ (List.getElem_mem hi)
   show RowAt w _ i (ts.getD i .nil)∧TIn w (ts.getD i .nil)
   rw[hget i hi];refine ⟨⟨g,0,rfl,?_,?_,?_⟩,hm.1⟩
   ·rw[Nat.zero_add];exact (h.own.cellAt (i*3) (by omega)).trans f0
   ·rw[Nat.zero_add];exact (h.own.cellAt (i*3+1) (by omega)).trans f1
   ·rw[Nat.zero_add];exact (h.own.cellAt (i*3+2) (by omega)).trans f2
  ·show NB k (ts.getD i .nil)
   rw[hget i hi];exact (h.all _ (List.getElem_mem hi)).2.1 k hk hY
theorem NB.retop {k:Nat} {T:Tm} {v:Int} {nm:ByteArray} (h:NB k T):NB k (.mk v nm T.a T.len T.cap T.f):=by
 cases T with
 |nil=>exact ⟨fun h0=>absurd h0 (Nat.lt_irrefl 0),fun i hi=>absurd hi (Nat.not_lt_zero i)⟩
 |mk=>exact h
theorem alloc3a (w:World) (o0 o1 o2:Obj):(((w.alloc o0).alloc o1).alloc o2).heap[w.heap.size]?=some o0:=by
 have s1:(w.alloc o0).heap.size=w.heap.size+1:=by simp
 have s2:((w.alloc o0).alloc o1).heap.size=w.heap.size+2:=by simp
 rw[heapOld _ _ (by omega),heapOld _ _ (by omega)];exact heap_alloc_new _ _
end Go.Proofs.YtmggaclaoefdaabGreat

namespace Go.Proofs.YtmggaclaoefdaabGreat
open Go.RowKit
theorem nb0 (k:Nat):NB k (vT 0):=⟨fun h=>absurd h (Nat.lt_irrefl 0),fun i hi=>absurd hi (Nat.not_lt_zero i)⟩
def nmOf (π:Int→Int):Int→Tm:=fun v=>can (vT (π v))
end Go.Proofs.YtmggaclaoefdaabGreat

namespace Go.Proofs.YtmggaclaoefdaabGreat
def Acy (n:Nat) (deps:Nat→List Nat):Prop:=∃r:Nat→Nat,∀x,x<n→∀y∈deps x,r y<r x
structure Gr (n:Nat) (deps rd:Nat→List Nat):Prop where
 din: ∀x,x<n→∀y∈deps x,y<n
 rin: ∀y,y<n→∀x∈rd y,x<n
 cnt: ∀x y,x<n→y<n→(rd y).count x=(deps x).count y
def lft (deps:Nat→List Nat) (q:List Nat) (k x:Nat):Nat:=((deps x).filter (fun y=>decide (y ∉ q.take k))).length
structure KI (n:Nat) (deps rd:Nat→List Nat) (c:Nat→Int) (q:List Nat) (k:Nat) (ds:List Nat):Prop where
 nd:q.Nodup
 lt: ∀x∈q,x<n
 kle:k≤q.length
 cn: ∀x,x<n→c x=(lft deps q k x:Int)-(ds.count x:Int)
 z: ∀x,x<n→(x∈q↔c x=0)
 ord: ∀j (hj:j<q.length),∀y∈deps q[j],y∈q.take j
theorem take_app {q:List Nat} {x k:Nat} (h:k≤q.length):(q++ [x]).take k=q.take k:=List.take_append_of_le_length h
theorem KI.step {n:Nat} {deps rd:Nat→List Nat} (hG:Gr n deps rd) {c:Nat→Int} {q:List Nat} {k:Nat} {ds xs:List Nat} {x:Nat} (hk:k<q.length) (hr:rd q[k]=ds++x::xs) (h:KI n deps rd c q k ds):
 x<n∧1≤c x∧((c x=1→KI n deps rd (fun i=>if i=x then c i-1 else c i) (q++ [x]) k (ds++ [x]))∧(c x≠1→KI n deps rd (fun i=>if i=x then c i-1 else c i) q k (ds++ [x]))):=by
 have hy:q[k]<n:=h.lt _ (List.getElem_mem hk);have hx:x<n:=hG.rin _ hy x (by rw[hr];simp)
 have hyk:q[k] ∉ q.take k:=fun hm=>by
  have h1:=h.nd;rw[←List.take_append_drop k q,List.nodup_append]at h1;exact h1.2.2 _ hm _ (by rw[List.drop_eq_getElem_cons hk];exact List.mem_cons_self) rfl
 have hfc: ∀l:List Nat,l.count q[k]≤(l.filter (fun y=>decide (y ∉ q.take k))).length:=fun l=>by
  rw[←List.count_filter (l:=l) (p:=fun y=>decide (y ∉ q.take k)) (by simpa using hyk)]
  exact List.count_le_length
 have hdc:ds.count x+1≤lft deps q k x:=by
  have h1:=hG.cnt x q[k] hx hy;rw[hr,List.count_append,List.count_cons]at h1;have h2:=hfc (deps x);unfold lft;simp at h1;omega
 have hc1:1≤c x:=by rw[h.cn x hx];omega
 have hxq:x ∉ q:=fun hm=>by have:=(h.z x hx).1 hm;omega
 have hcn: ∀i,i<n→(fun i=>if i=x then c i-1 else c i) i=(lft deps q k i:Int)-((ds++ [x]).count i:Int):=fun i hi=>by
  show (if i=x then c i-1 else c i)=_
  have hci:=h.cn i hi;rw[List.count_append,List.count_singleton]
  by_cases e:i=x
  ·subst e
   rw[if_pos rfl];simp;omega
  ·rw[if_neg e,if_neg (by simpa using fun h=>e h.symm)]
   omega
 refine ⟨hx,hc1,fun h1=>?_,fun h1=>?_⟩
 ·have htk:(q++ [x]).take k=q.take k:=take_app h.kle
  refine ⟨?_,?_,by simp;omega,fun i hi=>?_,fun i hi=>?_,fun j hj y hyd=>?_⟩
  ·rw[List.nodup_append]
   refine ⟨h.nd,by simp,fun a ha b hb=>?_⟩
   rw[List.mem_singleton]at hb;subst hb;exact fun e=>hxq (e▸ha)
  ·intro i hi
   rcases List.mem_append.1 hi with hi|hi
   ·exact h.lt i hi
   ·rw[List.mem_singleton]at hi;rw[hi];exact hx
  ·refine (hcn i hi).trans ?_
   unfold lft;rw[htk]
  ·show _↔(if i=x then c i-1 else c i)=0
   rw[List.mem_append,List.mem_singleton,h.z i hi]
   by_cases e:i=x
   ·subst e;rw[if_pos rfl];simp;omega
   ·rw[if_neg e];simp[e]
  ·by_cases hjq:j<q.length
   ·rw[List.getElem_append_left hjq]at hyd
    rw[take_app (Nat.le_of_lt hjq)];exact h.ord j hjq y hyd
   ·have hje:j=q.length:=by simp at hj;omega
    subst hje;rw[List.getElem_append_right (Nat.le_refl _)]at hyd;simp at hyd;rw[take_app (Nat.le_refl _),List.take_length]
    by_cases hyt:y∈q.take k
    ·exact List.mem_of_mem_take hyt
    ·have hlf:lft deps q k x=ds.count x+1:=by have:=h.cn x hx;omega
     have h2:=hG.cnt x q[k] hx (h.lt _ (List.getElem_mem hk));rw[hr,List.count_append,List.count_cons]at h2;simp at h2
     have h3:((deps x).filter (fun y=>decide (y ∉ q.take k))).count q[k]=((deps x).filter (fun y=>decide (y ∉ q.take k))).length:=by
      have a1:((deps x).filter (fun y=>decide (y ∉ q.take k))).count q[k]=(deps x).count q[k]:=List.count_filter (by simpa using hyk)
      have a2:= @List.count_le_length _ _ q[k] ((deps x).filter (fun y=>decide (y ∉ q.take k)))
      unfold lft at hlf;omega
     have h4:=(List.count_eq_length.1 h3) y (List.mem_filter.2 ⟨hyd,by simpa using hyt⟩)
     rw[←h4];exact List.getElem_mem hk
 ·refine ⟨h.nd,h.lt,h.kle,hcn,fun i hi=>?_,h.ord⟩
  show _↔(if i=x then c i-1 else c i)=0
  by_cases e:i=x
  ·subst e
   rw[if_pos rfl];exact ⟨fun hm=>absurd hm hxq,fun h0=>by omega⟩
  ·rw[if_neg e];exact h.z i hi
theorem flt_more {A:List Nat} {y:Nat} (hy:y ∉ A): ∀l:List Nat,(l.filter (fun z=>decide (z ∉ A))).length=(l.filter (fun z=>decide (z ∉ A++ [y]))).length+l.count y:=by
 intro l
 induction l with
 |nil=>rfl
 |cons a l ih=>
  rw[List.filter_cons,List.filter_cons,List.count_cons]
  by_cases ha:a∈A
  ·have hne:a≠y:=fun e=>hy (e▸ha)
   rw[if_neg (by simpa using ha),if_neg (by simp[ha]),if_neg (by simpa using hne)]
   omega
  ·by_cases hae:a=y
   ·rw[if_pos (by simpa using ha),if_neg (by simp[hae]),if_pos (by simpa using hae),List.length_cons]
    omega
   ·rw[if_pos (by simpa using ha),if_pos (by simp[ha,hae]),if_neg (by simpa using hae),List.length_cons,List.length_cons]
    omega
theorem KI.next {n:Nat} {deps rd:Nat→List Nat} (hG:Gr n deps rd) {c:Nat→Int} {q:List Nat} {k:Nat} (hk:k<q.length) (h:KI n deps rd c q k (rd q[k])):KI n deps rd c q (k+1) []:=by
 have hy:q[k]<n:=h.lt _ (List.getElem_mem hk)
 have hyk:q[k] ∉ q.take k:=fun hm=>by
  have h1:=h.nd;rw[←List.take_append_drop k q,List.nodup_append]at h1;exact h1.2.2 _ hm _ (by rw[List.drop_eq_getElem_cons hk];exact List.mem_cons_self) rfl
 refine ⟨h.nd,h.lt,hk,fun x hx=>?_,h.z,h.ord⟩
 rw[h.cn x hx,hG.cnt x q[k] hx hy];have h1:=flt_more hyk (deps x);rw[←List.take_succ_eq_append_getElem hk]at h1;unfold lft;simp only[List.count_nil];omega
theorem KI.done {n:Nat} {deps rd:Nat→List Nat} (hG:Gr n deps rd) {c:Nat→Int} {q:List Nat} {k:Nat} (hk:k=q.length) (h:KI n deps rd c q k []):q.length=n↔Acy n deps:=by
 have hall: ∀x,x<n→(∀y∈deps x,y∈q)→x∈q:=fun x hx hd=>by
  rw[h.z x hx,h.cn x hx]
  have:lft deps q k x=0:=by
   unfold lft;rw[hk,List.take_length,List.length_eq_zero_iff,List.filter_eq_nil_iff];intro y hy
   simpa using hd y hy
  rw[this];rfl
 constructor
 ·intro hl
  have hin: ∀x,x<n→x∈q:=fun x hx=>by
   have hp:(List.range n).length≤q.length:=by rw[List.length_range,hl];exact Nat.le_refl _
   by_cases hx':x∈q
   ·exact hx'
   ·have hsub:q ⊆ (List.range n).erase x:=fun y hy=>by
     rw[List.Nodup.mem_erase_iff List.nodup_range];exact ⟨fun e=>hx' (e▸hy),List.mem_range.2 (h.lt y hy)⟩
    have:=List.Nodup.length_le_of_subset h.nd hsub;rw[List.length_erase_of_mem (List.mem_range.2 hx),List.length_range]at this;omega
  refine ⟨fun x=>q.idxOf x,fun x hx y hy=>?_⟩
  have hxq:=hin x hx;have hi:=List.idxOf_lt_length_of_mem hxq;have he:=List.getElem_idxOf hi;have hyt:=h.ord _ hi y (by rw[he];exact hy)
  obtain ⟨j,hj,hjy⟩:=List.mem_take_iff_getElem.1 hyt;have hjl:j<q.length:=by omega
  have:q.idxOf y=j:=by
   rw[←hjy];exact List.Nodup.idxOf_getElem h.nd j hjl
  show q.idxOf y<q.idxOf x
  rw[this];omega
 ·rintro ⟨r,hr⟩
  have hin: ∀m x,r x=m→x<n→x∈q:=by
   intro m
   induction m using Nat.strongRecOn with
   |_ m ih=>
    intro x hm hx;exact hall x hx (fun y hy=>ih (r y) (by have:=hr x hx y hy;omega) y rfl (hG.din x hx y hy))
  have h1:=List.Nodup.length_le_of_subset (List.nodup_range (n:=n)) (fun x hx=>hin _ x rfl (List.mem_range.1 hx):List.range n ⊆ q)
  have h2:=List.Nodup.length_le_of_subset h.nd (fun x hx=>List.mem_range.2 (h.lt x hx):q ⊆ List.range n)
  rw[List.length_range]at h1 h2;omega
def rd0 (lead:Nat→List Nat) (i y:Nat):List Nat:=(List.range i).flatMap fun x=>List.replicate ((lead x).count y) x
theorem rd0_succ (lead:Nat→List Nat) (i y:Nat):rd0 lead (i+1) y=rd0 lead i y++List.replicate ((lead i).count y) i:=by
 unfold rd0;rw[List.range_succ,List.flatMap_append];simp
theorem rd0_lt (lead:Nat→List Nat) (y:Nat): ∀i x,x∈rd0 lead i y→x<i:=by
 intro i x hx;obtain ⟨z,hz,hx⟩:=List.mem_flatMap.1 hx;have:=(List.mem_replicate.1 hx).2;have:=List.mem_range.1 hz;omega
theorem rd0_count (lead:Nat→List Nat) (y x:Nat): ∀i,(rd0 lead i y).count x=if x<i then (lead x).count y else 0:=by
 intro i
 induction i with
 |zero=>rfl
 |succ i ih=>
  rw[rd0_succ,List.count_append,ih,List.count_replicate]
  by_cases h:x<i
  ·simp[h,show x<i+1 from by omega,show¬i=x from by omega]
  ·by_cases h1:x=i
   ·subst h1;simp
   ·simp[h,show¬x<i+1 from by omega,show¬i=x from by omega]
theorem gr_of {n:Nat} {lead:Nat→List Nat} (hd: ∀x,x<n→∀y∈lead x,y<n):Gr n lead (rd0 lead n):=
 ⟨hd,fun y _ x hx=>rd0_lt lead y n x hx,fun x y hx _=>by rw[rd0_count,if_pos hx]⟩
theorem gr_rev {n:Nat} {lead:Nat→List Nat} (hd: ∀x,x<n→∀y∈lead x,y<n):Gr n (rd0 lead n) lead:=
 ⟨fun y _ x hx=>rd0_lt lead y n x hx,hd,fun y x _ hx=>by rw[rd0_count,if_pos hx]⟩
theorem acy_rev {n:Nat} {deps rd:Nat→List Nat} (hG:Gr n deps rd) (h:Acy n deps):Acy n rd:=by
 obtain ⟨r,hr⟩:=h
 have hb: ∃M,∀x,x<n→r x<M:=by
  clear hr hG
  induction n with
  |zero=>exact ⟨0,fun x hx=>by omega⟩
  |succ n ih=>
   obtain ⟨M,hM⟩:=ih;refine ⟨M+r n+1,fun x hx=>?_⟩
   by_cases h:x<n
   ·have:=hM x h;omega
   ·have:x=n:=by omega
    rw[this];omega
 obtain ⟨M,hM⟩:=hb;refine ⟨fun x=>M-r x,fun y hy x hx=>?_⟩
 have hxn:=hG.rin y hy x hx
 have hm:y∈deps x:=by
  have:=hG.cnt x y hxn hy;have h1:=List.count_pos_iff.2 hx;exact List.count_pos_iff.1 (by omega)
 have h1:=hr x hxn y hm;have h2:=hM x hxn;have h3:=hM y hy
 show M-r x<M-r y
 omega
theorem KI.start {n:Nat} {deps rd:Nat→List Nat} {c:Nat→Int} (hc: ∀x,x<n→c x=((deps x).length:Int)):KI n deps rd c ((List.range n).filter fun x=>decide (c x=0)) 0 []:=by
 refine ⟨List.Nodup.sublist List.filter_sublist List.nodup_range,fun x hx=>List.mem_range.1 (List.mem_filter.1 hx).1,Nat.zero_le _,fun x hx=>?_,fun x hx=>?_,fun j hj y hy=>?_⟩
 ·rw[hc x hx]
  have:lft deps ((List.range n).filter fun x=>decide (c x=0)) 0 x=(deps x).length:=by
   unfold lft;rw[List.take_zero];rw[List.filter_eq_self.2 (by intro a _;simp)]
  rw[this];simp
 ·rw[List.mem_filter,List.mem_range]
  simp[hx]
 ·have hm:=List.mem_filter.1 (List.getElem_mem hj)
  have h0:c ((List.range n).filter fun x=>decide (c x=0))[j]=0:=by simpa using hm.2
  rw[hc _ (List.mem_range.1 hm.1)]at h0;have hl:(deps ((List.range n).filter fun x=>decide (c x=0))[j]).length=0:=by omega
  rw[List.length_eq_zero_iff.1 hl]at hy;cases hy
end Go.Proofs.YtmggaclaoefdaabGreat

namespace Go.Proofs.YtmggaclaoefdaabGreat
open Go.RowKit
structure Cl where
 k:Int
 n:Int
 nm:ByteArray
def CRow (w:World) (a:Option Addr) (i:Nat) (c:Cl):Prop:=∃b o,a=some ⟨b,o,none⟩∧w.cell? ⟨b,o+i*3,none⟩=some (iV c.k)∧w.cell? ⟨b,o+i*3+1,none⟩=some (iV c.n)∧w.cell? ⟨b,o+i*3+2,none⟩=some (.string c.nm)
structure HIn (w:World) (a:Option Addr) (len:Nat) (h:Nat→Cl):Prop where
 row: ∀i,i<len→CRow w a i (h i)
 big:len≤maxLen
 nm: ∀i,i<len→(h i).nm.size≤maxLen
theorem CRow.below {w w':World} {a:Option Addr} {i:Nat} {c:Cl} (h:CRow w a i c) (hb:Below w.heap.size w w'):CRow w' a i c:=by
 obtain ⟨b,o,rfl,h0,h1,h2⟩:=h;have hl:=lt_of_cell h0;have hx: ∀j,w'.cell? ⟨b,j,none⟩=w.cell? ⟨b,j,none⟩:=fun j=>hb.cell (p:=⟨b,j,none⟩) hl
 exact ⟨b,o,rfl,(hx _).trans h0,(hx _).trans h1,(hx _).trans h2⟩
theorem HIn.below {w w':World} {a:Option Addr} {len:Nat} {h:Nat→Cl} (hh:HIn w a len h) (hb:Below w.heap.size w w'):HIn w' a len h:=
 ⟨fun i hi=>(hh.row i hi).below hb,hh.big,hh.nm⟩
theorem below_after2 {W Wx w1:World} (h:Below W.heap.size W Wx) (h1:Below Wx.heap.size Wx w1):Below W.heap.size W w1:=h.trans (h1.mono h.size)
inductive EndR (h:Nat→Cl) (len:Nat):Nat→Nat→Prop
 |root {i:Nat}:i<len→¬((h i).k=1∧(h i).n≠i)→EndR h len i i
 |step {i j z:Nat}:i<len→(h i).k=1→(h i).n=(j:Int)→j≠i→EndR h len j z→EndR h len i z
theorem EndR.lt {h:Nat→Cl} {len i z:Nat} (H:EndR h len i z):i<len∧z<len:=by
 induction H with
 |root hi _=>exact ⟨hi,hi⟩
 |step hi _ _ _ _ ih=>exact ⟨hi,ih.2⟩
def leads (h:Nat→Cl) (i:Nat):List Nat:=if (h i).k=1 then (if (h i).n=i then []else [(h i).n.toNat])else (List.range (h i).n.toNat).map fun j=>i+1+j
def IntsR (lo:Nat) (w:World) (v:Value) (l:List Nat):Prop:=w.ownsRow lo 3 1 v l.length (l.map fun x:Nat=>iV (x:Int))
set_option maxRecDepth 100000 in
set_option maxHeartbeats 4000000 in
theorem leadsOf_any {a:Option Addr} {len cap:Nat} {h:Nat→Cl} {i:Nat} (hi:i<len) (w:World) (hh:HIn w a len h) (h0:0≤(h i).n) (h4:(h i).k≠1→(h i).n≤4) (hlb:len≤1000000):
 Calls Tryz.prog 54 #[.slice a len cap,iV i] w fun e w'=>∃v,e=.returned v∧IntsR w.heap.size w' v (leads h i)∧Below w.heap.size w w':=by
 obtain ⟨b,o,rfl,c0,c1,c2⟩:=hh.row i hi;have hiI:(i:Int)<(len:Int):=by omega
 obtain ⟨n,hn⟩: ∃n:Nat,(h i).n=n:=⟨(h i).n.toNat,by omega⟩
 rw[hn]at c1
 by_cases hk:(h i).k=1
 ·have hkb:((h i).k==1)=true:=beq_iff_eq.2 hk
  by_cases hni:n=i
  ·have hnb:((n:Int)==(i:Int))=true:=beq_iff_eq.2 (by omega)
   have HL:Hid (leads h i= []):=by unfold leads;rw[Hid,if_pos hk,if_pos (by omega)]
   clear hh h0 h4 hk hni hn
   go_enter Tryz.func54,Tryz.ntmps54
   go_wp2_with fail;go_ret;exact ⟨_,rfl,by rw[HL.o];exact World.ownsRow_nil _ _ _ _,(Below.refl _ _).alloc (Nat.le_refl _) _⟩
  ·have hnb:((n:Int)==(i:Int))=false:=beq_eq_false_iff_ne.2 (by omega)
   have HL:Hid (leads h i= [n]):=by unfold leads;rw[Hid,if_pos hk,if_neg (by omega),hn];rfl
   clear hh h0 h4 hk hni hn
   go_enter Tryz.func54,Tryz.ntmps54
   go_wp2_with fail;go_ret;refine ⟨_,rfl,?_,((Below.refl _ _).alloc (Nat.le_refl _) _).alloc (by simp) _⟩
   rw[HL.o];have hb:=heap_alloc_new (w.alloc (.cells #[iV (h i).k,iV n,.string (h i).nm] 81)) (.cells #[iV n] 3);rw[show (w.alloc (.cells #[iV (h i).k,iV n,.string (h i).nm] 81)).heap.size=w.heap.size+1 from by simp]at hb
   exact ⟨rfl,.inr ⟨w.heap.size+1,1,_,rfl,by omega,hb,Nat.le_refl _,by unfold maxLen;omega,rfl,rfl⟩⟩
 have hkb:((h i).k==1)=false:=beq_eq_false_iff_ne.2 hk;have HL:Hid (leads h i=(List.range n).map fun j=>i+1+j):=by unfold leads;rw[Hid,if_neg hk,hn];rfl
 have hn4:n≤4:=by have:=h4 hk;omega
 clear hh h0 h4 hk hn
 go_enter Tryz.func54,Tryz.ntmps54
 obtain ⟨j0,hj,hj0,hj1,hj2⟩:=info_parts Tryz.info3;go_wp2_with fail;have HX:Hid ((w.alloc (.cells #[iV (h i).k,iV n,.string (h i).nm] 81)).heap[w.heap.size]?=some (.cells #[iV (h i).k,iV n,.string (h i).nm] 81)):=heap_alloc_new w _;have HB:Hid (Below w.heap.size w (w.alloc (.cells #[iV (h i).k,iV n,.string (h i).nm] 81))):=(Below.refl _ _).alloc (Nat.le_refl _) _;have hsW:(w.alloc (.cells #[iV (h i).k,iV n,.string (h i).nm] 81)).heap.size=w.heap.size+1:=by simp
 generalize w.alloc (.cells #[iV (h i).k,iV n,.string (h i).nm] 81)=W at*
 go_loopw [6,7] (fun v x wr=>∃j:Nat,j≤n∧x=iV ((j:Int)+1)∧wr.ownsRow W.heap.size 3 1 v j (((List.range j).map fun j=>i+1+j).map fun x:Nat=>iV (x:Int))∧Below W.heap.size W wr) (fun _ x _=>n+1-(intOf x).toNat)
 case atStart=>exact ⟨0,Nat.zero_le _,rfl,World.ownsRow_nil _ _ _ _,Below.refl _ _⟩
 case round=>
  obtain ⟨j,hjn,rfl,hO,hBr⟩:=hrel;have HO:Hid (wr.ownsRow W.heap.size 3 1 u6 j (((List.range j).map fun j=>i+1+j).map fun x:Nat=>iV (x:Int))):=hO
  have HBr:Hid (Below W.heap.size W wr):=hBr;have hsr:=hBr.size;have hX:wr.heap[w.heap.size]?=some (.cells #[iV (h i).k,iV n,.string (h i).nm] 81):=(hBr.block _ (by omega)).trans HX.o
  obtain ⟨x0,x1,x2,_,_,_⟩:=block_cells hX;clear hO hBr hX
  by_cases hlt:j<n
  case neg=>
   obtain rfl:j=n:=by omega
   have hle:decide ((j:Int)+1≤(j:Int))=false:=decide_eq_false (by omega)
   go_wp2_with fail;go_ret;refine ⟨_,rfl,?_,below_after2 HB.o HBr.o⟩;rw[HL.o];have:=ownsRow_mono HO.o (show w.heap.size≤W.heap.size by omega)
   unfold IntsR;rw[List.length_map,List.length_range];exact this
  have hle:decide ((j:Int)+1≤(n:Int))=true:=decide_eq_true (by omega)
  have hle2:(j:Int)+1≤(n:Int):=by omega
  have hwrp:IntKind.i64.wrap ((i:Int)+((j:Int)+1))=(i:Int)+((j:Int)+1):=by simp[IntKind.wrap,IntKind.bits,IntKind.signed];omega
  have HO1:Hid ((wr.alloc (.cells #[iV ((i:Int)+((j:Int)+1))] 3)).ownsRow W.heap.size 3 1 u6 j (((List.range j).map fun j=>i+1+j).map fun x:Nat=>iV (x:Int))):=HO.o.kept (grown_of_below ((Below.refl wr.heap.size wr).alloc (Nat.le_refl _) _) none) (by cases u6.ownBlock with|none=>exact .inl rfl|some g=>exact .inr (by simp))
  have HB1:Hid (Below W.heap.size W (wr.alloc (.cells #[iV ((i:Int)+((j:Int)+1))] 3))):=HBr.o.alloc hsr _;have hjs:j≤4:=by omega
  go_wp2_with (at_builtin;refine wpList_append_own_at _ rfl (.tmp 28) (.tmp 32) 28 rfl W.heap.size 3 j0 (iV 0) 1 8 Tryz.underlying28 hj hj0 hj1 hj2 rfl (by decide) u6 j _ rfl HO1.o ⟨wr.heap.size,0,none⟩ 1 1 [iV ((i:Int)+((j:Int)+1))] rfl rfl (cell_one_new _ _ _) (by simp[Value.oneCell']) (by unfold maxLen;omega) (by omega) (by simp;omega) ?_;intro v' w6 hown' hgrow hnil hat)
  have HB6:Hid (Below W.heap.size W w6):=HB1.o.grown hgrow HB1.o.size (fun q hq=>(HO1.o.lt q hq).1)
  have HO6:Hid (w6.ownsRow W.heap.size 3 1 v' (j+1) (((List.range (j+1)).map fun j=>i+1+j).map fun x:Nat=>iV (x:Int))):=by
   rw[Hid,List.range_succ,List.map_append,List.map_append]
   simpa[show (i:Int)+((j:Int)+1)=(i:Int)+1+(j:Int)from by omega]using hown'
  clear hown' hgrow hnil hat;go_roundw
  case rel=>exact ⟨j+1,by omega,by go_num,HO6.o,HB6.o⟩
  case measure=>simp[intOf];omega
end Go.Proofs.YtmggaclaoefdaabGreat

namespace Go.Proofs.YtmggaclaoefdaabGreat
open Go.RowKit
theorem wha_le {σ:Sg} (hd:Dec σ): ∀(k:Nat) (T:Tm),T.v.toNat=k→0≤T.v→0≤(wha σ T).v∧(wha σ T).v≤T.v:=by
 intro k
 induction k using Nat.strongRecOn with
 |_ k ih=>
  intro T hk h0
  by_cases hv:T.v=0
  ·rw[wha_fn hv];omega
  cases hs:σ T.v with
  |none=>rw[wha_none hs];omega
  |some U=>
   rw[wha_some hd h0 hv hs]
   rcases hd _ _ hs with h| ⟨h1,h2⟩
   ·have:=ih U.v.toNat (by omega) U rfl (by omega);omega
   ·have:=ih U.v.toNat (by omega) U rfl (by omega);omega
end Go.Proofs.YtmggaclaoefdaabGreat

namespace Go.Proofs.YtmggaclaoefdaabGreat
open Go.RowKit
theorem flat_set (X:Tm): ∀(ts:List Tm) (i:Nat),i<ts.length→(((flat ts).set (i*3) (iV X.v)).set (i*3+1) (.string X.nm)).set (i*3+2) (.slice X.a X.len X.cap)=flat (ts.set i X):=by
 intro ts
 induction ts with
 |nil=>intro i hi;exact absurd hi (Nat.not_lt_zero i)
 |cons T ts ih=>
  intro i hi;have hc: ∀U:Tm,∀us,flat (U::us)=iV U.v::Value.string U.nm::Value.slice U.a U.len U.cap::flat us:=fun U us=>by simp[flat,cells3]
  cases i with
  |zero=>rw[hc];show _=flat (X::ts);rw[hc];rfl
  |succ i=>
   have h:=ih i (by simp at hi;omega)
   rw[hc,show (i+1)*3=i*3+1+1+1 from by omega]
   show _=flat (T::ts.set i X)
   rw[hc,←h]
   rfl
theorem owns_set {w:World} {lo g cap n:Nat} {ts:List Tm} (h:w.ownsRow lo 67 3 (.slice (some ⟨g,0,none⟩) n cap) n (flat ts)) (hl:ts.length=n) {i:Nat} (hi:i<n) (X:Tm):
 (((w.setCell ⟨g,i*3,none⟩ (iV X.v)).setCell ⟨g,i*3+1,none⟩ (.string X.nm)).setCell ⟨g,i*3+2,none⟩ (.slice X.a X.len X.cap)).ownsRow lo 67 3 (.slice (some ⟨g,0,none⟩) n cap) n (flat (ts.set i X)):=by
 obtain ⟨h1,h2⟩:=h
 rcases h2 with ⟨h2,_⟩| ⟨g',cap',cur,hv,hlo,hg,hnc,hcm,hsz,htk⟩
 ·cases h2
 cases hv;refine ⟨?_,.inr ⟨g,cap,((cur.setIfInBounds (i*3) (iV X.v)).setIfInBounds (i*3+1) (.string X.nm)).setIfInBounds (i*3+2) (.slice X.a X.len X.cap),rfl,hlo,?_,hnc,hcm,?_,?_⟩⟩
 ·rw[←flat_set X ts i (by omega)];simp[h1]
 ·simp only[World.setCell,Array.getElem?_modify]
  simp[hg]
 ·simp[hsz]
 ·rw[←flat_set X ts i (by omega),←htk]
  simp[List.take_set]
end Go.Proofs.YtmggaclaoefdaabGreat
