/- Part of the proof. -/
import Derived.Test.YtmggaclaoefdaabGreatSq0
import Derived.Deep.Light
import Derived.Test.YtmggaclaoefdaabGreatGAS
namespace Go.Proofs.YtmggaclaoefdaabGreat
open Go.RowKit Go.Shelf
set_option linter.unusedVariables false
set_option linter.unusedSimpArgs false
attribute [local go_sem] Oper.semAt_some
def Mr (m nb nm:Nat) (v:Value) (k:Nat):Prop:=k=m∨Mn nb nm v k
def RdP (vb m:Nat) (a:Option Addr) (len cap:Nat) (h:Nat→Cl) (lo nb nm:Nat) (v:Value) (t:List Int) (i:Nat) (w:World) (e:Ending) (w':World):Prop:=∃(X:Tm) (v':Value) (σ':Int→Option Int),e=.returned X.val∧TIn w' X∧Above w.heap.size X∧VW w' vb m a len cap h σ'∧NMs w' lo nb nm v' (addV t (vsT (std h len i)))∧Bw (Mr m nb nm v) w.heap.size w w'∧(v'.ownBlock=v.ownBlock∨∃g,v'.ownBlock=some g∧w.heap.size≤g)∧(∀g,v'.ownBlock=some g→NB g X)∧∀t'',addV t (vsT (std h len i)) <+:t''→can X=ap (nmOf (num t'')) (std h len i)
def RdC (h:Nat→Cl) (len i:Nat):Prop:=∀(vb m:Nat) (a:Option Addr) (cap:Nat) (σ σ0:Int→Option Int) (lo nb nm:Nat) (v:Value) (t:List Int) (w w0:World),VW w0 vb m a len cap h σ0→w0.heap.size≤lo→VW w vb m a len cap h σ→NMs w lo nb nm v t→lo≤w.heap.size→
 Calls Tryz.prog 117 #[.pointer (some ⟨vb,0,none⟩),.int .i64 (i:Int),.func (.func 118) #[.pointer (some ⟨nb,0,none⟩)] #[]] w (RdP vb m a len cap h lo nb nm v t i w)
theorem nm_of {M:Nat→Prop} {lo:Nat} {T:Tm} (hA:Above lo T) (hM: ∀k,M k→k<lo∨NB k T):NM M T:=by
 induction T with
 |nil=>trivial
 |mk v nm a len cap f ih=>
  refine ⟨fun h0=>?_,fun i hi=>ih i (hA.2 i hi) (fun k hk=>(hM k hk).imp id (fun h=>h.2 i hi))⟩
  obtain ⟨b,o,e,hb⟩:=hA.1 h0
  refine ⟨b,o,e,fun hk=>?_⟩
  rcases hM b hk with h|h
  ·omega
  ·obtain ⟨b',o',e',hne⟩:=h.1 h0
   rw[e]at e'
   cases e'
   exact hne rfl
theorem LstR.bw2 {M:Nat→Prop} {lo:Nat} {w w':World} {v:Value} {ts us:List Tm} (h:LstR lo w v ts us) (hb:Bw M w.heap.size w w') (h1: ∀g,v.ownBlock=some g→¬M g) (h2: ∀T∈ts,NM M T):LstR lo w' v ts us:=
 ⟨owns_block h.own (fun g hg=>hb.block g (h.own.lt g hg).2 (h1 g hg)),fun T hT=>⟨(h.all T hT).1.bw hb (Nat.le_refl _) (h2 T hT),(h.all T hT).2⟩,h.len,h.sim⟩
theorem rows_ne {w:World} {lo lo' n n' s s':Nat} {t t':TypeId} {v v':Value} {xs ys:List Value} (h:w.ownsRow lo t s v n xs) (h':w.ownsRow lo' t' s' v' n' ys) (hne:t≠t'): ∀g,v.ownBlock=some g→v'.ownBlock≠some g:=fun g hg hg'=>by
 rcases h.2 with ⟨hv,_⟩| ⟨k,cap,cur,hv,_,hk,_⟩
 ·subst hv;cases hg
 ·rcases h'.2 with ⟨hv',_⟩| ⟨k',cap',cur',hv',_,hk',_⟩
  ·subst hv';cases hg'
  ·subst hv;subst hv'
   have e:k=g:=Option.some.inj hg
   have e':k'=g:=Option.some.inj hg'
   subst e;subst e'
   rw[hk]at hk'
   injection hk' with hk'
   injection hk' with _ hk'
   exact hne hk'
noncomputable def vsL (h:Nat→Cl) (len:Nat) (l:List Nat):List Int:=(l.map fun x=>vsT (std h len x)).flatten
theorem vsL_snoc (h:Nat→Cl) (len:Nat) (l:List Nat) (x:Nat):vsL h len (l++ [x])=vsL h len l++vsT (std h len x):=by simp[vsL]
def zT:Tm:=.mk 0 ⟨#[]⟩ none 0 0 (fun _=> .nil)
structure RdS (w:World) (vb m:Nat) (a:Option Addr) (len cap:Nat) (h:Nat→Cl) (lo nb nm:Nat) (v:Value) (t:List Int) (s r:Nat) (nmz:ByteArray) (l:List Nat) (W:World) (v' v7:Value) (ts:List Tm) (σ':Int→Option Int):Prop where
 b0:Boxed W s 159 (.pointer (some ⟨vb,0,none⟩))
 b1:Boxed W (s+1) 161 (.func (.func 118) #[.pointer (some ⟨nb,0,none⟩)] #[])
 b2:W.heap[s+2]?=some (.cells #[.int .i64 0,.string ⟨#[]⟩,.slice none 0 0] 67)
 b7:W.heap[r]?=some (.cells #[.int .i64 0,.string nmz,v7] 67)
 lst:LstR (r+3) W v7 ts ts
 len7:ts.length=l.length
 vw:VW W vb m a len cap h σ'
 nms:NMs W lo nb nm v' (addV t (vsL h len l))
 bw:Bw (Mr m nb nm v) s w W
 own:v'.ownBlock=v.ownBlock∨∃g,v'.ownBlock=some g∧r+3≤g
 nbt: ∀T∈ts,∀g,v'.ownBlock=some g→NB g T
 val: ∀i,i<l.length→∀t'',addV t (vsL h len l) <+:t''→can (ts.getD i .nil)=ap (nmOf (num t'')) (std h len (l.getD i 0))
 sz:r+3≤W.heap.size
theorem vs_oneH (x:Int):vsT (can (vT x))=if x=0 then []else [x]:=by rw[vsT_can];rfl
theorem TIn.nbc {w:World} {T:Tm} {k:Nat} (h:TIn w T) (hk: ∃o:Obj,w.heap[k]?=some o∧o.isCells=false):NB k T:=by
 induction T with
 |nil=>trivial
 |mk v nm a len cap f ih=>
  refine ⟨fun h0=>?_,fun i hi=>ih i (h.2.2 i hi).2⟩
  obtain ⟨b,o,e,c0,_⟩:=(h.2.2 0 h0).1
  refine ⟨b,o,e,fun eb=>?_⟩
  obtain ⟨o1,h1,h2⟩:=cells_of_cell c0
  obtain ⟨o2,h3,h4⟩:=hk
  have h1':=h1
  rw[eb,h3]at h1'
  cases h1'
  rw[h2]at h4
  cases h4
theorem LstR.own' {lo:Nat} {X Y:World} {v:Value} {ts us:List Tm} {row:Option Nat} (h:LstR lo X v ts us) (hg:X.grownBy Y row) (hr: ∀r,row=some r→∃o:Obj,X.heap[r]?=some o∧o.isCells=false):LstR lo Y v ts us:=by
 refine ⟨h.own.kept hg ?_,fun T hT=>⟨(h.all T hT).1.grown hg (fun k e=>(h.all T hT).1.nbc (hr k e)),(h.all T hT).2⟩,h.len,h.sim⟩
 rcases h.own.2 with ⟨hv,_⟩| ⟨g,cap,cur,hv,_,hgb,_⟩
 ·subst hv;exact .inl rfl
 ·subst hv;exact .inr (ne_of_cells hr hgb rfl)
variable {w:World} {vb m:Nat} {a:Option Addr} {len cap:Nat} {h:Nat→Cl} {lo nb nm:Nat} {v:Value} {t:List Int} {s r:Nat} {nmz:ByteArray} {l:List Nat} {W:World} {v' v7:Value} {ts:List Tm} {σ':Int→Option Int}
theorem RdS.own2 (S:RdS w vb m a len cap h lo nb nm v t s r nmz l W v' v7 ts σ') {B:Nat} (hB:B=r+3) (hm:m<r+3) (hn:nm<r+3) (hsr:s≤r) {Y:World} {row:Option Nat} (hg:W.grownBy Y row) (hr: ∀q,row=some q→B≤q∧∃o:Obj,W.heap[q]?=some o∧o.isCells=false):RdS w vb m a len cap h lo nb nm v t s r nmz l Y v' v7 ts σ':=by
 have hr2:=fun q e=>(hr q e).2
 refine ⟨box_own S.b0 hg hr,box_own S.b1 hg hr,(hg.block _ (Array.getElem?_eq_some_iff.1 S.b2).1 (ne_of_cells hr2 S.b2 rfl)).trans S.b2,(hg.block _ (Array.getElem?_eq_some_iff.1 S.b7).1 (ne_of_cells hr2 S.b7 rfl)).trans S.b7,S.lst.own' hg hr2,S.len7,S.vw.own (by omega) hg hr,S.nms.keep fun k hk=>?_,S.bw.own (by have:=S.sz;omega) (by omega) hg hr,S.own,S.nbt,S.val,Nat.le_trans S.sz hg.size⟩
 have hlt:=S.nms.lt
 rcases hk with e|e|e
 ·subst e;exact hg.block _ hlt.1 (ne_of_cells hr2 S.nms.blk rfl)
 ·subst e;exact hg.block _ hlt.2.1 (fun e=>by have:=(hr _ e.symm).1;omega)
 ·refine hg.block _ (hlt.2.2 k e).2 ?_
  rcases S.nms.row.2 with ⟨hv,_⟩| ⟨g,cap,cur,hv,_,hgb,_⟩
  ·rw[hv]at e;cases e
  ·rw[hv]at e
   have:g=k:=Option.some.inj e
   subst this
   exact ne_of_cells hr2 hgb rfl
theorem RdS.next (S:RdS w vb m a len cap h lo nb nm v t s r nmz l W v' v7 ts σ') {w0:World} {σ0:Int→Option Int} (V0:VW w0 vb m a len cap h σ0) (hlo:w0.heap.size≤lo) (hls:lo≤s) (hsr:s+3≤r) (hmn:nb<s∧nm<s) (hNlo:lo≤nb∧lo≤nm) (hv: ∀g,v.ownBlock=some g→lo≤g∧g<s)
 {w4:World} {X:Tm} {v5:Value} {σ5:Int→Option Int} {x:Nat} (hB4:Bw (Mr m nb nm v') W.heap.size W w4) (hX:TIn w4 X) (hA:Above W.heap.size X) (hV:VW w4 vb m a len cap h σ5) (hN:NMs w4 lo nb nm v5 (addV (addV t (vsL h len l)) (vsT (std h len x)))) (h5:v5.ownBlock=v'.ownBlock∨∃g,v5.ownBlock=some g∧W.heap.size≤g) (hNX: ∀g,v5.ownBlock=some g→NB g X) (hval: ∀t'',addV (addV t (vsL h len l)) (vsT (std h len x)) <+:t''→can X=ap (nmOf (num t'')) (std h len x))
 {g6 cap6:Nat} {W':World} (hg6:some g6=v7.ownBlock∨g6=w4.heap.size) (hBF:Bw (fun k=>v7.ownBlock=some k∨k=r) w4.heap.size w4 W') (hOF:W'.ownsRow (r+3) 67 3 (.slice (some ⟨g6,0,none⟩) (ts.length+1) cap6) (ts.length+1) (flat (ts++ [X]))) (hR:W'.heap[r]?=some (.cells #[.int .i64 0,.string nmz,.slice (some ⟨g6,0,none⟩) (ts.length+1) cap6] 67)):
 RdS w vb m a len cap h lo nb nm v t s r nmz (l++ [x]) W' v5 (.slice (some ⟨g6,0,none⟩) (ts.length+1) cap6) (ts++ [X]) σ5∧KeepsFrom (r+3) W W'∧Kb (r+2) W W':=by
 have hm0:=V0.lt.2
 have hsz:=S.sz
 have hN':=S.nms.lt
 have hv7: ∀g,v7.ownBlock=some g→r+3≤g∧g<W.heap.size:=fun g hg=>S.lst.own.lt g hg
 have hown': ∀g,v'.ownBlock=some g→(lo≤g∧g<s)∨(r+3≤g∧g<W.heap.size):=fun g hg=>by
  rcases S.own with e| ⟨g',e,hg'⟩
  ·exact .inl (hv g (e▸hg))
  ·exact .inr ⟨by rw[e]at hg;have:=Option.some.inj hg;omega,(hN'.2.2 g hg).2⟩
 have hM': ∀k,Mr m nb nm v' k→(k<s∨r+3≤k)∧k<W.heap.size:=fun k hk=>by
  rcases hk with e|e|e|e
  ·omega
  ·omega
  ·omega
  ·have:=hown' k e;omega
 have h4sz:=hB4.size
 have hFsz:=hBF.size
 have hM7: ∀k,(v7.ownBlock=some k∨k=r)→r≤k:=fun k hk=>by
  rcases hk with e|e
  ·have:=hv7 k e;omega
  ·omega
 have hvv:=rows_ne S.lst.own S.nms.row (by decide)
 have hT4: ∀T∈ts,TIn w4 T:=fun T hT=>(S.lst.all T hT).1.bw hB4 (Nat.le_refl _) (nm_of (S.lst.all T hT).2.1 fun k hk=>by
  rcases hk with e|e|e|e
  ·exact .inl (by omega)
  ·exact .inl (by omega)
  ·exact .inl (by omega)
  ·exact .inr (S.nbt T hT k e))
 have hO4:w4.ownsRow (r+3) 67 3 v7 ts.length (flat ts):=owns_block S.lst.own fun g hg=>hB4.block g (hv7 g hg).2 (fun hk=>by
  have:=hv7 g hg
  rcases hk with e|e|e|e
  ·omega
  ·omega
  ·omega
  ·exact hvv g hg e)
 have hv5: ∀g,v5.ownBlock=some g→(lo≤g∧g<s)∨r+3≤g:=fun g hg=>by
  rcases h5 with e| ⟨g',e,hg'⟩
  ·have:=hown' g (e▸hg);omega
  ·rw[e]at hg;have:=Option.some.inj hg;omega
 have h57:=rows_ne hO4 hN.row (by decide)
 have hA3:=hA.mono hsz
 have hlow: ∀k,k<r→W'.heap[k]?=w4.heap[k]?:=fun k hk=>hBF.block k (by omega) (fun e=>by have:=hM7 k e;omega)
 have hlow4: ∀k,s≤k→k<r+3→w4.heap[k]?=W.heap[k]?:=fun k h1 h2=>hB4.block k (by omega) (fun e=>by have:=(hM' k e).1;omega)
 have hNB6: ∀T:Tm,TIn w4 T→(∀k,v7.ownBlock=some k→NB k T)→NB g6 T:=fun T h1 h2=>by
  rcases hg6 with e|e
  ·exact h2 g6 e.symm
  ·exact h1.nb (by omega)
 have hX7: ∀k,v7.ownBlock=some k→NB k X:=fun k hk=>hA.nb (hv7 k hk).2
 refine ⟨⟨?_,?_,?_,hR,⟨by rw[List.length_append];exact hOF,fun T hT=>?_,rfl,fun i hi=>Sim.refl _⟩,by rw[List.length_append,List.length_append,S.len7];rfl,V0.low hV fun k hk=>hlow k (by omega),?_,?_,?_,?_,?_,by omega⟩,⟨by omega,fun k o hk h1 h2=>?_⟩,by omega,?_⟩
 ·exact (hlow s (by omega)).trans ((hlow4 s (by omega) (by omega)).trans S.b0)
 ·exact (hlow (s+1) (by omega)).trans ((hlow4 (s+1) (by omega) (by omega)).trans S.b1)
 ·exact (hlow (s+2) (by omega)).trans ((hlow4 (s+2) (by omega) (by omega)).trans S.b2)
 ·rcases List.mem_append.1 hT with hT|hT
  ·have hA:=(S.lst.all T hT).2.1
   have hN7:=(S.lst.all T hT).2.2
   refine ⟨(hT4 T hT).bw hBF (Nat.le_refl _) (nm_of hA fun k hk=>?_),hA,fun k hk=>?_⟩
   ·rcases hk with e|e
    ·exact .inr (hN7 k e)
    ·exact .inl (by omega)
   ·have:g6=k:=Option.some.inj hk
    subst this
    exact hNB6 T (hT4 T hT) hN7
  ·rw[List.mem_singleton]at hT
   subst hT
   refine ⟨hX.bw hBF (Nat.le_refl _) (nm_of hA3 fun k hk=>?_),hA3,fun k hk=>?_⟩
   ·rcases hk with e|e
    ·exact .inr (hX7 k e)
    ·exact .inl (by omega)
   ·have:g6=k:=Option.some.inj hk
    subst this
    exact hNB6 _ hX hX7
 ·rw[vsL_snoc,addV_append]
  refine hN.keep fun k hk=>hBF.block k ?_ (fun e=>?_)
  ·have:=hN.lt
   rcases hk with e|e|e
   ·omega
   ·omega
   ·exact (this.2.2 k e).2
  ·rcases e with e|e
   ·have:=hv7 k e
    rcases hk with e'|e'|e'
    ·omega
    ·omega
    ·exact h57 k e e'
   ·rcases hk with e'|e'|e'
    ·omega
    ·omega
    ·have:=hv5 k e';omega
 ·refine S.bw.trans (Bw.trans ((hB4.mono (by omega)).wide fun k hk hm=>?_) ((hBF.mono (by omega)).wide fun k hk hm=>by have:=hM7 k hm;omega))
  rcases hm with e|e|e|e
  ·exact .inl e
  ·exact .inr (.inl e)
  ·exact .inr (.inr (.inl e))
  ·rcases S.own with e'| ⟨g',e',hg'⟩
   ·exact .inr (.inr (.inr (e'▸e)))
   ·rw[e']at e;have:=Option.some.inj e;omega
 ·rcases h5 with e| ⟨g',e,hg'⟩
  ·rw[e];exact S.own
  ·exact .inr ⟨g',e,by omega⟩
 ·intro T hT g hg
  rcases List.mem_append.1 hT with hT|hT
  ·rcases h5 with e| ⟨g',e,hg'⟩
   ·exact S.nbt T hT g (e▸hg)
   ·exact (S.lst.all T hT).1.nb (by rw[e]at hg;have:=Option.some.inj hg;omega)
  ·rw[List.mem_singleton]at hT
   subst hT
   exact hNX g hg
 ·intro i hi t'' ht
  rw[vsL_snoc,addV_append]at ht
  rw[List.length_append]at hi
  have hi':i<l.length+1:=hi
  by_cases h2:i<l.length
  ·have e:(ts++ [X]).getD i .nil=ts.getD i .nil:=by simp[List.getD,List.getElem?_append_left (show i<ts.length by rw[S.len7];exact h2)]
   have e':(l++ [x]).getD i 0=l.getD i 0:=by simp[List.getD,List.getElem?_append_left h2]
   rw[e,e']
   exact S.val i h2 t'' ((addV_pre _ _).trans ht)
  ·obtain rfl:i=l.length:=by omega
   have e:(ts++ [X]).getD l.length .nil=X:=by rw[←S.len7];simp[List.getD]
   have e':(l++ [x]).getD l.length 0=x:=by simp[List.getD]
   rw[e,e']
   exact hval t'' ht
 ·have hkW:=(Array.getElem?_eq_some_iff.1 h1).1
  refine (hBF.block k (by omega) (fun e=>?_)).trans ((hB4.block k hkW (fun e=>?_)).trans h1)
  ·rcases e with e|e
   ·rcases S.lst.own.2 with ⟨hv,_⟩| ⟨g,cap,cur,hv,_,hgb,_⟩
    ·rw[hv]at e;cases e
    ·rw[hv]at e
     have:g=k:=Option.some.inj e
     subst this
     rw[hgb]at h1
     cases h1
     cases h2
   ·omega
  ·rcases e with e|e|e|e
   ·omega
   ·omega
   ·omega
   ·rcases S.nms.row.2 with ⟨hv,_⟩| ⟨g,cap,cur,hv,_,hgb,_⟩
    ·rw[hv]at e;cases e
    ·rw[hv]at e
     have:g=k:=Option.some.inj e
     subst this
     rw[hgb]at h1
     cases h1
     cases h2
 ·refine (hBF.block (r+2) (by omega) (fun e=>?_)).trans (hlow4 (r+2) (by omega) (by omega))
  rcases e with e|e
  ·have:=hv7 _ e;omega
  ·omega
theorem LstR.exact {lo:Nat} {w:World} {v:Value} {ts us:List Tm} (h:LstR lo w v ts us):
 ∃T:Tm,v=.slice T.a T.len T.cap∧TIn w T∧Above lo T∧T.len=ts.length∧(∀i,i<T.len→T.f i=ts.getD i .nil)∧∀k,v.ownBlock≠some k→(∀U∈ts,NB k U)→NB k T:=by
 have hget: ∀i (hi:i<ts.length),ts.getD i .nil=ts[i]:=fun i hi=>by simp[List.getD,List.getElem?_eq_getElem hi]
 rcases h.own.2 with ⟨rfl,h0⟩| ⟨g,cap,cur,rfl,hlo,hgg,hnc,hcm,hsz,htk⟩
 ·exact ⟨.mk 0 ⟨#[]⟩ none 0 0 (fun _=> .nil),rfl,⟨Nat.zero_le _,Nat.zero_le _,fun i hi=>absurd hi (Nat.not_lt_zero i)⟩,⟨fun h=>absurd h (Nat.lt_irrefl 0),fun i hi=>absurd hi (Nat.not_lt_zero i)⟩,h0.symm,fun i hi=>absurd hi (Nat.not_lt_zero i),fun k _ _=>⟨fun h=>absurd h (Nat.lt_irrefl 0),fun i hi=>absurd hi (Nat.not_lt_zero i)⟩⟩
 ·refine ⟨.mk 0 ⟨#[]⟩ (some ⟨g,0,none⟩) ts.length cap (fun i=>ts.getD i .nil),rfl,⟨Nat.zero_le _,(show ts.length≤maxLen from Nat.le_trans hnc hcm),fun i hi=>?_⟩,⟨fun _=>⟨g,0,rfl,hlo⟩,fun i hi=>?_⟩,rfl,fun i hi=>rfl,fun k hk hU=>⟨fun _=>⟨g,0,rfl,fun e=>hk (by rw[←e];rfl)⟩,fun i hi=>?_⟩⟩
  ·obtain ⟨f0,f1,f2⟩:=flat_get ts i hi
   have hm:=h.all _ (List.getElem_mem hi)
   show RowAt w _ i (ts.getD i .nil)∧TIn w (ts.getD i .nil)
   rw[hget i hi]
   refine ⟨⟨g,0,rfl,?_,?_,?_⟩,hm.1⟩
   ·rw[Nat.zero_add];exact (h.own.cellAt (i*3) (by omega)).trans f0
   ·rw[Nat.zero_add];exact (h.own.cellAt (i*3+1) (by omega)).trans f1
   ·rw[Nat.zero_add];exact (h.own.cellAt (i*3+2) (by omega)).trans f2
  ·show Above lo (ts.getD i .nil)
   rw[hget i hi];exact (h.all _ (List.getElem_mem hi)).2.1
  ·show NB k (ts.getD i .nil)
   rw[hget i hi];exact hU _ (List.getElem_mem hi)
theorem flat_snocz (ts:List Tm) (X:Tm):(ts++ [zT]).set ts.length X=ts++ [X]:=by simp
set_option maxRecDepth 100000 in
set_option maxHeartbeats 8000000 in
theorem vread_all {h:Nat→Cl} {len:Nat} (H:HG h len) (hlb:len≤1000000): ∀i,i<len→RdC h len i:=by
 refine H.ind fun i hi ih=>?_
 intro vb m a cap σ σ0 lo nb nm v t w w0 V0 hlo V N hlw
 have HV0:=hid V0
 have HG':=hid H
 have HN:=hid N
 have hmw0:=V0.lt.2
 have hvw0:=V0.lt.1
 have hN:=N.lt
 have hNlo:=N.lo
 obtain ⟨W0,hW0⟩: ∃W0,((w.alloc (.cells #[.pointer (some ⟨vb,0,none⟩)] 159)).alloc (.cells #[.func (.func 118) #[.pointer (some ⟨nb,0,none⟩)] #[]] 161)).alloc (.cells #[.int .i64 0,.string ⟨#[]⟩,.slice none 0 0] 67)=W0:=⟨_,rfl⟩
 have hB0:Below w.heap.size w W0:=by rw[←hW0];exact (((Below.refl _ _).alloc (Nat.le_refl _) _).alloc (by simp) _).alloc (by simp;omega) _
 have hs0:W0.heap.size=w.heap.size+3:=by rw[←hW0];simp
 have x0:Boxed W0 w.heap.size 159 (.pointer (some ⟨vb,0,none⟩)):=by rw[←hW0];exact ((Boxed.new w _ _).alloc _).alloc _
 have x1:Boxed W0 (w.heap.size+1) 161 (.func (.func 118) #[.pointer (some ⟨nb,0,none⟩)] #[]):=by
  rw[←hW0]
  have:=(Boxed.new (w.alloc (.cells #[.pointer (some ⟨vb,0,none⟩)] 159)) 161 (.func (.func 118) #[.pointer (some ⟨nb,0,none⟩)] #[])).alloc (.cells #[.int .i64 0,.string ⟨#[]⟩,.slice none 0 0] 67)
  rwa [World.size_alloc]at this
 have x2:W0.heap[w.heap.size+2]?=some (.cells #[.int .i64 0,.string ⟨#[]⟩,.slice none 0 0] 67):=by
  rw[←hW0]
  have:=heap_alloc_new ((w.alloc (.cells #[.pointer (some ⟨vb,0,none⟩)] 159)).alloc (.cells #[.func (.func 118) #[.pointer (some ⟨nb,0,none⟩)] #[]] 161)) (.cells #[.int .i64 0,.string ⟨#[]⟩,.slice none 0 0] 67)
  rwa [World.size_alloc,World.size_alloc]at this
 have c0:=x0.cell
 have HX:Hid (Boxed W0 w.heap.size 159 (.pointer (some ⟨vb,0,none⟩))∧Boxed W0 (w.heap.size+1) 161 (.func (.func 118) #[.pointer (some ⟨nb,0,none⟩)] #[])∧W0.heap[w.heap.size+2]?=some (.cells #[.int .i64 0,.string ⟨#[]⟩,.slice none 0 0] 67)):=⟨x0,x1,x2⟩
 have HB0:=hid hB0
 have HDe:=hid (deref_any H hlb hi W0 (V.below hB0))
 have hz:=H.end_lt hi
 have Hor:=H.end_or hi
 have HSv:Hid ((h (endA h len i)).k=1→std h len i=can (vT ((endA h len i:Int)+1))):=fun e=>std_var e
 have HSf:Hid (∀n:Nat,(h (endA h len i)).k=2→(h (endA h len i)).n=(n:Int)→std h len i=.mk 0 (h (endA h len i)).nm none n 0 (fun j=>if j<n then std h len (endA h len i+1+j)else .nil)):=fun n e e'=>std_fn H hi e e'
 have HIH:=hid ih
 have HNa:=hid (V.row.nm _ hz)
 generalize endA h len i=z at*
 generalize hs:w.heap.size=s at*
 clear V0 V N H hi x0 x1 x2 hB0 ih
 refine (callsIn_wide (n:=5)).1 (callsIn_of_wp_marks Tryz.func117 rfl trivial (wpIn_wide.2 ?_) rfl)
 simp only[Tryz.ntmps117,List.size_toArray,List.length_cons,List.length_nil,Nat.reduceAdd,Nat.reduceSub,Array.replicate_succ,Array.replicate_zero,List.push_toArray,List.append_toArray,List.nil_append,List.cons_append]
 go_wp2_with fail
 try rw[hW0]
 refine HDe.out.mono ?_
 rintro e w1 ⟨rfl,⟨σ1,hV1⟩,hg1⟩
 have HV1:=hid hV1
 have HG1:=hid hg1
 have hs1:=hg1.size
 obtain ⟨b,o,rfl,k0,k1,k2⟩:=hV1.row.row z hz
 obtain ⟨v0,v1⟩:=hV1.cells
 have y0:=HX.out.1.kept hg1 (by intro e;have:=Option.some.inj e;omega)
 have y1:=HX.out.2.1.kept hg1 (by intro e;have:=Option.some.inj e;omega)
 have y2:=(hg1.block (s+2) (by omega) (by intro e;have:=Option.some.inj e;omega)).trans HX.out.2.2
 have d0:=y0.cell
 have d1:=y1.cell
 obtain ⟨e0,e1,e2,ef0,ef1,ef2⟩:=block_cells y2
 have HY:Hid (Boxed w1 s 159 (.pointer (some ⟨vb,0,none⟩))∧Boxed w1 (s+1) 161 (.func (.func 118) #[.pointer (some ⟨nb,0,none⟩)] #[])∧w1.heap[s+2]?=some (.cells #[.int .i64 0,.string ⟨#[]⟩,.slice none 0 0] 67)):=⟨y0,y1,y2⟩
 have HN1:Hid (NMs w1 lo nb nm v t):=(HN.out.below (by rw[hs];exact HB0.out)).keep fun k hk=>hg1.block k (by
  have h1:=hN.2.2
  rcases hk with e|e|e
  ·omega
  ·omega
  ·have:=h1 k e;omega) (fun e=>by
  have h1:=hN.2.2
  have h2:=Option.some.inj e
  rcases hk with e|e|e
  ·omega
  ·omega
  ·have:=h1 k e;omega)
 have HB1:Hid (Bw (Mr m nb nm v) s w w1):=(Bw.ofBelow HB0.out).grown hg1 (by omega) (fun k e=> .inr (.inl (Option.some.inj e).symm))
 have hzI:(z:Int)<(len:Int):=by omega
 clear hV1 hg1 HDe HX y0 y1 y2
 rcases Hor with ⟨hk,hkn⟩|hk
 ·have hkb:((h z).k==1)=true:=by rw[hk];rfl
  have HNu:=hid (nnum_any z (by omega) w1 HN1.out (by omega))
  have HS:=hid (HSv.out hk)
  clear hk hkn
  go_wp2_with fail
  refine HNu.out.mono ?_
  rintro e w2 ⟨v',rfl,hN2,hB2,hat2⟩
  have hMn: ∀k,Mn nb nm v k→k<s:=fun k hk=>by
   have h1:=hN.2.2
   rcases hk with e|e|e
   ·omega
   ·omega
   ·have:=h1 k e;omega
  have hMl: ∀k,Mn nb nm v k→lo≤k:=fun k hk=>by
   have h1:=hN.2.2
   rcases hk with e|e|e
   ·omega
   ·omega
   ·have:=h1 k e;omega
  have y2:w2.heap[s+2]?=some (.cells #[.int .i64 0,.string ⟨#[]⟩,.slice none 0 0] 67):=(hB2.block (s+2) (by omega) (fun e=>by have:=hMn _ e;omega)).trans HY.out.2.2
  obtain ⟨g0,g1,g2,gf0,gf1,gf2⟩:=block_cells y2
  have HY2:=hid y2
  have HB2:Hid (Bw (Mr m nb nm v) w.heap.size w w2):=by rw[Hid,hs];exact HB1.out.trans ((hB2.mono (by omega)).wide (fun k _ hk=> .inr hk))
  have HN2:=hid hN2
  have HV2:Hid (VW w2 vb m (some ⟨b,o,none⟩) len cap h σ1):=HV0.out.low HV1.out fun k hk=>hB2.block k (by omega) (fun e=>by have:=hMl _ e;omega)
  have Hat:Hid (v'.ownBlock=v.ownBlock∨∃g,v'.ownBlock=some g∧w.heap.size≤g):=by
   rw[Hid,hs]
   rcases hat2 with e| ⟨g,e,hg⟩
   ·exact .inl e
   ·exact .inr ⟨g,e,by omega⟩
  have Hlt2:Hid (∀k,Mn nb nm v' k→k≠s+2):=fun k hk=>by
   have h1:=hN.2.2
   rcases hk with e|e|e
   ·omega
   ·omega
   ·rcases hat2 with e'| ⟨g,e',hg⟩
    ·rw[e']at e;have:=h1 k e;omega
    ·rw[e']at e;have:=Option.some.inj e;omega
  have hw2s:s+3≤w2.heap.size:=by have:=hB2.size;omega
  clear hN2 hB2 hat2 y2
  generalize hnum:num (addV t [(z:Int)+1]) ((z:Int)+1)=nv at*
  go_wp2_with fail
  obtain ⟨W',hW',z0,z1,z2,hB',hgr⟩:=fin3b (r:=s+2) (by omega) HY2.out HB2.out (.int .i64 nv) (.string ⟨#[]⟩) (.slice none 0 0)
  have hW'':=hW'
  rw[show s+2=s+1+1 from rfl]at hW''
  first|rw[hW'']|rw[hW']
  have hvs:vsT (std h len i)= [(z:Int)+1]:=by rw[HS.out,vs_oneH,if_neg (by omega)]
  refine ⟨_,?_,.mk nv ⟨#[]⟩ none 0 0 (fun _=> .nil),v',σ1,rfl,⟨Nat.zero_le _,Nat.zero_le _,fun j hj=>absurd hj (Nat.not_lt_zero j)⟩,⟨fun h=>absurd h (Nat.lt_irrefl 0),fun j hj=>absurd hj (Nat.not_lt_zero j)⟩,?_,?_,hB',Hat.out,fun g _=>⟨fun h=>absurd h (Nat.lt_irrefl 0),fun j hj=>absurd hj (Nat.not_lt_zero j)⟩,fun t'' ht=>?_⟩
  ·simp[results,Tryz.results117,go_sem,z0,z1,z2,Tm.val,Tm.v,Tm.nm,Tm.a,Tm.len,Tm.cap]
  ·exact HV0.out.low HV2.out fun k hk=>hgr.block k (by omega) (fun e=>by have:=Option.some.inj e;omega)
  ·rw[hvs];exact HN2.out.keep fun k hk=>hgr.block k (by
    have h1:=HN2.out.lt
    rcases hk with e|e|e
    ·omega
    ·omega
    ·exact (h1.2.2 k e).2) (fun e=>Hlt2.out k hk (Option.some.inj e))
  ·rw[hvs]at ht
   rw[HS.out,ap_can,ap_var _ (show (vT ((z:Int)+1)).v≠0 from by show (z:Int)+1≠0;omega)]
   show can _=can (vT (num t'' ((z:Int)+1)))
   rw[num_pre ht (addV_mem _ _ _ (by simp)),hnum]
   exact can_ext rfl rfl rfl (fun j hj=>absurd hj (Nat.not_lt_zero j))
 ·have hkb:((h z).k==1)=false:=by rw[hk];rfl
  obtain ⟨n,hn⟩: ∃n:Nat,(h z).n=n:=⟨(h z).n.toNat,by have:=HG'.out.ok.n0 z hz;omega⟩
  have hn4:n≤4:=by have:=HG'.out.ok.n4 z hz (by omega);omega
  have HS:=hid (HSf.out n hk hn)
  have HLn:Hid (leads h z=(List.range n).map fun j=>z+1+j):=by unfold leads;rw[Hid,if_neg (by omega),hn];rfl
  have HRx:Hid (∀x∈leads h z,RdC h len x):=fun x hx=>by
   rw[HLn.out]at hx
   obtain ⟨j,hj,rfl⟩:=List.mem_map.1 hx
   exact HIH.out j hk (by have:=List.mem_range.1 hj;omega)
  have HLd:Hid (∀(i:Nat) W,Calls Tryz.prog 88 #[.slice (some ⟨b,o,none⟩) len cap,.int .i64 i] W fun e w'=>e=.returned (.func (.func 126) #[] #[.pointer (some ⟨W.heap.size,0,none⟩),.pointer (some ⟨W.heap.size+1,0,none⟩)])∧w'=(W.alloc (.cells #[.slice (some ⟨b,o,none⟩) len cap] 25)).alloc (.cells #[.int .i64 i] 3)):=fun i W=>leads_any _ len cap i W
  have hkk:(h z).k=1∨(h z).k=2:=.inr hk
  have hB2:Below w1.heap.size w1 (w1.alloc (.cells #[.int .i64 0,.string (h z).nm,.slice none 0 0] 67)):=(Below.refl _ _).alloc (Nat.le_refl _) _
  have d0a:=(HY.out.1.alloc (.cells #[.int .i64 0,.string (h z).nm,.slice none 0 0] 67)).cell
  have v0a:=(HV1.out.below hB2).cells.1
  clear hk hn HSf HSv HIH
  go_wp2_with fail
  refine (HLd.out z _).mono ?_
  rintro e w2 ⟨rfl,hw2⟩
  have hB3:Below w1.heap.size w1 w2:=by rw[hw2];exact (hB2.alloc (by simp) _).alloc (by simp;omega) _
  have hx2:w2.heap[w1.heap.size+1]?=some (.cells #[.slice (some ⟨b,o,none⟩) len cap] 25)∧w2.heap[w1.heap.size+2]?=some (.cells #[.int .i64 (z:Int)] 3):=by
   have:=alloc2 (w1.alloc (.cells #[.int .i64 0,.string (h z).nm,.slice none 0 0] 67)) (.cells #[.slice (some ⟨b,o,none⟩) len cap] 25) (.cells #[.int .i64 (z:Int)] 3)
   rw[hw2]
   rwa [World.size_alloc]at this
  have hx7:w2.heap[w1.heap.size]?=some (.cells #[.int .i64 0,.string (h z).nm,.slice none 0 0] 67):=by
   rw[hw2,heapOld _ _ (by simp;omega),heapOld _ _ (by simp)]
   exact heap_alloc_new w1 _
  have hs2:w2.heap.size=w1.heap.size+3:=by rw[hw2];simp
  have HI0:Hid (∃v' v7 ts σ',RdS w vb m (some ⟨b,o,none⟩) len cap h lo nb nm v t s w1.heap.size (h z).nm (vals ([]:List (Cq fun x=>x∈leads h z))) w2 v' v7 ts σ'):=by
   refine ⟨v,.slice none 0 0,[],σ1,(hB3.block _ HY.out.1.lt).trans HY.out.1,(hB3.block _ HY.out.2.1.lt).trans HY.out.2.1,(hB3.block _ (by omega)).trans HY.out.2.2,hx7,⟨World.ownsRow_nil _ _ _ _,fun T h=>(by cases h),rfl,fun i hi=>absurd hi (Nat.not_lt_zero i)⟩,rfl,HV1.out.below hB3,HN1.out.below hB3,HB1.out.trans (Bw.ofBelow (hB3.mono (by omega))),.inl rfl,fun T h=>(by cases h),fun i hi=>absurd hi (Nat.not_lt_zero i),by omega⟩
  have HHin:=hid (HV1.out.row.below hB3)
  have HX2:=hid hx2
  have hs13:s+3≤w1.heap.size:=by omega
  clear hw2 hx2 hx7 hB3 hB2 d0a v0a k0 k1 k2 v0 v1 d0 d1 e0 e1 e2 ef0 ef1 ef2 HLd
  have hll:(leads h z).length=n:=by rw[HLn.out];simp
  go_wp2_with fail
  generalize hr:w1.heap.size=r at*
  refine wpIn_wide.1 (wpIn_rangeFunc_ownG (n:=5) rfl (by omega) (gf:=126) (lb:= #[.pointer (some ⟨r+1,0,none⟩),.pointer (some ⟨r+2,0,none⟩)]) rfl trivial (enters_of Tryz.func126 (by kernel_rfl) rfl)
   (leads_stopsP (p:=fun x=>x∈leads h z) 4 hz (fun x hx=>hx) (r+1) (r+2) w2 HHin.out HG'.out.ok hkk hlb HX2.out.1 HX2.out.2) (fun h k=>Kb.t h k) (Kb.b (by omega)) (Below.refl _ _) (fun _=>rfl)
   (fun pre W=>∃v' v7 ts σ',RdS w vb m (some ⟨b,o,none⟩) len cap h lo nb nm v t s r (h z).nm (vals pre) W v' v7 ts σ') (fun _ _ _=>False)
   (fun pre X Y row hs' hg hr'=>by
     obtain ⟨v',v7,ts,σ',S⟩:=hs'
     have hlr:lo≤r:=by omega
     exact ⟨v',v7,ts,σ',S.own2 hs2 (by omega) (by omega) (by omega) hg hr'⟩) (fun _ _ _ _ _ hs _ _=>hs)
   HI0.out
   (fun x=> { tmps:= #[.pointer (some ⟨vb,0,none⟩),.int .i64 (z:Int),.func (.func 118) #[.pointer (some ⟨nb,0,none⟩)] #[],.pointer (some ⟨s,0,none⟩),undef,.pointer (some ⟨s+1,0,none⟩),.pointer (some ⟨s+2,0,none⟩),.pointer (some ⟨r,0,none⟩),.int .i64 (x.1:Int),.pointer (some ⟨vb,0,none⟩),.int .i64 (i:Int),.int .i64 (z:Int),.pointer (some ⟨vb,0,none⟩),.pointer (some ⟨vb,0,none⟩),.pointer (some ⟨vb,0,none⟩),.slice (some ⟨b,o,none⟩) len cap,.int .i64 (z:Int),.pointer (some ⟨b,o+z*3,none⟩),.pointer (some ⟨b,o+z*3,none⟩),.int .i64 (h z).k,.bool false,undef,undef,undef,undef,.pointer (some ⟨vb,0,none⟩),.pointer (some ⟨vb,0,none⟩),.pointer (some ⟨vb,0,none⟩),.slice (some ⟨b,o,none⟩) len cap,.int .i64 (z:Int),.pointer (some ⟨b,o+z*3,none⟩),.pointer (some ⟨b,o+z*3+2,none⟩),.string (h z).nm,.agg #[.int .i64 0,.string (h z).nm,.slice none 0 0],.pointer (some ⟨vb,0,none⟩),.pointer (some ⟨vb,0,none⟩),.pointer (some ⟨vb,0,none⟩),.slice (some ⟨b,o,none⟩) len cap,.int .i64 (z:Int),.func (.func 126) #[] #[.pointer (some ⟨r+1,0,none⟩),.pointer (some ⟨r+2,0,none⟩)],.int .i64 (x.1:Int),undef,undef,undef,undef,undef,undef,undef,undef,undef,undef,undef,undef],defers:= []}) ?assign ?body ?done ?stop)
  case stop=>exact fun _ _ _ _ _ _ h _=>h.elim
  case assign=>
   intro l x W K hK
   gi_wp2
   exact hK
  case done=>
   rintro D ys W hD hys ⟨v',v7,ts,σ',S⟩ hDK
   obtain ⟨Q,hvQ,hQ,hQA,hQL,hQE,hQN⟩:=S.lst.exact
   subst hvQ
   obtain ⟨c70,c71,c72,_,_,_⟩:=block_cells S.b7
   obtain ⟨c20,c21,c22,f20,f21,f22⟩:=block_cells S.b2
   have HSd:=hid S
   have HQ:Hid (TIn W Q∧Above (r+3) Q∧Q.len=ts.length∧(∀i,i<Q.len→Q.f i=ts.getD i .nil)∧∀k,(Value.slice Q.a Q.len Q.cap).ownBlock≠some k→(∀U∈ts,NB k U)→NB k Q):=⟨hQ,hQA,hQL,hQE,hQN⟩
   have HDK:=hid hDK
   have Hys:=hid hys
   clear hQ hQA hQL hQE hQN hDK hys S
   go_wp2_with fail
   have S:=HSd.out
   obtain ⟨W',hW',z0,z1,z2,hB',hgr⟩:=fin3b (w:=w) (r:=s+2) (by omega) S.b2 (by rw[hs];exact S.bw) (.int .i64 0) (.string (h z).nm) (.slice Q.a Q.len Q.cap)
   have hW'':=hW'
   rw[show s+2=s+1+1 from rfl]at hW''
   first|rw[hW'']|rw[hW']
   have hszW:=S.sz
   have hDW:D<W.heap.size:=(Array.getElem?_eq_some_iff.1 HDK.out).1
   have hDK':W'.heap[D]?=some (.deferred (some [])):=(hgr.block D hDW (fun e=>by have:=Option.some.inj e;omega)).trans HDK.out
   have hg:=grownBy_putObj' W' D (.deferred none)
   have hsW':=hgr.size
   have hnD: ∃o:Obj,W'.heap[D]?=some o∧o.isCells=false:=⟨_,hDK',rfl⟩
   refine ⟨by simp,.inl ⟨_,_,rfl,run_takeDeferred hDK',?_⟩⟩
   have q0:=hg.cell z0 (by intro e;have h1:s+2=D:=Option.some.inj e;omega)
   have q1:=hg.cell z1 (by intro e;have h1:s+2=D:=Option.some.inj e;omega)
   have q2:=hg.cell z2 (by intro e;have h1:s+2=D:=Option.some.inj e;omega)
   have hown':=S.own
   have hNl:=S.nms.lt
   have hQ':TIn W' Q:=HQ.out.1.grown hgr (fun k hk=>by obtain rfl:=Option.some.inj hk;exact HQ.out.2.1.nb (by omega))
   have hQ2:TIn (W'.putObj D (.deferred none)) Q:=hQ'.grown hg (fun k hk=>by obtain rfl:=Option.some.inj hk;exact hQ'.nbc hnD)
   have hlen:Q.len=n:=by
    rw[HQ.out.2.2.1,S.len7,Hys.out,HLn.out]
    simp
   have hvs:vsT (std h len i)=vsL h len (vals ys):=by
    rw[HS.out,Hys.out,HLn.out]
    show (if (0:Int)=0 then ((List.range n).map fun j=>vsT (if j<n then std h len (z+1+j)else .nil)).flatten else [0])=_
    rw[if_pos rfl]
    unfold vsL
    rw[List.map_map]
    congr 1
    apply List.map_congr_left
    intro j hj
    rw[if_pos (List.mem_range.1 hj)]
    rfl
   refine ⟨_,?_,.mk 0 (h z).nm Q.a Q.len Q.cap Q.f,v',σ',rfl,hQ2.retop HNa.out,(HQ.out.2.1.mono (by omega)).retop,?_,?_,?_,?_,fun g hg'=>?_,fun t'' ht=>?_⟩
   ·simp[results,Tryz.results117,go_sem,q0,q1,q2,Tm.val,Tm.v,Tm.nm,Tm.a,Tm.len,Tm.cap]
   ·exact HV0.out.low S.vw fun k hk=>(hg.block k (by omega) (fun e=>by have:=Option.some.inj e;omega)).trans (hgr.block k (by omega) (fun e=>by have:=Option.some.inj e;omega))
   ·rw[hvs]
    refine S.nms.keep fun k hk=>?_
    have hkne:k≠D∧k≠s+2∧k<W.heap.size:=by
     rcases hk with e|e|e
     ·omega
     ·omega
     ·have h1:=(hNl.2.2 k e).2
      refine ⟨fun eD=>?_,?_,h1⟩
      ·rcases S.nms.row.2 with ⟨hv,_⟩| ⟨g,cap,cur,hv,_,hgb,_⟩
       ·rw[hv]at e;cases e
       ·rw[hv]at e
        have:g=k:=Option.some.inj e
        subst this
        rw[eD,HDK.out]at hgb
        cases hgb
      ·rcases hown' with e'| ⟨g,e',hg'⟩
       ·rw[e']at e;have:=hN.2.2 k e;omega
       ·rw[e']at e;have:=Option.some.inj e;omega
    exact (hg.block k (by omega) (fun e=>hkne.1 (Option.some.inj e))).trans (hgr.block k hkne.2.2 (fun e=>hkne.2.1 (Option.some.inj e)))
   ·exact hB'.grown hg (by omega) (fun k e=> .inl (by cases e;omega))
   ·rcases hown' with e| ⟨g,e,hg'⟩
    ·exact .inl e
    ·exact .inr ⟨g,e,by omega⟩
   ·exact (HQ.out.2.2.2.2 g (fun e=>rows_ne S.lst.own S.nms.row (by decide) g e hg') (fun U hU=>S.nbt U hU g hg')).retop
   ·rw[hvs]at ht
    rw[HS.out,ap_fn _ rfl]
    show Tm.mk 0 (h z).nm none Q.len 0 (fun j=>if j<Q.len then can (Q.f j)else .nil)=Tm.mk 0 (h z).nm none n 0 (fun j=>if j<n then ap (nmOf (num t'')) (if j<n then std h len (z+1+j)else .nil)else .nil)
    have hl1:=S.len7
    have hl2:=HQ.out.2.2.1
    rw[hlen]
    congr 1
    funext j
    by_cases hj:j<n
    ·rw[if_pos hj,if_pos hj,if_pos hj,HQ.out.2.2.2.1 j (by omega),S.val j (by omega) t'' ht]
     congr 2
     rw[Hys.out,HLn.out]
     simp[List.getD,hj]
    ·rw[if_neg hj,if_neg hj]
  case body=>
   rintro l pre x W ⟨v',v7,ts,σ',S⟩ hpl
   go_light
   clear HI0 HHin HX2 HY HN1 HB1 HG1 HB0 HV1 HN c0 hW0 HS HNa
   have hxl:x.1<len:=HG'.out.ok.inn z hz x.1 x.2
   have hfol:Tryz.prog.follows .mixedOrders=true:=by kernel_rfl
   have hl4:ts.length<4:=by
    have hl7:ts.length=pre.length:=by rw[S.len7];simp[vals]
    omega
   obtain ⟨sa7,cp7,h7⟩: ∃sa7 cp7,v7=.slice sa7 ts.length cp7:=by
    rcases S.lst.own.2 with ⟨hv,h0⟩| ⟨g,cap,cur,hv,_⟩
    ·exact ⟨none,0,by rw[hv,h0]⟩
    ·exact ⟨_,_,hv⟩
   subst h7
   have HSd:=hid S
   have hszW:=S.sz
   have hNl:=S.nms.lt
   have hown':=S.own
   have HMl:Hid (∀k,Mr m nb nm v' k→(k<s∨r+3≤k)∧k<W.heap.size):=fun k hk=>by
    rcases hk with e|e|e|e
    ·omega
    ·omega
    ·omega
    ·have h1:=(hNl.2.2 k e).2
     rcases hown' with e'| ⟨g,e',hg'⟩
     ·rw[e']at e;have:=hN.2.2 k e;omega
     ·have h2:=e'.symm.trans e;have:=Option.some.inj h2;omega
   have HK0:Hid (∀W1,Bw (Mr m nb nm v') W.heap.size W W1→W1.cell? ⟨s,0,none⟩=some (.pointer (some ⟨vb,0,none⟩))∧W1.cell? ⟨s+1,0,none⟩=some (.func (.func 118) #[.pointer (some ⟨nb,0,none⟩)] #[])):=fun W1 hb=>⟨(Boxed.cell (show Boxed W1 s 159 _ from (hb.block s (by omega) (fun e=>by have:=HMl.out _ e;omega)).trans S.b0)),(Boxed.cell (show Boxed W1 (s+1) 161 _ from (hb.block (s+1) (by omega) (fun e=>by have:=HMl.out _ e;omega)).trans S.b1))⟩
   have HK7:Hid (∀W1,Bw (Mr m nb nm v') W.heap.size W W1→W1.heap[r]?=some (.cells #[.int .i64 0,.string (h z).nm,.slice sa7 ts.length cp7] 67)):=fun W1 hb=>(hb.block r (by omega) (fun e=>by have:=HMl.out _ e;omega)).trans S.b7
   have HRd:Hid (∀W1,Below W.heap.size W W1→Calls Tryz.prog 117 #[.pointer (some ⟨vb,0,none⟩),.int .i64 (x.1:Int),.func (.func 118) #[.pointer (some ⟨nb,0,none⟩)] #[]] W1 (RdP vb m (some ⟨b,o,none⟩) len cap h lo nb nm v' (addV t (vsL h len (vals pre))) x.1 W1)):=fun W1 hb=>HRx.out x.1 x.2 vb m _ cap σ' σ0 lo nb nm v' _ W1 w0 HV0.out hlo (S.vw.below hb) (S.nms.below hb) (by have:=hb.size;omega)
   obtain ⟨i0,hi0,hz0,hz1,hz2⟩:=info_parts Tryz.info67
   clear S hown' hNl
   gi_wp2
   refine region_round (fun W1=>W1.cell? ⟨s,0,none⟩=some (.pointer (some ⟨vb,0,none⟩))∧W1.cell? ⟨s+1,0,none⟩=some (.func (.func 118) #[.pointer (some ⟨nb,0,none⟩)] #[])) hfol (by kernel_rfl) (by rintro ⟨_,_,h⟩;exact h) (HK0.out _ (Bw.ofBelow ((Below.refl _ W).drew))) (fun hHeld=>?_)
   refine wpAnyH_take (i:=0) (v:=.pointer (some ⟨r,2,none⟩)) rfl (by kernel_rfl) (by kernel_rfl) (by kernel_rfl) (fun _ _ _ h=>h) (Or.inl ⟨by rfl,fun W1 hS1=>by obtain ⟨e0,e1⟩:=hS1;go_simp⟩) hHeld ?_
   try simp only[Act.put,List.setIfInBounds_toArray,List.set_cons_zero,List.set_cons_succ]
   refine wpAnyH_take (i:=2) (v:=.pointer (some ⟨vb,0,none⟩)) rfl (by kernel_rfl) (by kernel_rfl) (by kernel_rfl) (fun _ _ _ h=>h) (Or.inl ⟨by rfl,fun W1 hS1=>by obtain ⟨e0,e1⟩:=hS1;go_simp⟩) hHeld ?_
   try simp only[Act.put,List.setIfInBounds_toArray,List.set_cons_zero,List.set_cons_succ]
   refine wpAnyH_take (i:=3) (v:=.int .i64 (x.1:Int)) rfl (by kernel_rfl) (by kernel_rfl) (by kernel_rfl) (fun _ _ _ h=>h) (Or.inl ⟨by rfl,fun W1 hS1=>by obtain ⟨e0,e1⟩:=hS1;go_simp⟩) hHeld ?_
   try simp only[Act.put,List.setIfInBounds_toArray,List.set_cons_zero,List.set_cons_succ]
   refine wpAnyH_take (i:=4) (v:=.func (.func 118) #[.pointer (some ⟨nb,0,none⟩)] #[]) rfl (by kernel_rfl) (by kernel_rfl) (by kernel_rfl) (fun _ _ _ h=>h) (Or.inl ⟨by rfl,fun W1 hS1=>by obtain ⟨e0,e1⟩:=hS1;go_simp⟩) hHeld ?_
   try simp only[Act.put,List.setIfInBounds_toArray,List.set_cons_zero,List.set_cons_succ]
   have HL0:Hid (Below W.heap.size W W.drew):=(Below.refl _ W).drew
   have HC0:Hid (Bw (Mr m nb nm v') W.heap.size W W.drew):=Bw.ofBelow HL0.out
   refine wpAnyH_ready (rs:= [1,5,7]) (by kernel_rfl) (by simp) ?_
   refine AllReadyH.cons rfl (fun K hK=>?ga) (AllReadyH.cons rfl (fun K hK=>?gb) (AllReadyH.cons rfl (fun K hK=>?gc) AllReadyH.nil))
   case' ga=>
    have l02:=(block_cells (HK7.out _ HC0.out)).2.2.1
    go_simp
    refine hK.out _ _ hHeld (fun hHeld=>?_)
    clear hK K
    try simp only[Act.put,List.setIfInBounds_toArray,List.set_cons_zero,List.set_cons_succ]
    refine wpAnyH_take (i:=6) (v:=.int .i64 (ts.length:Int)) rfl (by kernel_rfl) (by kernel_rfl) (by kernel_rfl) (fun _ _ _ h=>h) (Or.inl ⟨by rfl,fun W1 hS1=>by obtain ⟨e0,e1⟩:=hS1;go_simp⟩) hHeld ?_
    try simp only[Act.put,List.setIfInBounds_toArray,List.set_cons_zero,List.set_cons_succ]
    have HC1:=HC0
    have HL1:=HL0
    refine wpAnyH_ready (rs:= [5,7]) (by kernel_rfl) (by simp) ?_
    refine AllReadyH.cons rfl (fun K hK=>?ha1) (AllReadyH.cons rfl (fun K hK=>?hb1) AllReadyH.nil)
    case' ha1=>
     go_simp
     refine (HRd.out _ HL1.out).mono ?_
     rintro e w5 ⟨X,v5,σ5,rfl,hX5,hA5,hV5,hN5,hb5,ho5,hn5,hval5⟩
     have HC2:=hid ((Bw.ofBelow HL1.out).trans (hb5.mono HL1.out.size))
     have HX2:Hid (TIn w5 X∧Above W.heap.size X∧VW w5 vb m (some ⟨b,o,none⟩) len cap h σ5∧NMs w5 lo nb nm v5 (addV (addV t (vsL h len (vals pre))) (vsT (std h len x.1)))∧(v5.ownBlock=v'.ownBlock∨∃g,v5.ownBlock=some g∧W.heap.size≤g)∧(∀g,v5.ownBlock=some g→NB g X)∧∀t'',addV (addV t (vsL h len (vals pre))) (vsT (std h len x.1)) <+:t''→can X=ap (nmOf (num t'')) (std h len x.1)):=⟨hX5,hA5.mono HL1.out.size,hV5,hN5,ho5.imp id (fun ⟨g,e,hg⟩=>⟨g,e,Nat.le_trans HL1.out.size hg⟩),hn5,hval5⟩
     rw[show X.val=.agg #[.int .i64 X.v,.string X.nm,.slice X.a X.len X.cap]from rfl]
     clear hX5 hA5 hV5 hN5 hb5 ho5 hn5 hval5
     refine hK.out _ _ (HK0.out _ HC2.out) (fun hHeld=>?_)
     clear hK K
     try simp only[Act.put,List.setIfInBounds_toArray,List.set_cons_zero,List.set_cons_succ]
     refine wpAnyH_ready (rs:= [7]) (by kernel_rfl) (by simp) ?_
     refine AllReadyH.cons rfl (fun K hK=>?_) AllReadyH.nil
     go_simp
     have HB3a:Below w5.heap.size w5 (w5.alloc (.cells #[.int .i64 0,.string ⟨#[]⟩,.slice none 0 0] 67)):=(Below.refl _ _).alloc (Nat.le_refl _) _
     have HC3:=hid (HC2.out.trans (Bw.ofBelow (HB3a.mono HC2.out.size)))
     have HZ3:Hid ((w5.alloc (.cells #[.int .i64 0,.string ⟨#[]⟩,.slice none 0 0] 67)).heap[w5.heap.size]?=some (.cells #[.int .i64 0,.string ⟨#[]⟩,.slice none 0 0] 67)):=heap_alloc_new _ _
     have HX3:Hid (TIn (w5.alloc (.cells #[.int .i64 0,.string ⟨#[]⟩,.slice none 0 0] 67)) X∧Above W.heap.size X∧VW (w5.alloc (.cells #[.int .i64 0,.string ⟨#[]⟩,.slice none 0 0] 67)) vb m (some ⟨b,o,none⟩) len cap h σ5∧NMs (w5.alloc (.cells #[.int .i64 0,.string ⟨#[]⟩,.slice none 0 0] 67)) lo nb nm v5 (addV (addV t (vsL h len (vals pre))) (vsT (std h len x.1)))∧(v5.ownBlock=v'.ownBlock∨∃g,v5.ownBlock=some g∧W.heap.size≤g)∧(∀g,v5.ownBlock=some g→NB g X)∧∀t'',addV (addV t (vsL h len (vals pre))) (vsT (std h len x.1)) <+:t''→can X=ap (nmOf (num t'')) (std h len x.1)):=⟨HX2.out.1.below HB3a,HX2.out.2.1,HX2.out.2.2.1.below HB3a,HX2.out.2.2.2.1.below HB3a,HX2.out.2.2.2.2⟩
     refine hK.out _ _ (HK0.out _ HC3.out) (fun hHeld=>?_)
     clear hK K HB3a
     try simp only[Act.put,List.setIfInBounds_toArray,List.set_cons_zero,List.set_cons_succ]
     have HCf:=HC3
     have HXf:=HX3
     have HZf:=HZ3
     clear hHeld
     have hHeld:=HK0.out _ HCf.out
     obtain ⟨bz,hbz⟩: ∃bz,w5.heap.size=bz:=⟨_,rfl⟩
     rw[hbz]at HZf
     try rw[hbz]
     clear hbz
     generalize (w5.alloc (.cells #[.int .i64 0,.string ⟨#[]⟩,.slice none 0 0] 67))=w4 at*
    case' hb1=>
     go_simp
     have HB2a:Below W.drew.heap.size W.drew (W.drew.alloc (.cells #[.int .i64 0,.string ⟨#[]⟩,.slice none 0 0] 67)):=(Below.refl _ _).alloc (Nat.le_refl _) _
     have HC2:=hid (HC1.out.trans (Bw.ofBelow (HB2a.mono HC1.out.size)))
     have HZ2:Hid ((W.drew.alloc (.cells #[.int .i64 0,.string ⟨#[]⟩,.slice none 0 0] 67)).heap[W.heap.size]?=some (.cells #[.int .i64 0,.string ⟨#[]⟩,.slice none 0 0] 67)):=heap_alloc_new _ _
     have HL2:=hid (HL1.out.trans (HB2a.mono HL1.out.size))
     refine hK.out _ _ (HK0.out _ HC2.out) (fun hHeld=>?_)
     clear hK K HB2a
     try simp only[Act.put,List.setIfInBounds_toArray,List.set_cons_zero,List.set_cons_succ]
     refine wpAnyH_ready (rs:= [5]) (by kernel_rfl) (by simp) ?_
     refine AllReadyH.cons rfl (fun K hK=>?_) AllReadyH.nil
     go_simp
     refine (HRd.out _ HL2.out).mono ?_
     rintro e w5 ⟨X,v5,σ5,rfl,hX5,hA5,hV5,hN5,hb5,ho5,hn5,hval5⟩
     have HC3:=hid ((Bw.ofBelow HL2.out).trans (hb5.mono HL2.out.size))
     have HX3:Hid (TIn w5 X∧Above W.heap.size X∧VW w5 vb m (some ⟨b,o,none⟩) len cap h σ5∧NMs w5 lo nb nm v5 (addV (addV t (vsL h len (vals pre))) (vsT (std h len x.1)))∧(v5.ownBlock=v'.ownBlock∨∃g,v5.ownBlock=some g∧W.heap.size≤g)∧(∀g,v5.ownBlock=some g→NB g X)∧∀t'',addV (addV t (vsL h len (vals pre))) (vsT (std h len x.1)) <+:t''→can X=ap (nmOf (num t'')) (std h len x.1)):=⟨hX5,hA5.mono HL2.out.size,hV5,hN5,ho5.imp id (fun ⟨g,e,hg⟩=>⟨g,e,Nat.le_trans HL2.out.size hg⟩),hn5,hval5⟩
     have HZ3:Hid (w5.heap[W.heap.size]?=some (.cells #[.int .i64 0,.string ⟨#[]⟩,.slice none 0 0] 67)):=(hb5.block _ (Array.getElem?_eq_some_iff.1 HZ2.out).1 (fun e=>by have:=(HMl.out _ e).2;simp at this)).trans HZ2.out
     rw[show X.val=.agg #[.int .i64 X.v,.string X.nm,.slice X.a X.len X.cap]from rfl]
     clear hX5 hA5 hV5 hN5 hb5 ho5 hn5 hval5
     refine hK.out _ _ (HK0.out _ HC3.out) (fun hHeld=>?_)
     clear hK K
     try simp only[Act.put,List.setIfInBounds_toArray,List.set_cons_zero,List.set_cons_succ]
     have HCf:=HC3
     have HXf:=HX3
     have HZf:=HZ3
     clear hHeld
     have hHeld:=HK0.out _ HCf.out
     obtain ⟨bz,hbz⟩: ∃bz,W.heap.size=bz:=⟨_,rfl⟩
     rw[hbz]at HZf
     try rw[hbz]
     clear hbz
     generalize w5=w4 at*
   case' gb=>
    go_simp
    refine (HRd.out _ HL0.out).mono ?_
    rintro e w5 ⟨X,v5,σ5,rfl,hX5,hA5,hV5,hN5,hb5,ho5,hn5,hval5⟩
    have HC1:=hid ((Bw.ofBelow HL0.out).trans (hb5.mono HL0.out.size))
    have HX1:Hid (TIn w5 X∧Above W.heap.size X∧VW w5 vb m (some ⟨b,o,none⟩) len cap h σ5∧NMs w5 lo nb nm v5 (addV (addV t (vsL h len (vals pre))) (vsT (std h len x.1)))∧(v5.ownBlock=v'.ownBlock∨∃g,v5.ownBlock=some g∧W.heap.size≤g)∧(∀g,v5.ownBlock=some g→NB g X)∧∀t'',addV (addV t (vsL h len (vals pre))) (vsT (std h len x.1)) <+:t''→can X=ap (nmOf (num t'')) (std h len x.1)):=⟨hX5,hA5.mono HL0.out.size,hV5,hN5,ho5.imp id (fun ⟨g,e,hg⟩=>⟨g,e,Nat.le_trans HL0.out.size hg⟩),hn5,hval5⟩
    rw[show X.val=.agg #[.int .i64 X.v,.string X.nm,.slice X.a X.len X.cap]from rfl]
    clear hX5 hA5 hV5 hN5 hb5 ho5 hn5 hval5
    refine hK.out _ _ (HK0.out _ HC1.out) (fun hHeld=>?_)
    clear hK K
    try simp only[Act.put,List.setIfInBounds_toArray,List.set_cons_zero,List.set_cons_succ]
    refine wpAnyH_ready (rs:= [1,7]) (by kernel_rfl) (by simp) ?_
    refine AllReadyH.cons rfl (fun K hK=>?ha2) (AllReadyH.cons rfl (fun K hK=>?hb2) AllReadyH.nil)
    case' ha2=>
     have l12:=(block_cells (HK7.out _ HC1.out)).2.2.1
     go_simp
     refine hK.out _ _ hHeld (fun hHeld=>?_)
     clear hK K
     try simp only[Act.put,List.setIfInBounds_toArray,List.set_cons_zero,List.set_cons_succ]
     refine wpAnyH_take (i:=6) (v:=.int .i64 (ts.length:Int)) rfl (by kernel_rfl) (by kernel_rfl) (by kernel_rfl) (fun _ _ _ h=>h) (Or.inl ⟨by rfl,fun W1 hS1=>by obtain ⟨e0,e1⟩:=hS1;go_simp⟩) hHeld ?_
     try simp only[Act.put,List.setIfInBounds_toArray,List.set_cons_zero,List.set_cons_succ]
     have HC2:=HC1
     have HX2:=HX1
     refine wpAnyH_ready (rs:= [7]) (by kernel_rfl) (by simp) ?_
     refine AllReadyH.cons rfl (fun K hK=>?_) AllReadyH.nil
     go_simp
     have HB3a:Below w5.heap.size w5 (w5.alloc (.cells #[.int .i64 0,.string ⟨#[]⟩,.slice none 0 0] 67)):=(Below.refl _ _).alloc (Nat.le_refl _) _
     have HC3:=hid (HC2.out.trans (Bw.ofBelow (HB3a.mono HC2.out.size)))
     have HZ3:Hid ((w5.alloc (.cells #[.int .i64 0,.string ⟨#[]⟩,.slice none 0 0] 67)).heap[w5.heap.size]?=some (.cells #[.int .i64 0,.string ⟨#[]⟩,.slice none 0 0] 67)):=heap_alloc_new _ _
     have HX3:Hid (TIn (w5.alloc (.cells #[.int .i64 0,.string ⟨#[]⟩,.slice none 0 0] 67)) X∧Above W.heap.size X∧VW (w5.alloc (.cells #[.int .i64 0,.string ⟨#[]⟩,.slice none 0 0] 67)) vb m (some ⟨b,o,none⟩) len cap h σ5∧NMs (w5.alloc (.cells #[.int .i64 0,.string ⟨#[]⟩,.slice none 0 0] 67)) lo nb nm v5 (addV (addV t (vsL h len (vals pre))) (vsT (std h len x.1)))∧(v5.ownBlock=v'.ownBlock∨∃g,v5.ownBlock=some g∧W.heap.size≤g)∧(∀g,v5.ownBlock=some g→NB g X)∧∀t'',addV (addV t (vsL h len (vals pre))) (vsT (std h len x.1)) <+:t''→can X=ap (nmOf (num t'')) (std h len x.1)):=⟨HX2.out.1.below HB3a,HX2.out.2.1,HX2.out.2.2.1.below HB3a,HX2.out.2.2.2.1.below HB3a,HX2.out.2.2.2.2⟩
     refine hK.out _ _ (HK0.out _ HC3.out) (fun hHeld=>?_)
     clear hK K HB3a
     try simp only[Act.put,List.setIfInBounds_toArray,List.set_cons_zero,List.set_cons_succ]
     have HCf:=HC3
     have HXf:=HX3
     have HZf:=HZ3
     clear hHeld
     have hHeld:=HK0.out _ HCf.out
     obtain ⟨bz,hbz⟩: ∃bz,w5.heap.size=bz:=⟨_,rfl⟩
     rw[hbz]at HZf
     try rw[hbz]
     clear hbz
     generalize (w5.alloc (.cells #[.int .i64 0,.string ⟨#[]⟩,.slice none 0 0] 67))=w4 at*
    case' hb2=>
     go_simp
     have HB2a:Below w5.heap.size w5 (w5.alloc (.cells #[.int .i64 0,.string ⟨#[]⟩,.slice none 0 0] 67)):=(Below.refl _ _).alloc (Nat.le_refl _) _
     have HC2:=hid (HC1.out.trans (Bw.ofBelow (HB2a.mono HC1.out.size)))
     have HZ2:Hid ((w5.alloc (.cells #[.int .i64 0,.string ⟨#[]⟩,.slice none 0 0] 67)).heap[w5.heap.size]?=some (.cells #[.int .i64 0,.string ⟨#[]⟩,.slice none 0 0] 67)):=heap_alloc_new _ _
     have HX2:Hid (TIn (w5.alloc (.cells #[.int .i64 0,.string ⟨#[]⟩,.slice none 0 0] 67)) X∧Above W.heap.size X∧VW (w5.alloc (.cells #[.int .i64 0,.string ⟨#[]⟩,.slice none 0 0] 67)) vb m (some ⟨b,o,none⟩) len cap h σ5∧NMs (w5.alloc (.cells #[.int .i64 0,.string ⟨#[]⟩,.slice none 0 0] 67)) lo nb nm v5 (addV (addV t (vsL h len (vals pre))) (vsT (std h len x.1)))∧(v5.ownBlock=v'.ownBlock∨∃g,v5.ownBlock=some g∧W.heap.size≤g)∧(∀g,v5.ownBlock=some g→NB g X)∧∀t'',addV (addV t (vsL h len (vals pre))) (vsT (std h len x.1)) <+:t''→can X=ap (nmOf (num t'')) (std h len x.1)):=⟨HX1.out.1.below HB2a,HX1.out.2.1,HX1.out.2.2.1.below HB2a,HX1.out.2.2.2.1.below HB2a,HX1.out.2.2.2.2⟩
     refine hK.out _ _ (HK0.out _ HC2.out) (fun hHeld=>?_)
     clear hK K HB2a
     try simp only[Act.put,List.setIfInBounds_toArray,List.set_cons_zero,List.set_cons_succ]
     refine wpAnyH_ready (rs:= [1]) (by kernel_rfl) (by simp) ?_
     refine AllReadyH.cons rfl (fun K hK=>?_) AllReadyH.nil
     have l22:=(block_cells (HK7.out _ HC2.out)).2.2.1
     go_simp
     refine hK.out _ _ hHeld (fun hHeld=>?_)
     clear hK K
     try simp only[Act.put,List.setIfInBounds_toArray,List.set_cons_zero,List.set_cons_succ]
     refine wpAnyH_take (i:=6) (v:=.int .i64 (ts.length:Int)) rfl (by kernel_rfl) (by kernel_rfl) (by kernel_rfl) (fun _ _ _ h=>h) (Or.inl ⟨by rfl,fun W1 hS1=>by obtain ⟨e0,e1⟩:=hS1;go_simp⟩) hHeld ?_
     try simp only[Act.put,List.setIfInBounds_toArray,List.set_cons_zero,List.set_cons_succ]
     have HC3:=HC2
     have HX3:=HX2
     have HZ3:=HZ2
     have HCf:=HC3
     have HXf:=HX3
     have HZf:=HZ3
     clear hHeld
     have hHeld:=HK0.out _ HCf.out
     obtain ⟨bz,hbz⟩: ∃bz,w5.heap.size=bz:=⟨_,rfl⟩
     rw[hbz]at HZf
     try rw[hbz]
     clear hbz
     generalize (w5.alloc (.cells #[.int .i64 0,.string ⟨#[]⟩,.slice none 0 0] 67))=w4 at*
   case' gc=>
    go_simp
    have HB1a:Below W.drew.heap.size W.drew (W.drew.alloc (.cells #[.int .i64 0,.string ⟨#[]⟩,.slice none 0 0] 67)):=(Below.refl _ _).alloc (Nat.le_refl _) _
    have HC1:=hid (HC0.out.trans (Bw.ofBelow (HB1a.mono HC0.out.size)))
    have HZ1:Hid ((W.drew.alloc (.cells #[.int .i64 0,.string ⟨#[]⟩,.slice none 0 0] 67)).heap[W.heap.size]?=some (.cells #[.int .i64 0,.string ⟨#[]⟩,.slice none 0 0] 67)):=heap_alloc_new _ _
    have HL1:=hid (HL0.out.trans (HB1a.mono HL0.out.size))
    refine hK.out _ _ (HK0.out _ HC1.out) (fun hHeld=>?_)
    clear hK K HB1a
    try simp only[Act.put,List.setIfInBounds_toArray,List.set_cons_zero,List.set_cons_succ]
    refine wpAnyH_ready (rs:= [1,5]) (by kernel_rfl) (by simp) ?_
    refine AllReadyH.cons rfl (fun K hK=>?ha3) (AllReadyH.cons rfl (fun K hK=>?hb3) AllReadyH.nil)
    case' ha3=>
     have l12:=(block_cells (HK7.out _ HC1.out)).2.2.1
     have l13:(W.alloc (.cells #[.int .i64 0,.string ⟨#[]⟩,.slice none 0 0] 67)).cell? ⟨r,2,none⟩=some (.slice sa7 ts.length cp7):=l12
     go_simp
     refine hK.out _ _ hHeld (fun hHeld=>?_)
     clear hK K
     try simp only[Act.put,List.setIfInBounds_toArray,List.set_cons_zero,List.set_cons_succ]
     refine wpAnyH_take (i:=6) (v:=.int .i64 (ts.length:Int)) rfl (by kernel_rfl) (by kernel_rfl) (by kernel_rfl) (fun _ _ _ h=>h) (Or.inl ⟨by rfl,fun W1 hS1=>by obtain ⟨e0,e1⟩:=hS1;go_simp⟩) hHeld ?_
     try simp only[Act.put,List.setIfInBounds_toArray,List.set_cons_zero,List.set_cons_succ]
     have HC2:=HC1
     have HL2:=HL1
     have HZ2:=HZ1
     refine wpAnyH_ready (rs:= [5]) (by kernel_rfl) (by simp) ?_
     refine AllReadyH.cons rfl (fun K hK=>?_) AllReadyH.nil
     go_simp
     refine (HRd.out _ HL2.out).mono ?_
     rintro e w5 ⟨X,v5,σ5,rfl,hX5,hA5,hV5,hN5,hb5,ho5,hn5,hval5⟩
     have HC3:=hid ((Bw.ofBelow HL2.out).trans (hb5.mono HL2.out.size))
     have HX3:Hid (TIn w5 X∧Above W.heap.size X∧VW w5 vb m (some ⟨b,o,none⟩) len cap h σ5∧NMs w5 lo nb nm v5 (addV (addV t (vsL h len (vals pre))) (vsT (std h len x.1)))∧(v5.ownBlock=v'.ownBlock∨∃g,v5.ownBlock=some g∧W.heap.size≤g)∧(∀g,v5.ownBlock=some g→NB g X)∧∀t'',addV (addV t (vsL h len (vals pre))) (vsT (std h len x.1)) <+:t''→can X=ap (nmOf (num t'')) (std h len x.1)):=⟨hX5,hA5.mono HL2.out.size,hV5,hN5,ho5.imp id (fun ⟨g,e,hg⟩=>⟨g,e,Nat.le_trans HL2.out.size hg⟩),hn5,hval5⟩
     have HZ3:Hid (w5.heap[W.heap.size]?=some (.cells #[.int .i64 0,.string ⟨#[]⟩,.slice none 0 0] 67)):=(hb5.block _ (Array.getElem?_eq_some_iff.1 HZ2.out).1 (fun e=>by have:=(HMl.out _ e).2;simp at this)).trans HZ2.out
     rw[show X.val=.agg #[.int .i64 X.v,.string X.nm,.slice X.a X.len X.cap]from rfl]
     clear hX5 hA5 hV5 hN5 hb5 ho5 hn5 hval5
     refine hK.out _ _ (HK0.out _ HC3.out) (fun hHeld=>?_)
     clear hK K
     try simp only[Act.put,List.setIfInBounds_toArray,List.set_cons_zero,List.set_cons_succ]
     have HCf:=HC3
     have HXf:=HX3
     have HZf:=HZ3
     clear hHeld
     have hHeld:=HK0.out _ HCf.out
     obtain ⟨bz,hbz⟩: ∃bz,W.heap.size=bz:=⟨_,rfl⟩
     rw[hbz]at HZf
     try rw[hbz]
     clear hbz
     generalize w5=w4 at*
    case' hb3=>
     go_simp
     refine (HRd.out _ HL1.out).mono ?_
     rintro e w5 ⟨X,v5,σ5,rfl,hX5,hA5,hV5,hN5,hb5,ho5,hn5,hval5⟩
     have HC2:=hid ((Bw.ofBelow HL1.out).trans (hb5.mono HL1.out.size))
     have HX2:Hid (TIn w5 X∧Above W.heap.size X∧VW w5 vb m (some ⟨b,o,none⟩) len cap h σ5∧NMs w5 lo nb nm v5 (addV (addV t (vsL h len (vals pre))) (vsT (std h len x.1)))∧(v5.ownBlock=v'.ownBlock∨∃g,v5.ownBlock=some g∧W.heap.size≤g)∧(∀g,v5.ownBlock=some g→NB g X)∧∀t'',addV (addV t (vsL h len (vals pre))) (vsT (std h len x.1)) <+:t''→can X=ap (nmOf (num t'')) (std h len x.1)):=⟨hX5,hA5.mono HL1.out.size,hV5,hN5,ho5.imp id (fun ⟨g,e,hg⟩=>⟨g,e,Nat.le_trans HL1.out.size hg⟩),hn5,hval5⟩
     have HZ2:Hid (w5.heap[W.heap.size]?=some (.cells #[.int .i64 0,.string ⟨#[]⟩,.slice none 0 0] 67)):=(hb5.block _ (Array.getElem?_eq_some_iff.1 HZ1.out).1 (fun e=>by have:=(HMl.out _ e).2;simp at this)).trans HZ1.out
     rw[show X.val=.agg #[.int .i64 X.v,.string X.nm,.slice X.a X.len X.cap]from rfl]
     clear hX5 hA5 hV5 hN5 hb5 ho5 hn5 hval5
     refine hK.out _ _ (HK0.out _ HC2.out) (fun hHeld=>?_)
     clear hK K
     try simp only[Act.put,List.setIfInBounds_toArray,List.set_cons_zero,List.set_cons_succ]
     refine wpAnyH_ready (rs:= [1]) (by kernel_rfl) (by simp) ?_
     refine AllReadyH.cons rfl (fun K hK=>?_) AllReadyH.nil
     have l22:=(block_cells (HK7.out _ HC2.out)).2.2.1
     go_simp
     refine hK.out _ _ hHeld (fun hHeld=>?_)
     clear hK K
     try simp only[Act.put,List.setIfInBounds_toArray,List.set_cons_zero,List.set_cons_succ]
     refine wpAnyH_take (i:=6) (v:=.int .i64 (ts.length:Int)) rfl (by kernel_rfl) (by kernel_rfl) (by kernel_rfl) (fun _ _ _ h=>h) (Or.inl ⟨by rfl,fun W1 hS1=>by obtain ⟨e0,e1⟩:=hS1;go_simp⟩) hHeld ?_
     try simp only[Act.put,List.setIfInBounds_toArray,List.set_cons_zero,List.set_cons_succ]
     have HC3:=HC2
     have HX3:=HX2
     have HZ3:=HZ2
     have HCf:=HC3
     have HXf:=HX3
     have HZf:=HZ3
     clear hHeld
     have hHeld:=HK0.out _ HCf.out
     obtain ⟨bz,hbz⟩: ∃bz,W.heap.size=bz:=⟨_,rfl⟩
     rw[hbz]at HZf
     try rw[hbz]
     clear hbz
     generalize w5=w4 at*
   all_goals
    have h4s:=HCf.out.size
    have hO4:w4.ownsRow (r+3) 67 3 (.slice sa7 ts.length cp7) ts.length (flat ts):=owns_block HSd.out.lst.own fun g hg=>HCf.out.block g (HSd.out.lst.own.lt g hg).2 (fun hk=>by
     have h1:=HSd.out.lst.own.lt g hg
     rcases hk with e|e|e|e
     ·omega
     ·omega
     ·omega
     ·exact rows_ne HSd.out.lst.own HSd.out.nms.row (by decide) g hg e)
    refine wpAnyH_ready (rs:= [8]) (by kernel_rfl) (by simp) ?_
    refine AllReadyH.cons rfl (fun K hK=>?_) AllReadyH.nil
    have zcb:=block_cells HZf.out
    have zc0:=zcb.1
    have zc1:=zcb.2.1
    have zc2:=zcb.2.2.1
    refine step_append_own_at rfl (.tmp 42) (.tmp 48) 24 rfl (r+3) 67 i0 (.agg #[.int .i64 0,.string ByteArray.empty,.slice none 0 0]) 3 48 Tryz.underlying24 hi0 hz0 hz1 hz2 rfl (by decide) (.slice sa7 ts.length cp7) ts.length (flat ts) (by simp[Act.eval]) hO4 ⟨bz,0,none⟩ 1 1 (flat [zT]) (by simp[Act.eval]) rfl (fun j u hu=>?_) (flat_one _) (by unfold maxLen;omega) (by omega) (by omega) (by omega) ?_
    ·rw[addr_add]
     match j,hu with
     |0,hu=>exact zc0.trans hu
     |1,hu=>exact zc1.trans hu
     |2,hu=>exact zc2.trans hu
    intro g6 cap6 w6 ho6 hgr6 hat6
    have hv7r: ∀g,(Value.slice sa7 ts.length cp7).ownBlock=some g→r+3≤g∧g<W.heap.size:=fun g hg=>HSd.out.lst.own.lt g hg
    have h6s:=hgr6.size
    have hg6r:r+3≤g6:=(ho6.lt g6 rfl).1
    have hr6:w6.heap[r]?=some (.cells #[.int .i64 0,.string (h z).nm,.slice sa7 ts.length cp7] 67):=(hgr6.block r (by omega) (fun e=>by have:=hv7r r e.symm;omega)).trans (HK7.out _ HCf.out)
    have HH6:Hid (w6.cell? ⟨s,0,none⟩=some (.pointer (some ⟨vb,0,none⟩))∧w6.cell? ⟨s+1,0,none⟩=some (.func (.func 118) #[.pointer (some ⟨nb,0,none⟩)] #[])):=⟨hgr6.cell hHeld.1 (fun e=>by have:=hv7r s e.symm;omega),hgr6.cell hHeld.2 (fun e=>by have:=hv7r (s+1) e.symm;omega)⟩
    refine hK.out _ _ HH6.out (fun hHeld=>?_)
    clear hK K
    have hidx:(ts.length:Int)<(ts.length:Int)+1:=by omega
    have hidx2: ¬((ts.length:Int)+1≤(ts.length:Int)):=by omega
    try simp only[Act.put,List.setIfInBounds_toArray,List.set_cons_zero,List.set_cons_succ]
    refine wpAnyH_take (i:=9) (v:=.pointer (some ⟨g6,ts.length*3,none⟩)) rfl (by kernel_rfl) (by kernel_rfl) (by kernel_rfl) (fun _ _ _ h=>h) (Or.inl ⟨by rfl,fun W1 hS1=>by obtain ⟨e0,e1⟩:=hS1;go_simp⟩) hHeld ?_
    try simp only[Act.put,List.setIfInBounds_toArray,List.set_cons_zero,List.set_cons_succ]
    refine wpAnyH_take (i:=11) (v:=.pointer (some ⟨r,2,none⟩)) rfl (by kernel_rfl) (by kernel_rfl) (by kernel_rfl) (fun _ _ _ h=>h) (Or.inl ⟨by rfl,fun W1 hS1=>by obtain ⟨e0,e1⟩:=hS1;go_simp⟩) hHeld ?_
    try simp only[Act.put,List.setIfInBounds_toArray,List.set_cons_zero,List.set_cons_succ]
    obtain ⟨r60,r61,r62,rf0,rf1,rf2⟩:=block_cells hr6
    have hlf:=flat_length ts
    have q60:w6.cell? ⟨g6,ts.length*3,none⟩=some (.int .i64 0):=(ho6.cellAt (ts.length*3) (by omega)).trans (by rw[List.getElem?_append_right (by omega),hlf,Nat.sub_self];rfl)
    have q61:w6.cell? ⟨g6,ts.length*3+1,none⟩=some (.string ⟨#[]⟩):=(ho6.cellAt (ts.length*3+1) (by omega)).trans (by rw[List.getElem?_append_right (by omega),hlf,show ts.length*3+1-ts.length*3=1 from by omega];rfl)
    have q62:w6.cell? ⟨g6,ts.length*3+2,none⟩=some (.slice none 0 0):=(ho6.cellAt (ts.length*3+2) (by omega)).trans (by rw[List.getElem?_append_right (by omega),hlf,show ts.length*3+2-ts.length*3=2 from by omega];rfl)
    have q6f: ∀i,w6.frozen? ⟨g6,i,none⟩=false:=fun i=>owns_froz ho6 i
    have qf0:=q6f (ts.length*3)
    have qf1:=q6f (ts.length*3+1)
    have qf2:=q6f (ts.length*3+2)
    have ho6':w6.ownsRow (r+3) 67 3 (.slice (some ⟨g6,0,none⟩) (ts.length+1) cap6) (ts.length+1) (flat (ts++ [zT])):=by rw[flat_append];exact ho6
    have hne6: ∀q,q<r+3→some q≠some g6:=fun q hq e=>by have:=Option.some.inj e;omega
    have hgE: ∀V:World,V.grownBy (((V.setCell ⟨g6,ts.length*3,none⟩ (.int .i64 X.v)).setCell ⟨g6,ts.length*3+1,none⟩ (.string X.nm)).setCell ⟨g6,ts.length*3+2,none⟩ (.slice X.a X.len X.cap)) (some g6):=fun V=>G.trans (G.trans (grown_set g6 _ _) (grown_set g6 _ _)) (grown_set g6 _ _)
    have hgR: ∀V:World,V.grownBy (V.setCell ⟨r,2,none⟩ (.slice (some ⟨g6,0,none⟩) (ts.length+1) cap6)) (some r):=fun V=>grown_set r 2 _
    have hB6:Bw (fun k=>(Value.slice sa7 ts.length cp7).ownBlock=some k∨k=r) w4.heap.size w4 w6:=(Bw.refl _ _ w4).grown hgr6 (Nat.le_refl _) (fun k e=> .inr (.inl e))
    have hMg: ∀k,some g6=some k→w4.heap.size≤k∨((Value.slice sa7 ts.length cp7).ownBlock=some k∨k=r):=fun k e=>by
     have e1:=Option.some.inj e
     subst e1
     rcases hat6 with e2|e2
     ·exact .inr (.inl e2.symm)
     ·exact .inl (by omega)
    have hMr: ∀k,some r=some k→w4.heap.size≤k∨((Value.slice sa7 ts.length cp7).ownBlock=some k∨k=r):=fun k e=> .inr (.inr (Option.some.inj e).symm)
    refine wpAnyH_ready (rs:= [10,12]) (by kernel_rfl) (by simp) ?_
    refine AllReadyH.cons rfl (fun K hK=>?_) (AllReadyH.cons rfl (fun K hK=>?_) AllReadyH.nil)
    ·have hOE:=owns_set ho6' (by simp) (Nat.lt_succ_self ts.length) X
     rw[flat_snocz]at hOE
     have hrE:=((hgE w6).block r (by omega) (hne6 r (by omega))).trans hr6
     have hOF:=hOE.kept (hgR _) (.inr (fun e=>hne6 r (by omega) e.symm))
     have hRF:=setL (c:=.slice (some ⟨g6,0,none⟩) (ts.length+1) cap6) hrE
     have hBF:=(hB6.grown (hgE w6) (by omega) hMg).grown (hgR (((w6.setCell ⟨g6,ts.length*3,none⟩ (.int .i64 X.v)).setCell ⟨g6,ts.length*3+1,none⟩ (.string X.nm)).setCell ⟨g6,ts.length*3+2,none⟩ (.slice X.a X.len X.cap))) (by have:=(hgE w6).size;omega) hMr
     have hOF2:=hOF
     have hRF2:=hRF
     have hBF2:=hBF
     clear hOF hRF hBF
     have HNx:=RdS.next (W':=((((w6.setCell ⟨g6,ts.length*3,none⟩ (.int .i64 X.v)).setCell ⟨g6,ts.length*3+1,none⟩ (.string X.nm)).setCell ⟨g6,ts.length*3+2,none⟩ (.slice X.a X.len X.cap)).setCell ⟨r,2,none⟩ (.slice (some ⟨g6,0,none⟩) (ts.length+1) cap6))) (w4:=w4) (X:=X) (v5:=v5) (σ5:=σ5) (x:=x.1) (g6:=g6) (cap6:=cap6) HSd.out HV0.out hlo hlw (by omega) ⟨hN.1,hN.2.1⟩ hNlo hN.2.2 HCf.out HXf.out.1 HXf.out.2.1 HXf.out.2.2.1 HXf.out.2.2.2.1 HXf.out.2.2.2.2.1 HXf.out.2.2.2.2.2.1 HXf.out.2.2.2.2.2.2 hat6 hBF2 hOF2 hRF2
     have HNh:Hid (RdS w vb m (some ⟨b,o,none⟩) len cap h lo nb nm v t s r (h z).nm (vals (pre++ [x])) ((((w6.setCell ⟨g6,ts.length*3,none⟩ (.int .i64 X.v)).setCell ⟨g6,ts.length*3+1,none⟩ (.string X.nm)).setCell ⟨g6,ts.length*3+2,none⟩ (.slice X.a X.len X.cap)).setCell ⟨r,2,none⟩ (.slice (some ⟨g6,0,none⟩) (ts.length+1) cap6)) v5 (.slice (some ⟨g6,0,none⟩) (ts.length+1) cap6) (ts++ [X]) σ5∧KeepsFrom (r+3) W ((((w6.setCell ⟨g6,ts.length*3,none⟩ (.int .i64 X.v)).setCell ⟨g6,ts.length*3+1,none⟩ (.string X.nm)).setCell ⟨g6,ts.length*3+2,none⟩ (.slice X.a X.len X.cap)).setCell ⟨r,2,none⟩ (.slice (some ⟨g6,0,none⟩) (ts.length+1) cap6))∧Kb (r+2) W ((((w6.setCell ⟨g6,ts.length*3,none⟩ (.int .i64 X.v)).setCell ⟨g6,ts.length*3+1,none⟩ (.string X.nm)).setCell ⟨g6,ts.length*3+2,none⟩ (.slice X.a X.len X.cap)).setCell ⟨r,2,none⟩ (.slice (some ⟨g6,0,none⟩) (ts.length+1) cap6))):=by rw[Hid,vals_snoc];exact HNx
     clear hOF2 hRF2 hBF2 HNx
     have rEb:=block_cells hrE
     have rE2:=rEb.2.2.1
     have rEf2:=rEb.2.2.2.2.2
     have HHe:Hid ((((w6.setCell ⟨g6,ts.length*3,none⟩ (.int .i64 X.v)).setCell ⟨g6,ts.length*3+1,none⟩ (.string X.nm)).setCell ⟨g6,ts.length*3+2,none⟩ (.slice X.a X.len X.cap)).cell? ⟨s,0,none⟩=some (.pointer (some ⟨vb,0,none⟩))∧(((w6.setCell ⟨g6,ts.length*3,none⟩ (.int .i64 X.v)).setCell ⟨g6,ts.length*3+1,none⟩ (.string X.nm)).setCell ⟨g6,ts.length*3+2,none⟩ (.slice X.a X.len X.cap)).cell? ⟨s+1,0,none⟩=some (.func (.func 118) #[.pointer (some ⟨nb,0,none⟩)] #[])):=⟨(hgE w6).cell HH6.out.1 (hne6 s (by omega)),(hgE w6).cell HH6.out.2 (hne6 (s+1) (by omega))⟩
     have HHf:Hid (((((w6.setCell ⟨g6,ts.length*3,none⟩ (.int .i64 X.v)).setCell ⟨g6,ts.length*3+1,none⟩ (.string X.nm)).setCell ⟨g6,ts.length*3+2,none⟩ (.slice X.a X.len X.cap)).setCell ⟨r,2,none⟩ (.slice (some ⟨g6,0,none⟩) (ts.length+1) cap6)).cell? ⟨s,0,none⟩=some (.pointer (some ⟨vb,0,none⟩))∧((((w6.setCell ⟨g6,ts.length*3,none⟩ (.int .i64 X.v)).setCell ⟨g6,ts.length*3+1,none⟩ (.string X.nm)).setCell ⟨g6,ts.length*3+2,none⟩ (.slice X.a X.len X.cap)).setCell ⟨r,2,none⟩ (.slice (some ⟨g6,0,none⟩) (ts.length+1) cap6)).cell? ⟨s+1,0,none⟩=some (.func (.func 118) #[.pointer (some ⟨nb,0,none⟩)] #[])):=⟨(hgR _).cell HHe.out.1 (fun e=>by have h1:s=r:=Option.some.inj e;omega),(hgR _).cell HHe.out.2 (fun e=>by have h1:s+1=r:=Option.some.inj e;omega)⟩
     go_simp
     refine hK.out _ _ HHe.out (fun hHeld=>?_)
     clear hK K
     try simp only[Act.put,List.setIfInBounds_toArray,List.set_cons_zero,List.set_cons_succ]
     refine wpAnyH_ready (rs:= [12]) (by kernel_rfl) (by simp) ?_
     refine AllReadyH.cons rfl (fun K hK=>?_) AllReadyH.nil
     go_simp
     refine hK.out _ _ HHf.out (fun hHeld=>?_)
     clear hK K
     try simp only[Act.put,List.setIfInBounds_toArray,List.set_cons_zero,List.set_cons_succ]
     refine wpAnyH_done (by kernel_rfl) ?_ _
     gi_wp2
     exact ⟨HNh.out.2.1,HNh.out.2.2,v5,_,_,σ5,HNh.out.1⟩
    ·have ho6r:=ho6'.kept (hgR w6) (.inr (fun e=>hne6 r (by omega) e.symm))
     have hOF:=owns_set ho6r (by simp) (Nat.lt_succ_self ts.length) X
     rw[flat_snocz]at hOF
     have hrr:=setL (c:=.slice (some ⟨g6,0,none⟩) (ts.length+1) cap6) hr6
     have hRF:=((hgE (w6.setCell ⟨r,2,none⟩ (.slice (some ⟨g6,0,none⟩) (ts.length+1) cap6))).block r (by have:=(hgR w6).size;omega) (hne6 r (by omega))).trans hrr
     have hBF:=(hB6.grown (hgR w6) (by omega) hMr).grown (hgE (w6.setCell ⟨r,2,none⟩ (.slice (some ⟨g6,0,none⟩) (ts.length+1) cap6))) (by have:=(hgR w6).size;omega) hMg
     have hOF2:=hOF
     have hRF2:=hRF
     have hBF2:=hBF
     clear hOF hRF hBF
     have HNx:=RdS.next (W':=((((w6.setCell ⟨r,2,none⟩ (.slice (some ⟨g6,0,none⟩) (ts.length+1) cap6)).setCell ⟨g6,ts.length*3,none⟩ (.int .i64 X.v)).setCell ⟨g6,ts.length*3+1,none⟩ (.string X.nm)).setCell ⟨g6,ts.length*3+2,none⟩ (.slice X.a X.len X.cap))) (w4:=w4) (X:=X) (v5:=v5) (σ5:=σ5) (x:=x.1) (g6:=g6) (cap6:=cap6) HSd.out HV0.out hlo hlw (by omega) ⟨hN.1,hN.2.1⟩ hNlo hN.2.2 HCf.out HXf.out.1 HXf.out.2.1 HXf.out.2.2.1 HXf.out.2.2.2.1 HXf.out.2.2.2.2.1 HXf.out.2.2.2.2.2.1 HXf.out.2.2.2.2.2.2 hat6 hBF2 hOF2 hRF2
     have HNh:Hid (RdS w vb m (some ⟨b,o,none⟩) len cap h lo nb nm v t s r (h z).nm (vals (pre++ [x])) ((((w6.setCell ⟨r,2,none⟩ (.slice (some ⟨g6,0,none⟩) (ts.length+1) cap6)).setCell ⟨g6,ts.length*3,none⟩ (.int .i64 X.v)).setCell ⟨g6,ts.length*3+1,none⟩ (.string X.nm)).setCell ⟨g6,ts.length*3+2,none⟩ (.slice X.a X.len X.cap)) v5 (.slice (some ⟨g6,0,none⟩) (ts.length+1) cap6) (ts++ [X]) σ5∧KeepsFrom (r+3) W ((((w6.setCell ⟨r,2,none⟩ (.slice (some ⟨g6,0,none⟩) (ts.length+1) cap6)).setCell ⟨g6,ts.length*3,none⟩ (.int .i64 X.v)).setCell ⟨g6,ts.length*3+1,none⟩ (.string X.nm)).setCell ⟨g6,ts.length*3+2,none⟩ (.slice X.a X.len X.cap))∧Kb (r+2) W ((((w6.setCell ⟨r,2,none⟩ (.slice (some ⟨g6,0,none⟩) (ts.length+1) cap6)).setCell ⟨g6,ts.length*3,none⟩ (.int .i64 X.v)).setCell ⟨g6,ts.length*3+1,none⟩ (.string X.nm)).setCell ⟨g6,ts.length*3+2,none⟩ (.slice X.a X.len X.cap))):=by rw[Hid,vals_snoc];exact HNx
     clear hOF2 hRF2 hBF2 HNx
     have p60:=(hgR w6).cell q60 (fun e=>hne6 r (by omega) e.symm)
     have p61:=(hgR w6).cell q61 (fun e=>hne6 r (by omega) e.symm)
     have p62:=(hgR w6).cell q62 (fun e=>hne6 r (by omega) e.symm)
     have pf: ∀i,(w6.setCell ⟨r,2,none⟩ (.slice (some ⟨g6,0,none⟩) (ts.length+1) cap6)).frozen? ⟨g6,i,none⟩=false:=fun i=>owns_froz ho6r i
     have pf0:=pf (ts.length*3)
     have pf1:=pf (ts.length*3+1)
     have pf2:=pf (ts.length*3+2)
     have HHe:Hid ((w6.setCell ⟨r,2,none⟩ (.slice (some ⟨g6,0,none⟩) (ts.length+1) cap6)).cell? ⟨s,0,none⟩=some (.pointer (some ⟨vb,0,none⟩))∧(w6.setCell ⟨r,2,none⟩ (.slice (some ⟨g6,0,none⟩) (ts.length+1) cap6)).cell? ⟨s+1,0,none⟩=some (.func (.func 118) #[.pointer (some ⟨nb,0,none⟩)] #[])):=⟨(hgR _).cell HH6.out.1 (fun e=>by have h1:s=r:=Option.some.inj e;omega),(hgR _).cell HH6.out.2 (fun e=>by have h1:s+1=r:=Option.some.inj e;omega)⟩
     have HHf:Hid (((((w6.setCell ⟨r,2,none⟩ (.slice (some ⟨g6,0,none⟩) (ts.length+1) cap6)).setCell ⟨g6,ts.length*3,none⟩ (.int .i64 X.v)).setCell ⟨g6,ts.length*3+1,none⟩ (.string X.nm)).setCell ⟨g6,ts.length*3+2,none⟩ (.slice X.a X.len X.cap)).cell? ⟨s,0,none⟩=some (.pointer (some ⟨vb,0,none⟩))∧((((w6.setCell ⟨r,2,none⟩ (.slice (some ⟨g6,0,none⟩) (ts.length+1) cap6)).setCell ⟨g6,ts.length*3,none⟩ (.int .i64 X.v)).setCell ⟨g6,ts.length*3+1,none⟩ (.string X.nm)).setCell ⟨g6,ts.length*3+2,none⟩ (.slice X.a X.len X.cap)).cell? ⟨s+1,0,none⟩=some (.func (.func 118) #[.pointer (some ⟨nb,0,none⟩)] #[])):=⟨(hgE _).cell HHe.out.1 (hne6 s (by omega)),(hgE _).cell HHe.out.2 (hne6 (s+1) (by omega))⟩
     go_simp
     refine hK.out _ _ HHe.out (fun hHeld=>?_)
     clear hK K
     try simp only[Act.put,List.setIfInBounds_toArray,List.set_cons_zero,List.set_cons_succ]
     refine wpAnyH_ready (rs:= [10]) (by kernel_rfl) (by simp) ?_
     refine AllReadyH.cons rfl (fun K hK=>?_) AllReadyH.nil
     go_simp
     refine hK.out _ _ HHf.out (fun hHeld=>?_)
     clear hK K
     try simp only[Act.put,List.setIfInBounds_toArray,List.set_cons_zero,List.set_cons_succ]
     refine wpAnyH_done (by kernel_rfl) ?_ _
     gi_wp2
     exact ⟨HNh.out.2.1,HNh.out.2.2,v5,_,_,σ5,HNh.out.1⟩
end Go.Proofs.YtmggaclaoefdaabGreat
