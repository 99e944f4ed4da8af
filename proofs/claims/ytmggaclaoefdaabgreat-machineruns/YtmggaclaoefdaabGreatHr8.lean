/- Part of the proof. -/
import Derived.Deep.Light
import Derived.Test.YtmggaclaoefdaabGreatGAO
namespace Go.Proofs.YtmggaclaoefdaabGreat
open Go.RowKit Go.Shelf Go.Proofs.Tryz
set_option linter.unusedVariables false
set_option linter.unusedSimpArgs false
set_option maxRecDepth 100000
set_option maxHeartbeats 8000000
attribute [local go_sem] Oper.semAt_some
def Mr (m nb nm:Nat) (v:Value) (k:Nat):Prop:=k=m\/Mn nb nm v k
def Tj (vb m:Nat) (a:Option Addr) (len cap:Nat) (h:Nat->Cl) (lo nb nm:Nat) (v:Value) (t:List Int) (i:Nat) (w:World) (e:Ending) (w':World):Prop:=∃(X:Tm) (v':Value) (σ':Int->Option Int),e=.returned X.val/\ay w' X/\bl w.heap.size X/\VW w' vb m a len cap h σ'/\ob w' lo nb nm v' (bg t (cz (gy h len i)))/\Bw (Mr m nb nm v) w.heap.size w w'/\(v'.ownBlock=v.ownBlock\/∃g,v'.ownBlock=some g/\w.heap.size<=g)/\(∀g,v'.ownBlock=some g->NB g X)/\∀t'',bg t (cz (gy h len i)) <+:t''->a9 X=ap (iq (jz t'')) (gy h len i)
def Uc (h:Nat->Cl) (len i:Nat):Prop:=∀(vb m:Nat) (a:Option Addr) (cap:Nat) (σ σ0:Int->Option Int) (lo nb nm:Nat) (v:Value) (t:List Int) (w w0:World),VW w0 vb m a len cap h σ0->w0.heap.size<=lo->VW w vb m a len cap h σ->ob w lo nb nm v t->lo<=w.heap.size->
 Calls prog 117 #[.pointer (some ⟨vb,0,none⟩),iV (i:Int),.func (.func 118) #[.pointer (some ⟨nb,0,none⟩)] #[]] w (Tj vb m a len cap h lo nb nm v t i w)
theorem J0 {M:Nat->Prop} {lo:Nat} {T:Tm} (hA:bl lo T) (hM: ∀k,M k->k<lo\/NB k T):NM M T:=by
 induction T with
 |nil=>trivial
 |mk v nm a len cap f ih=>
  refine ⟨fun h0=>?_,fun i hi=>ih i (hA.2 i hi) (fun k hk=>(hM k hk).imp id (fun h=>h.2 i hi))⟩
  obtain ⟨b,o,e,hb⟩:=hA.1 h0;refine ⟨b,o,e,fun hk=>?_⟩
  rcases hM b hk with h|h
  .omega
  .obtain ⟨b',o',e',hne⟩:=h.1 h0
   rw[e]at e';cases e';exact hne rfl
theorem i6.bw2 {M:Nat->Prop} {lo:Nat} {w w':World} {v:Value} {ts us:List Tm} (h:i6 lo w v ts us) (hb:Bw M w.heap.size w w') (h1: ∀g,v.ownBlock=some g->¬M g) (h2: ∀T∈ts,NM M T):i6 lo w' v ts us:=
 ⟨bc h.own (fun g hg=>hb.block g (h.own.lt g hg).2 (h1 g hg)),fun T hT=>⟨(h.all T hT).1.bw hb lZ (h2 T hT),(h.all T hT).2⟩,h.len,h.sim⟩
theorem ss {w:World} {lo lo' n n' s s':Nat} {t t':TypeId} {v v':Value} {xs ys:List Value} (h:w.ownsRow lo t s v n xs) (h':w.ownsRow lo' t' s' v' n' ys) (hne:t≠t'): ∀g,v.ownBlock=some g->v'.ownBlock≠some g:=fun g hg hg'=>by
 rcases h.2 with ⟨hv,_⟩|⟨k,cap,cur,hv,_,hk,_⟩
 .subst hv;cases hg
 .rcases h'.2 with ⟨hv',_⟩|⟨k',cap',cur',hv',_,hk',_⟩
  .subst hv';cases hg'
  .subst hv;subst hv'
   have e:k=g:=oj hg;have e':k'=g:=oj hg';subst e;subst e';rw[hk]at hk'
   injection hk' with hk'
   injection hk' with _ hk'
   exact hne hk'
noncomputable def rm (h:Nat->Cl) (len:Nat) (l:List Nat):List Int:=(l.map fun x=>cz (gy h len x)).flatten
theorem A2 (h:Nat->Cl) (len:Nat) (l:List Nat) (x:Nat):rm h len (l++ [x])=rm h len l++cz (gy h len x):=by simp[rm]
def zT:Tm:=.mk 0 ⟨#[]⟩ none 0 0 (fun _=> .nil)
structure Jh (w:World) (vb m:Nat) (a:Option Addr) (len cap:Nat) (h:Nat->Cl) (lo nb nm:Nat) (v:Value) (t:List Int) (s r:Nat) (nmz:ByteArray) (l:List Nat) (W:World) (v' v7:Value) (ts:List Tm) (σ':Int->Option Int):Prop where
 b0:Boxed W s 159 (.pointer (some ⟨vb,0,none⟩))
 b1:Boxed W (s+1) 161 (.func (.func 118) #[.pointer (some ⟨nb,0,none⟩)] #[])
 b2:W.heap[s+2]?=some (.cells #[iV 0,.string ⟨#[]⟩,.slice none 0 0] 67)
 b7:W.heap[r]?=some (.cells #[iV 0,.string nmz,v7] 67)
 lst:i6 (r+3) W v7 ts ts
 len7:ts.length=l.length
 vw:VW W vb m a len cap h σ'
 nms:ob W lo nb nm v' (bg t (rm h len l))
 bw:Bw (Mr m nb nm v) s w W
 own:v'.ownBlock=v.ownBlock\/∃g,v'.ownBlock=some g/\r+3<=g
 nbt: ∀T∈ts,∀g,v'.ownBlock=some g->NB g T
 val: ∀i,i<l.length->∀t'',bg t (rm h len l) <+:t''->a9 (ts.getD i .nil)=ap (iq (jz t'')) (gy h len (l.getD i 0))
 sz:r+3<=W.heap.size
theorem Ny (x:Int):cz (a9 (vT x))=if x=0 then []else [x]:=by rw[sm];rfl
theorem ay.nbc {w:World} {T:Tm} {k:Nat} (h:ay w T) (hk: ∃o:Obj,w.heap[k]?=some o/\o.isCells=false):NB k T:=by
 induction T with
 |nil=>trivial
 |mk v nm a len cap f ih=>
  refine ⟨fun h0=>?_,fun i hi=>ih i (h.2.2 i hi).2⟩
  obtain ⟨b,o,e,c0,_⟩:=(h.2.2 0 h0).1;refine ⟨b,o,e,fun eb=>?_⟩
  obtain ⟨o1,h1,h2⟩:=cells_of_cell c0;obtain ⟨o2,h3,h4⟩:=hk;have h1':=h1;rw[eb,h3]at h1';cases h1';rw[h2]at h4;cases h4
theorem i6.own' {lo:Nat} {X Y:World} {v:Value} {ts us:List Tm} {row:Option Nat} (h:i6 lo X v ts us) (hg:X.grownBy Y row) (hr: ∀r,row=some r->∃o:Obj,X.heap[r]?=some o/\o.isCells=false):i6 lo Y v ts us:=by
 refine ⟨h.own.kept hg ?_,fun T hT=>⟨(h.all T hT).1.grown hg (fun k e=>(h.all T hT).1.nbc (hr k e)),(h.all T hT).2⟩,h.len,h.sim⟩
 rcases h.own.2 with ⟨hv,_⟩|⟨g,cap,cur,hv,_,hgb,_⟩
 .subst hv;exact .inl rfl
 .subst hv;exact .inr (dd hr hgb rfl)
variable {w:World} {vb m:Nat} {a:Option Addr} {len cap:Nat} {h:Nat->Cl} {lo nb nm:Nat} {v:Value} {t:List Int} {s r:Nat} {nmz:ByteArray} {l:List Nat} {W:World} {v' v7:Value} {ts:List Tm} {σ':Int->Option Int}
theorem Jh.own2 (S:Jh w vb m a len cap h lo nb nm v t s r nmz l W v' v7 ts σ') {B:Nat} (hB:B=r+3) (hm:m<r+3) (hn:nm<r+3) (hsr:s<=r) {Y:World} {row:Option Nat} (hg:W.grownBy Y row) (hr: ∀q,row=some q->B<=q/\∃o:Obj,W.heap[q]?=some o/\o.isCells=false):Jh w vb m a len cap h lo nb nm v t s r nmz l Y v' v7 ts σ':=by
 have hr2:=fun q e=>(hr q e).2
 refine ⟨jh S.b0 hg hr,jh S.b1 hg hr,(hg.block _ (aZ S.b2) (dd hr2 S.b2 rfl)).trans S.b2,(hg.block _ (aZ S.b7) (dd hr2 S.b7 rfl)).trans S.b7,S.lst.own' hg hr2,S.len7,S.vw.own (by omega) hg hr,S.nms.keep fun k hk=>?_,S.bw.own (by have:=S.sz;omega) (by omega) hg hr,S.own,S.nbt,S.val,lT S.sz hg.size⟩
 have hlt:=S.nms.lt
 rcases hk with e|e|e
 .subst e;exact hg.block _ hlt.1 (dd hr2 S.nms.blk rfl)
 .subst e;exact hg.block _ hlt.2.1 (fun e=>by have:=(hr _ e.symm).1;omega)
 .refine hg.block _ (hlt.2.2 k e).2 ?_
  rcases S.nms.row.2 with ⟨hv,_⟩|⟨g,cap,cur,hv,_,hgb,_⟩
  .rw[hv]at e;cases e
  .rw[hv]at e
   have:g=k:=oj e;subst this;exact dd hr2 hgb rfl
theorem Jh.next (S:Jh w vb m a len cap h lo nb nm v t s r nmz l W v' v7 ts σ') {w0:World} {σ0:Int->Option Int} (V0:VW w0 vb m a len cap h σ0) (hlo:w0.heap.size<=lo) (hls:lo<=s) (hsr:s+3<=r) (hmn:nb<s/\nm<s) (hNlo:lo<=nb/\lo<=nm) (hv: ∀g,v.ownBlock=some g->lo<=g/\g<s)
 {w4:World} {X:Tm} {v5:Value} {σ5:Int->Option Int} {x:Nat} (hB4:Bw (Mr m nb nm v') W.heap.size W w4) (hX:ay w4 X) (hA:bl W.heap.size X) (hV:VW w4 vb m a len cap h σ5) (hN:ob w4 lo nb nm v5 (bg (bg t (rm h len l)) (cz (gy h len x)))) (h5:v5.ownBlock=v'.ownBlock\/∃g,v5.ownBlock=some g/\W.heap.size<=g) (hNX: ∀g,v5.ownBlock=some g->NB g X) (hval: ∀t'',bg (bg t (rm h len l)) (cz (gy h len x)) <+:t''->a9 X=ap (iq (jz t'')) (gy h len x))
 {g6 cap6:Nat} {W':World} (hg6:some g6=v7.ownBlock\/g6=w4.heap.size) (hBF:Bw (fun k=>v7.ownBlock=some k\/k=r) w4.heap.size w4 W') (hOF:W'.ownsRow (r+3) 67 3 (.slice (some ⟨g6,0,none⟩) (ts.length+1) cap6) (ts.length+1) (cy (ts++ [X]))) (hR:W'.heap[r]?=some (.cells #[iV 0,.string nmz,.slice (some ⟨g6,0,none⟩) (ts.length+1) cap6] 67)):
 Jh w vb m a len cap h lo nb nm v t s r nmz (l++ [x]) W' v5 (.slice (some ⟨g6,0,none⟩) (ts.length+1) cap6) (ts++ [X]) σ5/\KeepsFrom (r+3) W W'/\Kb (r+2) W W':=by
 have hm0:=V0.lt.2;have hsz:=S.sz;have hN':=S.nms.lt;have hv7: ∀g,v7.ownBlock=some g->r+3<=g/\g<W.heap.size:=fun g hg=>S.lst.own.lt g hg
 have hown': ∀g,v'.ownBlock=some g->(lo<=g/\g<s)\/(r+3<=g/\g<W.heap.size):=fun g hg=>by
  rcases S.own with e|⟨g',e,hg'⟩
  .exact .inl (hv g (e▸hg))
  .exact .inr ⟨by rw[e]at hg;have:=oj hg;omega,(hN'.2.2 g hg).2⟩
 have hM': ∀k,Mr m nb nm v' k->(k<s\/r+3<=k)/\k<W.heap.size:=fun k hk=>by
  rcases hk with e|e|e|e
  .omega
  .omega
  .omega
  .have:=hown' k e;omega
 have h4sz:=hB4.size;have hFsz:=hBF.size
 have hM7: ∀k,(v7.ownBlock=some k\/k=r)->r<=k:=fun k hk=>by
  rcases hk with e|e
  .have:=hv7 k e;omega
  .omega
 have hvv:=ss S.lst.own S.nms.row (by decide)
 have hT4: ∀T∈ts,ay w4 T:=fun T hT=>(S.lst.all T hT).1.bw hB4 lZ (J0 (S.lst.all T hT).2.1 fun k hk=>by
  rcases hk with e|e|e|e
  .exact .inl (by omega)
  .exact .inl (by omega)
  .exact .inl (by omega)
  .exact .inr (S.nbt T hT k e))
 have hO4:w4.ownsRow (r+3) 67 3 v7 ts.length (cy ts):=bc S.lst.own fun g hg=>hB4.block g (hv7 g hg).2 (fun hk=>by
  have:=hv7 g hg
  rcases hk with e|e|e|e
  .omega
  .omega
  .omega
  .exact hvv g hg e)
 have hv5: ∀g,v5.ownBlock=some g->(lo<=g/\g<s)\/r+3<=g:=fun g hg=>by
  rcases h5 with e|⟨g',e,hg'⟩
  .have:=hown' g (e▸hg);omega
  .rw[e]at hg;have:=oj hg;omega
 have h57:=ss hO4 hN.row (by decide)
 have hA3:=hA.mono hsz;have hlow: ∀k,k<r->W'.heap[k]?=w4.heap[k]?:=fun k hk=>hBF.block k (by omega) (fun e=>by have:=hM7 k e;omega)
 have hlow4: ∀k,s<=k->k<r+3->w4.heap[k]?=W.heap[k]?:=fun k h1 h2=>hB4.block k (by omega) (fun e=>by have:=(hM' k e).1;omega)
 have hNB6: ∀T:Tm,ay w4 T->(∀k,v7.ownBlock=some k->NB k T)->NB g6 T:=fun T h1 h2=>by
  rcases hg6 with e|e
  .exact h2 g6 e.symm
  .exact h1.nb (by omega)
 have hX7: ∀k,v7.ownBlock=some k->NB k X:=fun k hk=>hA.nb (hv7 k hk).2
 refine ⟨⟨?_,?_,?_,hR,⟨by rw[List.length_append];exact hOF,fun T hT=>?_,rfl,fun i hi=>Ff.refl _⟩,by rw[List.length_append,List.length_append,S.len7];rfl,V0.low hV fun k hk=>hlow k (by omega),?_,?_,?_,?_,?_,by omega⟩,⟨by omega,fun k o hk h1 h2=>?_⟩,by omega,?_⟩
 .exact (hlow s (by omega)).trans ((hlow4 s (by omega) (by omega)).trans S.b0)
 .exact (hlow (s+1) (by omega)).trans ((hlow4 (s+1) (by omega) (by omega)).trans S.b1)
 .exact (hlow (s+2) (by omega)).trans ((hlow4 (s+2) (by omega) (by omega)).trans S.b2)
 .rcases List.mem_append.1 hT with hT|hT
  .have hA:=(S.lst.all T hT).2.1
   have hN7:=(S.lst.all T hT).2.2;refine ⟨(hT4 T hT).bw hBF lZ (J0 hA fun k hk=>?_),hA,fun k hk=>?_⟩
   .rcases hk with e|e
    .exact .inr (hN7 k e)
    .exact .inl (by omega)
   .have:g6=k:=oj hk
    subst this;exact hNB6 T (hT4 T hT) hN7
  .rw[List.mem_singleton]at hT
   subst hT;refine ⟨hX.bw hBF lZ (J0 hA3 fun k hk=>?_),hA3,fun k hk=>?_⟩
   .rcases hk with e|e
    .exact .inr (hX7 k e)
    .exact .inl (by omega)
   .have:g6=k:=oj hk
    subst this;exact hNB6 _ hX hX7
 .rw[A2,fm]
  refine hN.keep fun k hk=>hBF.block k ?_ (fun e=>?_)
  .have:=hN.lt
   rcases hk with e|e|e
   .omega
   .omega
   .exact (this.2.2 k e).2
  .rcases e with e|e
   .have:=hv7 k e
    rcases hk with e'|e'|e'
    .omega
    .omega
    .exact h57 k e e'
   .rcases hk with e'|e'|e'
    .omega
    .omega
    .have:=hv5 k e';omega
 .refine S.bw.trans (Bw.trans ((hB4.mono (by omega)).wide fun k hk hm=>?_) ((hBF.mono (by omega)).wide fun k hk hm=>by have:=hM7 k hm;omega))
  rcases hm with e|e|e|e
  .exact .inl e
  .exact .inr (.inl e)
  .exact rZ (.inl e)
  .rcases S.own with e'|⟨g',e',hg'⟩
   .exact rZ (.inr (e'▸e))
   .rw[e']at e;have:=oj e;omega
 .rcases h5 with e|⟨g',e,hg'⟩
  .rw[e];exact S.own
  .exact .inr ⟨g',e,by omega⟩
 .intro T hT g hg
  rcases List.mem_append.1 hT with hT|hT
  .rcases h5 with e|⟨g',e,hg'⟩
   .exact S.nbt T hT g (e▸hg)
   .exact (S.lst.all T hT).1.nb (by rw[e]at hg;have:=oj hg;omega)
  .rw[List.mem_singleton]at hT
   subst hT;exact hNX g hg
 .intro i hi t'' ht
  rw[A2,fm]at ht;rw[List.length_append]at hi;have hi':i<l.length+1:=hi
  by_cases h2:i<l.length
  .have e:(ts++ [X]).getD i .nil=ts.getD i .nil:=by simp[List.getD,List.getElem?_append_left (show i<ts.length by rw[S.len7];exact h2)]
   have e':(l++ [x]).getD i 0=l.getD i 0:=by simp[List.getD,List.getElem?_append_left h2]
   rw[e,e'];exact S.val i h2 t'' ((mx _ _).trans ht)
  .obtain rfl:i=l.length:=by omega
   have e:(ts++ [X]).getD l.length .nil=X:=by rw[<-S.len7];simp[List.getD]
   have e':(l++ [x]).getD l.length 0=x:=by simp[List.getD]
   rw[e,e'];exact hval t'' ht
 .have hkW:=(aZ h1)
  refine (hBF.block k (by omega) (fun e=>?_)).trans ((hB4.block k hkW (fun e=>?_)).trans h1)
  .rcases e with e|e
   .rcases S.lst.own.2 with ⟨hv,_⟩|⟨g,cap,cur,hv,_,hgb,_⟩
    .rw[hv]at e;cases e
    .rw[hv]at e
     have:g=k:=oj e;subst this;rw[hgb]at h1;cases h1;cases h2
   .omega
  .rcases e with e|e|e|e
   .omega
   .omega
   .omega
   .rcases S.nms.row.2 with ⟨hv,_⟩|⟨g,cap,cur,hv,_,hgb,_⟩
    .rw[hv]at e;cases e
    .rw[hv]at e
     have:g=k:=oj e;subst this;rw[hgb]at h1;cases h1;cases h2
 .refine (hBF.block (r+2) (by omega) (fun e=>?_)).trans (hlow4 (r+2) (by omega) (by omega))
  rcases e with e|e
  .have:=hv7 _ e;omega
  .omega
theorem i6.exact {lo:Nat} {w:World} {v:Value} {ts us:List Tm} (h:i6 lo w v ts us):
 ∃T:Tm,v=.slice T.a T.len T.cap/\ay w T/\bl lo T/\T.len=ts.length/\(∀i,i<T.len->T.f i=ts.getD i .nil)/\∀k,v.ownBlock≠some k->(∀U∈ts,NB k U)->NB k T:=by
 have hget: ∀i (hi:i<ts.length),ts.getD i .nil=ts[i]:=fun i hi=>by simp[List.getD,gE hi]
 rcases h.own.2 with ⟨rfl,h0⟩|⟨g,cap,cur,rfl,hlo,hgg,hnc,hcm,hsz,htk⟩
 .exact ⟨.mk 0 ⟨#[]⟩ none 0 0 (fun _=> .nil),rfl,⟨oZ,oZ,fun i hi=>absurd hi (nL i)⟩,⟨fun h=>absurd h (Nat.lt_irrefl 0),fun i hi=>absurd hi (nL i)⟩,h0.symm,fun i hi=>absurd hi (nL i),fun k _ _=>⟨fun h=>absurd h (Nat.lt_irrefl 0),fun i hi=>absurd hi (nL i)⟩⟩
 .refine ⟨.mk 0 ⟨#[]⟩ (some (dZ g 0)) ts.length cap (fun i=>ts.getD i .nil),rfl,⟨oZ,(show ts.length<=maxLen from lT hnc hcm),fun i hi=>?_⟩,⟨fun _=>⟨g,0,rfl,hlo⟩,fun i hi=>?_⟩,rfl,fun i hi=>rfl,fun k hk hU=>⟨fun _=>⟨g,0,rfl,fun e=>hk (by rw[<-e];rfl)⟩,fun i hi=>?_⟩⟩
  .obtain ⟨f0,f1,f2⟩:=km ts i hi
   have hm:=h.all _ (List.getElem_mem hi)
   show fe w _ i (ts.getD i .nil)/\ay w (ts.getD i .nil)
   rw[hget i hi];refine ⟨⟨g,0,rfl,?_,?_,?_⟩,hm.1⟩
   .rw[Nat.zero_add];exact (h.own.cellAt (i*3) (by omega)).trans f0
   .rw[Nat.zero_add];exact (h.own.cellAt (i*3+1) (by omega)).trans f1
   .rw[Nat.zero_add];exact (h.own.cellAt (i*3+2) (by omega)).trans f2
  .show bl lo (ts.getD i .nil)
   rw[hget i hi];exact (h.all _ (List.getElem_mem hi)).2.1
  .show NB k (ts.getD i .nil)
   rw[hget i hi];exact hU _ (List.getElem_mem hi)
theorem vm (ts:List Tm) (X:Tm):(ts++ [zT]).set ts.length X=ts++ [X]:=by simp
theorem G3 {h:Nat->Cl} {len:Nat} (H:HG h len) (hlb:len<=1000000): ∀i,i<len->Uc h len i:=by
 refine H.ind fun i hi ih=>?_
 intro vb m a cap σ σ0 lo nb nm v t w w0 V0 hlo V N hlw;have HV0:=hid V0;have HG':=hid H;have HN:=hid N;have hmw0:=V0.lt.2;have hvw0:=V0.lt.1;have hN:=N.lt;have hNlo:=N.lo;obtain ⟨W0,hW0⟩: ∃W0,((w.alloc (.cells #[pZ vb] 159)).alloc (.cells #[.func (.func 118) #[pZ nb] #[]] 161)).alloc (.cells #[iV 0,.string ⟨#[]⟩,nZ] 67)=W0:=⟨_,rfl⟩;have hB0:Below w.heap.size w W0:=by rw[<-hW0];exact (bA.alloc (by simp) _).alloc (by simp;omega) _
 have hs0:W0.heap.size=w.heap.size+3:=by rw[<-hW0];simp
 have x0:Boxed W0 w.heap.size 159 (pZ vb):=by rw[<-hW0];exact ((Boxed.new w _ _).alloc _).alloc _
 have x1:Boxed W0 (w.heap.size+1) 161 (.func (.func 118) #[pZ nb] #[]):=by
  rw[<-hW0];have:=(Boxed.new (w.alloc (.cells #[pZ vb] 159)) 161 (.func (.func 118) #[pZ nb] #[])).alloc (.cells #[iV 0,.string ⟨#[]⟩,nZ] 67)
  rwa [World.size_alloc]at this
 have x2:W0.heap[w.heap.size+2]?=some (.cells #[iV 0,.string ⟨#[]⟩,nZ] 67):=by
  rw[<-hW0];have:=hZ ((w.alloc (.cells #[pZ vb] 159)).alloc (.cells #[.func (.func 118) #[pZ nb] #[]] 161)) (.cells #[iV 0,.string ⟨#[]⟩,nZ] 67)
  rwa [World.size_alloc,World.size_alloc]at this
 have c0:=x0.cell;have HX:Hid (Boxed W0 w.heap.size 159 (pZ vb)/\Boxed W0 (w.heap.size+1) 161 (.func (.func 118) #[pZ nb] #[])/\W0.heap[w.heap.size+2]?=some (.cells #[iV 0,.string ⟨#[]⟩,nZ] 67)):=⟨x0,x1,x2⟩;have HB0:=hid hB0;have HDe:=hid (kd H hlb hi W0 (V.below hB0));have hz:=H.end_lt hi;have Hor:=H.end_or hi;have HSv:Hid ((h (aj h len i)).k=1->gy h len i=a9 (vT ((aj h len i:Int)+1))):=fun e=>sp e
 have HSf:Hid (∀n:Nat,(h (aj h len i)).k=2->(h (aj h len i)).n=(n:Int)->gy h len i=.mk 0 (h (aj h len i)).nm none n 0 (fun j=>if j<n then gy h len (aj h len i+1+j)else .nil)):=fun n e e'=>zm H hi e e'
 have HIH:=hid ih;have HNa:=hid (V.row.nm _ hz);generalize aj h len i=z at*;generalize hs:w.heap.size=s at*;clear V0 V N H hi x0 x1 x2 hB0 ih;refine (callsIn_wide (n:=5)).1 (callsIn_of_wp_marks Tryz.func117 rfl trivial (wpIn_wide.2 ?_) rfl);simp only[Tryz.ntmps117,List.size_toArray,List.length_cons,List.length_nil,Nat.reduceAdd,Nat.reduceSub,Array.replicate_succ,Array.replicate_zero,List.push_toArray,List.append_toArray,List.nil_append,List.cons_append];go_wp2_with fail
 try rw[hW0]
 refine HDe.o.mono ?_;rintro e w1 ⟨rfl,⟨σ1,hV1⟩,hg1⟩;have HV1:=hid hV1;have HG1:=hid hg1;have hs1:=hg1.size;obtain ⟨b,o,rfl,k0,k1,k2⟩:=hV1.row.row z hz;obtain ⟨v0,v1⟩:=hV1.cells;have y0:=HX.o.1.kept hg1 (by intro e;have:=oj e;omega)
 have y1:=HX.o.2.1.kept hg1 (by intro e;have:=oj e;omega)
 have y2:=(hg1.block (s+2) (by omega) (by intro e;have:=oj e;omega)).trans HX.o.2.2
 have d0:=y0.cell;have d1:=y1.cell;obtain ⟨e0,e1,e2,ef0,ef1,ef2⟩:=ae y2;have HY:Hid (Boxed w1 s 159 (pZ vb)/\Boxed w1 (s+1) 161 (.func (.func 118) #[pZ nb] #[])/\w1.heap[s+2]?=some (.cells #[iV 0,.string ⟨#[]⟩,nZ] 67)):=⟨y0,y1,y2⟩
 have HN1:Hid (ob w1 lo nb nm v t):=(HN.o.below (by rw[hs];exact HB0.o)).keep fun k hk=>hg1.block k (by
  have h1:=hN.2.2
  rcases hk with e|e|e
  .omega
  .omega
  .have:=h1 k e;omega) (fun e=>by
  have h1:=hN.2.2;have h2:=oj e
  rcases hk with e|e|e
  .omega
  .omega
  .have:=h1 k e;omega)
 have HB1:Hid (Bw (Mr m nb nm v) s w w1):=(Bw.ofBelow HB0.o).grown hg1 (by omega) (fun k e=> .inr (.inl (oj e).symm))
 have hzI:(z:Int)<(len:Int):=by omega
 clear hV1 hg1 HDe HX y0 y1 y2
 rcases Hor with ⟨hk,hkn⟩|hk
 .have hkb:((h z).k==1)=true:=by rw[hk];rfl
  have HNu:=hid (Lu z (by omega) w1 HN1.o (by omega))
  have HS:=hid (HSv.o hk);clear hk hkn;go_wp2_with fail;refine HNu.o.mono ?_;rintro e w2 ⟨v',rfl,hN2,hB2,hat2⟩
  have hMn: ∀k,Mn nb nm v k->k<s:=fun k hk=>by
   have h1:=hN.2.2
   rcases hk with e|e|e
   .omega
   .omega
   .have:=h1 k e;omega
  have hMl: ∀k,Mn nb nm v k->lo<=k:=fun k hk=>by
   have h1:=hN.2.2
   rcases hk with e|e|e
   .omega
   .omega
   .have:=h1 k e;omega
  have y2:w2.heap[s+2]?=some (.cells #[iV 0,.string ⟨#[]⟩,nZ] 67):=(hB2.block (s+2) (by omega) (fun e=>by have:=hMn _ e;omega)).trans HY.o.2.2
  obtain ⟨g0,g1,g2,gf0,gf1,gf2⟩:=ae y2;have HY2:=hid y2;have HB2:Hid (Bw (Mr m nb nm v) w.heap.size w w2):=by rw[Hid,hs];exact HB1.o.trans ((hB2.mono (by omega)).wide (fun k _ hk=> .inr hk))
  have HN2:=hid hN2;have HV2:Hid (VW w2 vb m (some (dZ b o)) len cap h σ1):=HV0.o.low HV1.o fun k hk=>hB2.block k (by omega) (fun e=>by have:=hMl _ e;omega)
  have Hat:Hid (v'.ownBlock=v.ownBlock\/∃g,v'.ownBlock=some g/\w.heap.size<=g):=by
   rw[Hid,hs]
   rcases hat2 with e|⟨g,e,hg⟩
   .exact .inl e
   .exact .inr ⟨g,e,by omega⟩
  have Hlt2:Hid (∀k,Mn nb nm v' k->k≠s+2):=fun k hk=>by
   have h1:=hN.2.2
   rcases hk with e|e|e
   .omega
   .omega
   .rcases hat2 with e'|⟨g,e',hg⟩
    .rw[e']at e;have:=h1 k e;omega
    .rw[e']at e;have:=oj e;omega
  have hw2s:s+3<=w2.heap.size:=by have:=hB2.size;omega
  clear hN2 hB2 hat2 y2;generalize hnum:jz (bg t [(z:Int)+1]) ((z:Int)+1)=nv at*;go_wp2_with fail;obtain ⟨W',hW',z0,z1,z2,hB',hgr⟩:=tm (r:=s+2) (by omega) HY2.o HB2.o (iV nv) (.string ⟨#[]⟩) nZ
  have hW'':=hW';rw[show s+2=s+1+1 from rfl]at hW''
  first|rw[hW'']|rw[hW']
  have hvs:cz (gy h len i)= [(z:Int)+1]:=by rw[HS.o,Ny,if_neg (by omega)]
  refine ⟨_,?_,.mk nv ⟨#[]⟩ none 0 0 (fun _=> .nil),v',σ1,rfl,⟨oZ,oZ,fun j hj=>absurd hj (nL j)⟩,⟨fun h=>absurd h (Nat.lt_irrefl 0),fun j hj=>absurd hj (nL j)⟩,?_,?_,hB',Hat.o,fun g _=>⟨fun h=>absurd h (Nat.lt_irrefl 0),fun j hj=>absurd hj (nL j)⟩,fun t'' ht=>?_⟩
  .simp[results,Tryz.results117,go_sem,z0,z1,z2,Tm.val,Tm.v,Tm.nm,Tm.a,Tm.len,Tm.cap]
  .exact HV0.o.low HV2.o fun k hk=>hgr.block k (by omega) (fun e=>by have:=oj e;omega)
  .rw[hvs];exact HN2.o.keep fun k hk=>hgr.block k (by
   have h1:=HN2.o.lt
   rcases hk with e|e|e
   .omega
   .omega
   .exact (h1.2.2 k e).2) (fun e=>Hlt2.o k hk (oj e))
  .rw[hvs]at ht
   rw[HS.o,mj,jf _ (show (vT ((z:Int)+1)).v≠0 from by show (z:Int)+1≠0;omega)]
   show a9 _=a9 (vT (jz t'' ((z:Int)+1)))
   rw[sw ht (Cs _ _ _ (by simp)),hnum]
   exact j8 rfl rfl rfl (fun j hj=>absurd hj (nL j))
 .have hkb:((h z).k==1)=false:=by rw[hk];rfl
  obtain ⟨n,hn⟩: ∃n:Nat,(h z).n=n:=⟨(h z).n.toNat,by have:=HG'.o.ok.n0 z hz;omega⟩
  have hn4:n<=4:=by have:=HG'.o.ok.n4 z hz (by omega);omega
  have HS:=hid (HSf.o n hk hn);have HLn:Hid (leads h z=(List.range n).map fun j=>z+1+j):=by unfold leads;rw[Hid,if_neg (by omega),hn];rfl
  have HRx:Hid (∀x∈leads h z,Uc h len x):=fun x hx=>by
   rw[HLn.o]at hx;obtain ⟨j,hj,rfl⟩:=List.mem_map.1 hx;exact HIH.o j hk (by have:=List.mem_range.1 hj;omega)
  have HLd:Hid (∀(i:Nat) W,Calls prog 88 #[.slice (some (dZ b o)) len cap,iV i] W fun e w'=>e=.returned (.func (.func 126) #[] #[pZ W.heap.size,pZ (W.heap.size+1)])/\w'=(W.alloc (.cells #[.slice (some (dZ b o)) len cap] 25)).alloc (.cells #[iV i] 3)):=fun i W=>ns _ len cap i W
  have hkk:(h z).k=1\/(h z).k=2:=.inr hk;have hB2:Below w1.heap.size w1 (w1.alloc (.cells #[iV 0,.string (h z).nm,nZ] 67)):=bA;have d0a:=(HY.o.1.alloc (.cells #[iV 0,.string (h z).nm,nZ] 67)).cell;have v0a:=(HV1.o.below hB2).cells.1;clear hk hn HSf HSv HIH;go_wp2_with fail;refine (HLd.o z _).mono ?_;rintro e w2 ⟨rfl,hw2⟩;have hB3:Below w1.heap.size w1 w2:=by rw[hw2];exact (hB2.alloc (by simp) _).alloc (by simp;omega) _
  have hx2:w2.heap[w1.heap.size+1]?=some (.cells #[.slice (some (dZ b o)) len cap] 25)/\w2.heap[w1.heap.size+2]?=some (.cells #[iV (z:Int)] 3):=by
   have:=oq (w1.alloc (.cells #[iV 0,.string (h z).nm,nZ] 67)) (.cells #[.slice (some (dZ b o)) len cap] 25) (.cells #[iV (z:Int)] 3);rw[hw2]
   rwa [World.size_alloc]at this
  have hx7:w2.heap[w1.heap.size]?=some (.cells #[iV 0,.string (h z).nm,nZ] 67):=by
   rw[hw2,jZ _ _ (by simp;omega),jZ _ _ (by simp)]
   exact hZ w1 _
  have hs2:w2.heap.size=w1.heap.size+3:=by rw[hw2];simp
  have HI0:Hid (∃v' v7 ts σ',Jh w vb m (some (dZ b o)) len cap h lo nb nm v t s w1.heap.size (h z).nm (bh ([]:List (Cq fun x=>x∈leads h z))) w2 v' v7 ts σ'):=by
   refine ⟨v,nZ,[],σ1,(hB3.block _ HY.o.1.lt).trans HY.o.1,(hB3.block _ HY.o.2.1.lt).trans HY.o.2.1,(hB3.block _ (by omega)).trans HY.o.2.2,hx7,⟨World.ownsRow_nil _ _ _ _,fun T h=>(by cases h),rfl,fun i hi=>absurd hi (nL i)⟩,rfl,HV1.o.below hB3,HN1.o.below hB3,HB1.o.trans (Bw.ofBelow (hB3.mono (by omega))),.inl rfl,fun T h=>(by cases h),fun i hi=>absurd hi (nL i),by omega⟩
  have HHin:=hid (HV1.o.row.below hB3);have HX2:=hid hx2;have hs13:s+3<=w1.heap.size:=by omega
  clear hw2 hx2 hx7 hB3 hB2 d0a v0a k0 k1 k2 v0 v1 d0 d1 e0 e1 e2 ef0 ef1 ef2 HLd;have hll:(leads h z).length=n:=by rw[HLn.o];simp
  go_wp2_with fail;generalize hr:w1.heap.size=r at*
  refine wpIn_wide.1 (wpIn_rangeFunc_ownG (n:=5) rfl (by omega) (gf:=126) (lb:= #[pZ (r+1),pZ (r+2)]) rfl trivial (enters_of Tryz.func126 (by kernel_rfl) rfl)
   (Am (p:=fun x=>x∈leads h z) 4 hz (fun x hx=>hx) (r+1) (r+2) w2 HHin.o HG'.o.ok hkk hlb HX2.o.1 HX2.o.2) (fun h k=>Kb.t h k) (Kb.b (by omega)) bR (fun _=>rfl)
   (fun ci W=>∃v' v7 ts σ',Jh w vb m (some (dZ b o)) len cap h lo nb nm v t s r (h z).nm (bh ci) W v' v7 ts σ') (fun _ _ _=>False)
   (fun ci X Y row hs' hg hr'=>by
     obtain ⟨v',v7,ts,σ',S⟩:=hs';have hlr:lo<=r:=by omega
     exact ⟨v',v7,ts,σ',S.own2 hs2 (by omega) (by omega) (by omega) hg hr'⟩) (fun _ _ _ _ _ hs _ _=>hs)
   HI0.o
   (fun x=> { tmps:= #[pZ vb,iV (z:Int),.func (.func 118) #[pZ nb] #[],pZ s,undef,pZ (s+1),pZ (s+2),pZ r,iV (x.1:Int),pZ vb,iV (i:Int),iV (z:Int),pZ vb,pZ vb,pZ vb,.slice (some (dZ b o)) len cap,iV (z:Int),.pointer (some (dZ b (o+z*3))),.pointer (some (dZ b (o+z*3))),iV (h z).k,.bool false,undef,undef,undef,undef,pZ vb,pZ vb,pZ vb,.slice (some (dZ b o)) len cap,iV (z:Int),.pointer (some (dZ b (o+z*3))),.pointer (some (dZ b (o+z*3+2))),.string (h z).nm,.agg #[iV 0,.string (h z).nm,nZ],pZ vb,pZ vb,pZ vb,.slice (some (dZ b o)) len cap,iV (z:Int),.func (.func 126) #[] #[pZ (r+1),pZ (r+2)],iV (x.1:Int),undef,undef,undef,undef,undef,undef,undef,undef,undef,undef,undef,undef],defers:= []}) ?assign ?body ?done ?stop)
  case stop=>exact fun _ _ _ _ _ _ h _=>h.elim
  case assign=>
   intro l x W K hK
   gi_wp2
   exact hK
  case done=>
   rintro D ys W hD hys ⟨v',v7,ts,σ',S⟩ hDK;obtain ⟨Q,hvQ,hQ,hQA,hQL,hQE,hQN⟩:=S.lst.exact;subst hvQ;obtain ⟨c70,c71,c72,_,_,_⟩:=ae S.b7;obtain ⟨c20,c21,c22,f20,f21,f22⟩:=ae S.b2;have HSd:=hid S;have HQ:Hid (ay W Q/\bl (r+3) Q/\Q.len=ts.length/\(∀i,i<Q.len->Q.f i=ts.getD i .nil)/\∀k,(Value.slice Q.a Q.len Q.cap).ownBlock≠some k->(∀U∈ts,NB k U)->NB k Q):=⟨hQ,hQA,hQL,hQE,hQN⟩;have HDK:=hid hDK;have Hys:=hid hys;clear hQ hQA hQL hQE hQN hDK hys S;go_wp2_with fail;have S:=HSd.o;obtain ⟨W',hW',z0,z1,z2,hB',hgr⟩:=tm (w:=w) (r:=s+2) (by omega) S.b2 (by rw[hs];exact S.bw) (iV 0) (.string (h z).nm) (.slice Q.a Q.len Q.cap)
   have hW'':=hW';rw[show s+2=s+1+1 from rfl]at hW''
   first|rw[hW'']|rw[hW']
   have hszW:=S.sz;have hDW:D<W.heap.size:=(aZ HDK.o);have hDK':W'.heap[D]?=some (.deferred (some [])):=(hgr.block D hDW (fun e=>by have:=oj e;omega)).trans HDK.o
   have hg:=grownBy_putObj' W' D (.deferred none);have hsW':=hgr.size;have hnD: ∃o:Obj,W'.heap[D]?=some o/\o.isCells=false:=⟨_,hDK',rfl⟩;refine ⟨by simp,.inl ⟨_,_,rfl,run_takeDeferred hDK',?_⟩⟩
   have q0:=hg.cell z0 (by intro e;have h1:s+2=D:=oj e;omega)
   have q1:=hg.cell z1 (by intro e;have h1:s+2=D:=oj e;omega)
   have q2:=hg.cell z2 (by intro e;have h1:s+2=D:=oj e;omega)
   have hown':=S.own;have hNl:=S.nms.lt;have hQ':ay W' Q:=HQ.o.1.grown hgr (fun k hk=>by obtain rfl:=oj hk;exact HQ.o.2.1.nb (by omega))
   have hQ2:ay (W'.putObj D (.deferred none)) Q:=hQ'.grown hg (fun k hk=>by obtain rfl:=oj hk;exact hQ'.nbc hnD)
   have hlen:Q.len=n:=by
    rw[HQ.o.2.2.1,S.len7,Hys.o,HLn.o];simp
   have hvs:cz (gy h len i)=rm h len (bh ys):=by
    rw[HS.o,Hys.o,HLn.o]
    show (if (0:Int)=0 then ((List.range n).map fun j=>cz (if j<n then gy h len (z+1+j)else .nil)).flatten else [0])=_
    rw[if_pos rfl];unfold rm;rw[List.map_map]
    congr 1
    apply List.map_congr_left
    intro j hj;rw[if_pos (List.mem_range.1 hj)]
    rfl
   refine ⟨_,?_,.mk 0 (h z).nm Q.a Q.len Q.cap Q.f,v',σ',rfl,hQ2.retop HNa.o,(HQ.o.2.1.mono (by omega)).retop,?_,?_,?_,?_,fun g hg'=>?_,fun t'' ht=>?_⟩
   .simp[results,Tryz.results117,go_sem,q0,q1,q2,Tm.val,Tm.v,Tm.nm,Tm.a,Tm.len,Tm.cap]
   .exact HV0.o.low S.vw fun k hk=>(hg.block k (by omega) (fun e=>by have:=oj e;omega)).trans (hgr.block k (by omega) (fun e=>by have:=oj e;omega))
   .rw[hvs]
    refine S.nms.keep fun k hk=>?_
    have hkne:k≠D/\k≠s+2/\k<W.heap.size:=by
     rcases hk with e|e|e
     .omega
     .omega
     .have h1:=(hNl.2.2 k e).2
      refine ⟨fun eD=>?_,?_,h1⟩
      .rcases S.nms.row.2 with ⟨hv,_⟩|⟨g,cap,cur,hv,_,hgb,_⟩
       .rw[hv]at e;cases e
       .rw[hv]at e
        have:g=k:=oj e;subst this;rw[eD,HDK.o]at hgb;cases hgb
      .rcases hown' with e'|⟨g,e',hg'⟩
       .rw[e']at e;have:=hN.2.2 k e;omega
       .rw[e']at e;have:=oj e;omega
    exact (hg.block k (by omega) (fun e=>hkne.1 (oj e))).trans (hgr.block k hkne.2.2 (fun e=>hkne.2.1 (oj e)))
   .exact hB'.grown hg (by omega) (fun k e=> .inl (by cases e;omega))
   .rcases hown' with e|⟨g,e,hg'⟩
    .exact .inl e
    .exact .inr ⟨g,e,by omega⟩
   .exact (HQ.o.2.2.2.2 g (fun e=>ss S.lst.own S.nms.row (by decide) g e hg') (fun U hU=>S.nbt U hU g hg')).retop
   .rw[hvs]at ht
    rw[HS.o,kv _ rfl]
    show Tm.mk 0 (h z).nm none Q.len 0 (fun j=>if j<Q.len then a9 (Q.f j)else .nil)=Tm.mk 0 (h z).nm none n 0 (fun j=>if j<n then ap (iq (jz t'')) (if j<n then gy h len (z+1+j)else .nil)else .nil)
    have hl1:=S.len7;have hl2:=HQ.o.2.2.1;rw[hlen]
    congr 1
    funext j
    by_cases hj:j<n
    .rw[if_pos hj,if_pos hj,if_pos hj,HQ.o.2.2.2.1 j (by omega),S.val j (by omega) t'' ht]
     congr 2
     rw[Hys.o,HLn.o];simp[List.getD,hj]
    .rw[if_neg hj,if_neg hj]
  case body=>
   rintro l ci x W ⟨v',v7,ts,σ',S⟩ hpl
   go_light
   clear HI0 HHin HX2 HY HN1 HB1 HG1 HB0 HV1 HN c0 hW0 HS HNa;have hxl:x.1<len:=HG'.o.ok.inn z hz x.1 x.2;have hfol:prog.follows .mixedOrders=true:=by kernel_rfl
   have hl4:ts.length<4:=by
    have hl7:ts.length=ci.length:=by rw[S.len7];simp[bh]
    omega
   obtain ⟨sa7,cp7,h7⟩: ∃sa7 cp7,v7=.slice sa7 ts.length cp7:=by
    rcases S.lst.own.2 with ⟨hv,h0⟩|⟨g,cap,cur,hv,_⟩
    .exact ⟨none,0,by rw[hv,h0]⟩
    .exact ⟨_,_,hv⟩
   subst h7;have HSd:=hid S;have hszW:=S.sz;have hNl:=S.nms.lt;have hown':=S.own
   have HMl:Hid (∀k,Mr m nb nm v' k->(k<s\/r+3<=k)/\k<W.heap.size):=fun k hk=>by
    rcases hk with e|e|e|e
    .omega
    .omega
    .omega
    .have h1:=(hNl.2.2 k e).2
     rcases hown' with e'|⟨g,e',hg'⟩
     .rw[e']at e;have:=hN.2.2 k e;omega
     .have h2:=e'.symm.trans e;have:=oj h2;omega
   have HK0:Hid (∀W1,Bw (Mr m nb nm v') W.heap.size W W1->W1.cell? (dZ s 0)=some (pZ vb)/\W1.cell? (dZ (s+1) 0)=some (.func (.func 118) #[pZ nb] #[])):=fun W1 hb=>⟨(Boxed.cell (show Boxed W1 s 159 _ from (hb.block s (by omega) (fun e=>by have:=HMl.o _ e;omega)).trans S.b0)),(Boxed.cell (show Boxed W1 (s+1) 161 _ from (hb.block (s+1) (by omega) (fun e=>by have:=HMl.o _ e;omega)).trans S.b1))⟩
   have HK7:Hid (∀W1,Bw (Mr m nb nm v') W.heap.size W W1->W1.heap[r]?=some (.cells #[iV 0,.string (h z).nm,.slice sa7 ts.length cp7] 67)):=fun W1 hb=>(hb.block r (by omega) (fun e=>by have:=HMl.o _ e;omega)).trans S.b7
   have HRd:Hid (∀W1,Below W.heap.size W W1->Calls prog 117 #[pZ vb,iV (x.1:Int),.func (.func 118) #[pZ nb] #[]] W1 (Tj vb m (some (dZ b o)) len cap h lo nb nm v' (bg t (rm h len (bh ci))) x.1 W1)):=fun W1 hb=>HRx.o x.1 x.2 vb m _ cap σ' σ0 lo nb nm v' _ W1 w0 HV0.o hlo (S.vw.below hb) (S.nms.below hb) (by have:=hb.size;omega)
   obtain ⟨i0,hi0,hz0,hz1,hz2⟩:=info_parts Tryz.info67;clear S hown' hNl
   gi_wp2
   refine lz (fun W1=>W1.cell? (dZ s 0)=some (pZ vb)/\W1.cell? (dZ (s+1) 0)=some (.func (.func 118) #[pZ nb] #[])) hfol (by kernel_rfl) (by rintro ⟨_,_,h⟩;exact h) (HK0.o _ (Bw.ofBelow ((Below.refl _ W).drew))) (fun hHeld=>?_)
   refine wpAnyH_take (i:=0) (v:=.pointer (some (dZ r 2))) rfl (by kernel_rfl) (by kernel_rfl) (by kernel_rfl) (fun _ _ _ h=>h) (Or.inl ⟨by rfl,fun W1 hS1=>by obtain ⟨e0,e1⟩:=hS1;go_simp⟩) hHeld ?_
   try simp only[Act.put,eZ,fZ,gZ]
   refine wpAnyH_take (i:=2) (v:=pZ vb) rfl (by kernel_rfl) (by kernel_rfl) (by kernel_rfl) (fun _ _ _ h=>h) (Or.inl ⟨by rfl,fun W1 hS1=>by obtain ⟨e0,e1⟩:=hS1;go_simp⟩) hHeld ?_
   try simp only[Act.put,eZ,fZ,gZ]
   refine wpAnyH_take (i:=3) (v:=iV (x.1:Int)) rfl (by kernel_rfl) (by kernel_rfl) (by kernel_rfl) (fun _ _ _ h=>h) (Or.inl ⟨by rfl,fun W1 hS1=>by obtain ⟨e0,e1⟩:=hS1;go_simp⟩) hHeld ?_
   try simp only[Act.put,eZ,fZ,gZ]
   refine wpAnyH_take (i:=4) (v:=.func (.func 118) #[pZ nb] #[]) rfl (by kernel_rfl) (by kernel_rfl) (by kernel_rfl) (fun _ _ _ h=>h) (Or.inl ⟨by rfl,fun W1 hS1=>by obtain ⟨e0,e1⟩:=hS1;go_simp⟩) hHeld ?_
   try simp only[Act.put,eZ,fZ,gZ]
   have HL0:Hid (Below W.heap.size W W.drew):=(Below.refl _ W).drew;have HC0:Hid (Bw (Mr m nb nm v') W.heap.size W W.drew):=Bw.ofBelow HL0.o;refine wpAnyH_ready (rs:= [1,5,7]) (by kernel_rfl) (by simp) ?_
   refine AllReadyH.cons rfl (fun K hK=>?ga) (AllReadyH.cons rfl (fun K hK=>?gb) (AllReadyH.cons rfl (fun K hK=>?gc) AllReadyH.nil))
   case' ga=>
    have l02:=(ae (HK7.o _ HC0.o)).2.2.1;go_simp;refine hK.out _ _ hHeld (fun hHeld=>?_)
    clear hK K
    try simp only[Act.put,eZ,fZ,gZ]
    refine wpAnyH_take (i:=6) (v:=iV (ts.length:Int)) rfl (by kernel_rfl) (by kernel_rfl) (by kernel_rfl) (fun _ _ _ h=>h) (Or.inl ⟨by rfl,fun W1 hS1=>by obtain ⟨e0,e1⟩:=hS1;go_simp⟩) hHeld ?_
    try simp only[Act.put,eZ,fZ,gZ]
    have HC1:=HC0;have HL1:=HL0;refine wpAnyH_ready (rs:= [5,7]) (by kernel_rfl) (by simp) ?_
    refine AllReadyH.cons rfl (fun K hK=>?ha1) (AllReadyH.cons rfl (fun K hK=>?hb1) AllReadyH.nil)
    case' ha1=>
     go_simp;refine (HRd.o _ HL1.o).mono ?_;rintro e w5 ⟨X,v5,σ5,rfl,hX5,hA5,hV5,hN5,hb5,ho5,hn5,hval5⟩;have HC2:=hid ((Bw.ofBelow HL1.o).trans (hb5.mono HL1.o.size));have HX2:Hid (ay w5 X/\bl W.heap.size X/\VW w5 vb m (some (dZ b o)) len cap h σ5/\ob w5 lo nb nm v5 (bg (bg t (rm h len (bh ci))) (cz (gy h len x.1)))/\(v5.ownBlock=v'.ownBlock\/∃g,v5.ownBlock=some g/\W.heap.size<=g)/\(∀g,v5.ownBlock=some g->NB g X)/\∀t'',bg (bg t (rm h len (bh ci))) (cz (gy h len x.1)) <+:t''->a9 X=ap (iq (jz t'')) (gy h len x.1)):=⟨hX5,hA5.mono HL1.o.size,hV5,hN5,ho5.imp id (fun ⟨g,e,hg⟩=>⟨g,e,lT HL1.o.size hg⟩),hn5,hval5⟩
     rw[show X.val=.agg #[iV X.v,.string X.nm,.slice X.a X.len X.cap]from rfl]
     clear hX5 hA5 hV5 hN5 hb5 ho5 hn5 hval5;refine hK.out _ _ (HK0.o _ HC2.o) (fun hHeld=>?_)
     clear hK K
     try simp only[Act.put,eZ,fZ,gZ]
     refine wpAnyH_ready (rs:= [7]) (by kernel_rfl) (by simp) ?_
     refine AllReadyH.cons rfl (fun K hK=>?_) AllReadyH.nil
     go_simp;have HB3a:Below w5.heap.size w5 (w5.alloc (.cells #[iV 0,.string ⟨#[]⟩,nZ] 67)):=bA;have HC3:=hid (HC2.o.trans (Bw.ofBelow (HB3a.mono HC2.o.size)));have HZ3:Hid ((w5.alloc (.cells #[iV 0,.string ⟨#[]⟩,nZ] 67)).heap[w5.heap.size]?=some (.cells #[iV 0,.string ⟨#[]⟩,nZ] 67)):=hZ _ _;have HX3:Hid (ay (w5.alloc (.cells #[iV 0,.string ⟨#[]⟩,nZ] 67)) X/\bl W.heap.size X/\VW (w5.alloc (.cells #[iV 0,.string ⟨#[]⟩,nZ] 67)) vb m (some (dZ b o)) len cap h σ5/\ob (w5.alloc (.cells #[iV 0,.string ⟨#[]⟩,nZ] 67)) lo nb nm v5 (bg (bg t (rm h len (bh ci))) (cz (gy h len x.1)))/\(v5.ownBlock=v'.ownBlock\/∃g,v5.ownBlock=some g/\W.heap.size<=g)/\(∀g,v5.ownBlock=some g->NB g X)/\∀t'',bg (bg t (rm h len (bh ci))) (cz (gy h len x.1)) <+:t''->a9 X=ap (iq (jz t'')) (gy h len x.1)):=⟨HX2.o.1.below HB3a,HX2.o.2.1,HX2.o.2.2.1.below HB3a,HX2.o.2.2.2.1.below HB3a,HX2.o.2.2.2.2⟩;refine hK.out _ _ (HK0.o _ HC3.o) (fun hHeld=>?_)
     clear hK K HB3a
     try simp only[Act.put,eZ,fZ,gZ]
     have HCf:=HC3;have HXf:=HX3;have HZf:=HZ3;clear hHeld;have hHeld:=HK0.o _ HCf.o;obtain ⟨bz,hbz⟩: ∃bz,w5.heap.size=bz:=⟨_,rfl⟩;rw[hbz]at HZf
     try rw[hbz]
     clear hbz;generalize (w5.alloc (.cells #[iV 0,.string ⟨#[]⟩,nZ] 67))=w4 at*
    case' hb1=>
     go_simp;have HB2a:Below W.drew.heap.size W.drew (W.drew.alloc (.cells #[iV 0,.string ⟨#[]⟩,nZ] 67)):=bA;have HC2:=hid (HC1.o.trans (Bw.ofBelow (HB2a.mono HC1.o.size)));have HZ2:Hid ((W.drew.alloc (.cells #[iV 0,.string ⟨#[]⟩,nZ] 67)).heap[W.heap.size]?=some (.cells #[iV 0,.string ⟨#[]⟩,nZ] 67)):=hZ _ _;have HL2:=hid (HL1.o.trans (HB2a.mono HL1.o.size));refine hK.out _ _ (HK0.o _ HC2.o) (fun hHeld=>?_)
     clear hK K HB2a
     try simp only[Act.put,eZ,fZ,gZ]
     refine wpAnyH_ready (rs:= [5]) (by kernel_rfl) (by simp) ?_
     refine AllReadyH.cons rfl (fun K hK=>?_) AllReadyH.nil
     go_simp;refine (HRd.o _ HL2.o).mono ?_;rintro e w5 ⟨X,v5,σ5,rfl,hX5,hA5,hV5,hN5,hb5,ho5,hn5,hval5⟩;have HC3:=hid ((Bw.ofBelow HL2.o).trans (hb5.mono HL2.o.size));have HX3:Hid (ay w5 X/\bl W.heap.size X/\VW w5 vb m (some (dZ b o)) len cap h σ5/\ob w5 lo nb nm v5 (bg (bg t (rm h len (bh ci))) (cz (gy h len x.1)))/\(v5.ownBlock=v'.ownBlock\/∃g,v5.ownBlock=some g/\W.heap.size<=g)/\(∀g,v5.ownBlock=some g->NB g X)/\∀t'',bg (bg t (rm h len (bh ci))) (cz (gy h len x.1)) <+:t''->a9 X=ap (iq (jz t'')) (gy h len x.1)):=⟨hX5,hA5.mono HL2.o.size,hV5,hN5,ho5.imp id (fun ⟨g,e,hg⟩=>⟨g,e,lT HL2.o.size hg⟩),hn5,hval5⟩
     have HZ3:Hid (w5.heap[W.heap.size]?=some (.cells #[iV 0,.string ⟨#[]⟩,nZ] 67)):=(hb5.block _ (aZ HZ2.o) (fun e=>by have:=(HMl.o _ e).2;simp at this)).trans HZ2.o
     rw[show X.val=.agg #[iV X.v,.string X.nm,.slice X.a X.len X.cap]from rfl]
     clear hX5 hA5 hV5 hN5 hb5 ho5 hn5 hval5;refine hK.out _ _ (HK0.o _ HC3.o) (fun hHeld=>?_)
     clear hK K
     try simp only[Act.put,eZ,fZ,gZ]
     have HCf:=HC3;have HXf:=HX3;have HZf:=HZ3;clear hHeld;have hHeld:=HK0.o _ HCf.o;obtain ⟨bz,hbz⟩: ∃bz,W.heap.size=bz:=⟨_,rfl⟩;rw[hbz]at HZf
     try rw[hbz]
     clear hbz;generalize w5=w4 at*
   case' gb=>
    go_simp;refine (HRd.o _ HL0.o).mono ?_;rintro e w5 ⟨X,v5,σ5,rfl,hX5,hA5,hV5,hN5,hb5,ho5,hn5,hval5⟩;have HC1:=hid ((Bw.ofBelow HL0.o).trans (hb5.mono HL0.o.size));have HX1:Hid (ay w5 X/\bl W.heap.size X/\VW w5 vb m (some (dZ b o)) len cap h σ5/\ob w5 lo nb nm v5 (bg (bg t (rm h len (bh ci))) (cz (gy h len x.1)))/\(v5.ownBlock=v'.ownBlock\/∃g,v5.ownBlock=some g/\W.heap.size<=g)/\(∀g,v5.ownBlock=some g->NB g X)/\∀t'',bg (bg t (rm h len (bh ci))) (cz (gy h len x.1)) <+:t''->a9 X=ap (iq (jz t'')) (gy h len x.1)):=⟨hX5,hA5.mono HL0.o.size,hV5,hN5,ho5.imp id (fun ⟨g,e,hg⟩=>⟨g,e,lT HL0.o.size hg⟩),hn5,hval5⟩
    rw[show X.val=.agg #[iV X.v,.string X.nm,.slice X.a X.len X.cap]from rfl]
    clear hX5 hA5 hV5 hN5 hb5 ho5 hn5 hval5;refine hK.out _ _ (HK0.o _ HC1.o) (fun hHeld=>?_)
    clear hK K
    try simp only[Act.put,eZ,fZ,gZ]
    refine wpAnyH_ready (rs:= [1,7]) (by kernel_rfl) (by simp) ?_
    refine AllReadyH.cons rfl (fun K hK=>?ha2) (AllReadyH.cons rfl (fun K hK=>?hb2) AllReadyH.nil)
    case' ha2=>
     have l12:=(ae (HK7.o _ HC1.o)).2.2.1;go_simp;refine hK.out _ _ hHeld (fun hHeld=>?_)
     clear hK K
     try simp only[Act.put,eZ,fZ,gZ]
     refine wpAnyH_take (i:=6) (v:=iV (ts.length:Int)) rfl (by kernel_rfl) (by kernel_rfl) (by kernel_rfl) (fun _ _ _ h=>h) (Or.inl ⟨by rfl,fun W1 hS1=>by obtain ⟨e0,e1⟩:=hS1;go_simp⟩) hHeld ?_
     try simp only[Act.put,eZ,fZ,gZ]
     have HC2:=HC1;have HX2:=HX1;refine wpAnyH_ready (rs:= [7]) (by kernel_rfl) (by simp) ?_
     refine AllReadyH.cons rfl (fun K hK=>?_) AllReadyH.nil
     go_simp;have HB3a:Below w5.heap.size w5 (w5.alloc (.cells #[iV 0,.string ⟨#[]⟩,nZ] 67)):=bA;have HC3:=hid (HC2.o.trans (Bw.ofBelow (HB3a.mono HC2.o.size)));have HZ3:Hid ((w5.alloc (.cells #[iV 0,.string ⟨#[]⟩,nZ] 67)).heap[w5.heap.size]?=some (.cells #[iV 0,.string ⟨#[]⟩,nZ] 67)):=hZ _ _;have HX3:Hid (ay (w5.alloc (.cells #[iV 0,.string ⟨#[]⟩,nZ] 67)) X/\bl W.heap.size X/\VW (w5.alloc (.cells #[iV 0,.string ⟨#[]⟩,nZ] 67)) vb m (some (dZ b o)) len cap h σ5/\ob (w5.alloc (.cells #[iV 0,.string ⟨#[]⟩,nZ] 67)) lo nb nm v5 (bg (bg t (rm h len (bh ci))) (cz (gy h len x.1)))/\(v5.ownBlock=v'.ownBlock\/∃g,v5.ownBlock=some g/\W.heap.size<=g)/\(∀g,v5.ownBlock=some g->NB g X)/\∀t'',bg (bg t (rm h len (bh ci))) (cz (gy h len x.1)) <+:t''->a9 X=ap (iq (jz t'')) (gy h len x.1)):=⟨HX2.o.1.below HB3a,HX2.o.2.1,HX2.o.2.2.1.below HB3a,HX2.o.2.2.2.1.below HB3a,HX2.o.2.2.2.2⟩;refine hK.out _ _ (HK0.o _ HC3.o) (fun hHeld=>?_)
     clear hK K HB3a
     try simp only[Act.put,eZ,fZ,gZ]
     have HCf:=HC3;have HXf:=HX3;have HZf:=HZ3;clear hHeld;have hHeld:=HK0.o _ HCf.o;obtain ⟨bz,hbz⟩: ∃bz,w5.heap.size=bz:=⟨_,rfl⟩;rw[hbz]at HZf
     try rw[hbz]
     clear hbz;generalize (w5.alloc (.cells #[iV 0,.string ⟨#[]⟩,nZ] 67))=w4 at*
    case' hb2=>
     go_simp;have HB2a:Below w5.heap.size w5 (w5.alloc (.cells #[iV 0,.string ⟨#[]⟩,nZ] 67)):=bA;have HC2:=hid (HC1.o.trans (Bw.ofBelow (HB2a.mono HC1.o.size)));have HZ2:Hid ((w5.alloc (.cells #[iV 0,.string ⟨#[]⟩,nZ] 67)).heap[w5.heap.size]?=some (.cells #[iV 0,.string ⟨#[]⟩,nZ] 67)):=hZ _ _;have HX2:Hid (ay (w5.alloc (.cells #[iV 0,.string ⟨#[]⟩,nZ] 67)) X/\bl W.heap.size X/\VW (w5.alloc (.cells #[iV 0,.string ⟨#[]⟩,nZ] 67)) vb m (some (dZ b o)) len cap h σ5/\ob (w5.alloc (.cells #[iV 0,.string ⟨#[]⟩,nZ] 67)) lo nb nm v5 (bg (bg t (rm h len (bh ci))) (cz (gy h len x.1)))/\(v5.ownBlock=v'.ownBlock\/∃g,v5.ownBlock=some g/\W.heap.size<=g)/\(∀g,v5.ownBlock=some g->NB g X)/\∀t'',bg (bg t (rm h len (bh ci))) (cz (gy h len x.1)) <+:t''->a9 X=ap (iq (jz t'')) (gy h len x.1)):=⟨HX1.o.1.below HB2a,HX1.o.2.1,HX1.o.2.2.1.below HB2a,HX1.o.2.2.2.1.below HB2a,HX1.o.2.2.2.2⟩;refine hK.out _ _ (HK0.o _ HC2.o) (fun hHeld=>?_)
     clear hK K HB2a
     try simp only[Act.put,eZ,fZ,gZ]
     refine wpAnyH_ready (rs:= [1]) (by kernel_rfl) (by simp) ?_
     refine AllReadyH.cons rfl (fun K hK=>?_) AllReadyH.nil
     have l22:=(ae (HK7.o _ HC2.o)).2.2.1;go_simp;refine hK.out _ _ hHeld (fun hHeld=>?_)
     clear hK K
     try simp only[Act.put,eZ,fZ,gZ]
     refine wpAnyH_take (i:=6) (v:=iV (ts.length:Int)) rfl (by kernel_rfl) (by kernel_rfl) (by kernel_rfl) (fun _ _ _ h=>h) (Or.inl ⟨by rfl,fun W1 hS1=>by obtain ⟨e0,e1⟩:=hS1;go_simp⟩) hHeld ?_
     try simp only[Act.put,eZ,fZ,gZ]
     have HC3:=HC2;have HX3:=HX2;have HZ3:=HZ2;have HCf:=HC3;have HXf:=HX3;have HZf:=HZ3;clear hHeld;have hHeld:=HK0.o _ HCf.o;obtain ⟨bz,hbz⟩: ∃bz,w5.heap.size=bz:=⟨_,rfl⟩;rw[hbz]at HZf
     try rw[hbz]
     clear hbz;generalize (w5.alloc (.cells #[iV 0,.string ⟨#[]⟩,nZ] 67))=w4 at*
   case' gc=>
    go_simp;have HB1a:Below W.drew.heap.size W.drew (W.drew.alloc (.cells #[iV 0,.string ⟨#[]⟩,nZ] 67)):=bA;have HC1:=hid (HC0.o.trans (Bw.ofBelow (HB1a.mono HC0.o.size)));have HZ1:Hid ((W.drew.alloc (.cells #[iV 0,.string ⟨#[]⟩,nZ] 67)).heap[W.heap.size]?=some (.cells #[iV 0,.string ⟨#[]⟩,nZ] 67)):=hZ _ _;have HL1:=hid (HL0.o.trans (HB1a.mono HL0.o.size));refine hK.out _ _ (HK0.o _ HC1.o) (fun hHeld=>?_)
    clear hK K HB1a
    try simp only[Act.put,eZ,fZ,gZ]
    refine wpAnyH_ready (rs:= [1,5]) (by kernel_rfl) (by simp) ?_
    refine AllReadyH.cons rfl (fun K hK=>?ha3) (AllReadyH.cons rfl (fun K hK=>?hb3) AllReadyH.nil)
    case' ha3=>
     have l12:=(ae (HK7.o _ HC1.o)).2.2.1;have l13:(W.alloc (.cells #[iV 0,.string ⟨#[]⟩,nZ] 67)).cell? (dZ r 2)=some (.slice sa7 ts.length cp7):=l12;go_simp;refine hK.out _ _ hHeld (fun hHeld=>?_)
     clear hK K
     try simp only[Act.put,eZ,fZ,gZ]
     refine wpAnyH_take (i:=6) (v:=iV (ts.length:Int)) rfl (by kernel_rfl) (by kernel_rfl) (by kernel_rfl) (fun _ _ _ h=>h) (Or.inl ⟨by rfl,fun W1 hS1=>by obtain ⟨e0,e1⟩:=hS1;go_simp⟩) hHeld ?_
     try simp only[Act.put,eZ,fZ,gZ]
     have HC2:=HC1;have HL2:=HL1;have HZ2:=HZ1;refine wpAnyH_ready (rs:= [5]) (by kernel_rfl) (by simp) ?_
     refine AllReadyH.cons rfl (fun K hK=>?_) AllReadyH.nil
     go_simp;refine (HRd.o _ HL2.o).mono ?_;rintro e w5 ⟨X,v5,σ5,rfl,hX5,hA5,hV5,hN5,hb5,ho5,hn5,hval5⟩;have HC3:=hid ((Bw.ofBelow HL2.o).trans (hb5.mono HL2.o.size));have HX3:Hid (ay w5 X/\bl W.heap.size X/\VW w5 vb m (some (dZ b o)) len cap h σ5/\ob w5 lo nb nm v5 (bg (bg t (rm h len (bh ci))) (cz (gy h len x.1)))/\(v5.ownBlock=v'.ownBlock\/∃g,v5.ownBlock=some g/\W.heap.size<=g)/\(∀g,v5.ownBlock=some g->NB g X)/\∀t'',bg (bg t (rm h len (bh ci))) (cz (gy h len x.1)) <+:t''->a9 X=ap (iq (jz t'')) (gy h len x.1)):=⟨hX5,hA5.mono HL2.o.size,hV5,hN5,ho5.imp id (fun ⟨g,e,hg⟩=>⟨g,e,lT HL2.o.size hg⟩),hn5,hval5⟩
     have HZ3:Hid (w5.heap[W.heap.size]?=some (.cells #[iV 0,.string ⟨#[]⟩,nZ] 67)):=(hb5.block _ (aZ HZ2.o) (fun e=>by have:=(HMl.o _ e).2;simp at this)).trans HZ2.o
     rw[show X.val=.agg #[iV X.v,.string X.nm,.slice X.a X.len X.cap]from rfl]
     clear hX5 hA5 hV5 hN5 hb5 ho5 hn5 hval5;refine hK.out _ _ (HK0.o _ HC3.o) (fun hHeld=>?_)
     clear hK K
     try simp only[Act.put,eZ,fZ,gZ]
     have HCf:=HC3;have HXf:=HX3;have HZf:=HZ3;clear hHeld;have hHeld:=HK0.o _ HCf.o;obtain ⟨bz,hbz⟩: ∃bz,W.heap.size=bz:=⟨_,rfl⟩;rw[hbz]at HZf
     try rw[hbz]
     clear hbz;generalize w5=w4 at*
    case' hb3=>
     go_simp;refine (HRd.o _ HL1.o).mono ?_;rintro e w5 ⟨X,v5,σ5,rfl,hX5,hA5,hV5,hN5,hb5,ho5,hn5,hval5⟩;have HC2:=hid ((Bw.ofBelow HL1.o).trans (hb5.mono HL1.o.size));have HX2:Hid (ay w5 X/\bl W.heap.size X/\VW w5 vb m (some (dZ b o)) len cap h σ5/\ob w5 lo nb nm v5 (bg (bg t (rm h len (bh ci))) (cz (gy h len x.1)))/\(v5.ownBlock=v'.ownBlock\/∃g,v5.ownBlock=some g/\W.heap.size<=g)/\(∀g,v5.ownBlock=some g->NB g X)/\∀t'',bg (bg t (rm h len (bh ci))) (cz (gy h len x.1)) <+:t''->a9 X=ap (iq (jz t'')) (gy h len x.1)):=⟨hX5,hA5.mono HL1.o.size,hV5,hN5,ho5.imp id (fun ⟨g,e,hg⟩=>⟨g,e,lT HL1.o.size hg⟩),hn5,hval5⟩
     have HZ2:Hid (w5.heap[W.heap.size]?=some (.cells #[iV 0,.string ⟨#[]⟩,nZ] 67)):=(hb5.block _ (aZ HZ1.o) (fun e=>by have:=(HMl.o _ e).2;simp at this)).trans HZ1.o
     rw[show X.val=.agg #[iV X.v,.string X.nm,.slice X.a X.len X.cap]from rfl]
     clear hX5 hA5 hV5 hN5 hb5 ho5 hn5 hval5;refine hK.out _ _ (HK0.o _ HC2.o) (fun hHeld=>?_)
     clear hK K
     try simp only[Act.put,eZ,fZ,gZ]
     refine wpAnyH_ready (rs:= [1]) (by kernel_rfl) (by simp) ?_
     refine AllReadyH.cons rfl (fun K hK=>?_) AllReadyH.nil
     have l22:=(ae (HK7.o _ HC2.o)).2.2.1;go_simp;refine hK.out _ _ hHeld (fun hHeld=>?_)
     clear hK K
     try simp only[Act.put,eZ,fZ,gZ]
     refine wpAnyH_take (i:=6) (v:=iV (ts.length:Int)) rfl (by kernel_rfl) (by kernel_rfl) (by kernel_rfl) (fun _ _ _ h=>h) (Or.inl ⟨by rfl,fun W1 hS1=>by obtain ⟨e0,e1⟩:=hS1;go_simp⟩) hHeld ?_
     try simp only[Act.put,eZ,fZ,gZ]
     have HC3:=HC2;have HX3:=HX2;have HZ3:=HZ2;have HCf:=HC3;have HXf:=HX3;have HZf:=HZ3;clear hHeld;have hHeld:=HK0.o _ HCf.o;obtain ⟨bz,hbz⟩: ∃bz,W.heap.size=bz:=⟨_,rfl⟩;rw[hbz]at HZf
     try rw[hbz]
     clear hbz;generalize w5=w4 at*
   all_goals
    have h4s:=HCf.o.size
    have hO4:w4.ownsRow (r+3) 67 3 (.slice sa7 ts.length cp7) ts.length (cy ts):=bc HSd.o.lst.own fun g hg=>HCf.o.block g (HSd.o.lst.own.lt g hg).2 (fun hk=>by
     have h1:=HSd.o.lst.own.lt g hg
     rcases hk with e|e|e|e
     .omega
     .omega
     .omega
     .exact ss HSd.o.lst.own HSd.o.nms.row (by decide) g hg e)
    refine wpAnyH_ready (rs:= [8]) (by kernel_rfl) (by simp) ?_
    refine AllReadyH.cons rfl (fun K hK=>?_) AllReadyH.nil
    have zcb:=ae HZf.o;have zc0:=zcb.1;have zc1:=zcb.2.1;have zc2:=zcb.2.2.1;refine dz rfl (.tmp 42) (.tmp 48) 24 rfl (r+3) 67 i0 (.agg #[iV 0,.string ByteArray.empty,nZ]) 3 48 Tryz.underlying24 hi0 hz0 hz1 hz2 rfl (by decide) (.slice sa7 ts.length cp7) ts.length (cy ts) (by simp[Act.eval]) hO4 (dZ bz 0) 1 1 (cy [zT]) (by simp[Act.eval]) rfl (fun j u hu=>?_) (mw _) (by unfold maxLen;omega) (by omega) (by omega) (by omega) ?_
    .rw[ir]
     match j,hu with
     |0,hu=>exact zc0.trans hu
     |1,hu=>exact zc1.trans hu
     |2,hu=>exact zc2.trans hu
    intro g6 cap6 w6 ho6 hgr6 hat6;have hv7r: ∀g,(Value.slice sa7 ts.length cp7).ownBlock=some g->r+3<=g/\g<W.heap.size:=fun g hg=>HSd.o.lst.own.lt g hg
    have h6s:=hgr6.size;have hg6r:r+3<=g6:=(ho6.lt g6 rfl).1;have hr6:w6.heap[r]?=some (.cells #[iV 0,.string (h z).nm,.slice sa7 ts.length cp7] 67):=(hgr6.block r (by omega) (fun e=>by have:=hv7r r e.symm;omega)).trans (HK7.o _ HCf.o)
    have HH6:Hid (w6.cell? (dZ s 0)=some (pZ vb)/\w6.cell? (dZ (s+1) 0)=some (.func (.func 118) #[pZ nb] #[])):=⟨hgr6.cell hHeld.1 (fun e=>by have:=hv7r s e.symm;omega),hgr6.cell hHeld.2 (fun e=>by have:=hv7r (s+1) e.symm;omega)⟩
    refine hK.out _ _ HH6.o (fun hHeld=>?_)
    clear hK K;have hidx:(ts.length:Int)<(ts.length:Int)+1:=by omega
    have hidx2: ¬((ts.length:Int)+1<=(ts.length:Int)):=by omega
    try simp only[Act.put,eZ,fZ,gZ]
    refine wpAnyH_take (i:=9) (v:=.pointer (some (dZ g6 (ts.length*3)))) rfl (by kernel_rfl) (by kernel_rfl) (by kernel_rfl) (fun _ _ _ h=>h) (Or.inl ⟨by rfl,fun W1 hS1=>by obtain ⟨e0,e1⟩:=hS1;go_simp⟩) hHeld ?_
    try simp only[Act.put,eZ,fZ,gZ]
    refine wpAnyH_take (i:=11) (v:=.pointer (some (dZ r 2))) rfl (by kernel_rfl) (by kernel_rfl) (by kernel_rfl) (fun _ _ _ h=>h) (Or.inl ⟨by rfl,fun W1 hS1=>by obtain ⟨e0,e1⟩:=hS1;go_simp⟩) hHeld ?_
    try simp only[Act.put,eZ,fZ,gZ]
    obtain ⟨r60,r61,r62,rf0,rf1,rf2⟩:=ae hr6;have hlf:=ru ts;have q60:w6.cell? (dZ g6 (ts.length*3))=some (iV 0):=(ho6.cellAt (ts.length*3) (by omega)).trans (by rw[List.getElem?_append_right (by omega),hlf,Nat.sub_self];rfl)
    have q61:w6.cell? (dZ g6 (ts.length*3+1))=some (.string ⟨#[]⟩):=(ho6.cellAt (ts.length*3+1) (by omega)).trans (by rw[List.getElem?_append_right (by omega),hlf,show ts.length*3+1-ts.length*3=1 from by omega];rfl)
    have q62:w6.cell? (dZ g6 (ts.length*3+2))=some nZ:=(ho6.cellAt (ts.length*3+2) (by omega)).trans (by rw[List.getElem?_append_right (by omega),hlf,show ts.length*3+2-ts.length*3=2 from by omega];rfl)
    have q6f: ∀i,w6.frozen? (dZ g6 i)=false:=fun i=>nl ho6 i
    have qf0:=q6f (ts.length*3);have qf1:=q6f (ts.length*3+1);have qf2:=q6f (ts.length*3+2);have ho6':w6.ownsRow (r+3) 67 3 (sZ g6 (ts.length+1) cap6) (ts.length+1) (cy (ts++ [zT])):=by rw[rv];exact ho6
    have hne6: ∀q,q<r+3->some q≠some g6:=fun q hq e=>by have:=oj e;omega
    have hgE: ∀V:World,V.grownBy (((V.setCell (dZ g6 (ts.length*3)) (iV X.v)).setCell (dZ g6 (ts.length*3+1)) (.string X.nm)).setCell (dZ g6 (ts.length*3+2)) (.slice X.a X.len X.cap)) (some g6):=fun V=>G.trans (G.trans (af g6 _ _) (af g6 _ _)) (af g6 _ _)
    have hgR: ∀V:World,V.grownBy (V.setCell (dZ r 2) (sZ g6 (ts.length+1) cap6)) (some r):=fun V=>af r 2 _
    have hB6:Bw (fun k=>(Value.slice sa7 ts.length cp7).ownBlock=some k\/k=r) w4.heap.size w4 w6:=(Bw.refl _ _ w4).grown hgr6 lZ (fun k e=> .inr (.inl e))
    have hMg: ∀k,some g6=some k->w4.heap.size<=k\/((Value.slice sa7 ts.length cp7).ownBlock=some k\/k=r):=fun k e=>by
     have e1:=oj e;subst e1
     rcases hat6 with e2|e2
     .exact .inr (.inl e2.symm)
     .exact .inl (by omega)
    have hMr: ∀k,some r=some k->w4.heap.size<=k\/((Value.slice sa7 ts.length cp7).ownBlock=some k\/k=r):=fun k e=> rZ (oj e).symm
    refine wpAnyH_ready (rs:= [10,12]) (by kernel_rfl) (by simp) ?_
    refine AllReadyH.cons rfl (fun K hK=>?_) (AllReadyH.cons rfl (fun K hK=>?_) AllReadyH.nil)
    .have hOE:=ui ho6' (by simp) (Nat.lt_succ_self ts.length) X
     rw[vm]at hOE;have hrE:=((hgE w6).block r (by omega) (hne6 r (by omega))).trans hr6
     have hOF:=hOE.kept (hgR _) (.inr (fun e=>hne6 r (by omega) e.symm))
     have hRF:=Jt (c:=sZ g6 (ts.length+1) cap6) hrE;have hBF:=(hB6.grown (hgE w6) (by omega) hMg).grown (hgR (((w6.setCell (dZ g6 (ts.length*3)) (iV X.v)).setCell (dZ g6 (ts.length*3+1)) (.string X.nm)).setCell (dZ g6 (ts.length*3+2)) (.slice X.a X.len X.cap))) (by have:=(hgE w6).size;omega) hMr
     have hOF2:=hOF;have hRF2:=hRF;have hBF2:=hBF;clear hOF hRF hBF;have HNx:=Jh.next (W':=((((w6.setCell (dZ g6 (ts.length*3)) (iV X.v)).setCell (dZ g6 (ts.length*3+1)) (.string X.nm)).setCell (dZ g6 (ts.length*3+2)) (.slice X.a X.len X.cap)).setCell (dZ r 2) (sZ g6 (ts.length+1) cap6))) (w4:=w4) (X:=X) (v5:=v5) (σ5:=σ5) (x:=x.1) (g6:=g6) (cap6:=cap6) HSd.o HV0.o hlo hlw (by omega) ⟨hN.1,hN.2.1⟩ hNlo hN.2.2 HCf.o HXf.o.1 HXf.o.2.1 HXf.o.2.2.1 HXf.o.2.2.2.1 HXf.o.2.2.2.2.1 HXf.o.2.2.2.2.2.1 HXf.o.2.2.2.2.2.2 hat6 hBF2 hOF2 hRF2
     have HNh:Hid (Jh w vb m (some (dZ b o)) len cap h lo nb nm v t s r (h z).nm (bh (ci++ [x])) ((((w6.setCell (dZ g6 (ts.length*3)) (iV X.v)).setCell (dZ g6 (ts.length*3+1)) (.string X.nm)).setCell (dZ g6 (ts.length*3+2)) (.slice X.a X.len X.cap)).setCell (dZ r 2) (sZ g6 (ts.length+1) cap6)) v5 (sZ g6 (ts.length+1) cap6) (ts++ [X]) σ5/\KeepsFrom (r+3) W ((((w6.setCell (dZ g6 (ts.length*3)) (iV X.v)).setCell (dZ g6 (ts.length*3+1)) (.string X.nm)).setCell (dZ g6 (ts.length*3+2)) (.slice X.a X.len X.cap)).setCell (dZ r 2) (sZ g6 (ts.length+1) cap6))/\Kb (r+2) W ((((w6.setCell (dZ g6 (ts.length*3)) (iV X.v)).setCell (dZ g6 (ts.length*3+1)) (.string X.nm)).setCell (dZ g6 (ts.length*3+2)) (.slice X.a X.len X.cap)).setCell (dZ r 2) (sZ g6 (ts.length+1) cap6))):=by rw[Hid,ia];exact HNx
     clear hOF2 hRF2 hBF2 HNx;have rEb:=ae hrE;have rE2:=rEb.2.2.1;have rEf2:=rEb.2.2.2.2.2;have HHe:Hid ((((w6.setCell (dZ g6 (ts.length*3)) (iV X.v)).setCell (dZ g6 (ts.length*3+1)) (.string X.nm)).setCell (dZ g6 (ts.length*3+2)) (.slice X.a X.len X.cap)).cell? (dZ s 0)=some (pZ vb)/\(((w6.setCell (dZ g6 (ts.length*3)) (iV X.v)).setCell (dZ g6 (ts.length*3+1)) (.string X.nm)).setCell (dZ g6 (ts.length*3+2)) (.slice X.a X.len X.cap)).cell? (dZ (s+1) 0)=some (.func (.func 118) #[pZ nb] #[])):=⟨(hgE w6).cell HH6.o.1 (hne6 s (by omega)),(hgE w6).cell HH6.o.2 (hne6 (s+1) (by omega))⟩
     have HHf:Hid (((((w6.setCell (dZ g6 (ts.length*3)) (iV X.v)).setCell (dZ g6 (ts.length*3+1)) (.string X.nm)).setCell (dZ g6 (ts.length*3+2)) (.slice X.a X.len X.cap)).setCell (dZ r 2) (sZ g6 (ts.length+1) cap6)).cell? (dZ s 0)=some (pZ vb)/\((((w6.setCell (dZ g6 (ts.length*3)) (iV X.v)).setCell (dZ g6 (ts.length*3+1)) (.string X.nm)).setCell (dZ g6 (ts.length*3+2)) (.slice X.a X.len X.cap)).setCell (dZ r 2) (sZ g6 (ts.length+1) cap6)).cell? (dZ (s+1) 0)=some (.func (.func 118) #[pZ nb] #[])):=⟨(hgR _).cell HHe.o.1 (fun e=>by have h1:s=r:=oj e;omega),(hgR _).cell HHe.o.2 (fun e=>by have h1:s+1=r:=oj e;omega)⟩
     go_simp;refine hK.out _ _ HHe.o (fun hHeld=>?_)
     clear hK K
     try simp only[Act.put,eZ,fZ,gZ]
     refine wpAnyH_ready (rs:= [12]) (by kernel_rfl) (by simp) ?_
     refine AllReadyH.cons rfl (fun K hK=>?_) AllReadyH.nil
     go_simp;refine hK.out _ _ HHf.o (fun hHeld=>?_)
     clear hK K
     try simp only[Act.put,eZ,fZ,gZ]
     refine wpAnyH_done (by kernel_rfl) ?_ _
     gi_wp2
     exact ⟨HNh.o.2.1,HNh.o.2.2,v5,_,_,σ5,HNh.o.1⟩
    .have ho6r:=ho6'.kept (hgR w6) (.inr (fun e=>hne6 r (by omega) e.symm))
     have hOF:=ui ho6r (by simp) (Nat.lt_succ_self ts.length) X
     rw[vm]at hOF;have hrr:=Jt (c:=sZ g6 (ts.length+1) cap6) hr6;have hRF:=((hgE (w6.setCell (dZ r 2) (sZ g6 (ts.length+1) cap6))).block r (by have:=(hgR w6).size;omega) (hne6 r (by omega))).trans hrr
     have hBF:=(hB6.grown (hgR w6) (by omega) hMr).grown (hgE (w6.setCell (dZ r 2) (sZ g6 (ts.length+1) cap6))) (by have:=(hgR w6).size;omega) hMg
     have hOF2:=hOF;have hRF2:=hRF;have hBF2:=hBF;clear hOF hRF hBF;have HNx:=Jh.next (W':=((((w6.setCell (dZ r 2) (sZ g6 (ts.length+1) cap6)).setCell (dZ g6 (ts.length*3)) (iV X.v)).setCell (dZ g6 (ts.length*3+1)) (.string X.nm)).setCell (dZ g6 (ts.length*3+2)) (.slice X.a X.len X.cap))) (w4:=w4) (X:=X) (v5:=v5) (σ5:=σ5) (x:=x.1) (g6:=g6) (cap6:=cap6) HSd.o HV0.o hlo hlw (by omega) ⟨hN.1,hN.2.1⟩ hNlo hN.2.2 HCf.o HXf.o.1 HXf.o.2.1 HXf.o.2.2.1 HXf.o.2.2.2.1 HXf.o.2.2.2.2.1 HXf.o.2.2.2.2.2.1 HXf.o.2.2.2.2.2.2 hat6 hBF2 hOF2 hRF2
     have HNh:Hid (Jh w vb m (some (dZ b o)) len cap h lo nb nm v t s r (h z).nm (bh (ci++ [x])) ((((w6.setCell (dZ r 2) (sZ g6 (ts.length+1) cap6)).setCell (dZ g6 (ts.length*3)) (iV X.v)).setCell (dZ g6 (ts.length*3+1)) (.string X.nm)).setCell (dZ g6 (ts.length*3+2)) (.slice X.a X.len X.cap)) v5 (sZ g6 (ts.length+1) cap6) (ts++ [X]) σ5/\KeepsFrom (r+3) W ((((w6.setCell (dZ r 2) (sZ g6 (ts.length+1) cap6)).setCell (dZ g6 (ts.length*3)) (iV X.v)).setCell (dZ g6 (ts.length*3+1)) (.string X.nm)).setCell (dZ g6 (ts.length*3+2)) (.slice X.a X.len X.cap))/\Kb (r+2) W ((((w6.setCell (dZ r 2) (sZ g6 (ts.length+1) cap6)).setCell (dZ g6 (ts.length*3)) (iV X.v)).setCell (dZ g6 (ts.length*3+1)) (.string X.nm)).setCell (dZ g6 (ts.length*3+2)) (.slice X.a X.len X.cap))):=by rw[Hid,ia];exact HNx
     clear hOF2 hRF2 hBF2 HNx;have p60:=(hgR w6).cell q60 (fun e=>hne6 r (by omega) e.symm)
     have p61:=(hgR w6).cell q61 (fun e=>hne6 r (by omega) e.symm)
     have p62:=(hgR w6).cell q62 (fun e=>hne6 r (by omega) e.symm)
     have pf: ∀i,(w6.setCell (dZ r 2) (sZ g6 (ts.length+1) cap6)).frozen? (dZ g6 i)=false:=fun i=>nl ho6r i
     have pf0:=pf (ts.length*3);have pf1:=pf (ts.length*3+1);have pf2:=pf (ts.length*3+2);have HHe:Hid ((w6.setCell (dZ r 2) (sZ g6 (ts.length+1) cap6)).cell? (dZ s 0)=some (pZ vb)/\(w6.setCell (dZ r 2) (sZ g6 (ts.length+1) cap6)).cell? (dZ (s+1) 0)=some (.func (.func 118) #[pZ nb] #[])):=⟨(hgR _).cell HH6.o.1 (fun e=>by have h1:s=r:=oj e;omega),(hgR _).cell HH6.o.2 (fun e=>by have h1:s+1=r:=oj e;omega)⟩
     have HHf:Hid (((((w6.setCell (dZ r 2) (sZ g6 (ts.length+1) cap6)).setCell (dZ g6 (ts.length*3)) (iV X.v)).setCell (dZ g6 (ts.length*3+1)) (.string X.nm)).setCell (dZ g6 (ts.length*3+2)) (.slice X.a X.len X.cap)).cell? (dZ s 0)=some (pZ vb)/\((((w6.setCell (dZ r 2) (sZ g6 (ts.length+1) cap6)).setCell (dZ g6 (ts.length*3)) (iV X.v)).setCell (dZ g6 (ts.length*3+1)) (.string X.nm)).setCell (dZ g6 (ts.length*3+2)) (.slice X.a X.len X.cap)).cell? (dZ (s+1) 0)=some (.func (.func 118) #[pZ nb] #[])):=⟨(hgE _).cell HHe.o.1 (hne6 s (by omega)),(hgE _).cell HHe.o.2 (hne6 (s+1) (by omega))⟩
     go_simp;refine hK.out _ _ HHe.o (fun hHeld=>?_)
     clear hK K
     try simp only[Act.put,eZ,fZ,gZ]
     refine wpAnyH_ready (rs:= [10]) (by kernel_rfl) (by simp) ?_
     refine AllReadyH.cons rfl (fun K hK=>?_) AllReadyH.nil
     go_simp;refine hK.out _ _ HHf.o (fun hHeld=>?_)
     clear hK K
     try simp only[Act.put,eZ,fZ,gZ]
     refine wpAnyH_done (by kernel_rfl) ?_ _
     gi_wp2
     exact ⟨HNh.o.2.1,HNh.o.2.2,v5,_,_,σ5,HNh.o.1⟩
end Go.Proofs.YtmggaclaoefdaabGreat
