/- Part of the proof. -/
import Derived.Test.YtmggaclaoefdaabGreatGAT
import Derived.Test.YtmggaclaoefdaabGreatSvE
namespace Go.Proofs.YtmggaclaoefdaabGreat
open Go.RowKit Go.Proofs.Tryz
set_option linter.unusedVariables false
set_option linter.unusedSimpArgs false
set_option maxRecDepth 100000
set_option maxHeartbeats 8000000
structure Rn where
 hv:Value
 gv:Value
 first:Int
 cv:Value
 tv:Value
 qv:Value
 st:Int
 fin:Int
 av:Value
 P:Pg
 left:Int
def Rn.cells (r:Rn):Array Value:= #[r.hv,r.gv,iV r.first,r.cv,r.tv,r.qv,iV r.st,iV r.fin,r.av,.slice r.P.a r.P.len r.P.cap,iV r.left]
def o9 (w:World) (s:Nat) (r:Rn):Prop:=w.heap[s]?=some (.cells r.cells 62)
theorem o9.lt {w:World} {s:Nat} {r:Rn} (h:o9 w s r):s<w.heap.size:=(aZ h)
theorem o9.get {w:World} {s:Nat} {r:Rn} (h:o9 w s r):(w.cell? ⟨s,0,none⟩=some r.hv/\w.cell? ⟨s,1,none⟩=some r.gv/\w.cell? ⟨s,2,none⟩=some (iV r.first)/\w.cell? ⟨s,3,none⟩=some r.cv/\w.cell? ⟨s,4,none⟩=some r.tv/\w.cell? ⟨s,5,none⟩=some r.qv)/\(w.cell? ⟨s,6,none⟩=some (iV r.st)/\w.cell? ⟨s,7,none⟩=some (iV r.fin)/\w.cell? ⟨s,8,none⟩=some r.av/\w.cell? ⟨s,9,none⟩=some (.slice r.P.a r.P.len r.P.cap)/\w.cell? ⟨s,10,none⟩=some (iV r.left))/\∀i,w.frozen? ⟨s,i,none⟩=false:=by
 have hb:w.heap[s]?=some (.cells r.cells 62):=h;refine ⟨⟨?_,?_,?_,?_,?_,?_⟩,⟨?_,?_,?_,?_,?_⟩,fun i=>?_⟩ <;> simp[World.cell?,World.frozen?,hb,Rn.cells]
theorem o9.kept {w w':World} {s:Nat} {r:Rn} (h:o9 w s r) (hb:w'.heap[s]?=w.heap[s]?):o9 w' s r:=hb.trans h
theorem o9.set {w:World} {s:Nat} {r r':Rn} (i:Nat) (v:Value) (h:o9 w s r) (hr:r'.cells=r.cells.setIfInBounds i v):o9 (w.setCell ⟨s,i,none⟩ v) s r':=by
 have hb:w.heap[s]?=some (.cells r.cells 62):=h;unfold o9;simp only[World.setCell,Array.getElem?_modify];simp[hb,hr]
structure Gq where
 at_:Nat
 cut:Nat
 nx:Nat
structure jo where
 goal:Nat
 cl:Nat
 hp:Nat
 tr:Nat
 gs:Nat
def js (g:Gq):List Value:= [iV (g.at_:Int),iV (g.cut:Int),iV (g.nx:Int)]
def db (l:List Gq):List Value:=l.flatMap js
def j7 (c:jo):List Value:= [iV (c.goal:Int),iV (c.cl:Int),iV (c.hp:Int),iV (c.tr:Int),iV (c.gs:Int)]
def dq (l:List jo):List Value:=l.flatMap j7
def fg (l:List Nat):List Value:=l.map fun x:Nat=>iV (x:Int)
def cm (s:Nat) (r:Rn) (k:Nat):Prop:=k=s\/r.hv.ownBlock=some k\/r.gv.ownBlock=some k\/r.cv.ownBlock=some k\/r.tv.ownBlock=some k\/r.av.ownBlock=some k
structure MN (lo:Nat) (w:World) (s:Nat) (r:Rn) (h:List Cl) (gs:List Gq) (cs:List jo) (tr qs:List Nat) (an:List Tm):Prop where
 blk:o9 w s r
 hp:j3 lo w r.hv h
 go:w.ownsRow lo 76 3 r.gv gs.length (db gs)
 ch:w.ownsRow lo 78 5 r.cv cs.length (dq cs)
 tl:w.ownsRow lo 3 1 r.tv tr.length (fg tr)
 qu:w.ownsRow lo 3 1 r.qv qs.length (fg qs)
 anr:w.ownsRow lo 87 1 r.av an.length (an.map lh)
 all: ∀A∈an,ay w A/\NM (cm s r) A
 tq: ∀k,r.tv.ownBlock=some k->r.qv.ownBlock≠some k
 los:lo<=s
theorem er {w:World} {lo lo' n n' z z':Nat} {t t':TypeId} {v v':Value} {xs xs':List Value} (h:w.ownsRow lo t z v n xs) (h':w.ownsRow lo' t' z' v' n' xs') (ht:t≠t'): ∀k,v.ownBlock=some k->v'.ownBlock≠some k:=fun k hk hk'=>by
 obtain ⟨c,hc⟩:=de h hk;obtain ⟨c',hc'⟩:=de h' hk';rw[hc]at hc'
 injection hc' with hc'
 injection hc' with _ h2
 exact ht h2
theorem qm {w:World} {lo n z s:Nat} {t:TypeId} {v:Value} {xs:List Value} {r:Rn} (h:w.ownsRow lo t z v n xs) (hb:o9 w s r) (ht:t≠62):v.ownBlock≠some s:=fun hk=>by
 obtain ⟨c,hc⟩:=de h hk;have hb':w.heap[s]?=some (.cells r.cells 62):=hb;rw[hc]at hb'
 injection hb' with hb'
 injection hb' with _ h2
 exact ht h2
section
variable {lo:Nat} {w w':World} {s:Nat} {r:Rn} {h:List Cl} {gs:List Gq} {cs:List jo} {tr qs:List Nat} {an:List Tm}
structure Sy (s:Nat) (r:Rn):Prop where
 h1:r.hv.ownBlock≠some s/\r.gv.ownBlock≠some s/\r.cv.ownBlock≠some s/\r.tv.ownBlock≠some s/\r.qv.ownBlock≠some s/\r.av.ownBlock≠some s
 hh: ∀k,r.hv.ownBlock=some k->r.gv.ownBlock≠some k/\r.cv.ownBlock≠some k/\r.tv.ownBlock≠some k/\r.qv.ownBlock≠some k/\r.av.ownBlock≠some k
 hg: ∀k,r.gv.ownBlock=some k->r.hv.ownBlock≠some k/\r.cv.ownBlock≠some k/\r.tv.ownBlock≠some k/\r.qv.ownBlock≠some k/\r.av.ownBlock≠some k
 hc: ∀k,r.cv.ownBlock=some k->r.hv.ownBlock≠some k/\r.gv.ownBlock≠some k/\r.tv.ownBlock≠some k/\r.qv.ownBlock≠some k/\r.av.ownBlock≠some k
 ht: ∀k,r.tv.ownBlock=some k->r.hv.ownBlock≠some k/\r.gv.ownBlock≠some k/\r.cv.ownBlock≠some k/\r.qv.ownBlock≠some k/\r.av.ownBlock≠some k
 ha: ∀k,r.av.ownBlock=some k->r.hv.ownBlock≠some k/\r.gv.ownBlock≠some k/\r.cv.ownBlock≠some k/\r.tv.ownBlock≠some k/\r.qv.ownBlock≠some k
theorem MN.apart (M:MN lo w s r h gs cs tr qs an):Sy s r:=by
 refine ⟨⟨qm M.hp M.blk (by decide),qm M.go M.blk (by decide),qm M.ch M.blk (by decide),qm M.tl M.blk (by decide),qm M.qu M.blk (by decide),qm M.anr M.blk (by decide)⟩,fun k e=>?_,fun k e=>?_,fun k e=>?_,fun k e=>?_,fun k e=>?_⟩
 .exact ⟨er M.hp M.go (by decide) k e,er M.hp M.ch (by decide) k e,er M.hp M.tl (by decide) k e,er M.hp M.qu (by decide) k e,er M.hp M.anr (by decide) k e⟩
 .exact ⟨er M.go M.hp (by decide) k e,er M.go M.ch (by decide) k e,er M.go M.tl (by decide) k e,er M.go M.qu (by decide) k e,er M.go M.anr (by decide) k e⟩
 .exact ⟨er M.ch M.hp (by decide) k e,er M.ch M.go (by decide) k e,er M.ch M.tl (by decide) k e,er M.ch M.qu (by decide) k e,er M.ch M.anr (by decide) k e⟩
 .exact ⟨er M.tl M.hp (by decide) k e,er M.tl M.go (by decide) k e,er M.tl M.ch (by decide) k e,M.tq k e,er M.tl M.anr (by decide) k e⟩
 .exact ⟨er M.anr M.hp (by decide) k e,er M.anr M.go (by decide) k e,er M.anr M.ch (by decide) k e,er M.anr M.tl (by decide) k e,er M.anr M.qu (by decide) k e⟩
theorem fj {lo n z:Nat} {t:TypeId} {v:Value} {xs:List Value} (h:w.ownsRow lo t z v n xs) {k:Nat} (hk:v.ownBlock=some k):k<w.heap.size:=(World.ownsRow.lt h k hk).2
theorem eo {X:Nat->Prop} {w:World} {A:Tm} (hT:ay w A) (h: ∀k,X k->NB k A):NM X A:=by
 induction A with
 |nil=>trivial
 |mk v nm a len cap f ih=>
  refine ⟨fun h0=>?_,fun i hi=>ih i (hT.2.2 i hi).2 fun k hk=>(h k hk).2 i hi⟩
  obtain ⟨b,o,e,_⟩:=(hT.2.2 0 h0).1;refine ⟨b,o,e,fun hb=>?_⟩
  obtain ⟨b',o',e',hne'⟩:=(h b hb).1 h0;rw[e]at e';cases e';exact hne' rfl
theorem aw {n z:Nat} {t:TypeId} {v:Value} {xs:List Value} {X:Nat->Prop} (h:w.ownsRow lo t z v n xs) (hB:Bw X w.heap.size w w') (hX: ∀k,v.ownBlock=some k->¬X k):w'.ownsRow lo t z v n xs:=bc h fun k e=>hB.block k (fj h e) (hX k e)
theorem MN.all' (M:MN lo w s r h gs cs tr qs an) {X:Nat->Prop} (hB:Bw X w.heap.size w w') (hA: ∀A∈an,NM X A) {r':Rn} (hr: ∀k,k<w.heap.size->cm s r' k->cm s r k): ∀A∈an,ay w' A/\NM (cm s r') A:=fun A hA'=>
 ⟨(M.all A hA').1.bw hB lZ (hA A hA'),(M.all A hA').2.anti (M.all A hA').1 hr⟩
theorem MN.stood (M:MN lo w s r h gs cs tr qs an) {X:Nat->Prop} (hB:Bw X w.heap.size w w') (hX: ∀k,X k->¬cm s r k/\r.qv.ownBlock≠some k) (hA: ∀A∈an,NM X A):MN lo w' s r h gs cs tr qs an:=by
 have hn: ∀k,cm s r k\/r.qv.ownBlock=some k->¬X k:=fun k hm hx=>by
  have:=hX k hx
  rcases hm with hm|hm
  .exact this.1 hm
  .exact this.2 hm
 exact ⟨M.blk.kept (hB.block s M.blk.lt (hn s (.inl (.inl rfl)))),aw M.hp hB fun k e=>hn k (.inl (.inr (.inl e))),aw M.go hB fun k e=>hn k (.inl (rZ (.inl e))),aw M.ch hB fun k e=>hn k (.inl (rZ (.inr (.inl e)))),aw M.tl hB fun k e=>hn k (.inl (rZ (rZ (.inl e)))),aw M.qu hB fun k e=>hn k (.inr e),aw M.anr hB fun k e=>hn k (.inl (rZ (rZ (.inr e)))),M.all' hB hA fun _ _ h=>h,M.tq,M.los⟩
theorem MN.below (M:MN lo w s r h gs cs tr qs an) (hB:Below w.heap.size w w'):MN lo w' s r h gs cs tr qs an:=
 M.stood (X:=fun _=>False) ⟨hB.os,hB.tape,hB.output,hB.size,fun k hk _=>hB.block k hk⟩ (fun k hk=>hk.elim) (fun A hA=>NM.old (M.all A hA).1 (fun k hk=>hk.elim))
theorem xi {X:Nat->Prop} {B:Nat} {w0 w1:World} (hB:Bw X B w0 w1) (hs:B<=w1.heap.size) (i:Nat) (v:Value):Bw (fun k=>k=s\/X k) B w0 (w1.setCell ⟨s,i,none⟩ v):=
 (hB.wide fun k _ hk=> .inr hk).grown (af s i v) hs (fun k e=> .inr (.inl (oj e).symm))
theorem MN.int (M:MN lo w s r h gs cs tr qs an) {r':Rn} (i:Nat) (x:Int) (hr:r'.cells=r.cells.setIfInBounds i (iV x)) (he:r'.hv=r.hv/\r'.gv=r.gv/\r'.cv=r.cv/\r'.tv=r.tv/\r'.qv=r.qv/\r'.av=r.av):MN lo (w.setCell ⟨s,i,none⟩ (iV x)) s r' h gs cs tr qs an:=by
 obtain ⟨e1,e2,e3,e4,e5,e6⟩:=he;have hA:=M.apart.h1;have hg:=af (W:=w) s i (iV x);have hB:Bw (fun k=>k=s) w.heap.size w (w.setCell (dZ s i) (iV x)):=⟨hg.os,hg.tape,hg.output,hg.size,fun k hk hm=>hg.block k hk (fun e=>hm (oj e))⟩
 refine ⟨M.blk.set i _ hr,?_,?_,?_,?_,?_,?_,?_,?_,M.los⟩
 .rw[e1];exact aw M.hp hB fun k e hk=>hA.1 (hk▸e)
 .rw[e2];exact aw M.go hB fun k e hk=>hA.2.1 (hk▸e)
 .rw[e3];exact aw M.ch hB fun k e hk=>hA.2.2.1 (hk▸e)
 .rw[e4];exact aw M.tl hB fun k e hk=>hA.2.2.2.1 (hk▸e)
 .rw[e5];exact aw M.qu hB fun k e hk=>hA.2.2.2.2.1 (hk▸e)
 .rw[e6];exact aw M.anr hB fun k e hk=>hA.2.2.2.2.2 (hk▸e)
 .exact M.all' hB (fun A hA'=>eo (M.all A hA').1 fun k hk=>by subst hk;exact (M.all A hA').2.nb (.inl rfl)) fun k _ hk=>by
   unfold cm at hk |-;rw[e1,e2,e3,e4,e6]at hk;exact hk
 .rw[e4,e5];exact M.tq
theorem MN.toH (M:MN lo w s r h gs cs tr qs an) {X:Nat->Prop} {w1:World} {v':Value} {h':List Cl} (hB:Bw X w.heap.size w w1) (hX: ∀k,X k->r.hv.ownBlock=some k\/(¬cm s r k/\r.qv.ownBlock≠some k)) (hA: ∀A∈an,NM X A) (hr:j3 lo w1 v' h') (hat:v'.ownBlock=r.hv.ownBlock\/∃q,v'.ownBlock=some q/\w.heap.size<=q):
 MN lo (w1.setCell ⟨s,0,none⟩ v') s { r with hv:=v'} h' gs cs tr qs an/\Bw (fun k=>k=s\/X k) w.heap.size w (w1.setCell ⟨s,0,none⟩ v'):=by
 have hAp:=M.apart;have hs:=hB.size;have hB2:=xi (s:=s) hB hs 0 v'
 have hXs: ¬X s:=fun hx=>by
  rcases hX s hx with e| ⟨e,_⟩
  .exact hAp.h1.1 e
  .exact e (.inl rfl)
 have hb1:o9 w1 s r:=M.blk.kept (hB.block s M.blk.lt hXs)
 have hn: ∀(v:Value),(∀k,v.ownBlock=some k->k≠s/\r.hv.ownBlock≠some k/\(cm s r k\/r.qv.ownBlock=some k))->∀k,v.ownBlock=some k->¬(k=s\/X k):=fun v hv k e hk=>by
  obtain ⟨h1,h2,h3⟩:=hv k e
  rcases hk with hk|hk
  .exact h1 hk
  .rcases hX k hk with e'| ⟨e1,e2⟩
   .exact h2 e'
   .rcases h3 with h3|h3
    .exact e1 h3
    .exact e2 h3
 have hv':v'.ownBlock≠some s:=fun e=>by
  rcases hat with e'| ⟨q,e',hq⟩
  .rw[e]at e';exact hAp.h1.1 e'.symm
  .rw[e]at e';have:=oj e';have:=M.blk.lt;omega
 refine ⟨⟨hb1.set 0 v' rfl,?_,aw M.go hB2 (hn r.gv fun k e=>⟨fun hk=>hAp.h1.2.1 (hk▸e),(hAp.hg k e).1,.inl (rZ (.inl e))⟩),aw M.ch hB2 (hn r.cv fun k e=>⟨fun hk=>hAp.h1.2.2.1 (hk▸e),(hAp.hc k e).1,.inl (rZ (.inr (.inl e)))⟩),aw M.tl hB2 (hn r.tv fun k e=>⟨fun hk=>hAp.h1.2.2.2.1 (hk▸e),(hAp.ht k e).1,.inl (rZ (rZ (.inl e)))⟩),aw M.qu hB2 (hn r.qv fun k e=>⟨fun hk=>hAp.h1.2.2.2.2.1 (hk▸e),fun e'=>(hAp.hh k e').2.2.2.1 e,.inr e⟩),aw M.anr hB2 (hn r.av fun k e=>⟨fun hk=>hAp.h1.2.2.2.2.2 (hk▸e),(hAp.ha k e).1,.inl (rZ (rZ (.inr e)))⟩),?_,M.tq,M.los⟩,hB2⟩
 .exact World.ownsRow.kept hr (af s 0 v') (by
   cases hv:v'.ownBlock with
   |none=>exact .inl rfl
   |some k=>exact .inr (fun e=>hv' (by rw[hv,oj e])))
 .refine M.all' hB2 (fun A hA'=>eo (M.all A hA').1 fun k hk=>?_) fun k hk hm=>?_
  .rcases hk with hk|hk
   .subst hk;exact (M.all A hA').2.nb (.inl rfl)
   .exact (hA A hA').nb hk
  .rcases hm with hm|hm|hm
   .exact .inl hm
   .rcases hat with e'| ⟨q,e',hq⟩
    .exact .inr (.inl (e'▸hm))
    .have hm':v'.ownBlock=some k:=hm
     rw[e']at hm';have:=oj hm';omega
   .exact rZ hm
end
section
attribute [local go_sem] Oper.semAt_some
section
variable {lo:Nat} {w w':World} {s:Nat} {r:Rn} {h:List Cl} {gs:List Gq} {cs:List jo} {tr qs:List Nat} {an:List Tm}
theorem qp {m:Nat} {σ:Int->Option Int} {lo n z:Nat} {t:TypeId} {v:Value} {xs:List Value} (hI:IM w m σ) (hr:w.ownsRow lo t z v n xs):v.ownBlock≠some m:=fun e=>by
 obtain ⟨c,hc⟩:=de hr e;exact hI.ne_block hc rfl
theorem Q5 {m:Nat} {σ:Int->Option Int} (hI:IM w m σ) (hb:o9 w s r):s≠m:=fun e=>by
 have hb':=hb;exact hI.ne_block hb' e
theorem MN.map_ne (M:MN lo w s r h gs cs tr qs an) {m:Nat} {σ:Int->Option Int} (hI:IM w m σ): ¬cm s r m/\r.qv.ownBlock≠some m:=by
 refine ⟨fun hm=>?_,qp hI M.qu⟩
 rcases hm with e|e|e|e|e|e
 .exact Q5 hI M.blk e.symm
 .exact qp hI M.hp e
 .exact qp hI M.go e
 .exact qp hI M.ch e
 .exact qp hI M.tl e
 .exact qp hI M.anr e
def S9 (lo:Nat) (w:World) (s m:Nat) (r:Rn) (gs:List Gq) (cs:List jo) (tr qs:List Nat) (an:List Tm) (q:HSt × Int) (e:Ending) (w':World):Prop:=∃hv',e=.returned (iV q.2)/\MN lo w' s { r with hv:=hv'} q.1.1 gs cs tr qs an/\IM w' m q.1.2/\Bw (fun k=>k=s\/(k=m\/r.hv.ownBlock=some k)) w.heap.size w w'/\(hv'.ownBlock=r.hv.ownBlock\/∃q,hv'.ownBlock=some q/\w.heap.size<=q)
theorem uk {T:Tm} {m:Nat} {σ:Int->Option Int} (w:World) (M:MN lo w s r h gs cs tr qs an) (hI:IM w m σ) (hT:ay w T) (hO:d9 12 T) (hNT:NM (cm s r) T) (hNm:NB m T) (hAn: ∀A∈an,NB m A) (hlen:h.length+5*cnt T<=2000000) (hlo:lo<=w.heap.size):
 Calls prog 56 #[.pointer (some ⟨s,0,none⟩),.agg #[iV T.v,.string T.nm,.slice T.a T.len T.cap],.map (some m)] w (S9 lo w s m r gs cs tr qs an (bp T (h,σ))):=by
 have HBa:Hid (Below w.heap.size w (w.alloc (.cells #[iV T.v,.string T.nm,.slice T.a T.len T.cap] 67))):=bA;have HXa:Hid ((w.alloc (.cells #[iV T.v,.string T.nm,.slice T.a T.len T.cap] 67)).heap[w.heap.size]?=some (.cells #[iV T.v,.string T.nm,.slice T.a T.len T.cap] 67)):=hZ _ _;have HM:=hid (M.below HBa.o);have hsa:(w.alloc (.cells #[iV T.v,.string T.nm,.slice T.a T.len T.cap] 67)).heap.size=w.heap.size+1:=by simp
 have HI:Hid (IM (w.alloc (.cells #[iV T.v,.string T.nm,.slice T.a T.len T.cap] 67)) m σ):=hI.kept (aq HBa.o none) (by simp)
 have hml:=M.blk.lt;have HNe:=hid (M.map_ne hI)
 have HAn:Hid (∀A∈an,NM (fun k=>k=m\/r.hv.ownBlock=some k) A):=fun A hA=>eo (M.all A hA).1 fun k hk=>by
  rcases hk with e|e
  .subst e;exact hAn A hA
  .exact (M.all A hA).2.nb (.inr (.inl e))
 have HPt:Hid (∀W,Below w.heap.size w W->Calls prog 94 #[r.hv,.agg #[iV T.v,.string T.nm,.slice T.a T.len T.cap],.map (some m)] W (Rm W lo m r.hv (bp T (h,σ)))):=fun W hW=>
  Om T lo m r.hv (h,σ) W (hT.below hW) hO (eo hT fun k hk=>by
   rcases hk with e|e
   .subst e;exact hNm
   .exact hNT.nb (.inr (.inl e))) (World.ownsRow.kept M.hp (aq hW none) (by cases r.hv.ownBlock with|none=>exact .inl rfl|some g=>exact .inr (by simp))) (hI.kept (aq hW none) (by simp)) (lT hlo hW.size) hlen
 obtain ⟨x0,x1,x2,_⟩:=ae HXa.o;obtain ⟨⟨c0,_⟩,_,cf⟩:=HM.o.blk.get;have cf0:=cf 0;clear M hI hT hO hNT hNm hAn cf
 go_enter Tryz.func56,Tryz.ntmps56
 go_wp2_with fail;generalize w.alloc (.cells #[iV T.v,.string T.nm,.slice T.a T.len T.cap] 67)=wa at*
 go_region_law (first
  | (go_simp
     go_at_call 94
     refine (HPt.o _ (by repeat (first|exact HBa.o|refine Below.drew ?_))).mono ?_
     rintro e w5 ⟨v',rfl,hr5,hi5,hb5,hat5⟩;obtain ⟨sv,cv',rfl,_,_⟩:=j3.form hr5;have HB5:Hid (Bw (fun k=>k=m\/r.hv.ownBlock=some k) wa.heap.size wa w5):=Bw.trans (by repeat (first|exact Bw.refl _ _ _|refine Bw.drew ?_)) (hb5.mono lZ)
     have HR5:=hid hr5;have HI5:=hid hi5;have HA5:Hid ((Value.slice sv (bp T (h,σ)).1.1.length cv').ownBlock=r.hv.ownBlock\/∃g,(Value.slice sv (bp T (h,σ)).1.1.length cv').ownBlock=some g/\wa.heap.size<=g):=hat5
     have g0:w5.cell? (dZ s 0)=some r.hv:=(HB5.o.cell (p:=(dZ s 0)) (by show s<wa.heap.size;omega) (fun hx=>by rcases hx with e|e;(·exact HNe.o.1 (.inl e.symm));(·exact HM.o.apart.h1.1 e))).trans c0
     have gf0:w5.frozen? (dZ s 0)=false:=(HB5.o.frozen (p:=(dZ s 0)) (by show s<wa.heap.size;omega) (fun hx=>by rcases hx with e|e;(·exact HNe.o.1 (.inl e.symm));(·exact HM.o.apart.h1.1 e))).trans cf0
     clear hb5 hr5 hi5 hat5))
 all_goals
  have h9:=HM.o.toH HB5.o (fun k hk=>by rcases hk with e|e;(·subst e;exact .inr HNe.o);(·exact .inl e)) HAn.o HR5.o HA5.o
  have HF:Hid (MN lo (w5.setCell (dZ s 0) (.slice sv (bp T (h,σ)).1.1.length cv')) s { r with hv:=.slice sv (bp T (h,σ)).1.1.length cv'} (bp T (h,σ)).1.1 gs cs tr qs an):=h9.1
  have HBF:Hid (Bw (fun k=>k=s\/(k=m\/r.hv.ownBlock=some k)) w.heap.size w (w5.setCell (dZ s 0) (.slice sv (bp T (h,σ)).1.1.length cv'))):=(Bw.ofBelow HBa.o).trans (h9.2.mono HBa.o.size)
  have HIF:Hid (IM (w5.setCell (dZ s 0) (.slice sv (bp T (h,σ)).1.1.length cv')) m (bp T (h,σ)).1.2):=HI5.o.kept (af s 0 _) (fun e=>HNe.o.1 (.inl (oj e)))
  clear h9;go_wp2_with fail;go_ret;refine ⟨_,rfl,HF.o,HIF.o,HBF.o,?_⟩
  rcases HA5.o with e| ⟨q,e,hq⟩
  .exact .inl e
  .exact .inr ⟨q,e,by omega⟩
def dp (h:List Cl) (gs:List Gq):Bool:=!(decide ((h.length:Int)<=400000)&&decide ((gs.length:Int)<=5000))
theorem ya (w:World) (M:MN lo w s r h gs cs tr qs an):Calls prog 163 #[.pointer (some ⟨s,0,none⟩)] w fun e w'=>e=.returned (.bool (dp h gs))/\(dp h gs=false->w'=w)/\(dp h gs=true->MN lo w' s { r with fin:=3} h gs cs tr qs an/\Bw (fun k=>k=s) w.heap.size w w'):=by
 obtain ⟨sv,cv,hhv,_⟩:=j3.form M.hp
 obtain ⟨sg,cg,hgv⟩: ∃sg cg,r.gv=.slice sg gs.length cg:=by
  rcases M.go.2 with ⟨h1,h2⟩| ⟨_,cp,_,h1,_⟩
  .exact ⟨none,0,by rw[h1,h2]⟩
  .exact ⟨_,cp,h1⟩
 obtain ⟨⟨c0,c1,_⟩,⟨_,c7,_⟩,cf⟩:=M.blk.get;have cf7:=cf 7;rw[hhv]at c0;rw[hgv]at c1
 have HM3:Hid (MN lo (w.setCell (dZ s 7) (iV 3)) s { r with fin:=3} h gs cs tr qs an):=M.int 7 3 rfl ⟨rfl,rfl,rfl,rfl,rfl,rfl⟩
 have hg:=af (W:=w) s 7 (iV 3);have HB3:Hid (Bw (fun k=>k=s) w.heap.size w (w.setCell (dZ s 7) (iV 3))):=⟨hg.os,hg.tape,hg.output,hg.size,fun k hk hm=>hg.block k hk (fun e=>hm (oj e))⟩
 clear M cf hg hhv hgv
 by_cases h1:(h.length:Int)<=400000
 .by_cases h2:(gs.length:Int)<=5000
  .have HF:Hid (dp h gs=false):=by rw[Hid];unfold dp;simp[h1,h2]
   go_enter Tryz.func163,Tryz.ntmps163
   go_wp2_with fail;go_ret;rw[HF.o];exact ⟨rfl,fun _=>rfl,fun c=>by cases c⟩
  .have HF:Hid (dp h gs=true):=by rw[Hid];unfold dp;simp[h1];omega
   go_enter Tryz.func163,Tryz.ntmps163
   go_wp2_with fail;go_ret;rw[HF.o];exact ⟨rfl,fun c=>(by cases c),fun _=>⟨HM3.o,HB3.o⟩⟩
 .have HF:Hid (dp h gs=true):=by rw[Hid];unfold dp;simp;omega
  go_enter Tryz.func163,Tryz.ntmps163
  go_wp2_with fail;go_ret;rw[HF.o];exact ⟨rfl,fun c=>(by cases c),fun _=>⟨HM3.o,HB3.o⟩⟩
end
end
section
variable {lo:Nat} {w w':World} {s:Nat} {r:Rn} {h:List Cl} {gs:List Gq} {cs:List jo} {tr qs:List Nat} {an:List Tm}
theorem MN.toG (M:MN lo w s r h gs cs tr qs an) {X:Nat->Prop} {w1:World} {v':Value} {gs':List Gq} (hB:Bw X w.heap.size w w1) (hX: ∀k,X k->r.gv.ownBlock=some k\/(¬cm s r k/\r.qv.ownBlock≠some k)) (hA: ∀A∈an,NM X A) (hr:w1.ownsRow lo 76 3 v' gs'.length (db gs')) (hat:v'.ownBlock=r.gv.ownBlock\/∃q,v'.ownBlock=some q/\w.heap.size<=q):
 MN lo (w1.setCell ⟨s,1,none⟩ v') s { r with gv:=v'} h gs' cs tr qs an/\Bw (fun k=>k=s\/X k) w.heap.size w (w1.setCell ⟨s,1,none⟩ v'):=by
 have hAp:=M.apart;have hs:=hB.size;have hB2:=xi (s:=s) hB hs 1 v'
 have hXs: ¬X s:=fun hx=>by
  rcases hX s hx with e| ⟨e,_⟩
  .exact hAp.h1.2.1 e
  .exact e (.inl rfl)
 have hb1:o9 w1 s r:=M.blk.kept (hB.block s M.blk.lt hXs)
 have hn: ∀(v:Value),(∀k,v.ownBlock=some k->k≠s/\r.gv.ownBlock≠some k/\(cm s r k\/r.qv.ownBlock=some k))->∀k,v.ownBlock=some k->¬(k=s\/X k):=fun v hv k e hk=>by
  obtain ⟨h1,h2,h3⟩:=hv k e
  rcases hk with hk|hk
  .exact h1 hk
  .rcases hX k hk with e'| ⟨e1,e2⟩
   .exact h2 e'
   .rcases h3 with h3|h3
    .exact e1 h3
    .exact e2 h3
 have hv':v'.ownBlock≠some s:=fun e=>by
  rcases hat with e'| ⟨q,e',hq⟩
  .rw[e]at e';exact hAp.h1.2.1 e'.symm
  .rw[e]at e';have:=oj e';have:=M.blk.lt;omega
 refine ⟨⟨hb1.set 1 v' rfl,aw M.hp hB2 (hn r.hv fun k e=>⟨fun hk=>hAp.h1.1 (hk▸e),(hAp.hh k e).1,.inl (.inr (.inl e))⟩),?_,aw M.ch hB2 (hn r.cv fun k e=>⟨fun hk=>hAp.h1.2.2.1 (hk▸e),(hAp.hc k e).2.1,.inl (rZ (.inr (.inl e)))⟩),aw M.tl hB2 (hn r.tv fun k e=>⟨fun hk=>hAp.h1.2.2.2.1 (hk▸e),(hAp.ht k e).2.1,.inl (rZ (rZ (.inl e)))⟩),aw M.qu hB2 (hn r.qv fun k e=>⟨fun hk=>hAp.h1.2.2.2.2.1 (hk▸e),fun e'=>(hAp.hg k e').2.2.2.1 e,.inr e⟩),aw M.anr hB2 (hn r.av fun k e=>⟨fun hk=>hAp.h1.2.2.2.2.2 (hk▸e),(hAp.ha k e).2.1,.inl (rZ (rZ (.inr e)))⟩),?_,?_,M.los⟩,hB2⟩
 .exact World.ownsRow.kept hr (af s 1 v') (by
   cases hv:v'.ownBlock with
   |none=>exact .inl rfl
   |some k=>exact .inr (fun e=>hv' (by rw[hv,oj e])))
 .refine M.all' hB2 (fun A hA'=>eo (M.all A hA').1 fun k hk=>?_) fun k hk hm=>?_
  .rcases hk with hk|hk
   .subst hk;exact (M.all A hA').2.nb (.inl rfl)
   .exact (hA A hA').nb hk
  .have hold:v'.ownBlock=some k->r.gv.ownBlock=some k:=fun hm'=>by
    rcases hat with e'| ⟨q,e',hq⟩
    .rw[<-e'];exact hm'
    .rw[e']at hm';have:=oj hm';omega
   rcases hm with hm|hm|hm|hm|hm|hm
   .exact .inl hm
   .exact .inr (.inl hm)
   .exact rZ (.inl (hold hm))
   .exact rZ (.inr (.inl hm))
   .exact rZ (rZ (.inl hm))
   .exact rZ (rZ (.inr hm))
 .exact M.tq
theorem MN.toC (M:MN lo w s r h gs cs tr qs an) {X:Nat->Prop} {w1:World} {v':Value} {cs':List jo} (hB:Bw X w.heap.size w w1) (hX: ∀k,X k->r.cv.ownBlock=some k\/(¬cm s r k/\r.qv.ownBlock≠some k)) (hA: ∀A∈an,NM X A) (hr:w1.ownsRow lo 78 5 v' cs'.length (dq cs')) (hat:v'.ownBlock=r.cv.ownBlock\/∃q,v'.ownBlock=some q/\w.heap.size<=q):
 MN lo (w1.setCell ⟨s,3,none⟩ v') s { r with cv:=v'} h gs cs' tr qs an/\Bw (fun k=>k=s\/X k) w.heap.size w (w1.setCell ⟨s,3,none⟩ v'):=by
 have hAp:=M.apart;have hs:=hB.size;have hB2:=xi (s:=s) hB hs 3 v'
 have hXs: ¬X s:=fun hx=>by
  rcases hX s hx with e| ⟨e,_⟩
  .exact hAp.h1.2.2.1 e
  .exact e (.inl rfl)
 have hb1:o9 w1 s r:=M.blk.kept (hB.block s M.blk.lt hXs)
 have hn: ∀(v:Value),(∀k,v.ownBlock=some k->k≠s/\r.cv.ownBlock≠some k/\(cm s r k\/r.qv.ownBlock=some k))->∀k,v.ownBlock=some k->¬(k=s\/X k):=fun v hv k e hk=>by
  obtain ⟨h1,h2,h3⟩:=hv k e
  rcases hk with hk|hk
  .exact h1 hk
  .rcases hX k hk with e'| ⟨e1,e2⟩
   .exact h2 e'
   .rcases h3 with h3|h3
    .exact e1 h3
    .exact e2 h3
 have hv':v'.ownBlock≠some s:=fun e=>by
  rcases hat with e'| ⟨q,e',hq⟩
  .rw[e]at e';exact hAp.h1.2.2.1 e'.symm
  .rw[e]at e';have:=oj e';have:=M.blk.lt;omega
 refine ⟨⟨hb1.set 3 v' rfl,aw M.hp hB2 (hn r.hv fun k e=>⟨fun hk=>hAp.h1.1 (hk▸e),(hAp.hh k e).2.1,.inl (.inr (.inl e))⟩),aw M.go hB2 (hn r.gv fun k e=>⟨fun hk=>hAp.h1.2.1 (hk▸e),(hAp.hg k e).2.1,.inl (rZ (.inl e))⟩),?_,aw M.tl hB2 (hn r.tv fun k e=>⟨fun hk=>hAp.h1.2.2.2.1 (hk▸e),(hAp.ht k e).2.2.1,.inl (rZ (rZ (.inl e)))⟩),aw M.qu hB2 (hn r.qv fun k e=>⟨fun hk=>hAp.h1.2.2.2.2.1 (hk▸e),fun e'=>(hAp.hc k e').2.2.2.1 e,.inr e⟩),aw M.anr hB2 (hn r.av fun k e=>⟨fun hk=>hAp.h1.2.2.2.2.2 (hk▸e),(hAp.ha k e).2.2.1,.inl (rZ (rZ (.inr e)))⟩),?_,?_,M.los⟩,hB2⟩
 .exact World.ownsRow.kept hr (af s 3 v') (by
   cases hv:v'.ownBlock with
   |none=>exact .inl rfl
   |some k=>exact .inr (fun e=>hv' (by rw[hv,oj e])))
 .refine M.all' hB2 (fun A hA'=>eo (M.all A hA').1 fun k hk=>?_) fun k hk hm=>?_
  .rcases hk with hk|hk
   .subst hk;exact (M.all A hA').2.nb (.inl rfl)
   .exact (hA A hA').nb hk
  .have hold:v'.ownBlock=some k->r.cv.ownBlock=some k:=fun hm'=>by
    rcases hat with e'| ⟨q,e',hq⟩
    .rw[<-e'];exact hm'
    .rw[e']at hm';have:=oj hm';omega
   rcases hm with hm|hm|hm|hm|hm|hm
   .exact .inl hm
   .exact .inr (.inl hm)
   .exact rZ (.inl hm)
   .exact rZ (.inr (.inl (hold hm)))
   .exact rZ (rZ (.inl hm))
   .exact rZ (rZ (.inr hm))
 .exact M.tq
theorem MN.toT (M:MN lo w s r h gs cs tr qs an) {X:Nat->Prop} {w1:World} {v':Value} {tr':List Nat} (hB:Bw X w.heap.size w w1) (hX: ∀k,X k->r.tv.ownBlock=some k\/(¬cm s r k/\r.qv.ownBlock≠some k)) (hA: ∀A∈an,NM X A) (hr:w1.ownsRow lo 3 1 v' tr'.length (fg tr')) (hat:v'.ownBlock=r.tv.ownBlock\/∃q,v'.ownBlock=some q/\w.heap.size<=q):
 MN lo (w1.setCell ⟨s,4,none⟩ v') s { r with tv:=v'} h gs cs tr' qs an/\Bw (fun k=>k=s\/X k) w.heap.size w (w1.setCell ⟨s,4,none⟩ v'):=by
 have hAp:=M.apart;have hs:=hB.size;have hB2:=xi (s:=s) hB hs 4 v'
 have hXs: ¬X s:=fun hx=>by
  rcases hX s hx with e| ⟨e,_⟩
  .exact hAp.h1.2.2.2.1 e
  .exact e (.inl rfl)
 have hb1:o9 w1 s r:=M.blk.kept (hB.block s M.blk.lt hXs)
 have hn: ∀(v:Value),(∀k,v.ownBlock=some k->k≠s/\r.tv.ownBlock≠some k/\(cm s r k\/r.qv.ownBlock=some k))->∀k,v.ownBlock=some k->¬(k=s\/X k):=fun v hv k e hk=>by
  obtain ⟨h1,h2,h3⟩:=hv k e
  rcases hk with hk|hk
  .exact h1 hk
  .rcases hX k hk with e'| ⟨e1,e2⟩
   .exact h2 e'
   .rcases h3 with h3|h3
    .exact e1 h3
    .exact e2 h3
 have hv':v'.ownBlock≠some s:=fun e=>by
  rcases hat with e'| ⟨q,e',hq⟩
  .rw[e]at e';exact hAp.h1.2.2.2.1 e'.symm
  .rw[e]at e';have:=oj e';have:=M.blk.lt;omega
 refine ⟨⟨hb1.set 4 v' rfl,aw M.hp hB2 (hn r.hv fun k e=>⟨fun hk=>hAp.h1.1 (hk▸e),(hAp.hh k e).2.2.1,.inl (.inr (.inl e))⟩),aw M.go hB2 (hn r.gv fun k e=>⟨fun hk=>hAp.h1.2.1 (hk▸e),(hAp.hg k e).2.2.1,.inl (rZ (.inl e))⟩),aw M.ch hB2 (hn r.cv fun k e=>⟨fun hk=>hAp.h1.2.2.1 (hk▸e),(hAp.hc k e).2.2.1,.inl (rZ (.inr (.inl e)))⟩),?_,aw M.qu hB2 (hn r.qv fun k e=>⟨fun hk=>hAp.h1.2.2.2.2.1 (hk▸e),fun e'=>(hAp.ht k e').2.2.2.1 e,.inr e⟩),aw M.anr hB2 (hn r.av fun k e=>⟨fun hk=>hAp.h1.2.2.2.2.2 (hk▸e),(hAp.ha k e).2.2.2.1,.inl (rZ (rZ (.inr e)))⟩),?_,?_,M.los⟩,hB2⟩
 .exact World.ownsRow.kept hr (af s 4 v') (by
   cases hv:v'.ownBlock with
   |none=>exact .inl rfl
   |some k=>exact .inr (fun e=>hv' (by rw[hv,oj e])))
 .refine M.all' hB2 (fun A hA'=>eo (M.all A hA').1 fun k hk=>?_) fun k hk hm=>?_
  .rcases hk with hk|hk
   .subst hk;exact (M.all A hA').2.nb (.inl rfl)
   .exact (hA A hA').nb hk
  .have hold:v'.ownBlock=some k->r.tv.ownBlock=some k:=fun hm'=>by
    rcases hat with e'| ⟨q,e',hq⟩
    .rw[<-e'];exact hm'
    .rw[e']at hm';have:=oj hm';omega
   rcases hm with hm|hm|hm|hm|hm|hm
   .exact .inl hm
   .exact .inr (.inl hm)
   .exact rZ (.inl hm)
   .exact rZ (.inr (.inl hm))
   .exact rZ (rZ (.inl (hold hm)))
   .exact rZ (rZ (.inr hm))
 .intro k hk hq
  have hk':=hk;have hql:=fj M.qu hq
  rcases hat with e'| ⟨q,e',hq'⟩
  .rw[e']at hk';exact M.tq k hk' hq
  .rw[e']at hk';have:=oj hk';omega
end
theorem ym (l:List Gq):(db l).length=l.length*3:=by
 induction l with
 |nil=>rfl
 |cons c l ih=>show (js c++db l).length=_;rw[List.length_append,ih];simp[js];omega
theorem As (l k:List jo):dq (l++k)=dq l++dq k:=by unfold dq;simp
theorem It (l:List jo):(dq l).length=l.length*5:=by
 induction l with
 |nil=>rfl
 |cons c l ih=>show (j7 c++dq l).length=_;rw[List.length_append,ih];simp[j7];omega
theorem Bo (l:List Nat):(fg l).length=l.length:=by unfold fg;simp
theorem su {w:World} {lo n z k cp:Nat} {t:TypeId} {a:Option Addr} {xs ys:List Value} (h:w.ownsRow lo t z (.slice a n cp) n xs) (hk:k<=n) (hy:ys=xs.take (k*z)) (ha:a=none->k=0/\cp=0):w.ownsRow lo t z (.slice a k cp) k ys:=by
 obtain ⟨h1,h2⟩:=h;refine ⟨by rw[hy,List.length_take,h1];exact Nat.min_eq_left (Nat.mul_le_mul_right _ hk),?_⟩
 rcases h2 with ⟨hv,h0⟩| ⟨g,cap,cur,hv,hlo,hg,hn,hm,hsz,htk⟩
 .injection hv with e1 e2 e3
  subst e1 e3;obtain rfl:k=0:=by omega
  exact .inl ⟨rfl,rfl⟩
 .injection hv with e1 e2 e3
  subst e1 e3;refine .inr ⟨g,cp,cur,rfl,hlo,hg,by omega,hm,hsz,?_⟩
  rw[hy,<-htk,List.take_take,Nat.min_eq_left (Nat.mul_le_mul_right _ hk)]
theorem E1 (l:List Gq) (k:Nat):db (l.take k)=(db l).take (k*3):=by
 induction l generalizing k with
 |nil=>simp[db]
 |cons c l ih=>
  cases k with
  |zero=>simp[db]
  |succ k=>
   show js c++db (l.take k)=(js c++db l).take ((k+1)*3)
   have e1:(js c).take ((k+1)*3)=js c:=List.take_of_length_le (by show 3<=_;omega)
   have e2:(k+1)*3-(js c).length=k*3:=by show (k+1)*3-3=_;omega
   rw[ih,List.take_append,e1,e2]
theorem E0 (l:List jo) (k:Nat):dq (l.take k)=(dq l).take (k*5):=by
 induction l generalizing k with
 |nil=>simp[dq]
 |cons c l ih=>
  cases k with
  |zero=>simp[dq]
  |succ k=>
   show j7 c++dq (l.take k)=(j7 c++dq l).take ((k+1)*5)
   have e1:(j7 c).take ((k+1)*5)=j7 c:=List.take_of_length_le (by show 5<=_;omega)
   have e2:(k+1)*5-(j7 c).length=k*5:=by show (k+1)*5-5=_;omega
   rw[ih,List.take_append,e1,e2]
theorem E2 (l:List Cl) (k:Nat):ce (l.take k)=(ce l).take (k*3):=by
 induction l generalizing k with
 |nil=>simp[ce]
 |cons c l ih=>
  cases k with
  |zero=>simp[ce]
  |succ k=>
   show dg c++ce (l.take k)=(dg c++ce l).take ((k+1)*3)
   have e1:(dg c).take ((k+1)*3)=dg c:=List.take_of_length_le (by show 3<=_;omega)
   have e2:(k+1)*3-(dg c).length=k*3:=by show (k+1)*3-3=_;omega
   rw[ih,List.take_append,e1,e2]
theorem Ic (l:List Nat) (k:Nat):fg (l.take k)=(fg l).take (k*1):=by unfold fg;rw[List.map_take,Nat.mul_one]
theorem ak {w:World} {lo n z:Nat} {t:TypeId} {v:Value} {xs:List Value} (h:w.ownsRow lo t z v n xs): ∃a cp,v=.slice a n cp/\n<=cp/\(a=none->n=0/\cp=0)/\(∀ad,a=some ad->∃g,ad=⟨g,0,none⟩):=by
 rcases h.2 with ⟨hv,h0⟩| ⟨g,cap,cur,hv,hlo,hg,hn,_⟩
 .exact ⟨none,0,by rw[hv,h0],by omega,fun _=>⟨h0,rfl⟩,fun ad e=>by cases e⟩
 .exact ⟨some (dZ g 0),cap,hv,hn,fun e=>(by cases e),fun ad e=>⟨g,(oj e).symm⟩⟩
end Go.Proofs.YtmggaclaoefdaabGreat
