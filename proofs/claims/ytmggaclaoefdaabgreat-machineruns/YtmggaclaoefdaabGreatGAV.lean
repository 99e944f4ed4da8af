/- Part of the proof. -/
import Derived.Test.YtmggaclaoefdaabGreatGAU
namespace Go.Proofs.YtmggaclaoefdaabGreat
open Go.RowKit Go.Proofs.Tryz
set_option linter.unusedVariables false
set_option linter.unusedSimpArgs false
set_option maxRecDepth 100000
set_option maxHeartbeats 8000000
structure Cr where
 p:Value
 gl:List Gl
 k:Nat
 mark:Nat
 σ:Sg
def kl (c:Cr):List Value:= [c.p,iV c.k,iV c.mark]
def fk (l:List Cr):List Value:=(l.map kl).flatten
def lh (A:Tm):Value:=.slice A.a A.len A.cap
structure SS (w0 w:World) (s m:Nat) (r:Sr) (tv:Value) (n:Nat) (σ:Sg) (L:Int) (tr:List Int) (gl:List Gl) (ch:List Cr) (an:List Tm):Prop where
 blk:Dd w s r
 vs:VS w r.b m tv 1000000 w0.heap.size n σ L
 trk:wo w w0.heap.size tv tr σ
 sg: ∀v T,σ v=some T->NM (Ms s r.cv r.av) T
 gls:GL w (Mu s r.b m tv r.cv r.av) 1000000 r.first gl
 chr:w.ownsRow w0.heap.size 194 3 r.cv ch.length (fk ch)
 chg: ∀c∈ch,GL w (Mu s r.b m tv r.cv r.av) 1000000 c.p c.gl
 chs: ∀c∈ch,c.mark<=tr.length/\c.σ=pc σ (tr.take c.mark)
 chm:ch.Pairwise fun a b=>a.mark<=b.mark
 anr:w.ownsRow w0.heap.size 87 1 r.av an.length (an.map lh)
 ant: ∀A∈an,ay w A/\NM (Mu s r.b m tv r.cv r.av) A
 low:Below w0.heap.size w0 w
 los:w0.heap.size<=s
 dsb:s≠r.b/\s≠m/\∀g,tv.ownBlock=some g->g≠s
 dcv: ∀g,r.cv.ownBlock=some g->g≠s/\g≠r.b/\g≠m/\tv.ownBlock≠some g
 dav: ∀g,r.av.ownBlock=some g->g≠s/\g≠r.b/\g≠m/\tv.ownBlock≠some g/\r.cv.ownBlock≠some g
theorem wm {w w':World} {lo sz:Nat} {t:TypeId} {v:Value} {n:Nat} {xs:List Value} (h:w.ownsRow lo t sz v n xs) (hb: ∀g,v.ownBlock=some g->w'.heap[g]?=w.heap[g]?):w'.ownsRow lo t sz v n xs:=by
 refine ⟨h.1,?_⟩
 rcases h.2 with hn| ⟨g,cap,cur,rfl,hb',hg,rest⟩
 .exact .inl hn
 .exact .inr ⟨g,cap,cur,rfl,hb',(hb g rfl).trans hg,rest⟩
section
variable {w0 w:World} {s m:Nat} {r:Sr} {tv:Value} {n:Nat} {σ:Sg} {L:Int} {tr:List Int} {gl:List Gl} {ch:List Cr} {an:List Tm}
theorem SS.mu (h:SS w0 w s m r tv n σ L tr gl ch an) {k:Nat} (hk:Mu s r.b m tv r.cv r.av k):w0.heap.size<=k/\k<w.heap.size:=by
 rcases hk with (rfl|rfl|hk)| (rfl|hk|hk)
 .exact ⟨h.vs.lob.1,h.vs.lt⟩
 .exact ⟨h.vs.lob.2,h.vs.map.lt⟩
 .exact h.trk.1.lt k hk
 .exact ⟨h.los,h.blk.lt⟩
 .exact h.chr.lt k hk
 .exact h.anr.lt k hk
theorem SS.lows (h:SS w0 w s m r tv n σ L tr gl ch an) {w':World} (hb:Bw (Mu s r.b m tv r.cv r.av) w.heap.size w w'):Below w0.heap.size w0 w':=
 ⟨hb.os.trans h.low.os,hb.tape.trans h.low.tape,hb.output.trans h.low.output,lT h.low.size hb.size,fun k hk=>(hb.block k (lL hk h.low.size) (fun e=>by have:=(h.mu e).1;omega)).trans (h.low.block k hk)⟩
theorem SS.ofGF {w':World} (hg:GF r.b m tv w w'):Bw (Mu s r.b m tv r.cv r.av) w.heap.size w w':=
 ⟨hg.os,hg.tape,hg.output,hg.size,fun k hk hm=>hg.block k hk (fun e=>hm (.inl (.inl e))) (fun e=>hm (.inl (.inr (.inl e)))) (fun _ hg' e=>hm (.inl (rZ (e▸hg'))))⟩
theorem SS.good (_h:SS w0 w s m r tv n σ L tr gl ch an) {T:Tm} (hT:ay w T) (hO:d9 1000000 T) (hM:NM (Mu s r.b m tv r.cv r.av) T):Good w r.b m tv 1000000 T:=
 ⟨hT,hO,hM.nb (.inl (.inl rfl)),hM.nb (.inl (.inr (.inl rfl))),fun _ hg=>hM.nb (.inl (rZ hg))⟩
theorem Fx {σ σ':Sg} {tr new:List Int} (hs: ∀v∈tr,σ' v=σ v) {k:Nat} (hk:k<=tr.length):pc σ' ((tr++new).take k)=pc σ (tr.take k):=by
 rw[List.take_append_of_le_length hk]
 funext v
 unfold pc
 by_cases h:v∈tr.take k
 .rw[if_pos h,if_pos h];exact hs v (List.mem_of_mem_take h)
 .rw[if_neg h,if_neg h]
theorem Of {σ:Sg} {tr:List Int} (hs: ∀v,(σ v).isSome=true↔v∈tr):pc σ (tr.take tr.length)=σ:=by
 rw[List.take_length]
 funext v
 unfold pc
 by_cases h:v∈tr
 .rw[if_pos h]
 .rw[if_neg h]
  cases hv:σ v with
  |none=>rfl
  |some U=>exact absurd ((hs v).1 (by rw[hv];rfl)) h
theorem Sl {s b m:Nat} {tv cv av:Value} {T:Tm} (h1:NB b T) (h2:NB m T) (h3: ∀g,tv.ownBlock=some g->NB g T) (h4:NM (Ms s cv av) T):NM (Mu s b m tv cv av) T:=by
 induction T with
 |nil=>trivial
 |mk v nm a len cap f ih=>
  refine ⟨fun h0=>?_,fun i hi=>ih i (h1.2 i hi) (h2.2 i hi) (fun g hg=>(h3 g hg).2 i hi) (h4.2 i hi)⟩
  obtain ⟨x,o,e,hx⟩:=h4.1 h0;refine ⟨x,o,e,fun hm=>?_⟩
  rcases hm with (hm|hm|hm)|hm
  .obtain ⟨y,o',e',hy⟩:=h1.1 h0
   rw[e]at e';cases e';exact hy hm
  .obtain ⟨y,o',e',hy⟩:=h2.1 h0
   rw[e]at e';cases e';exact hy hm
  .obtain ⟨y,o',e',hy⟩:=(h3 x hm).1 h0
   rw[e]at e';cases e';exact hy rfl
  .exact hx hm
theorem SS.wha (h:SS w0 w s m r tv n σ L tr gl ch an) {T:Tm} (hT:ay w T/\d9 1000000 T/\NM (Mu s r.b m tv r.cv r.av) T):ay w (wha σ T)/\d9 1000000 (wha σ T)/\NM (Mu s r.b m tv r.cv r.av) (wha σ T):=by
 rcases pq σ (T.v.toNat+1) T with e| ⟨v,e⟩
 .unfold Go.Proofs.YtmggaclaoefdaabGreat.wha;rw[e];exact hT
 .obtain ⟨h1,h2,h3,h4,h5⟩:=h.vs.trm v _ e
  exact ⟨h1,h2,Sl h3 h4 h5 (h.sg v _ e)⟩
theorem SS.vars (h:SS w0 w s m r tv n σ L tr gl ch an) {w':World} {tv':Value} {n':Nat} {σ':Sg} {L':Int} (hv:VS w' r.b m tv' 1000000 w0.heap.size n' σ' L') (hg:GF r.b m tv w w') (ht:TX w0.heap.size tv σ w tv' σ' w') (hk: ∀v T,σ' v=some T->NM (Ms s r.cv r.av) T):
 ∃tr',SS w0 w' s m r tv' n' σ' L' tr' gl ch an/\(tr.length<=tr'.length/\tr'.take tr.length=tr)/\pc σ' (tr'.take tr.length)=σ/\∀k,k<w.heap.size->Mu s r.b m tv' r.cv r.av k->Mu s r.b m tv r.cv r.av k:=by
 obtain ⟨new,h1,h2⟩:=ht.2 tr h.trk;have hb:=SS.ofGF (s:=s) hg;have hsz:=hg.size
 have hmu: ∀k,k<w.heap.size->Mu s r.b m tv' r.cv r.av k->Mu s r.b m tv r.cv r.av k:=fun k hk' e=>by
  rcases e with (e|e|e)|e
  .exact .inl (.inl e)
  .exact .inl (.inr (.inl e))
  .rcases ht.1 k e with e'|e'
   .exact .inl (rZ e')
   .omega
  .exact .inr e
 have hne: ∀k,k<w.heap.size->tv.ownBlock≠some k->tv'.ownBlock≠some k:=fun k hk' h1 e=>by
  rcases ht.1 k e with e'|e'
  .exact h1 e'
  .omega
 have hs:=h.blk.lt;have hst:w'.heap[s]?=w.heap[s]?:=hg.block s hs h.dsb.1 h.dsb.2.1 (fun g hg' e=>h.dsb.2.2 g hg' e)
 refine ⟨tr++new,⟨h.blk.kept hst,hv,h1,hk,h.gls.next hb hmu,wm h.chr (fun g hg'=>?_),fun c hc=>(h.chg c hc).next hb hmu,fun c hc=>?_,h.chm,wm h.anr (fun g hg'=>?_),fun A hA=>⟨(h.ant A hA).1.bw hb lZ (h.ant A hA).2,(h.ant A hA).2.anti (h.ant A hA).1 hmu⟩,h.lows hb,h.los,⟨h.dsb.1,h.dsb.2.1,fun g hg' e=>?_⟩,fun g hg'=>?_,fun g hg'=>?_⟩,⟨by simp,by simp⟩,by rw[Fx h2 lZ];exact Of h.trk.2.2.1,hmu⟩
 .obtain ⟨d1,d2,d3,d4⟩:=h.dcv g hg'
  exact hg.block g (h.chr.lt g hg').2 d2 d3 (fun g' h' e=>d4 (e▸h'))
 .obtain ⟨h3,h4⟩:=h.chs c hc
  exact ⟨by rw[List.length_append];omega,by rw[Fx h2 h3];exact h4⟩
 .obtain ⟨d1,d2,d3,d4,d5⟩:=h.dav g hg'
  exact hg.block g (h.anr.lt g hg').2 d2 d3 (fun g' h' e=>d4 (e▸h'))
 .subst e
  exact hne g hs (fun e=>h.dsb.2.2 g e rfl) hg'
 .obtain ⟨d1,d2,d3,d4⟩:=h.dcv g hg'
  exact ⟨d1,d2,d3,hne g (h.chr.lt g hg').2 d4⟩
 .obtain ⟨d1,d2,d3,d4,d5⟩:=h.dav g hg'
  exact ⟨d1,d2,d3,hne g (h.anr.lt g hg').2 d4,d5⟩
theorem SS.below (h:SS w0 w s m r tv n σ L tr gl ch an) {w':World} (hb:Below w.heap.size w w'):SS w0 w' s m r tv n σ L tr gl ch an:=by
 have hw:Bw (Mu s r.b m tv r.cv r.av) w.heap.size w w':=Bw.ofBelow hb;have hr: ∀(v:Value),(∀g,v.ownBlock=some g->g<w.heap.size)->∀g,v.ownBlock=some g->w'.heap[g]?=w.heap[g]?:=fun v h1 g hg=>hb.block g (h1 g hg)
 exact ⟨h.blk.kept (hb.block s h.blk.lt),h.vs.below hb,⟨wm h.trk.1 (hr tv (fun g hg=>(h.trk.1.lt g hg).2)),h.trk.2⟩,h.sg,h.gls.next hw (fun _ _ e=>e),wm h.chr (hr _ (fun g hg=>(h.chr.lt g hg).2)),fun c hc=>(h.chg c hc).next hw (fun _ _ e=>e),h.chs,h.chm,wm h.anr (hr _ (fun g hg=>(h.anr.lt g hg).2)),fun A hA=>⟨(h.ant A hA).1.below hb,(h.ant A hA).2⟩,h.lows hw,h.los,h.dsb,h.dcv,h.dav⟩
theorem SS.put (h:SS w0 w s m r tv n σ L tr gl ch an) (i:Nat) (v:Value) {r':Sr} {gl':List Gl} (hr:r'.cells=r.cells.setIfInBounds i v) (hb:r'.b=r.b) (hc:r'.cv=r.cv) (ha:r'.av=r.av) (hg:GL w (Mu s r.b m tv r.cv r.av) 1000000 r'.first gl'):SS w0 (w.setCell ⟨s,i,none⟩ v) s m r' tv n σ L tr gl' ch an:=by
 have hG:=G.set s w i v;have hw:Bw (Mu s r.b m tv r.cv r.av) w.heap.size w (w.setCell (dZ s i) v):=(Bw.refl _ _ _).grown hG lZ (fun k hk=> rZ (.inl (oj hk).symm))
 have hvs:=h.vs.atK hG h.dsb.1 h.dsb.2.1 h.dsb.2.2 (fun v T hv=>(h.sg v T hv).nb (.inl rfl))
 refine ⟨h.blk.set i v hr,by rw[hb];exact hvs,⟨h.trk.1.kept hG (j6 h.dsb.2.2),h.trk.2⟩,by rw[hc,ha];exact h.sg,?_,?_,?_,h.chs,h.chm,?_,?_,h.lows hw,h.los,by rw[hb];exact h.dsb,by rw[hb,hc];exact h.dcv,by rw[hb,hc,ha];exact h.dav⟩
 .rw[hb,hc,ha];exact hg.next hw (fun _ _ e=>e)
 .rw[hc];exact h.chr.kept hG (j6 (fun g hg'=>(h.dcv g hg').1))
 .rw[hb,hc,ha];exact fun c hc'=>(h.chg c hc').next hw (fun _ _ e=>e)
 .rw[ha];exact h.anr.kept hG (j6 (fun g hg'=>(h.dav g hg').1))
 .rw[hb,hc,ha];exact fun A hA=>⟨(h.ant A hA).1.bw hw lZ (h.ant A hA).2,(h.ant A hA).2⟩
end
theorem Ar (l k:List Cr):fk (l++k)=fk l++fk k:=by unfold fk;rw[List.map_append,List.flatten_append]
theorem Ir (l:List Cr):(fk l).length=l.length*3:=by
 induction l with
 |nil=>rfl
 |cons c l ih=>rw[show fk (c::l)=kl c++fk l from rfl,List.length_append,ih,List.length_cons];simp[kl];omega
theorem Ez (l:List Cr): ∀k,fk (l.take k)=(fk l).take (k*3):=by
 induction l with
 |nil=>intro k;simp[fk]
 |cons c l ih=>
  intro k
  cases k with
  |zero=>simp[fk]
  |succ k=>
   rw[List.take_succ_cons,show fk (c::l)=kl c++fk l from rfl,show fk (c::l.take k)=kl c++fk (l.take k)from rfl,ih,List.take_append]
   rw[show (kl c).length=3 from rfl,List.take_of_length_le (l:=kl c) (by show 3<=(k+1)*3;omega),show (k+1)*3-3=k*3 from by omega]
section
variable {w0 w:World} {s m:Nat} {r:Sr} {tv:Value} {n:Nat} {σ:Sg} {L:Int} {tr:List Int} {gl:List Gl} {ch:List Cr} {an:List Tm}
theorem SS.push (h:SS w0 w s m r tv n σ L tr gl ch an) {w':World} {cv':Value} {c:Cr} (ho:w'.ownsRow w0.heap.size 194 3 cv' (ch.length+1) (fk ch++fk [c])) (hg:w.grownBy w' r.cv.ownBlock) (hat:cv'.ownBlock=r.cv.ownBlock\/cv'.ownBlock=some w.heap.size)
 (hcg:GL w (Mu s r.b m tv r.cv r.av) 1000000 c.p c.gl) (hcs:c.mark<=tr.length/\c.σ=pc σ (tr.take c.mark)) (hcm: ∀d∈ch,d.mark<=c.mark):
 SS w0 (w'.setCell ⟨s,9,none⟩ cv') s m { r with cv:=cv'} tv n σ L tr gl (ch++ [c]) an:=by
 have hs:=h.blk.lt;have hns:r.cv.ownBlock≠some s:=fun e=>(h.dcv s e).1 rfl
 have hst:w'.heap[s]?=w.heap[s]?:=hg.block s hs (fun e=>hns e.symm)
 have hw1:Bw (Mu s r.b m tv r.cv r.av) w.heap.size w w':=(Bw.refl _ _ _).grown hg lZ (fun k hk=> rZ (.inr (.inl hk)))
 have hset:=G.set s w' 9 cv';have hw:Bw (Mu s r.b m tv r.cv r.av) w.heap.size w (w'.setCell (dZ s 9) cv'):=hw1.grown hset hw1.size (fun k hk=> rZ (.inl (oj hk).symm))
 have hmu: ∀k,k<w.heap.size->Mu s r.b m tv cv' r.av k->Mu s r.b m tv r.cv r.av k:=fun k hk e=>by
  rcases e with e|e|e|e
  .exact .inl e
  .exact .inr (.inl e)
  .rcases hat with h1|h1
   .exact rZ (.inl (h1▸e))
   .rw[h1]at e;have:=oj e;omega
  .exact rZ (.inr e)
 have hcvd: ∀g,cv'.ownBlock=some g->g≠s/\g≠r.b/\g≠m/\tv.ownBlock≠some g/\r.av.ownBlock≠some g:=fun g hg'=>by
  rcases hat with e|e
  .rw[e]at hg'
   obtain ⟨d1,d2,d3,d4⟩:=h.dcv g hg';exact ⟨d1,d2,d3,d4,fun ea=>(h.dav g ea).2.2.2.2 hg'⟩
  .rw[e]at hg'
   have he:=oj hg';have h1:=h.vs.lt;have h2:=h.vs.map.lt;refine ⟨by omega,by omega,by omega,fun e=>?_,fun e=>?_⟩
   .have:=(h.trk.1.lt g e).2;omega
   .have:=(h.anr.lt g e).2;omega
 have hms: ∀v T,σ v=some T->NM (Ms s cv' r.av) T:=fun v T hv=>(h.sg v T hv).anti (h.vs.trm v T hv).1 (fun k hk e=>by
  rcases e with e|e|e
  .exact .inl e
  .rcases hat with h1|h1
   .exact .inr (.inl (h1▸e))
   .rw[h1]at e;have:=oj e;omega
  .exact rZ e)
 have hvs1:VS w' r.b m tv 1000000 w0.heap.size n σ L:=by
  cases hcb:r.cv.ownBlock with
  |none=>rw[hcb]at hg;exact h.vs.below ⟨hg.os,hg.tape,hg.output,hg.size,fun k hk=>hg.block k hk (by simp)⟩
  |some g=>
   rw[hcb]at hg;obtain ⟨d1,d2,d3,d4⟩:=h.dcv g hcb;exact h.vs.atK hg d2 d3 (fun g' e e'=>d4 (e'▸e)) (fun v T hv=>(h.sg v T hv).nb (.inr (.inl hcb)))
 have hvs2:=hvs1.atK hset h.dsb.1 h.dsb.2.1 h.dsb.2.2 (fun v T hv=>(h.sg v T hv).nb (.inl rfl))
 have hrw: ∀{lo sz:Nat} {t:TypeId} {v:Value} {n:Nat} {xs:List Value},w.ownsRow lo t sz v n xs->(∀g,v.ownBlock=some g->g≠s/\r.cv.ownBlock≠some g)->(w'.setCell (dZ s 9) cv').ownsRow lo t sz v n xs:=fun h1 h2=>wm h1 (fun g hg'=>by
  have hl:=(h1.lt g hg').2;exact (hset.block g (lL hl hg.size) (by simpa using (h2 g hg').1)).trans (hg.block g hl (fun e=>(h2 g hg').2 e.symm)))
 refine ⟨(h.blk.kept hst).set 9 cv' rfl,hvs2,⟨hrw h.trk.1 (fun g hg'=>⟨h.dsb.2.2 g hg',fun e=>(h.dcv g e).2.2.2 hg'⟩),h.trk.2⟩,hms,h.gls.next hw hmu,?_,fun d hd=>?_,fun d hd=>?_,?_,hrw h.anr (fun g hg'=>⟨(h.dav g hg').1,(h.dav g hg').2.2.2.2⟩),fun A hA=>⟨(h.ant A hA).1.bw hw lZ (h.ant A hA).2,(h.ant A hA).2.anti (h.ant A hA).1 hmu⟩,h.lows hw,h.los,h.dsb,fun g hg'=>?_,fun g hg'=>?_⟩
 .rw[List.length_append,Ar]
  exact ho.kept hset (j6 (fun g hg'=>(hcvd g hg').1))
 .rcases List.mem_append.1 hd with hd|hd
  .exact (h.chg d hd).next hw hmu
  .rw[List.mem_singleton]at hd;subst hd;exact hcg.next hw hmu
 .rcases List.mem_append.1 hd with hd|hd
  .exact h.chs d hd
  .rw[List.mem_singleton]at hd;subst hd;exact hcs
 .rw[List.pairwise_append]
  exact ⟨h.chm,by simp,fun a ha b hb=>by rw[List.mem_singleton]at hb;subst hb;exact hcm a ha⟩
 .obtain ⟨d1,d2,d3,d4,_⟩:=hcvd g hg'
  exact ⟨d1,d2,d3,d4⟩
 .obtain ⟨d1,d2,d3,d4,_⟩:=h.dav g hg'
  exact ⟨d1,d2,d3,d4,fun e=>(hcvd g e).2.2.2.2 hg'⟩
theorem SS.cut (h:SS w0 w s m r tv n σ L tr gl ch an) {k cp:Nat} {a:Option Addr} (hk:k<=ch.length) (hcv:r.cv=.slice a ch.length cp):
 SS w0 (w.setCell ⟨s,9,none⟩ (.slice a k cp)) s m { r with cv:=.slice a k cp} tv n σ L tr gl (ch.take k) an:=by
 have hob:(Value.slice a k cp).ownBlock=r.cv.ownBlock:=by rw[hcv];cases a <;> rfl
 have hset:=G.set s w 9 (.slice a k cp);have hw:Bw (Mu s r.b m tv r.cv r.av) w.heap.size w (w.setCell (dZ s 9) (.slice a k cp)):=(Bw.refl _ _ _).grown hset lZ (fun j hj=> rZ (.inl (oj hj).symm))
 have hmu: ∀j,j<w.heap.size->Mu s r.b m tv (.slice a k cp) r.av j->Mu s r.b m tv r.cv r.av j:=fun j _ e=>by
  rcases e with e|e|e|e
  .exact .inl e
  .exact .inr (.inl e)
  .exact rZ (.inl (hob▸e))
  .exact rZ (.inr e)
 have hvs:=h.vs.atK hset h.dsb.1 h.dsb.2.1 h.dsb.2.2 (fun v T hv=>(h.sg v T hv).nb (.inl rfl))
 refine ⟨h.blk.set 9 _ rfl,hvs,⟨h.trk.1.kept hset (j6 h.dsb.2.2),h.trk.2⟩,fun v T hv=>(h.sg v T hv).anti (h.vs.trm v T hv).1 (fun j _ e=>?_),h.gls.next hw hmu,?_,fun d hd=>(h.chg d (List.mem_of_mem_take hd)).next hw hmu,fun d hd=>h.chs d (List.mem_of_mem_take hd),h.chm.sublist (List.take_sublist k ch),h.anr.kept hset (j6 (fun g hg'=>(h.dav g hg').1)),fun A hA=>⟨(h.ant A hA).1.bw hw lZ (h.ant A hA).2,(h.ant A hA).2.anti (h.ant A hA).1 hmu⟩,h.lows hw,h.los,h.dsb,fun g hg'=>h.dcv g (hob▸hg'),fun g hg'=>?_⟩
 .rcases e with e|e|e
  .exact .inl e
  .exact .inr (.inl (hob▸e))
  .exact rZ e
 .have h1:=h.chr.kept hset (j6 (fun g hg'=>(h.dcv g hg').1))
  have hl:(ch.take k).length=k:=by rw[List.length_take];omega
  rw[hl,Ez];refine ⟨by rw[List.length_take,Ir];omega,?_⟩
  rcases h1.2 with ⟨e,h0⟩| ⟨g,cap,cur,e,hlo,hgg,hnc,hcm,hsz,htk⟩
  .rw[hcv]at e
   simp at e;exact .inl ⟨by rw[e.1,e.2.2];simp;omega,by omega⟩
  .rw[hcv]at e
   simp only[Value.slice.injEq]at e;obtain ⟨rfl,_,rfl⟩:=e;exact .inr ⟨g,cp,cur,rfl,hlo,hgg,by omega,hcm,hsz,by rw[<-htk,List.take_take];congr 1;omega⟩
 .obtain ⟨d1,d2,d3,d4,d5⟩:=h.dav g hg'
  exact ⟨d1,d2,d3,d4,hob▸d5⟩
theorem SS.undo (h:SS w0 w s m r tv n σ L tr gl ch an) {w':World} {tv':Value} {k:Nat} (hk:k<=tr.length) (hkc: ∀c∈ch,c.mark<=k) (ht:tv'.ownBlock=tv.ownBlock) (hv:VS w' r.b m tv' 1000000 w0.heap.size n (pc σ (tr.take k)) L) (htr:wo w' w0.heap.size tv' (tr.take k) (pc σ (tr.take k))) (hg:GF r.b m tv w w'):
 SS w0 w' s m r tv' n (pc σ (tr.take k)) L (tr.take k) gl ch an:=by
 have hb:=SS.ofGF (s:=s) hg;have hs:=h.blk.lt;have hst:w'.heap[s]?=w.heap[s]?:=hg.block s hs h.dsb.1 h.dsb.2.1 (fun g hg' e=>h.dsb.2.2 g hg' e)
 have hmu: ∀j,j<w.heap.size->Mu s r.b m tv' r.cv r.av j->Mu s r.b m tv r.cv r.av j:=fun j _ e=>by
  rcases e with (e|e|e)|e
  .exact .inl (.inl e)
  .exact .inl (.inr (.inl e))
  .exact .inl (rZ (ht▸e))
  .exact .inr e
 refine ⟨h.blk.kept hst,hv,htr,fun v T hv=>?_,h.gls.next hb hmu,wm h.chr (fun g hg'=>?_),fun c hc=>(h.chg c hc).next hb hmu,fun c hc=>⟨by rw[List.length_take];have:=hkc c hc;omega,?_⟩,h.chm,wm h.anr (fun g hg'=>?_),fun A hA=>⟨(h.ant A hA).1.bw hb lZ (h.ant A hA).2,(h.ant A hA).2.anti (h.ant A hA).1 hmu⟩,h.lows hb,h.los,by rw[ht];exact h.dsb,by rw[ht];exact h.dcv,by rw[ht];exact h.dav⟩
 .unfold pc at hv
  split at hv
  .exact h.sg v T hv
  .simp at hv
 .obtain ⟨d1,d2,d3,d4⟩:=h.dcv g hg'
  exact hg.block g (h.chr.lt g hg').2 d2 d3 (fun g' h' e=>d4 (e▸h'))
 .rw[(h.chs c hc).2,List.take_take]
  have hck:=hkc c hc;rw[show min c.mark k=c.mark from by omega]
  funext v
  unfold pc
  by_cases hv:v∈tr.take c.mark
  .have:v∈tr.take k:=by
    have e:tr.take c.mark=(tr.take k).take c.mark:=by rw[List.take_take,show min c.mark k=c.mark from by omega]
    rw[e]at hv;exact List.mem_of_mem_take hv
   rw[if_pos hv,if_pos hv,if_pos this]
  .rw[if_neg hv,if_neg hv]
 .obtain ⟨d1,d2,d3,d4,d5⟩:=h.dav g hg'
  exact hg.block g (h.anr.lt g hg').2 d2 d3 (fun g' h' e=>d4 (e▸h'))
end
def SM (w0 w:World) (s m:Nat) (r:Sr) (tv:Value) (n:Nat) (σ:Sg) (L:Nat) (tr:List Int) (gl:List Gl) (ch:List Cr) (an:List Tm) (A B:Tm) (e:Ending) (w':World):Prop:=
 ∃(ok:Bool) (r':Sr) (tv':Value) (n':Nat) (σ':Sg) (L':Int) (tr':List Int),e=.returned (.bool ok)/\SS w0 w' s m r' tv' n' σ' L' tr' gl ch an/\(tr.length<=tr'.length/\tr'.take tr.length=tr)/\pc σ' (tr'.take tr.length)=σ/\n'<=n+L/\(Bw (Mu s r.b m tv r.cv r.av) w.heap.size w w'/\∀k,k<w.heap.size->Mu s r.b m tv' r.cv r.av k->Mu s r.b m tv r.cv r.av k)/\
  ((ok=true/\r'=r/\∃k:Nat,k<=L/\L'=k/\n'+k<=n+L/\ao (L+1) σ L [(A,B)]=.yes k σ')\/(ok=false/\r'=r/\∃k:Nat,k<=L/\L'=k/\ao (L+1) σ L [(A,B)]=.no k)\/(ok=false/\r'= { r with fin:=3} /\L'= -1/\ao (L+1) σ L [(A,B)]=.over))
theorem SS.same {w0 w wx w':World} {s m:Nat} {r:Sr} {tv:Value} {n:Nat} {σ:Sg} {L:Nat} {tr:List Int} {gl:List Gl} {ch:List Cr} {an:List Tm} {A B:Tm} {e:Ending} (h:SS w0 w s m r tv n σ L tr gl ch an) (hb:Below w.heap.size w wx) (hA:NM (Mu s r.b m tv r.cv r.av) A) (hB:NM (Mu s r.b m tv r.cv r.av) B) (hS:SP wx r.b m tv 1000000 w0.heap.size n σ L A B e w'):
 ∃(ok:Bool) (tv':Value) (n':Nat) (σ':Sg) (L':Int) (tr':List Int),e=.returned (.bool ok)/\SS w0 w' s m r tv' n' σ' L' tr' gl ch an/\(tr.length<=tr'.length/\tr'.take tr.length=tr)/\pc σ' (tr'.take tr.length)=σ/\n'<=n+L/\(Bw (Mu s r.b m tv r.cv r.av) w.heap.size w w'/\∀k,k<w.heap.size->Mu s r.b m tv' r.cv r.av k->Mu s r.b m tv r.cv r.av k)/\((ok=true/\∃k:Nat,k<=L/\L'=k/\n'+k<=n+L/\ao (L+1) σ L [(A,B)]=.yes k σ')\/(ok=false/\∃k:Nat,k<=L/\L'=k/\ao (L+1) σ L [(A,B)]=.no k)\/(ok=false/\L'= -1/\ao (L+1) σ L [(A,B)]=.over)):=by
 have hx:=h.below hb
 have hanti: ∀T:Tm,NM (Mu s r.b m tv r.cv r.av) T->NM (Ms s r.cv r.av) T:=fun T hT=>by
  induction T with
  |nil=>trivial
  |mk v nm a len cap f ih=>exact ⟨fun h0=>let ⟨b,o,e,hb⟩:=hT.1 h0;⟨b,o,e,fun e'=>hb (.inr e')⟩,fun i hi=>ih i (hT.2 i hi)⟩
 have hK:Qm (NM (Ms s r.cv r.av)):=fun T hT i hi=>hT.kid hi
 rcases hS with ⟨rfl,k,σ',tv',n',h1,h2,h3,h4,⟨h5,h6⟩,h7⟩| ⟨rfl,L',σ',tv',n',h1,h2,h3,⟨h4,h5⟩,h6⟩
 .obtain ⟨tr',g1,g2,g3,g4⟩:=hx.vars h2 h4 h5 (h6 _ hK h.sg (hanti A hA) (hanti B hB))
  have g5:Bw (Mu s r.b m tv r.cv r.av) w.heap.size w w':=(Bw.ofBelow hb).trans ((SS.ofGF h4).mono hb.size);obtain ⟨F',hF1,hF2⟩:=h7 (L+1) [] (Nat.lt_succ_self L);refine ⟨true,tv',n',σ',k,tr',rfl,g1,g2,g3,by omega,⟨g5,fun k hk=>g4 k (lL hk hb.size)⟩,.inl ⟨rfl,k,by omega,rfl,h3,?_⟩⟩
  rw[hF2];obtain ⟨F,rfl⟩: ∃F,F'=F+1:=⟨F'-1,by omega⟩
  cases k <;> rfl
 .obtain ⟨tr',g1,g2,g3,g4⟩:=hx.vars h1 h3 h4 (h5 _ hK h.sg (hanti A hA) (hanti B hB))
  have g5:Bw (Mu s r.b m tv r.cv r.av) w.heap.size w w':=(Bw.ofBelow hb).trans ((SS.ofGF h3).mono hb.size);refine ⟨false,tv',n',σ',L',tr',rfl,g1,g2,g3,h2,⟨g5,fun k hk=>g4 k (lL hk hb.size)⟩,?_⟩
  rcases h6 with ⟨e1,e2⟩| ⟨k,e1,e2,e3⟩
  .exact rZ ⟨rfl,e1,e2 _ _ (Nat.lt_succ_self L)⟩
  .exact .inr (.inl ⟨rfl,k,by omega,e1,e3 _ _ (Nat.lt_succ_self L)⟩)
theorem xp {w0:World} {s m:Nat} {r:Sr} {tv:Value} {n:Nat} {σ:Sg} {L:Nat} {tr:List Int} {gl:List Gl} {ch:List Cr} {an:List Tm} (A B:Tm) (w:World) (h:SS w0 w s m r tv n σ L tr gl ch an) (hL:L<=4000) (hn:n+L<=1000000000) (hA:ay w A/\d9 1000000 A/\NM (Mu s r.b m tv r.cv r.av) A) (hB:ay w B/\d9 1000000 B/\NM (Mu s r.b m tv r.cv r.av) B):
 Calls prog 124 #[.pointer (some ⟨s,0,none⟩),A.val,B.val] w (SM w0 w s m r tv n σ L tr gl ch an A B):=by
 have H:=hid h;have HA:=hid hA;have HB:=hid hB;have hs:=h.blk.lt;clear h hA hB
 show Calls prog 124 #[pZ s,.agg #[iV A.v,.string A.nm,.slice A.a A.len A.cap],.agg #[iV B.v,.string B.nm,.slice B.a B.len B.cap]] w _
 go_enter Tryz.func124,Tryz.ntmps124
 go_wp2_with fail;have HBx:Hid (Below w.heap.size w ((w.alloc (.cells #[iV A.v,.string A.nm,.slice A.a A.len A.cap] 67)).alloc (.cells #[iV B.v,.string B.nm,.slice B.a B.len B.cap] 67))):=bA.alloc (by simp) _
 have HX0:Hid (((w.alloc (.cells #[iV A.v,.string A.nm,.slice A.a A.len A.cap] 67)).alloc (.cells #[iV B.v,.string B.nm,.slice B.a B.len B.cap] 67)).heap[w.heap.size]?=some (.cells #[iV A.v,.string A.nm,.slice A.a A.len A.cap] 67)):=by
  rw[Hid,jZ _ _ (by simp)];exact hZ w _
 have HT0:Hid (((w.alloc (.cells #[iV A.v,.string A.nm,.slice A.a A.len A.cap] 67)).alloc (.cells #[iV B.v,.string B.nm,.slice B.a B.len B.cap] 67)).heap[w.heap.size+1]?=some (.cells #[iV B.v,.string B.nm,.slice B.a B.len B.cap] 67)):=by
  have:=hZ (w.alloc (.cells #[iV A.v,.string A.nm,.slice A.a A.len A.cap] 67)) (.cells #[iV B.v,.string B.nm,.slice B.a B.len B.cap] 67)
  rwa [show (w.alloc (.cells #[iV A.v,.string A.nm,.slice A.a A.len A.cap] 67)).heap.size=w.heap.size+1 from by simp]at this
 generalize (w.alloc (.cells #[iV A.v,.string A.nm,.slice A.a A.len A.cap] 67)).alloc (.cells #[iV B.v,.string B.nm,.slice B.a B.len B.cap] 67)=wa at*;have HSa:=hid (H.o.below HBx.o);obtain ⟨x0,x1,x2,_,_,_⟩:=ae HX0.o;obtain ⟨t0,t1,t2,_,_,_⟩:=ae HT0.o;obtain ⟨_,_,_,_,_,_,_,c7,_,_,_⟩:=HSa.o.blk.get;have HKp:Hid (∀W,Below wa.heap.size wa W->W.cell? (dZ s 7)=some (pZ r.b)/\W.cell? (dZ w.heap.size 0)=some (iV A.v)/\W.cell? (dZ w.heap.size 1)=some (.string A.nm)/\W.cell? (dZ w.heap.size 2)=some (.slice A.a A.len A.cap)/\W.cell? (dZ (w.heap.size+1) 0)=some (iV B.v)/\W.cell? (dZ (w.heap.size+1) 1)=some (.string B.nm)/\W.cell? (dZ (w.heap.size+1) 2)=some (.slice B.a B.len B.cap)):=fun W hW=>⟨(hW.cell (ag c7)).trans c7,(hW.cell (ag x0)).trans x0,(hW.cell (ag x1)).trans x1,(hW.cell (ag x2)).trans x2,(hW.cell (ag t0)).trans t0,(hW.cell (ag t1)).trans t1,(hW.cell (ag t2)).trans t2⟩
 have HC:Hid (∀W,Below wa.heap.size wa W->Calls prog 146 #[pZ r.b,.agg #[iV A.v,.string A.nm,.slice A.a A.len A.cap],.agg #[iV B.v,.string B.nm,.slice B.a B.len B.cap]] W fun e w'=>(w'.cell? (dZ s 7)=some (pZ r.b)/\w'.cell? (dZ w.heap.size 0)=some (iV A.v)/\w'.cell? (dZ w.heap.size 1)=some (.string A.nm)/\w'.cell? (dZ w.heap.size 2)=some (.slice A.a A.len A.cap)/\w'.cell? (dZ (w.heap.size+1) 0)=some (iV B.v)/\w'.cell? (dZ (w.heap.size+1) 1)=some (.string B.nm)/\w'.cell? (dZ (w.heap.size+1) 2)=some (.slice B.a B.len B.cap))/\∃(ok:Bool) (tv':Value) (n':Nat) (σ':Sg) (L':Int) (tr':List Int),e=.returned (.bool ok)/\SS w0 w' s m r tv' n' σ' L' tr' gl ch an/\(tr.length<=tr'.length/\tr'.take tr.length=tr)/\pc σ' (tr'.take tr.length)=σ/\n'<=n+L/\(Bw (Mu s r.b m tv r.cv r.av) w.heap.size w w'/\∀k,k<w.heap.size->Mu s r.b m tv' r.cv r.av k->Mu s r.b m tv r.cv r.av k)/\((ok=true/\∃k:Nat,k<=L/\L'=k/\n'+k<=n+L/\ao (L+1) σ L [(A,B)]=.yes k σ')\/(ok=false/\∃k:Nat,k<=L/\L'=k/\ao (L+1) σ L [(A,B)]=.no k)\/(ok=false/\L'= -1/\ao (L+1) σ L [(A,B)]=.over))):=fun W hW=>by
  have hwW:=HBx.o.trans (hW.mono HBx.o.size);have hx:=H.o.below hwW
  exact (K5 L r.b m tv 1000000 w0.heap.size n σ A B W hx.vs hL hn (hx.good (HA.o.1.below hwW) HA.o.2.1 HA.o.2.2) (hx.good (HB.o.1.below hwW) HB.o.2.1 HB.o.2.2)).mono fun e w' hS=>by
   have hcw:=HKp.o W hW;have hf: ∀{p:Addr} {v:Value},W.cell? p=some v->w.heap.size<=p.block->w'.cell? p=some v:=fun hc hp=>hS.gf.cell hc (by have:=H.o.vs.lt;omega) (by have:=H.o.vs.map.lt;omega) (fun g hg=>by have:=H.o.vs.trail_lt g hg;omega)
   have h2:=H.o.same hwW HA.o.2.2 HB.o.2.2 hS;refine ⟨⟨?_,hf hcw.2.1 lZ,hf hcw.2.2.1 lZ,hf hcw.2.2.2.1 lZ,hf hcw.2.2.2.2.1 (Nat.le_succ _),hf hcw.2.2.2.2.2.1 (Nat.le_succ _),hf hcw.2.2.2.2.2.2 (Nat.le_succ _)⟩,h2⟩;obtain ⟨_,_,_,_,_,_,_,h3,_⟩:=h2;exact h3.blk.get.2.2.2.2.2.2.2.1
 go_region_held3 (fun w'=>w'.cell? (dZ s 7)=some (pZ r.b)/\w'.cell? (dZ w.heap.size 0)=some (iV A.v)/\w'.cell? (dZ w.heap.size 1)=some (.string A.nm)/\w'.cell? (dZ w.heap.size 2)=some (.slice A.a A.len A.cap)/\w'.cell? (dZ (w.heap.size+1) 0)=some (iV B.v)/\w'.cell? (dZ (w.heap.size+1) 1)=some (.string B.nm)/\w'.cell? (dZ (w.heap.size+1) 2)=some (.slice B.a B.len B.cap)) (first|exact HK5.o| ((refine HKp.o _ ?_;repeat (first|exact bR|refine Below.drew ?_)))) (first
  | (go_at_call 146
     refine (HC.o _ (by repeat (first|exact bR|refine Below.drew ?_))).mono ?_
     rintro e w5 ⟨hk5,ok,tv',n',σ',L',tr',rfl,h5,h6⟩;have HK5:=hid hk5;have H5:=hid h5;have H6:=hid h6;clear h5 h6 hk5))
 all_goals
  obtain ⟨_,y1,_,_,_,_,_,y7,_,_,yf⟩:=H5.o.blk.get;have yf1:=yf 1;clear x0 x1 x2 t0 t1 t2 c7 HK5 yf;have HOv:=hid (Lq w5 H5.o.vs);go_wp2_with fail;refine HOv.o.mono ?_;rintro e w6 ⟨rfl,rfl⟩
  rcases H6.o.2.2.2.2 with ⟨rfl,k,hk,rfl,hnk,hm⟩| ⟨rfl,k,hk,rfl,hm⟩| ⟨rfl,rfl,hm⟩
  .have hd:decide ((k:Int)<0)=false:=decide_eq_false (by omega)
   have HM:Hid (ao (L+1) σ L [(A,B)]=.yes k σ'):=hm;clear hm;rw[hd];go_wp2_with fail;go_ret;exact ⟨true,r,tv',n',σ',k,tr',rfl,H5.o,H6.o.1,H6.o.2.1,H6.o.2.2.1,H6.o.2.2.2.1,.inl ⟨rfl,rfl,k,hk,rfl,hnk,HM.o⟩⟩
  .have hd:decide ((k:Int)<0)=false:=decide_eq_false (by omega)
   have HM:Hid (ao (L+1) σ L [(A,B)]=.no k):=hm;clear hm;rw[hd];go_wp2_with fail;go_ret;exact ⟨false,r,tv',n',σ',k,tr',rfl,H5.o,H6.o.1,H6.o.2.1,H6.o.2.2.1,H6.o.2.2.2.1,.inr (.inl ⟨rfl,rfl,k,hk,rfl,HM.o⟩)⟩
  .have HM:=hid hm
   clear hm;rw[show decide ((-1:Int)<0)=true from rfl]
   go_wp2_with fail;go_ret
   exact ⟨false,{ r with fin:=3},tv',n',σ',-1,tr',rfl,H5.o.put 1 _ rfl rfl rfl rfl H5.o.gls,H6.o.1,H6.o.2.1,H6.o.2.2.1,⟨H6.o.2.2.2.1.1.grown (af s 1 _) H6.o.2.2.2.1.1.size (fun k hk=> rZ (.inl (oj hk).symm)),H6.o.2.2.2.1.2⟩,rZ ⟨rfl,rfl,rfl,HM.o⟩⟩
end Go.Proofs.YtmggaclaoefdaabGreat
