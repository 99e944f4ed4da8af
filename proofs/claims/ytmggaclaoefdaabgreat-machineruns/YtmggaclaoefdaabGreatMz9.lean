/- Part of the proof. -/
import Derived.Test.YtmggaclaoefdaabGreatGBB
namespace Go.Proofs.YtmggaclaoefdaabGreat
open Go.RowKit Go.Shelf Go.Proofs.Tryz
set_option linter.unusedVariables false
set_option linter.unusedSimpArgs false
set_option maxRecDepth 100000
set_option maxHeartbeats 8000000
attribute [local go_sem] Oper.semAt_some
abbrev Ax:=HSt × List Gq × Nat
def pe (f:Nat->Tm) (c:Nat) (q:Ax) (i:Nat):Ax:=((bp (f i) q.1).1,q.2.1++ [⟨(bp (f i) q.1).2.toNat,c,q.2.2⟩],q.2.1.length+1)
def ahP (f:Nat->Tm) (c:Nat) (l:List Nat) (q:Ax):Ax:=l.foldl (pe f c) q
theorem Nm (f:Nat->Tm) (c:Nat) (l:List Nat) (i:Nat) (q:Ax):ahP f c (l++ [i]) q=pe f c (ahP f c l q) i:=by unfold ahP;rw[List.foldl_append];rfl
section
variable {lo:Nat} {w w':World} {s:Nat} {r:Rn} {h:List Cl} {gs:List Gq} {cs:List jo} {tr qs:List Nat} {an:List Tm}
theorem MN.own (M:MN lo w s r h gs cs tr qs an) {row:Option Nat} (hg:w.grownBy w' row) (hr: ∀k,row=some k->∃o:Obj,w.heap[k]?=some o/\o.isCells=false):MN lo w' s r h gs cs tr qs an:=by
 have hn: ∀{k:Nat} {t:TypeId} {c:Array Value},w.heap[k]?=some (.cells c t)->row≠some k:=fun hk e=>by
  obtain ⟨o,ho,hc⟩:=hr _ e
  rw[hk]at ho
  cases ho
  cases hc
 have hrow: ∀{n z:Nat} {t:TypeId} {v:Value} {xs:List Value},w.ownsRow lo t z v n xs->∀k,v.ownBlock=some k->row≠some k:=fun h k hk=>by
  obtain ⟨c,hc⟩:=de h hk
  exact hn hc
 refine M.stood (X:=fun k=>row=some k) ⟨hg.os,hg.tape,hg.output,hg.size,fun k hk hm=>hg.block k hk (fun e=>hm e.symm)⟩ (fun k hk=>⟨fun hm=>?_,fun e=>hrow M.qu k e hk⟩) (fun A hA=>eo (M.all A hA).1 fun k hk=>(M.all A hA).1.nbc (hr k hk))
 rcases hm with e|e|e|e|e|e
 .subst e;exact hn M.blk hk
 .exact hrow M.hp k e hk
 .exact hrow M.go k e hk
 .exact hrow M.ch k e hk
 .exact hrow M.tl k e hk
 .exact hrow M.anr k e hk
def Ji (s m:Nat) (r:Rn) (k:Nat):Prop:=k=s\/k=m\/r.hv.ownBlock=some k\/r.gv.ownBlock=some k
structure Ns (lo:Nat) (w:World) (s m:Nat) (r:Rn) (cs:List jo) (tr qs:List Nat) (an:List Tm) (L0 c:Nat) (q:Ax) (W:World) (hv gv:Value) (ga:Int):Prop where
 mn:MN lo W s { r with hv:=hv,gv:=gv} q.1.1 q.2.1 cs tr qs an
 im:IM W m q.1.2
 pi:li L0 q.1
 b0:Boxed W w.heap.size 58 (.pointer (some ⟨s,0,none⟩))
 b1:W.heap[w.heap.size+1]?=some (.cells #[.int .i64 ga,.int .i64 (c:Int),.int .i64 (q.2.2:Int)] 76)
 b2:Boxed W (w.heap.size+2) 103 (.map (some m))
 bw:Bw (Ji s m r) w.heap.size w W
 ho:hv.ownBlock=r.hv.ownBlock\/∃k,hv.ownBlock=some k/\w.heap.size+4<=k
 go:gv.ownBlock=r.gv.ownBlock\/∃k,gv.ownBlock=some k/\w.heap.size+4<=k
 sz:w.heap.size+4<=W.heap.size
theorem Ns.own {m L0 c:Nat} {q:Ax} {W W':World} {hv gv:Value} {ga:Int} {row:Option Nat} (I:Ns lo w s m r cs tr qs an L0 c q W hv gv ga) (hm:m<w.heap.size) (hg:W.grownBy W' row) (hr: ∀k,row=some k->w.heap.size+4<=k/\∃o:Obj,W.heap[k]?=some o/\o.isCells=false):Ns lo w s m r cs tr qs an L0 c q W' hv gv ga:=by
 have hne: ∀k,k<w.heap.size+4->some k≠row:=fun k hk e=>by have:=(hr k e.symm).1;omega
 have hsz:=I.sz
 exact ⟨I.mn.own hg (fun k e=>(hr k e).2),I.im.kept hg (hne m (by omega)),I.pi,jh I.b0 hg hr,(hg.block _ (by omega) (hne _ (by omega))).trans I.b1,jh I.b2 hg hr,I.bw.own (by omega) (by omega) hg hr,I.ho,I.go,lT hsz hg.size⟩
theorem Ns.next {T:Tm} {m L0 c t b i:Nat} {q qn:Ax} {W w2 w7:World} {hv gv hv' nv:Value} {ga1:Int} (I:Ns lo w s m r cs tr qs an L0 c q W hv gv ga1) (hml:m<w.heap.size) (hMl: ∀k,Ji s m r k->k<w.heap.size) (hAo: ∀A∈an,∀k,w.heap.size<=k->NB k A) (hHv: ∀k,hv.ownBlock=some k->k<w.heap.size\/w.heap.size+4<=k) (hGv: ∀k,gv.ownBlock=some k->k<w.heap.size\/w.heap.size+4<=k) (hbn: ¬Ji s m r b) (hb4:b<w.heap.size\/b=w.heap.size+3) (hN:qn=pe T.f c q i) (ht:(bp (T.f i) q.1).2=(t:Int)) (hPo:ws L0 q.1 (T.f i) (bp (T.f i) q.1)) (hB2:Bw (fun k=>(k=s\/(k=m\/hv.ownBlock=some k))\/k=w.heap.size+1) W.heap.size W w2) (hM2:MN lo w2 s { r with hv:=hv',gv:=gv} (bp (T.f i) q.1).1.1 q.2.1 cs tr qs an) (hI2:IM w2 m (bp (T.f i) q.1).1.2) (h02:Boxed w2 w.heap.size 58 (.pointer (some ⟨s,0,none⟩))) (h22:Boxed w2 (w.heap.size+2) 103 (.map (some m))) (hAt:hv'.ownBlock=hv.ownBlock\/∃q,hv'.ownBlock=some q/\W.heap.size<=q) (hM7:MN lo w7 s { r with hv:=hv',gv:=nv} (bp (T.f i) q.1).1.1 (q.2.1++ [⟨t,c,q.2.2⟩]) cs tr qs an) (hB7:Bw (fun k=>k=s\/gv.ownBlock=some k) w2.heap.size w2 w7) (hX7:w7.heap[w.heap.size+1]?=some (.cells #[.int .i64 (t:Int),.int .i64 (c:Int),.int .i64 (q.2.2:Int)] 76)) (h6a:nv.ownBlock=gv.ownBlock\/∃k,nv.ownBlock=some k/\w2.heap.size<=k):
 KeepsFrom (w.heap.size+4) W (w7.setCell ⟨w.heap.size+1,2,none⟩ (.int .i64 ((q.2.1.length:Int)+1)))/\Kd (w.heap.size+3) b W (w7.setCell ⟨w.heap.size+1,2,none⟩ (.int .i64 ((q.2.1.length:Int)+1)))/\∃hv gv ga,Ns lo w s m r cs tr qs an L0 c qn (w7.setCell ⟨w.heap.size+1,2,none⟩ (.int .i64 ((q.2.1.length:Int)+1))) hv gv ga:=by
 have hsz:=I.sz
 have hsl:s<w.heap.size:=hMl s (.inl rfl)
 have hs2:=hB2.size
 have hs7:=hB7.size
 have hg:=af (W:=w7) (w.heap.size+1) 2 (.int .i64 ((q.2.1.length:Int)+1))
 have hs8:=hg.size
 have hB27:Bw (fun k=>k=s\/k=m\/hv.ownBlock=some k\/gv.ownBlock=some k\/k=w.heap.size+1) W.heap.size W w7:=(hB2.wide fun k _ hk=>by
  rcases hk with (e|e|e)|e
  .exact .inl e
  .exact .inr (.inl e)
  .exact rZ (.inl e)
  .exact rZ (rZ e)).trans ((hB7.mono hs2).wide fun k _ hk=>by
  rcases hk with e|e
  .exact .inl e
  .exact rZ (.inr (.inl e)))
 have hB8:Bw (fun k=>k=s\/k=m\/hv.ownBlock=some k\/gv.ownBlock=some k\/k=w.heap.size+1) W.heap.size W (w7.setCell (dZ (w.heap.size+1) 2) (.int .i64 ((q.2.1.length:Int)+1))):=hB27.grown hg (by omega) (fun k e=> rZ (rZ (.inr (oj e).symm)))
 have hne: ∀k,w.heap.size<=k->k<w.heap.size+4->k≠w.heap.size+1->¬(k=s\/k=m\/hv.ownBlock=some k\/gv.ownBlock=some k\/k=w.heap.size+1):=fun k h1 h2 h3 hk=>by
  rcases hk with e|e|e|e|e
  .omega
  .omega
  .have:=hHv k e;omega
  .have:=hGv k e;omega
  .exact h3 e
 have hAhM: ∀k,k<w.heap.size+4->(k=s\/k=m\/hv.ownBlock=some k\/gv.ownBlock=some k)->Ji s m r k:=fun k hk hX=>by
  rcases hX with e|e|e|e
  .exact .inl e
  .exact .inr (.inl e)
  .rcases I.ho with e'| ⟨k',e',hk'⟩
   .exact rZ (.inl (e'▸e))
   .rw[e']at e;have:=oj e;omega
  .rcases I.go with e'| ⟨k',e',hk'⟩
   .exact rZ (.inr (e'▸e))
   .rw[e']at e;have:=oj e;omega
 refine ⟨⟨hB8.size,fun k o hk ho hc=>(hB8.block k (aZ ho) (fun hX=>?_)).trans ho⟩,⟨hB8.size,hB8.block _ (by omega) (hne _ (by omega) (by omega) (by omega)),hB8.block _ (by omega) (fun hX=>?_)⟩,hv',nv,(t:Int),?_⟩
 .have hcl: ∀{n z:Nat} {tt:TypeId} {v:Value} {xs:List Value},W.ownsRow lo tt z v n xs->v.ownBlock≠some k:=fun hr e=>by
   obtain ⟨cc,hcc⟩:=de hr e
   rw[ho]at hcc
   cases hcc
   cases hc
  rcases hX with e|e|e|e|e
  .omega
  .omega
  .exact hcl I.mn.hp e
  .exact hcl I.mn.go e
  .omega
 .rcases hX with e|e|e|e|e
  .exact hbn (hAhM b (by omega) (.inl e))
  .exact hbn (hAhM b (by omega) (.inr (.inl e)))
  .exact hbn (hAhM b (by omega) (rZ (.inl e)))
  .exact hbn (hAhM b (by omega) (rZ (.inr e)))
  .omega
 .subst hN
  have hmn:=hM2.map_ne hI2
  have hB9:Bw (fun k=>k=w.heap.size+1) w7.heap.size w7 (w7.setCell (dZ (w.heap.size+1) 2) (.int .i64 ((q.2.1.length:Int)+1))):=Bw.ofG hg
  have hM8:MN lo (w7.setCell (dZ (w.heap.size+1) 2) (.int .i64 ((q.2.1.length:Int)+1))) s { r with hv:=hv',gv:=nv} (bp (T.f i) q.1).1.1 (q.2.1++ [⟨t,c,q.2.2⟩]) cs tr qs an:=by
   refine hM7.stood hB9 (fun k hk=>?_) (fun A hA=>eo (hM7.all A hA).1 fun k hk=>hAo A hA k (by omega))
   subst hk
   have hty: ∀{n z:Nat} {tt:TypeId} {v:Value} {xs:List Value},w7.ownsRow lo tt z v n xs->tt≠76->v.ownBlock≠some (w.heap.size+1):=fun hr hn e=>by
    obtain ⟨cc,hcc⟩:=de hr e
    rw[hX7]at hcc
    cases hcc
    exact hn rfl
   refine ⟨fun hm=>?_,hty hM7.qu (by decide)⟩
   rcases hm with e|e|e|e|e|e
   .omega
   .exact hty hM7.hp (by decide) e
   .have e2:nv.ownBlock=some (w.heap.size+1):=e
    rcases h6a with e'| ⟨k,e',hk⟩
    .rw[e']at e2;have:=hGv _ e2;omega
    .rw[e']at e2;have:=oj e2;omega
   .exact hty hM7.ch (by decide) e
   .exact hty hM7.tl (by decide) e
   .exact hty hM7.anr (by decide) e
  have hbx: ∀k,w.heap.size<=k->k<w.heap.size+4->k≠w.heap.size+1->(w7.setCell (dZ (w.heap.size+1) 2) (.int .i64 ((q.2.1.length:Int)+1))).heap[k]?=w2.heap[k]?:=fun k h1 h2 h3=>(hg.block k (by omega) (fun e=>h3 (oj e))).trans (hB7.block k (by omega) (fun e=>by
   rcases e with e|e
   .omega
   .have:=hGv k e;omega))
  refine ⟨?_,?_,hPo.inv,(hbx _ (by omega) (by omega) (by omega)).trans h02,?_,(hbx _ (by omega) (by omega) (by omega)).trans h22,I.bw.trans ((hB8.mono (by omega)).wide fun k hk hX=>?_),?_,?_,by omega⟩
  .show MN lo _ s _ (bp (T.f i) q.1).1.1 (q.2.1++ [⟨(bp (T.f i) q.1).2.toNat,c,q.2.2⟩]) cs tr qs an
   rw[ht]
   exact hM8
  .show IM _ m (bp (T.f i) q.1).1.2
   exact (hI2.keep (hB7.block m (by omega) (fun e=>by
    rcases e with e|e
    .exact hmn.1 (.inl e)
    .exact hmn.1 (rZ (.inl e))))).kept hg (fun e=>by have:=oj e;omega)
  .show _=some (Obj.cells #[.int .i64 (t:Int),.int .i64 (c:Int),.int .i64 ((q.2.1.length+1:Nat):Int)] 76)
   simp[World.setCell,Array.getElem?_modify,hX7]
  .rcases hX with e|e|e|e|e
   .exact hAhM k (by omega) (.inl e)
   .exact hAhM k (by omega) (.inr (.inl e))
   .exact hAhM k (by omega) (rZ (.inl e))
   .exact hAhM k (by omega) (rZ (.inr e))
   .omega
  .rcases hAt with e| ⟨k,e,hk⟩
   .rw[e];exact I.ho
   .exact .inr ⟨k,e,by omega⟩
  .rcases h6a with e| ⟨k,e,hk⟩
   .rw[e];exact I.go
   .exact .inr ⟨k,e,by omega⟩
theorem Pr {f:Nat->Tm} {c n:Nat} (hO: ∀i,i<n->d9 12 (f i)/\iz (f i)=0/\cnt (f i)<=1000) (q:Ax): ∀l:List (Cx n),(ahP f c (bh l) q).1.1.length<=q.1.1.length+2000*l.length/\(ahP f c (bh l) q).2.1.length=q.2.1.length+l.length:=by
 suffices H: ∀l:List Nat,(∀i∈l,i<n)->(ahP f c l q).1.1.length<=q.1.1.length+2000*l.length/\(ahP f c l q).2.1.length=q.2.1.length+l.length by
  intro l
  have:=H (bh l) (fun i hi=>by unfold bh at hi;obtain ⟨x,_,rfl⟩:=List.mem_map.1 hi;exact x.2)
  simpa[bh]using this
 intro l
 induction l generalizing q with
 |nil=>intro _;exact ⟨lZ,rfl⟩
 |cons i l ih=>
  intro hl
  have h1:=ih (pe f c q i) (fun k hk=>hl k (List.mem_cons_of_mem _ hk))
  have h2:=(ms (hO i (hl i List.mem_cons_self)).1 q.1).2
  have h3:=(hO i (hl i List.mem_cons_self)).2.2
  have e:ahP f c (i::l) q=ahP f c l (pe f c q i):=rfl
  rw[e]
  have e1:(pe f c q i).1.1.length=(bp (f i) q.1).1.1.length:=rfl
  have e2:(pe f c q i).2.1.length=q.2.1.length+1:=by unfold pe;simp
  simp only[List.length_cons]
  omega
theorem vj {T:Tm} {m c nx L0:Nat} {ga:Int} {σ:Int->Option Int} (w:World) (M:MN lo w s r h gs cs tr qs an) (hI:IM w m σ) (hT:ay w T) (hO: ∀i,i<T.len->d9 12 (T.f i)/\iz (T.f i)=0/\cnt (T.f i)<=1000) (hNT:NM (cm s r) T) (hNm:NB m T) (hAn: ∀A∈an,NB m A) (hP:li L0 (h,σ)) (hlen:h.length+5000*(T.len+1)<=2000000) (hgl:gs.length+T.len<=1000000) (hlo:lo<=w.heap.size):
 Calls prog 57 #[.pointer (some ⟨s,0,none⟩),.slice T.a T.len T.cap,.agg #[.int .i64 ga,.int .i64 (c:Int),.int .i64 (nx:Int)],.map (some m)] w fun e w'=>e=.returned (.tuple #[])/\∃hv' gv',MN lo w' s { r with hv:=hv',gv:=gv',first:=((ahP T.f c (ke T.len) ((h,σ),gs,nx)).2.2:Int)} (ahP T.f c (ke T.len) ((h,σ),gs,nx)).1.1 (ahP T.f c (ke T.len) ((h,σ),gs,nx)).2.1 cs tr qs an/\IM w' m (ahP T.f c (ke T.len) ((h,σ),gs,nx)).1.2/\li L0 (ahP T.f c (ke T.len) ((h,σ),gs,nx)).1/\Bw (Ji s m r) w.heap.size w w'/\(hv'.ownBlock=r.hv.ownBlock\/∃k,hv'.ownBlock=some k/\w.heap.size<=k)/\(gv'.ownBlock=r.gv.ownBlock\/∃k,gv'.ownBlock=some k/\w.heap.size<=k):=by
 obtain ⟨W3,hW3⟩: ∃W3,((w.alloc (.cells #[pZ s] 58)).alloc (.cells #[.int .i64 ga,.int .i64 (c:Int),.int .i64 (nx:Int)] 76)).alloc (.cells #[.map (some m)] 103)=W3:=⟨_,rfl⟩
 have hB3:Below w.heap.size w W3:=by rw[<-hW3];exact (bA.alloc (by simp) _).alloc (by simp;omega) _
 have hs3:W3.heap.size=w.heap.size+3:=by rw[<-hW3];simp
 have hml:=hI.lt
 have hsl:=M.blk.lt
 obtain ⟨b,hbb,hbl,hbn,hb4⟩: ∃b,(∀bb o,T.a=some (dZ bb o)->0<T.len->bb=b)/\b<w.heap.size+4/\¬Ji s m r b/\(b<w.heap.size\/b=w.heap.size+3):=by
  by_cases h0:0<T.len
  .obtain ⟨b,o,e,hn⟩:=hNT.root h0
   obtain ⟨b',o',e',hn'⟩:=hNm.root h0
   rw[e]at e'
   cases e'
   obtain ⟨b',o',e',c0,_⟩:=hT.row h0
   rw[e]at e'
   cases e'
   have hlt:b<w.heap.size:=ag c0
   refine ⟨b,fun bb oo e2 _=>(by rw[e]at e2;cases e2;rfl),by omega,fun hm=>?_,.inl hlt⟩
   rcases hm with e|e|e|e
   .exact hn (.inl e)
   .exact hn' e
   .exact hn (.inr (.inl e))
   .exact hn (rZ (.inl e))
  .refine ⟨w.heap.size+3,fun _ _ _ h1=>absurd h1 h0,by omega,fun hm=>?_,.inr rfl⟩
   rcases hm with e|e|e|e
   .omega
   .omega
   .have:=fj M.hp e;omega
   .have:=fj M.go e;omega
 have x0:Boxed W3 w.heap.size 58 (pZ s):=by rw[<-hW3];exact ((Boxed.new w _ _).alloc _).alloc _
 have x1:W3.heap[w.heap.size+1]?=some (.cells #[.int .i64 ga,.int .i64 (c:Int),.int .i64 (nx:Int)] 76):=by
  rw[<-hW3]
  have h1:=hZ (w.alloc (.cells #[pZ s] 58)) (.cells #[.int .i64 ga,.int .i64 (c:Int),.int .i64 (nx:Int)] 76)
  rw[World.size_alloc]at h1
  exact (Below.heap_alloc _ _ _ (by simp)).trans h1
 have x2:Boxed W3 (w.heap.size+2) 103 (.map (some m)):=by
  rw[<-hW3]
  have:=Boxed.new ((w.alloc (.cells #[pZ s] 58)).alloc (.cells #[.int .i64 ga,.int .i64 (c:Int),.int .i64 (nx:Int)] 76)) 103 (.map (some m))
  rwa [World.size_alloc,World.size_alloc]at this
 have hB0:Below w.heap.size w (W3.alloc (.cells #[.slice T.a T.len T.cap] 24)):=hB3.alloc (by omega) _
 have hs0:(W3.alloc (.cells #[.slice T.a T.len T.cap] 24)).heap.size=w.heap.size+4:=by simp;omega
 have x3:(W3.alloc (.cells #[.slice T.a T.len T.cap] 24)).heap[w.heap.size+3]?=some (.cells #[.slice T.a T.len T.cap] 24):=by rw[<-hs3];exact hZ _ _
 have hI0:Ns lo w s m r cs tr qs an L0 c ((h,σ),gs,nx) (W3.alloc (.cells #[.slice T.a T.len T.cap] 24)) r.hv r.gv ga:=
  ⟨M.below hB0,hI.kept (aq hB0 none) (by simp),hP,x0.alloc _,(Below.heap_alloc _ _ _ (by omega)).trans x1,x2.alloc _,Bw.ofBelow hB0,.inl rfl,.inl rfl,by omega⟩
 have HSeq:Hid (R1 #[pZ (w.heap.size+3)] T.f T.len (w.heap.size+3) b (W3.alloc (.cells #[.slice T.a T.len T.cap] 24))):=Rc (w.heap.size+3) b T.a T.cap (by omega) _ x3 (fun k hk=>(hT.row hk).below hB0) hbb
 have HI0:=hid hI0
 have HT:=hid hT
 have HO:=hid hO
 have HNT:=hid hNT
 have HNm:=hid hNm
 have HAn:=hid hAn
 have HAo:Hid (∀A∈an,∀k,w.heap.size<=k->NB k A):=fun A hA k hk=>(NM.old (M:=fun k=>w.heap.size<=k) (M.all A hA).1 (fun k h=>h)).nb hk
 have HMl:Hid (∀k,Ji s m r k->k<w.heap.size):=fun k hm=>by
  rcases hm with e|e|e|e
  .omega
  .omega
  .exact fj M.hp e
  .exact fj M.go e
 clear hT hO hNT hNm hAn hI0 x0 x1 x2 x3 hB3 M hI hbb
 refine (callsIn_wide (n:=5)).1 (callsIn_of_wp_marks Tryz.func57 rfl trivial (wpIn_wide.2 ?_) rfl)
 simp only[Tryz.ntmps57,List.size_toArray,List.length_cons,List.length_nil,Nat.reduceAdd,Nat.reduceSub,Array.replicate_succ,Array.replicate_zero,List.push_toArray,List.append_toArray,List.nil_append,List.cons_append]
 go_wp2_with fail
 try rw[hW3]
 refine (Rd T.a T.len T.cap W3).mono ?_
 rintro e W0' ⟨rfl,hW0⟩
 subst hW0
 clear hW3
 go_wp2_with fail
 generalize W3.alloc (.cells #[.slice T.a T.len T.cap] 24)=W0 at*
 refine wpIn_wide.1 (wpIn_rangeFunc_ownH (n:=5) rfl (by omega) (gf:=128) (lb:= #[pZ (w.heap.size+3)]) (by first|rfl| (rw [<-hs3];rfl)) trivial (enters_of Tryz.func128 (by kernel_rfl) rfl) (HSeq.out 4) (fun h k=>Kd.t h k) (Kd.b (by omega) (by omega)) bR (fun _=>rfl)
  (fun ci W=>∃hv gv ga,Ns lo w s m r cs tr qs an L0 c (ahP T.f c (bh ci) ((h,σ),gs,nx)) W hv gv ga) (fun _ _ _=>False)
  (fun ci X Y row hs' hg hr=>by
    obtain ⟨hv,gv,ga,I⟩:=hs'
    exact ⟨hv,gv,ga,I.own hml hg (fun k e=>by rw[<-hs0];exact hr k e)⟩)
  (fun c ci X Y row hs' hg hr=>hs')
  ⟨r.hv,r.gv,ga,HI0.out⟩
  (fun x a' W=>∃B9,w.heap.size+4<=B9/\W.heap[B9]?=some (.cells #[.int .i64 (T.f x.1).v,.string (T.f x.1).nm,.slice (T.f x.1).a (T.f x.1).len (T.f x.1).cap] 67)/\a'= { tmps:= #[pZ s,.slice T.a T.len T.cap,.agg #[.int .i64 ga,.int .i64 (c:Int),.int .i64 (nx:Int)],.map (some m),pZ w.heap.size,undef,pZ (w.heap.size+1),pZ (w.heap.size+1+1),undef,pZ B9,.slice T.a T.len T.cap,.func (.func 128) #[] #[pZ (w.heap.size+3)],.int .i64 (x.1:Int),.agg #[.int .i64 (T.f x.1).v,.string (T.f x.1).nm,.slice (T.f x.1).a (T.f x.1).len (T.f x.1).cap],undef,undef,undef,undef,undef,undef,undef,undef,undef,undef,undef,undef,undef,undef,undef,undef,undef,undef,undef,undef,undef,undef,undef,undef,undef,undef,undef,undef,undef,undef],defers:= []})
  (fun x a' _ X Y row hs' hg hr=>by
    obtain ⟨B9,h1,h2,h3⟩:=hs'
    exact ⟨B9,h1,(hg.block B9 (aZ h2) (fun e=>by obtain ⟨_,o,ho,hc⟩:=hr B9 e.symm;rw[h2]at ho;cases ho;cases hc)).trans h2,h3⟩) ?assign ?body ?done ?stop)
 case stop=>intro D c ci W hD hp hx;exact hx.elim
 case assign=>
  rintro l ci x W K ⟨hv,gv,ga1,I⟩ hK
  have HI:=hid I
  have HK:Hid _:=hK
  clear I hK
  unfold Jv
  gi_wp2
  have hsz:=HI.out.sz
  exact HK.out _ _ ((KeepsOthers.alloc _ _).from _) ⟨by simp,Below.heap_alloc _ _ _ (by omega),Below.heap_alloc _ _ _ (by omega)⟩ ⟨hv,gv,ga1,HI.out.own hml (World.grownBy_alloc _ _ none) (fun k e=>by cases e)⟩ ⟨W.heap.size,hsz,hZ _ _,rfl⟩
 case done=>
  rintro D ys W hD hys ⟨hv,gv,ga1,I⟩ hDK
  rw[hys]at I
  generalize hq:ahP T.f c (ke T.len) ((h,σ),gs,nx)=q at*
  have hsz:=I.sz
  have b0:=I.b0.cell
  obtain ⟨_,_,b12,_⟩:=ae I.b1
  obtain ⟨⟨_,_,d2,_⟩,_,df⟩:=I.mn.blk.get
  have df2:=df 2
  have HM:Hid (MN lo (W.setCell (dZ s 2) (.int .i64 (q.2.2:Int))) s { r with hv:=hv,gv:=gv,first:=(q.2.2:Int)} q.1.1 q.2.1 cs tr qs an):=I.mn.int 2 (q.2.2:Int) rfl ⟨rfl,rfl,rfl,rfl,rfl,rfl⟩
  have HI:=hid I
  have HD:Hid ((W.setCell (dZ s 2) (.int .i64 (q.2.2:Int))).heap[D]?=some (.deferred (some []))):=(KeepsOthers.setCell _ _ _).same D _ hDK rfl
  have HQ:=hid hq
  clear I hDK df hq HSeq HI0
  go_wp2_with fail
  have hg:=grownBy_putObj' (W.setCell (dZ s 2) (.int .i64 (q.2.2:Int))) D (.deferred none)
  have hnD: ∀k,some D=some k->∃o:Obj,(W.setCell (dZ s 2) (.int .i64 (q.2.2:Int))).heap[k]?=some o/\o.isCells=false:=fun k e=>by cases e;exact ⟨_,HD.out,rfl⟩
  have hB2:Bw (Ji s m r) w.heap.size w (W.setCell (dZ s 2) (.int .i64 (q.2.2:Int))):=HI.out.bw.grown (af s 2 _) (by omega) (fun k e=> .inr (.inl (oj e).symm))
  refine ⟨by simp,.inl ⟨_,_,rfl,run_takeDeferred HD.out,.tuple #[],?_,rfl,hv,gv,by rw[HQ.out];exact HM.out.own hg hnD,?_,by rw[HQ.out];exact HI.out.pi,hB2.grown hg (by simp;omega) (fun k e=> .inl (by cases e;omega)),?_,?_⟩⟩
  .simp[results,Tryz.results57,go_sem]
  .rw[HQ.out]
   exact (HI.out.im.kept (af s 2 _) (fun e=>(HI.out.mn.map_ne HI.out.im).1 (.inl (oj e)))).kept hg (fun e=>by have:=oj e;omega)
  .rcases HI.out.ho with e| ⟨k,e,hk⟩
   .exact .inl e
   .exact .inr ⟨k,e,by omega⟩
  .rcases HI.out.go with e| ⟨k,e,hk⟩
   .exact .inl e
   .exact .inr ⟨k,e,by omega⟩
 case body=>
  rintro l ci x a' W hl ⟨lr,hlr⟩ ⟨hv,gv,ga1,I⟩ ⟨B9,hB9,h9,rfl⟩ hpl
  have hlp:=Pr (c:=c) HO.out ((h,σ),gs,nx) ci
  have hx:=x.2
  have HN:Hid (ahP T.f c (bh (ci++ [x])) ((h,σ),gs,nx)=pe T.f c (ahP T.f c (bh ci) ((h,σ),gs,nx)) x.1):=by rw[Hid,ia,Nm]
  generalize ahP T.f c (bh ci) ((h,σ),gs,nx)=q at*
  simp only at hlp
  have hkid:=HT.out.kid hx
  have hNA:NM (Ji s m r) (T.f x.1):=eo hkid fun k hk=>by
   rcases hk with e|e|e|e
   .exact (HNT.out.kid hx).nb (.inl e)
   .subst e;exact HNm.out.kid hx
   .exact (HNT.out.kid hx).nb (.inr (.inl e))
   .exact (HNT.out.kid hx).nb (rZ (.inl e))
  have hsz:=I.sz
  have hPt:Calls prog 56 #[pZ s,.agg #[.int .i64 (T.f x.1).v,.string (T.f x.1).nm,.slice (T.f x.1).a (T.f x.1).len (T.f x.1).cap],.map (some m)] W (S9 lo W s m { r with hv:=hv,gv:=gv} q.2.1 cs tr qs an (bp (T.f x.1) (q.1.1,q.1.2))):=
   uk W I.mn I.im (hkid.bw I.bw lZ hNA) (HO.out x.1 hx).1 ((HNT.out.kid hx).anti hkid fun k hk hm=>by
    rcases hm with e|e|e|e
    .exact .inl e
    .rcases I.ho with e'| ⟨k',e',hk'⟩
     .exact .inr (.inl (e'▸e))
     .have e2:=e
      rw[e']at e2;have:=oj e2;omega
    .rcases I.go with e'| ⟨k',e',hk'⟩
     .exact rZ (.inl (e'▸e))
     .have e2:=e
      rw[e']at e2;have:=oj e2;omega
    .exact rZ (.inr e)) (HNm.out.kid hx) HAn.out (by have:=(HO.out x.1 hx).2.2;omega) (by omega)
  have HPt:=hid hPt
  have b0:=I.b0.cell
  have b2:=I.b2.cell
  obtain ⟨y0,y1,y2,_⟩:=ae h9
  have HI:=hid I
  have HPo:=hid (iw (T.f x.1) (HO.out x.1 hx).2.1 q.1 I.pi)
  replace hlp:=hid hlp
  have hHv: ∀k,hv.ownBlock=some k->k<w.heap.size\/w.heap.size+4<=k:=fun k e=>by
   rcases I.ho with e'| ⟨k',e',hk'⟩
   .exact .inl (HMl.out k (rZ (.inl (e'▸e))))
   .rw[e']at e;have:=oj e;omega
  have hGv: ∀k,gv.ownBlock=some k->k<w.heap.size\/w.heap.size+4<=k:=fun k e=>by
   rcases I.go with e'| ⟨k',e',hk'⟩
   .exact .inl (HMl.out k (rZ (.inr (e'▸e))))
   .rw[e']at e;have:=oj e;omega
  have HHv:=hid hHv
  have HGv:=hid hGv
  obtain ⟨sg,cg,hgv,_,_,_⟩:=ak I.mn.go
  have Hgv:=hid hgv
  obtain ⟨t,ht,htl,_⟩:=HPo.out.at_
  clear hPt I hNA hkid HSeq HI0 hlr hHv hGv hgv
  gi_wp2
  refine ⟨trivial,CallsIn.inRound l (callsIn_wide.2 (HPt.out.mono ?_))⟩
  rintro e w1 ⟨hv',rfl,hM1,hI1,hB1,hat1⟩
  rw[ht]
  have hne1: ∀k,w.heap.size<=k->k<w.heap.size+4->¬(k=s\/(k=m\/hv.ownBlock=some k)):=fun k h1 h2 hk=>by
   rcases hk with e|e|e
   .omega
   .omega
   .have:=HHv.out k e;omega
  have hX1:=(hB1.block _ (by omega) (hne1 _ (by omega) (by omega))).trans HI.out.b1
  have hX2:(w1.setCell (dZ (w.heap.size+1) 0) (.int .i64 (t:Int))).heap[w.heap.size+1]?=some (.cells #[.int .i64 (t:Int),.int .i64 (c:Int),.int .i64 (q.2.2:Int)] 76):=by simp[World.setCell,Array.getElem?_modify,hX1]
  have hs1:=hB1.size
  obtain ⟨z0,_,_,zf0,_⟩:=ae hX1
  have hB2:Bw (fun k=>k=w.heap.size+1) w1.heap.size w1 (w1.setCell (dZ (w.heap.size+1) 0) (.int .i64 (t:Int))):=Bw.ofG (af _ _ _)
  have hM2:MN lo (w1.setCell (dZ (w.heap.size+1) 0) (.int .i64 (t:Int))) s { r with hv:=hv',gv:=gv} (bp (T.f x.1) q.1).1.1 q.2.1 cs tr qs an:=by
   refine hM1.stood hB2 (fun k hk=>?_) (fun A hA=>eo (hM1.all A hA).1 fun k hk=>HAo.out A hA k (by omega))
   subst hk
   have hty: ∀{n z:Nat} {tt:TypeId} {v:Value} {xs:List Value},w1.ownsRow lo tt z v n xs->tt≠76->v.ownBlock≠some (w.heap.size+1):=fun hr hn e=>by
    obtain ⟨cc,hc⟩:=de hr e
    rw[hX1]at hc
    cases hc
    exact hn rfl
   refine ⟨fun hm=>?_,hty hM1.qu (by decide)⟩
   rcases hm with e|e|e|e|e|e
   .omega
   .exact hty hM1.hp (by decide) e
   .have:=HGv.out _ e;omega
   .exact hty hM1.ch (by decide) e
   .exact hty hM1.tl (by decide) e
   .exact hty hM1.anr (by decide) e
  have hI2:IM (w1.setCell (dZ (w.heap.size+1) 0) (.int .i64 (t:Int))) m (bp (T.f x.1) q.1).1.2:=hI1.kept (af _ _ _) (fun e=>by have:=oj e;omega)
  have h02:=(hB2.block _ (by omega) (by omega)).trans ((hB1.block _ (by omega) (hne1 _ (by omega) (by omega))).trans HI.out.b0)
  have h22:=(hB2.block _ (by omega) (by omega)).trans ((hB1.block _ (by omega) (hne1 _ (by omega) (by omega))).trans HI.out.b2)
  have HB2:Hid (Bw (fun k=>(k=s\/(k=m\/hv.ownBlock=some k))\/k=w.heap.size+1) W.heap.size W (w1.setCell (dZ (w.heap.size+1) 0) (.int .i64 (t:Int)))):=(hB1.wide fun k _ hk=> .inl hk).trans ((hB2.mono hs1).wide fun k _ hk=> .inr hk)
  have HM2:=hid hM2
  have HI2:=hid hI2
  have HX2:=hid hX2
  have H02:=hid h02
  have H22:=hid h22
  have HAt:=hid hat1
  have hs2:=HB2.out.size
  clear hM1 hI1 hB1 hat1 hX1 hX2 hB2 hM2 hI2 h02 h22 hne1 b0 b2 y0 y1 y2
  gi_wp2
  generalize w1.setCell (dZ (w.heap.size+1) 0) (.int .i64 (t:Int))=w2 at*
  obtain ⟨⟨_,c1,_⟩,_,df⟩:=HM2.out.blk.get
  have d1:w2.cell? (dZ s 1)=some (.slice sg q.2.1.length cg):=by rw[c1,<-Hgv.out]
  have df1:=df 1
  clear c1 df
  have HK0:Hid (∀W1,Bw (fun k=>gv.ownBlock=some k) w2.heap.size w2 W1->W1.cell? (dZ w.heap.size 0)=some (pZ s)/\W1.cell? (dZ (w.heap.size+1) 0)=some (.int .i64 (t:Int))/\W1.cell? (dZ (w.heap.size+1) 1)=some (.int .i64 (c:Int))/\W1.cell? (dZ (w.heap.size+1) 2)=some (.int .i64 (q.2.2:Int))):=fun W1 hb=>by
   have h1:=(hb.block (w.heap.size+1) (by omega) (fun e=>by have:=HGv.out _ e;omega)).trans HX2.out
   have h0:Boxed W1 w.heap.size 58 (pZ s):=(hb.block w.heap.size (by omega) (fun e=>by have:=HGv.out _ e;omega)).trans H02.out
   have hb1:=ae h1
   exact ⟨h0.cell,hb1.1,hb1.2.1,hb1.2.2.1⟩
  have HK1:Hid (∀V,Bw (fun k=>gv.ownBlock=some k) w2.heap.size w2 V->∀u:Value,(fun W1:World=>W1.cell? (dZ w.heap.size 0)=some (pZ s)/\W1.cell? (dZ (w.heap.size+1) 0)=some (.int .i64 (t:Int))/\W1.cell? (dZ (w.heap.size+1) 1)=some (.int .i64 (c:Int))/\W1.cell? (dZ (w.heap.size+1) 2)=some (.int .i64 (q.2.2:Int))) (V.setCell (dZ s 1) u)):=fun V hb u=>by
   have hg:=af (W:=V) s 1 u
   have hz:=hb.size
   have h1:=(hg.block (w.heap.size+1) (by omega) (fun e=>by have:=oj e;omega)).trans ((hb.block (w.heap.size+1) (by omega) (fun e=>by have:=HGv.out _ e;omega)).trans HX2.out)
   have h0:Boxed (V.setCell (dZ s 1) u) w.heap.size 58 (pZ s):=(hg.block w.heap.size (by omega) (fun e=>by have:=oj e;omega)).trans ((hb.block w.heap.size (by omega) (fun e=>by have:=HGv.out _ e;omega)).trans H02.out)
   have hb1:=ae h1
   exact ⟨h0.cell,hb1.1,hb1.2.1,hb1.2.2.1⟩
  have hfol:prog.follows .mixedOrders=true:=by kernel_rfl
  obtain ⟨i0,hi0,hz0,hz1,hz2⟩:=info_parts (P:=prog) (e:=76) (z:=.agg #[.int .i64 0,.int .i64 0,.int .i64 0]) (size:=3) (bytes:=24) (by kernel_rfl)
  refine lz (fun W1=>W1.cell? (dZ w.heap.size 0)=some (pZ s)/\W1.cell? (dZ (w.heap.size+1) 0)=some (.int .i64 (t:Int))/\W1.cell? (dZ (w.heap.size+1) 1)=some (.int .i64 (c:Int))/\W1.cell? (dZ (w.heap.size+1) 2)=some (.int .i64 (q.2.2:Int))) hfol (by kernel_rfl) (by rintro ⟨_,_,h⟩;exact h) (HK0.out _ (Bw.ofBelow ((Below.refl _ w2).drew))) (fun hHeld=>?_)
  refine wpAnyH_take (i:=0) (v:=pZ s) rfl (by kernel_rfl) (by kernel_rfl) (by kernel_rfl) (fun _ _ _ h=>h) (Or.inl ⟨by rfl,fun W1 hS1=>by obtain ⟨e0,e2,e3,e4⟩:=hS1;go_simp⟩) hHeld ?_
  try simp only[Act.put,eZ,fZ,gZ]
  refine wpAnyH_take (i:=1) (v:=pZ s) rfl (by kernel_rfl) (by kernel_rfl) (by kernel_rfl) (fun _ _ _ h=>h) (Or.inl ⟨by rfl,fun W1 hS1=>by obtain ⟨e0,e2,e3,e4⟩:=hS1;go_simp⟩) hHeld ?_
  try simp only[Act.put,eZ,fZ,gZ]
  refine wpAnyH_take (i:=2) (v:=pZ s) rfl (by kernel_rfl) (by kernel_rfl) (by kernel_rfl) (fun _ _ _ h=>h) (Or.inl ⟨by rfl,fun W1 hS1=>by obtain ⟨e0,e2,e3,e4⟩:=hS1;go_simp⟩) hHeld ?_
  try simp only[Act.put,eZ,fZ,gZ]
  refine wpAnyH_take (i:=3) (v:=pZ s) rfl (by kernel_rfl) (by kernel_rfl) (by kernel_rfl) (fun _ _ _ h=>h) (Or.inl ⟨by rfl,fun W1 hS1=>by obtain ⟨e0,e2,e3,e4⟩:=hS1;go_simp⟩) hHeld ?_
  try simp only[Act.put,eZ,fZ,gZ]
  refine wpAnyH_take (i:=4) (v:=.pointer (some (dZ s 1))) rfl (by kernel_rfl) (by kernel_rfl) (by kernel_rfl) (fun _ _ _ h=>h) (Or.inl ⟨by rfl,fun W1 hS1=>by obtain ⟨e0,e2,e3,e4⟩:=hS1;go_simp⟩) hHeld ?_
  try simp only[Act.put,eZ,fZ,gZ]
  refine wpAnyH_take (i:=6) (v:=.agg #[.int .i64 (t:Int),.int .i64 (c:Int),.int .i64 (q.2.2:Int)]) rfl (by kernel_rfl) (by kernel_rfl) (by kernel_rfl) (fun _ _ _ h=>h) (Or.inl ⟨by rfl,fun W1 hS1=>by obtain ⟨e0,e2,e3,e4⟩:=hS1;go_simp⟩) hHeld ?_
  try simp only[Act.put,eZ,fZ,gZ]
  have HB3:Hid (Below w2.heap.size w2 ((w2.alloc (.cells #[.int .i64 (t:Int),.int .i64 (c:Int),.int .i64 (q.2.2:Int)] 76)).drew)):=bA.drew
  have HZ3:Hid (((w2.alloc (.cells #[.int .i64 (t:Int),.int .i64 (c:Int),.int .i64 (q.2.2:Int)] 76)).drew).heap[w2.heap.size]?=some (.cells #[.int .i64 (t:Int),.int .i64 (c:Int),.int .i64 (q.2.2:Int)] 76)):=hZ _ _
  have hL4:=HK0.out _ (Bw.ofBelow HB3.out)
  have d14:=(HB3.out.cell (p:=(dZ s 1)) (by show s<w2.heap.size;omega)).trans d1
  refine wpAnyH_ready (rs:= [5,7]) (by kernel_rfl) (by simp) ?_
  refine AllReadyH.cons rfl (fun K hK=>?_) (AllReadyH.cons rfl (fun K hK=>?_) AllReadyH.nil)
  .go_simp
   refine hK.out _ _ hHeld (fun hHeld=>?_)
   clear hK K
   try simp only[Act.put,eZ,fZ,gZ]
   refine wpAnyH_ready (rs:= [7]) (by kernel_rfl) (by simp) ?_
   refine AllReadyH.cons rfl (fun K hK=>?_) AllReadyH.nil
   go_simp
   refine hK.out _ _ hL4 (fun hHeld=>?_)
   clear hK K
   try simp only[Act.put,eZ,fZ,gZ]
   generalize ((w2.alloc (.cells #[.int .i64 (t:Int),.int .i64 (c:Int),.int .i64 (q.2.2:Int)] 76)).drew)=w4 at*
   obtain ⟨bz,hbz⟩: ∃bz,w2.heap.size=bz:=⟨_,rfl⟩
   have HZb:Hid (w4.heap[bz]?=some (.cells #[.int .i64 (t:Int),.int .i64 (c:Int),.int .i64 (q.2.2:Int)] 76)):=by rw[Hid,<-hbz];exact HZ3.out
   try rw[hbz]
   have hbz2:bz<w4.heap.size:=(aZ HZb.out)
   clear hbz
   have hO4:w4.ownsRow lo 76 3 (.slice sg q.2.1.length cg) q.2.1.length (db q.2.1):=by
    have h1:=bc HM2.out.go (fun k e=>HB3.out.block k (fj HM2.out.go e))
    rw[show ({ r with hv:=hv',gv:=gv}:Rn).gv=gv from rfl,Hgv.out]at h1
    exact h1
   have h43:=HB3.out.size
   refine wpAnyH_ready (rs:= [8]) (by kernel_rfl) (by simp) ?_
   refine AllReadyH.cons rfl (fun K hK=>?_) AllReadyH.nil
   have zcb:=ae HZb.out
   refine dz rfl (.tmp 24) (.tmp 26) 26 rfl lo 76 i0 (.agg #[.int .i64 0,.int .i64 0,.int .i64 0]) 3 24 Tryz.underlying26 hi0 hz0 hz1 hz2 rfl (by decide) (.slice sg q.2.1.length cg) q.2.1.length (db q.2.1) (by simp[Act.eval]) hO4 (dZ bz 0) 1 1 (db [⟨t,c,q.2.2⟩]) (by simp[Act.eval]) rfl (fun j u hu=>?_) (fun u hu=>?_) (by have:=hlp.out;unfold maxLen;omega) (by have:=hlp.out;omega) (by omega) (by omega) ?_
   .rw[ir]
    match j,hu with
    |0,hu=>exact zcb.1.trans hu
    |1,hu=>exact zcb.2.1.trans hu
    |2,hu=>exact zcb.2.2.1.trans hu
   .simp[db,js]at hu
    rcases hu with e|e|e <;> (subst e;rfl)
   intro g6 cap6 w6 ho6 hgr6 hat6
   have hB6:Bw (fun k=>gv.ownBlock=some k) w2.heap.size w2 w6:=(Bw.ofBelow HB3.out).grown hgr6 h43 (fun k e=> .inr (by rw[Hgv.out];exact e))
   have hs6:=hB6.size
   have h6at:(sZ g6 (q.2.1.length+1) cap6).ownBlock=gv.ownBlock\/∃k,(sZ g6 (q.2.1.length+1) cap6).ownBlock=some k/\w2.heap.size<=k:=by
    rcases hat6 with e|e
    .exact .inl (by rw[Hgv.out];exact e)
    .exact .inr ⟨g6,rfl,by omega⟩
   have h9:=HM2.out.toG (X:=fun k=>gv.ownBlock=some k) (v':=sZ g6 (q.2.1.length+1) cap6) (gs':=q.2.1++ [⟨t,c,q.2.2⟩]) hB6 (fun k hk=> .inl hk) (fun A hA=>eo (HM2.out.all A hA).1 fun k hk=>(HM2.out.all A hA).2.nb (rZ (.inl hk))) (by
    have e:db (q.2.1++ [⟨t,c,q.2.2⟩])=db q.2.1++db [⟨t,c,q.2.2⟩]:=by unfold db;rw[List.flatMap_append]
    rw[e,List.length_append]
    exact ho6) h6at
   have hL6:=HK0.out _ hB6
   have hL7:=HK1.out _ hB6 (sZ g6 (q.2.1.length+1) cap6)
   have d16:w6.cell? (dZ s 1)=some (.slice sg q.2.1.length cg):=(hB6.cell (p:=(dZ s 1)) (by show s<w2.heap.size;omega) (fun e=>HM2.out.apart.h1.2.1 e)).trans d1
   have df16:w6.frozen? (dZ s 1)=false:=(hB6.frozen (p:=(dZ s 1)) (by show s<w2.heap.size;omega) (fun e=>HM2.out.apart.h1.2.1 e)).trans df1
   have HM7:=hid h9.1
   have HB7:=hid h9.2
   have H6a:=hid h6at
   clear ho6 hgr6 hat6 h9 h6at
   refine hK.out _ _ hL6 (fun hHeld=>?_)
   clear hK K
   try simp only[Act.put,eZ,fZ,gZ]
   refine wpAnyH_take (i:=9) (v:=pZ s) rfl (by kernel_rfl) (by kernel_rfl) (by kernel_rfl) (fun _ _ _ h=>h) (Or.inl ⟨by rfl,fun W1 hS1=>by obtain ⟨e0,e2,e3,e4⟩:=hS1;go_simp⟩) hHeld ?_
   try simp only[Act.put,eZ,fZ,gZ]
   refine wpAnyH_take (i:=10) (v:=pZ s) rfl (by kernel_rfl) (by kernel_rfl) (by kernel_rfl) (fun _ _ _ h=>h) (Or.inl ⟨by rfl,fun W1 hS1=>by obtain ⟨e0,e2,e3,e4⟩:=hS1;go_simp⟩) hHeld ?_
   try simp only[Act.put,eZ,fZ,gZ]
   refine wpAnyH_take (i:=11) (v:=.pointer (some (dZ s 1))) rfl (by kernel_rfl) (by kernel_rfl) (by kernel_rfl) (fun _ _ _ h=>h) (Or.inl ⟨by rfl,fun W1 hS1=>by obtain ⟨e0,e2,e3,e4⟩:=hS1;go_simp⟩) hHeld ?_
   try simp only[Act.put,eZ,fZ,gZ]
   refine wpAnyH_ready (rs:= [12]) (by kernel_rfl) (by simp) ?_
   refine AllReadyH.cons rfl (fun K hK=>?_) AllReadyH.nil
   go_simp
   refine hK.out _ _ hL7 (fun hHeld=>?_)
   clear hK K
   try simp only[Act.put,eZ,fZ,gZ]
   refine wpAnyH_done (by kernel_rfl) ?_ _
   have HX7:Hid ((w6.setCell (dZ s 1) (sZ g6 (q.2.1.length+1) cap6)).heap[w.heap.size+1]?=some (.cells #[.int .i64 (t:Int),.int .i64 (c:Int),.int .i64 (q.2.2:Int)] 76)):=(HB7.out.block _ (by omega) (fun e=>by rcases e with e|e;(·omega);(·have:=HGv.out _ e;omega))).trans HX2.out
   have hs7:=HB7.out.size
   obtain ⟨⟨_,k1,_⟩,_,_⟩:=HM7.out.blk.get
   have k1':=k1
   obtain ⟨_,_,v2,_,_,vf2⟩:=ae HX7.out
   have v0:=hL7.1
   clear hHeld hL6 hL7 d16 df16 k1 hB6 zcb hO4 hs6
   generalize w6.setCell (dZ s 1) (sZ g6 (q.2.1.length+1) cap6)=w7 at*
   gi_wp2
   have hgE:=af (W:=w7) (w.heap.size+1) 2 (.int .i64 ((q.2.1.length:Int)+1))
   exact Ns.next HI.out hml HMl.out HAo.out HHv.out HGv.out hbn hb4 HN.out ht HPo.out HB2.out HM2.out HI2.out H02.out H22.out HAt.out HM7.out HB7.out HX7.out H6a.out
  .go_simp
   refine hK.out _ _ hL4 (fun hHeld=>?_)
   clear hK K
   try simp only[Act.put,eZ,fZ,gZ]
   generalize ((w2.alloc (.cells #[.int .i64 (t:Int),.int .i64 (c:Int),.int .i64 (q.2.2:Int)] 76)).drew)=w4 at*
   refine wpAnyH_ready (rs:= [5]) (by kernel_rfl) (by simp) ?_
   refine AllReadyH.cons rfl (fun K hK=>?_) AllReadyH.nil
   go_simp
   refine hK.out _ _ hL4 (fun hHeld=>?_)
   clear hK K
   try simp only[Act.put,eZ,fZ,gZ]
   obtain ⟨bz,hbz⟩: ∃bz,w2.heap.size=bz:=⟨_,rfl⟩
   have HZb:Hid (w4.heap[bz]?=some (.cells #[.int .i64 (t:Int),.int .i64 (c:Int),.int .i64 (q.2.2:Int)] 76)):=by rw[Hid,<-hbz];exact HZ3.out
   try rw[hbz]
   have hbz2:bz<w4.heap.size:=(aZ HZb.out)
   clear hbz
   have hO4:w4.ownsRow lo 76 3 (.slice sg q.2.1.length cg) q.2.1.length (db q.2.1):=by
    have h1:=bc HM2.out.go (fun k e=>HB3.out.block k (fj HM2.out.go e))
    rw[show ({ r with hv:=hv',gv:=gv}:Rn).gv=gv from rfl,Hgv.out]at h1
    exact h1
   have h43:=HB3.out.size
   refine wpAnyH_ready (rs:= [8]) (by kernel_rfl) (by simp) ?_
   refine AllReadyH.cons rfl (fun K hK=>?_) AllReadyH.nil
   have zcb:=ae HZb.out
   refine dz rfl (.tmp 24) (.tmp 26) 26 rfl lo 76 i0 (.agg #[.int .i64 0,.int .i64 0,.int .i64 0]) 3 24 Tryz.underlying26 hi0 hz0 hz1 hz2 rfl (by decide) (.slice sg q.2.1.length cg) q.2.1.length (db q.2.1) (by simp[Act.eval]) hO4 (dZ bz 0) 1 1 (db [⟨t,c,q.2.2⟩]) (by simp[Act.eval]) rfl (fun j u hu=>?_) (fun u hu=>?_) (by have:=hlp.out;unfold maxLen;omega) (by have:=hlp.out;omega) (by omega) (by omega) ?_
   .rw[ir]
    match j,hu with
    |0,hu=>exact zcb.1.trans hu
    |1,hu=>exact zcb.2.1.trans hu
    |2,hu=>exact zcb.2.2.1.trans hu
   .simp[db,js]at hu
    rcases hu with e|e|e <;> (subst e;rfl)
   intro g6 cap6 w6 ho6 hgr6 hat6
   have hB6:Bw (fun k=>gv.ownBlock=some k) w2.heap.size w2 w6:=(Bw.ofBelow HB3.out).grown hgr6 h43 (fun k e=> .inr (by rw[Hgv.out];exact e))
   have hs6:=hB6.size
   have h6at:(sZ g6 (q.2.1.length+1) cap6).ownBlock=gv.ownBlock\/∃k,(sZ g6 (q.2.1.length+1) cap6).ownBlock=some k/\w2.heap.size<=k:=by
    rcases hat6 with e|e
    .exact .inl (by rw[Hgv.out];exact e)
    .exact .inr ⟨g6,rfl,by omega⟩
   have h9:=HM2.out.toG (X:=fun k=>gv.ownBlock=some k) (v':=sZ g6 (q.2.1.length+1) cap6) (gs':=q.2.1++ [⟨t,c,q.2.2⟩]) hB6 (fun k hk=> .inl hk) (fun A hA=>eo (HM2.out.all A hA).1 fun k hk=>(HM2.out.all A hA).2.nb (rZ (.inl hk))) (by
    have e:db (q.2.1++ [⟨t,c,q.2.2⟩])=db q.2.1++db [⟨t,c,q.2.2⟩]:=by unfold db;rw[List.flatMap_append]
    rw[e,List.length_append]
    exact ho6) h6at
   have hL6:=HK0.out _ hB6
   have hL7:=HK1.out _ hB6 (sZ g6 (q.2.1.length+1) cap6)
   have d16:w6.cell? (dZ s 1)=some (.slice sg q.2.1.length cg):=(hB6.cell (p:=(dZ s 1)) (by show s<w2.heap.size;omega) (fun e=>HM2.out.apart.h1.2.1 e)).trans d1
   have df16:w6.frozen? (dZ s 1)=false:=(hB6.frozen (p:=(dZ s 1)) (by show s<w2.heap.size;omega) (fun e=>HM2.out.apart.h1.2.1 e)).trans df1
   have HM7:=hid h9.1
   have HB7:=hid h9.2
   have H6a:=hid h6at
   clear ho6 hgr6 hat6 h9 h6at
   refine hK.out _ _ hL6 (fun hHeld=>?_)
   clear hK K
   try simp only[Act.put,eZ,fZ,gZ]
   refine wpAnyH_take (i:=9) (v:=pZ s) rfl (by kernel_rfl) (by kernel_rfl) (by kernel_rfl) (fun _ _ _ h=>h) (Or.inl ⟨by rfl,fun W1 hS1=>by obtain ⟨e0,e2,e3,e4⟩:=hS1;go_simp⟩) hHeld ?_
   try simp only[Act.put,eZ,fZ,gZ]
   refine wpAnyH_take (i:=10) (v:=pZ s) rfl (by kernel_rfl) (by kernel_rfl) (by kernel_rfl) (fun _ _ _ h=>h) (Or.inl ⟨by rfl,fun W1 hS1=>by obtain ⟨e0,e2,e3,e4⟩:=hS1;go_simp⟩) hHeld ?_
   try simp only[Act.put,eZ,fZ,gZ]
   refine wpAnyH_take (i:=11) (v:=.pointer (some (dZ s 1))) rfl (by kernel_rfl) (by kernel_rfl) (by kernel_rfl) (fun _ _ _ h=>h) (Or.inl ⟨by rfl,fun W1 hS1=>by obtain ⟨e0,e2,e3,e4⟩:=hS1;go_simp⟩) hHeld ?_
   try simp only[Act.put,eZ,fZ,gZ]
   refine wpAnyH_ready (rs:= [12]) (by kernel_rfl) (by simp) ?_
   refine AllReadyH.cons rfl (fun K hK=>?_) AllReadyH.nil
   go_simp
   refine hK.out _ _ hL7 (fun hHeld=>?_)
   clear hK K
   try simp only[Act.put,eZ,fZ,gZ]
   refine wpAnyH_done (by kernel_rfl) ?_ _
   have HX7:Hid ((w6.setCell (dZ s 1) (sZ g6 (q.2.1.length+1) cap6)).heap[w.heap.size+1]?=some (.cells #[.int .i64 (t:Int),.int .i64 (c:Int),.int .i64 (q.2.2:Int)] 76)):=(HB7.out.block _ (by omega) (fun e=>by rcases e with e|e;(·omega);(·have:=HGv.out _ e;omega))).trans HX2.out
   have hs7:=HB7.out.size
   obtain ⟨⟨_,k1,_⟩,_,_⟩:=HM7.out.blk.get
   have k1':=k1
   obtain ⟨_,_,v2,_,_,vf2⟩:=ae HX7.out
   have v0:=hL7.1
   clear hHeld hL6 hL7 d16 df16 k1 hB6 zcb hO4 hs6
   generalize w6.setCell (dZ s 1) (sZ g6 (q.2.1.length+1) cap6)=w7 at*
   gi_wp2
   have hgE:=af (W:=w7) (w.heap.size+1) 2 (.int .i64 ((q.2.1.length:Int)+1))
   exact Ns.next HI.out hml HMl.out HAo.out HHv.out HGv.out hbn hb4 HN.out ht HPo.out HB2.out HM2.out HI2.out H02.out H22.out HAt.out HM7.out HB7.out HX7.out H6a.out
end
end Go.Proofs.YtmggaclaoefdaabGreat
