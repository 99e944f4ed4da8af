/- Part of the proof. -/
import Derived.Test.YtmggaclaoefdaabGreatMzE
namespace Go.Proofs.YtmggaclaoefdaabGreat
open Go.RowKit Go.Shelf Go.Proofs.Tryz
set_option linter.unusedVariables false
set_option linter.unusedSimpArgs false
set_option maxRecDepth 100000
set_option maxHeartbeats 8000000
attribute [local go_sem] Oper.semAt_some
theorem O6:(prog.info? 87).map (fun i=>(i.zero,i.size,i.bytes))=some (some (.slice none 0 0),1,24):=by kernel_rfl
theorem Q3:(prog.info? 67).map (fun i=>(i.zero,i.size,i.bytes))=some (some (.agg #[iV 0,.string ByteArray.empty,.slice none 0 0]),3,48):=by kernel_rfl
theorem Sm (w:World) (A:Tm): ∀j u,[lh A][j]?=some u->(w.alloc (.cells #[.slice A.a A.len A.cap] 87)).cell? ((⟨w.heap.size,0,none⟩:Addr).add j)=some u:=by
 intro j u hj;have hb:=hZ w (.cells #[.slice A.a A.len A.cap] 87);rw[ir,cell_of_row _ _ _ _ _ _ hb]
 simpa[lh]using hj
structure RA (w:World) (s:Nat) (r r':Rn):Prop where
 q:r'.qv=r.qv
 st:r'.st=r.st
 P:r'.P=r.P
 own: ∀k,k<w.heap.size->cm s r' k->cm s r k
theorem RK.ra {w:World} {s:Nat} {r r':Rn} (h:RK w s r r'):RA w s r r':=⟨h.q,h.st,h.P,h.own⟩
theorem RA.refl (w:World) (s:Nat) (r:Rn):RA w s r r:=(RK.refl w s r).ra
theorem RA.trans {w w1:World} {s:Nat} {r r1 r2:Rn} (h:RA w s r r1) (k:RA w1 s r1 r2) (hs:w.heap.size<=w1.heap.size):RA w s r r2:=⟨k.q.trans h.q,k.st.trans h.st,k.P.trans h.P,fun q hq hm=>h.own q hq (k.own q (lL hq hs) hm)⟩
theorem Cj {w w1 w2:World} {s:Nat} {r r1:Rn} (h:Bw (cm s r) w.heap.size w w1) (hk:RA w s r r1) (k:Bw (cm s r1) w1.heap.size w1 w2):Bw (cm s r) w.heap.size w w2:=h.trans ((k.mono h.size).wide fun q hq hm=>hk.own q hq hm)
theorem jc.nextA {w w':World} {s:Nat} {r r':Rn} (h:jc w s r) (hB:Bw (cm s r) w.heap.size w w') (hk:RA w s r r'):jc w' s r':=by
 have e:=hk.P;refine ⟨?_,by rw[e];exact h.cap,by rw[e];exact h.few,?_,?_,?_⟩
 .rw[e]
  refine ⟨h.pin.1,fun j hj=>⟨?_,(h.pin.2 j hj).2.1.bw hB lZ (h.hd j hj).2.2.2,(h.pin.2 j hj).2.2.bw hB lZ (h.bd j hj).1⟩⟩
  obtain ⟨b,o,ha,c0,c1,c2,c3⟩:=(h.pin.2 j hj).1;have hb:=h.blk b o ha (by omega)
  exact ⟨b,o,ha,(hB.cell (p:=(dZ b (o+j*4))) (ag c0) hb).trans c0,(hB.cell (p:=(dZ b (o+j*4+1))) (ag c1) hb).trans c1,(hB.cell (p:=(dZ b (o+j*4+2))) (ag c2) hb).trans c2,(hB.cell (p:=(dZ b (o+j*4+3))) (ag c3) hb).trans c3⟩
 .rw[e]
  intro b o ha h0 hm;obtain ⟨b',o',ha',c0,_⟩:=(h.pin.2 0 h0).1;rw[ha]at ha';cases ha';exact h.blk b o ha h0 (hk.own b (ag c0) hm)
 .rw[e]
  exact fun j hj=>⟨(h.hd j hj).1,(h.hd j hj).2.1,(h.hd j hj).2.2.1,(h.hd j hj).2.2.2.anti (h.pin.2 j hj).2.1 hk.own⟩
 .rw[e]
  exact fun j hj=>⟨(h.bd j hj).1.anti (h.pin.2 j hj).2.2 hk.own,(h.bd j hj).2⟩
section
variable {lo:Nat} {w w':World} {s:Nat} {r:Rn} {h:List Cl} {gs:List Gq} {cs:List jo} {tr qs:List Nat} {an:List Tm}
theorem MN.toA (M:MN lo w s r h gs cs tr qs an) {X:Nat->Prop} {w1:World} {v':Value} {A:Tm} (hB:Bw X w.heap.size w w1) (hX: ∀k,X k->r.av.ownBlock=some k\/(¬cm s r k/\r.qv.ownBlock≠some k)) (hA: ∀A∈an,NM X A) (hr:w1.ownsRow lo 87 1 v' (an++ [A]).length ((an++ [A]).map lh)) (hat:v'.ownBlock=r.av.ownBlock\/∃q,v'.ownBlock=some q/\w.heap.size<=q) (hT:ay w A) (hN:NM (cm s r) A) (hNX:NM X A):
 MN lo (w1.setCell ⟨s,8,none⟩ v') s { r with av:=v'} h gs cs tr qs (an++ [A])/\Bw (fun k=>k=s\/X k) w.heap.size w (w1.setCell ⟨s,8,none⟩ v'):=by
 have hAp:=M.apart;have hs:=hB.size;have hB2:=xi (s:=s) hB hs 8 v'
 have hXs: ¬X s:=fun hx=>by
  rcases hX s hx with e| ⟨e,_⟩
  .exact hAp.h1.2.2.2.2.2 e
  .exact e (.inl rfl)
 have hb1:o9 w1 s r:=M.blk.kept (hB.block s M.blk.lt hXs)
 have hn: ∀(v:Value),(∀k,v.ownBlock=some k->k≠s/\r.av.ownBlock≠some k/\(cm s r k\/r.qv.ownBlock=some k))->∀k,v.ownBlock=some k->¬(k=s\/X k):=fun v hv k e hk=>by
  obtain ⟨h1,h2,h3⟩:=hv k e
  rcases hk with hk|hk
  .exact h1 hk
  .rcases hX k hk with e'| ⟨e1,e2⟩
   .exact h2 e'
   .rcases h3 with h3|h3
    .exact e1 h3
    .exact e2 h3
 have hv':v'.ownBlock≠some s:=fun e=>by
  rcases hat with e'| ⟨q,e',hq⟩
  .rw[e]at e';exact hAp.h1.2.2.2.2.2 e'.symm
  .rw[e]at e';have:=oj e';have:=M.blk.lt;omega
 have hmn: ∀k,k<w.heap.size->cm s { r with av:=v'} k->cm s r k:=fun k hk hm=>by
  have hold:v'.ownBlock=some k->r.av.ownBlock=some k:=fun hm'=>by
   rcases hat with e'| ⟨q,e',hq⟩
   .rw[<-e'];exact hm'
   .rw[e']at hm';have:=oj hm';omega
  rcases hm with hm|hm|hm|hm|hm|hm
  .exact .inl hm
  .exact .inr (.inl hm)
  .exact rZ (.inl hm)
  .exact rZ (.inr (.inl hm))
  .exact rZ (rZ (.inl hm))
  .exact rZ (rZ (.inr (hold hm)))
 refine ⟨⟨hb1.set 8 v' rfl,aw M.hp hB2 (hn r.hv fun k e=>⟨fun hk=>hAp.h1.1 (hk▸e),(hAp.hh k e).2.2.2.2,.inl (.inr (.inl e))⟩),aw M.go hB2 (hn r.gv fun k e=>⟨fun hk=>hAp.h1.2.1 (hk▸e),(hAp.hg k e).2.2.2.2,.inl (rZ (.inl e))⟩),aw M.ch hB2 (hn r.cv fun k e=>⟨fun hk=>hAp.h1.2.2.1 (hk▸e),(hAp.hc k e).2.2.2.2,.inl (rZ (.inr (.inl e)))⟩),aw M.tl hB2 (hn r.tv fun k e=>⟨fun hk=>hAp.h1.2.2.2.1 (hk▸e),(hAp.ht k e).2.2.2.2,.inl (rZ (rZ (.inl e)))⟩),aw M.qu hB2 (hn r.qv fun k e=>⟨fun hk=>hAp.h1.2.2.2.2.1 (hk▸e),fun e'=>(hAp.ha k e').2.2.2.2 e,.inr e⟩),?_,?_,M.tq,M.los⟩,hB2⟩
 .exact World.ownsRow.kept hr (af s 8 v') (by
   cases hv:v'.ownBlock with
   |none=>exact .inl rfl
   |some k=>exact .inr (fun e=>hv' (by rw[hv,oj e])))
 .have hold:=M.all' hB2 (fun A hA'=>eo (M.all A hA').1 fun k hk=>by
   rcases hk with hk|hk
   .subst hk;exact (M.all A hA').2.nb (.inl rfl)
   .exact (hA A hA').nb hk) hmn
  intro B hB'
  rcases List.mem_append.1 hB' with h|h
  .exact hold B h
  .rw[List.mem_singleton]at h
   subst h
   exact ⟨hT.bw hB2 lZ (eo hT fun k hk=>by
    rcases hk with hk|hk
    .subst hk;exact hN.nb (.inl rfl)
    .exact hNX.nb hk),hN.anti hT hmn⟩
noncomputable def Jg (h:List Cl) (qs:List Nat) (k:Nat):List Int:=(((qs.take k).map (gy (ah h) h.length)).map cz).flatten
theorem B7 (h:List Cl) (qs:List Nat) {k:Nat} (hk:k<qs.length):Jg h qs (k+1)=Jg h qs k++cz (gy (ah h) h.length qs[k]):=by
 unfold Jg;have e:qs.take (k+1)=qs.take k++ [qs[k]]:=by rw[List.take_add_one,gE hk];rfl
 rw[e,List.map_append,List.map_append,List.flatten_append]
 congr 1
 simp
def Pw (lo:Nat) (w:World) (s:Nat) (r:Rn) (qs:List Nat) (F:FM) (e:Ending) (w':World):Prop:=e=.returned (.tuple #[])/\∃r' an',MX lo w' s r' F.m qs an'/\an'.map br=F.an/\RA w s r r'/\Bw (cm s r) w.heap.size w w'
structure Ps (w w4 w5:World) (h:List Cl) (qs:List Nat) (ha:Option Addr) (hcp vb m nb nm:Nat) (k:Nat) (a:Value) (wr:World) (ts:List Tm) (σ':Int->Option Int) (nv:Value):Prop where
 lst:i6 w5.heap.size wr a ts ts
 len:ts.length=k
 vw:VW wr vb m ha h.length hcp (ah h) σ'
 nms:ob wr w4.heap.size nb nm nv (bg [] (Jg h qs k))
 av: ∀T∈ts,∀g,nv.ownBlock=some g->NB g T
 val: ∀i,i<k->∀t'',bg [] (Jg h qs k) <+:t''->a9 (ts.getD i .nil)=ap (iq (jz t'')) (gy (ah h) h.length (qs.getD i 0))
 bel:Below w.heap.size w wr
 siz:w5.heap.size<=wr.heap.size
theorem Ps.next {w w4 w5 wr w6 wa w8:World} {h:List Cl} {qs:List Nat} {ha:Option Addr} {hcp vb m nb nm k g' c':Nat} {a:Value} {ts:List Tm} {σ' σ6 σ4:Int->Option Int} {nv v6:Value} {T6:Tm} (R:Ps w w4 w5 h qs ha hcp vb m nb nm k a wr ts σ' nv) (hk:k<qs.length) (V4:VW w4 vb m ha h.length hcp (ah h) σ4) (hw4:w.heap.size<=w4.heap.size) (h45:w4.heap.size<=w5.heap.size) (hm:m<w4.heap.size/\w.heap.size<=m) (hnb:nb<w5.heap.size/\nm<w5.heap.size/\w.heap.size<=nb/\w.heap.size<=nm) (hX6:ay w6 T6) (hA6:bl wr.heap.size T6) (hV6:VW w6 vb m ha h.length hcp (ah h) σ6) (hN6:ob w6 w4.heap.size nb nm v6 (bg (bg [] (Jg h qs k)) (cz (gy (ah h) h.length qs[k])))) (hb6:Bw (Mr m nb nm nv) wr.heap.size wr w6) (ho6:v6.ownBlock=nv.ownBlock\/∃g,v6.ownBlock=some g/\wr.heap.size<=g) (hn6: ∀g,v6.ownBlock=some g->NB g T6) (hval: ∀t'',bg (bg [] (Jg h qs k)) (cz (gy (ah h) h.length qs[k])) <+:t''->a9 T6=ap (iq (jz t'')) (gy (ah h) h.length qs[k])) (hwa:wa=(w6.alloc (.cells #[iV T6.v,.string T6.nm,.slice T6.a T6.len T6.cap] 67))) (hown:w8.ownsRow w5.heap.size 67 3 (.slice (some ⟨g',0,none⟩) (ts.length+1) c') (ts.length+1) (cy ts++cy [T6])) (hg:wa.grownBy w8 a.ownBlock) (hat:(Value.slice (some ⟨g',0,none⟩) (ts.length+1) c').ownBlock=a.ownBlock\/(Value.slice (some ⟨g',0,none⟩) (ts.length+1) c').ownBlock=some wa.heap.size):
 Ps w w4 w5 h qs ha hcp vb m nb nm (k+1) (.slice (some ⟨g',0,none⟩) (ts.length+1) c') w8 (ts++ [T6]) σ6 v6:=by
 have hsz:=R.siz;have hs6:=hb6.size;have hnv:=R.nms.lt.2.2
 have hmr: ∀g,a.ownBlock=some g->¬Mr m nb nm nv g:=fun g e hm=>by
  obtain ⟨cur,hc⟩:=de R.lst.own e
  rcases hm with e'|e'|e'|e'
  .subst e'
   obtain ⟨es,cl,hmap⟩:=R.vw.mp.isMap;rw[hc]at hmap;cases hmap
  .subst e'
   have:=R.nms.blk;rw[hc]at this;cases this
  .subst e'
   obtain ⟨es,cl,hmap⟩:=R.nms.mp.isMap;rw[hc]at hmap;cases hmap
  .obtain ⟨cur',hc'⟩:=de R.nms.row e'
   rw[hc]at hc';cases hc'
 have hnm: ∀T∈ts,NM (Mr m nb nm nv) T:=fun T hT=>eo (R.lst.all T hT).1 fun q hq=>by
  have hA:=(R.lst.all T hT).2.1
  rcases hq with e|e|e|e
  .exact hA.nb (by omega)
  .exact hA.nb (by omega)
  .exact hA.nb (by omega)
  .exact R.av T hT q e
 have L6:=R.lst.bw2 hb6 hmr hnm;have hBa:Below w6.heap.size w6 wa:=by rw[hwa];exact bA
 have hsa:wa.heap.size=w6.heap.size+1:=by rw[hwa];simp
 have La:=L6.keep hBa;have hab: ∀g,a.ownBlock=some g->w5.heap.size<=g/\g<wr.heap.size:=fun g e=>R.lst.own.lt g e
 have hN6l:=hN6.lt;have hNT: ∀g,a.ownBlock=some g->NB g T6:=fun g e=>hA6.nb (hab g e).2
 have hag: ∀q,q<w6.heap.size->a.ownBlock≠some q->w8.heap[q]?=w6.heap[q]?:=fun q hq hne=>(hg.block q (by omega) (fun e=>hne e.symm)).trans (hBa.block q hq)
 have hv6a: ∀g,v6.ownBlock=some g->a.ownBlock≠some g:=fun g e e'=>by
  obtain ⟨c1,h1⟩:=de hN6.row e;obtain ⟨c2,h2⟩:=de L6.own e';rw[h1]at h2;cases h2
 refine ⟨La.more (hX6.below hBa) (hA6.mono (by omega)) hNT (Ff.refl _) hown hg hat,by rw[List.length_append,R.len];rfl,?_,?_,?_,?_,?_,?_⟩
 .exact V4.low hV6 fun q hq=>hag q (by omega) (fun e=>by have:=hab q e;omega)
 .rw[B7 h qs hk,fm]
  refine hN6.keep fun q hq=>hag q ?_ ?_
  .rcases hq with e|e|e
   .have:=hN6l.1;omega
   .have:=hN6l.2.1;omega
   .exact (hN6l.2.2 q e).2
  .rcases hq with e|e|e
   .intro e';have:=hab q e';omega
   .intro e';have:=hab q e';omega
   .exact hv6a q e
 .intro T hT g hgv
  rcases List.mem_append.1 hT with hT|hT
  .rcases ho6 with e| ⟨g',e,hg'⟩
   .exact R.av T hT g (e▸hgv)
   .rw[e]at hgv
    have:g'=g:=oj hgv;subst this;exact (R.lst.all T hT).1.nb hg'
  .rw[List.mem_singleton]at hT
   subst hT;exact hn6 g hgv
 .intro i hi t'' ht
  rw[B7 h qs hk,fm]at ht;have hl:=R.len
  by_cases hik:i<k
  .have e1:(ts++ [T6]).getD i .nil=ts.getD i .nil:=by simp[List.getD,List.getElem?_append_left (show i<ts.length by omega)]
   rw[e1];exact R.val i hik t'' ((mx _ _).trans ht)
  .have hik':i=k:=by omega
   subst hik';have e1:(ts++ [T6]).getD i .nil=T6:=by simp[List.getD,List.getElem?_append_right (show ts.length<=i by omega),hl]
   have e2:qs.getD i 0=qs[i]:=by simp[List.getD,gE hk]
   rw[e1,e2];exact hval t'' ht
 .refine ⟨?_,?_,?_,?_,fun q hq=>?_⟩
  .rw[hg.os,hBa.os,hb6.os];exact R.bel.os
  .rw[hg.tape,hBa.tape,hb6.tape];exact R.bel.tape
  .rw[hg.output,hBa.output,hb6.output];exact R.bel.output
  .have:=hg.size;have:=R.bel.size;omega
  .have hbs:=R.bel.size
   refine (hag q (by omega) (fun e=>by have:=hab q e;omega)).trans ((hb6.block q (by omega) (fun hm=>?_)).trans (R.bel.block q hq))
   rcases hm with e|e|e|e
   .omega
   .omega
   .omega
   .have:=(hnv q e).1;omega
 .have:=hg.size;omega
theorem Ps.done {w w4 w5 wr:World} {h:List Cl} {qs:List Nat} {ha:Option Addr} {hcp vb m nb nm:Nat} {a:Value} {ts:List Tm} {σ':Int->Option Int} {nv:Value} (R:Ps w w4 w5 h qs ha hcp vb m nb nm qs.length a wr ts σ' nv): ∃A:Tm,a=.slice A.a A.len A.cap/\ay wr A/\bl w5.heap.size A/\br A=jv h qs:=by
 obtain ⟨A,h1,h2,h3,h4,h5,_⟩:=R.lst.exact;refine ⟨A,h1,h2,h3,?_⟩;have hl:=R.len;have hfl:Jg h qs qs.length=((qs.map (gy (ah h) h.length)).map cz).flatten:=by unfold Jg;rw[List.take_length]
 unfold br az jv
 apply List.ext_getElem
 .simp;omega
 .intro i i1 i2
  have hi:i<qs.length:=by simpa using i2
  simp only[List.getElem_map,List.getElem_range];rw[h5 i (by omega),R.val i hi _ (List.prefix_refl _),hfl]
  congr 1
  simp[List.getD,gE hi]
theorem C5 {X:PM} {st0:Nat} (w:World) (M:MX lo w s r X qs an) (hlo:lo<=w.heap.size) (hO:jm r.P.len qs X) (hC:i7 r.P) (hP:jc w s r) (hg5:X.gs.length<=5000) (htr:X.tr.length<=8000000) (hcs:X.cs.length<=1000000) (hq:qs.length<=12) (han:an.length<=10000000):
 Calls prog 83 #[.pointer (some ⟨s,0,none⟩)] w (Pw lo w s r qs (a6 r.P qs ⟨X,an.map br,st0⟩)):=by
 obtain ⟨ha,hcp,hhv,hhc,_,_⟩:=ak M.mn.hp;obtain ⟨qa,qc,hqv,hqc,hqn,hqg⟩:=ak M.mn.qu;obtain ⟨va,vc,hav,hvc,hvn,hvg⟩:=ak M.mn.anr
 obtain ⟨bq,hbq,hsq⟩: ∃bq,bq<w.heap.size/\∀k (hk:k<qs.length),qa=some (dZ bq 0)/\w.cell? (dZ bq k)=some (iV (qs[k]:Int)):=by
  cases qa with
  |none=>exact ⟨s,M.mn.blk.lt,fun k hk=>absurd (hqn rfl).1 (by omega)⟩
  |some ad=>
   obtain ⟨g,rfl⟩:=hqg ad rfl;have hrow:=M.mn.qu;rw[hqv]at hrow;refine ⟨g,fj hrow rfl,fun k hk=>⟨rfl,?_⟩⟩
   rw[hrow.cellAt k (by omega)]
   unfold fg;rw[List.getElem?_map,gE hk]
   rfl
 have HM:=hid M;have HO:=hid hO;have HP:=hid hP;have HC:=hid hC;have Hsq:=hid hsq
 have HHin:Hid (∀W,Below w.heap.size w W->HIn W ha X.h.length (ah X.h)):=fun W hW=>by
  have h1:=M.mn.below hW;have h2:=h1.hp;rw[hhv]at h2;exact j3.hin h2 rfl hO.s.hg.nmZ
 have HKp:Hid (∀W,Below w.heap.size w W->W.cell? (dZ s 0)=some (.slice ha X.h.length hcp)/\W.cell? (dZ s 5)=some (.slice qa qs.length qc)/\W.cell? (dZ s 7)=some (iV r.fin)/\W.cell? (dZ s 8)=some (.slice va an.length vc)/\W.frozen? (dZ s 7)=false/\W.frozen? (dZ s 8)=false):=fun W hW=>by
  obtain ⟨⟨x0,_,_,_,_,x5⟩,⟨_,x7,x8,_⟩,xf⟩:=(M.mn.below hW).blk.get;rw[hhv]at x0;rw[hqv]at x5;rw[hav]at x8;exact ⟨x0,x5,x7,x8,xf 7,xf 8⟩
 have Hav:=hid hav;have hlb:X.h.length<=1000000:=by have:=hO.s.hg.ok.few;omega
 have hsl:=M.mn.blk.lt;have HEv:Hid (∀args w,(callFunc 141 args).run prog w=.ok (.enter 141 args) w):=enters_of Tryz.func141 (by kernel_rfl) rfl
 have HOn:Hid (Calls prog 107 #[.slice ha X.h.length hcp] w fun e w'=>∃vb m,e=.returned (pZ vb)/\VW w' vb m ha X.h.length hcp (ah X.h) (fun _=>none)/\w.heap.size<=vb/\w.heap.size<=m/\Below w.heap.size w w'):=zo w (HHin.o w bR)
 obtain ⟨x0,x5,x7,x8,xf7,xf8⟩:=HKp.o w bR;clear M hO hP hC hsq hhv hqv hav hqn hqg hvn hvg
 go_enter Tryz.func83,Tryz.ntmps83
 go_wp2_with fail;refine HOn.o.mono ?_;rintro e w1 ⟨vb,m,rfl,hV1,hvb,hmm,hb1⟩;have HB1:=hid hb1;have HV1:=hid hV1;have hml:=hV1.lt.2;have hs1:=hb1.size;clear hV1 hb1 HOn x0 x5 x7 x8 xf7 xf8;obtain ⟨_,x5,_⟩:=HKp.o w1 HB1.o;go_wp2_with fail;refine (Ea qa qs.length qc w1).mono ?_;rintro e w2 ⟨rfl,hw2⟩;have hb2:Below w1.heap.size w1 w2:=by rw[hw2];exact bA
 have hx2:w2.heap[w1.heap.size]?=some (.cells #[.slice qa qs.length qc] 28):=by rw[hw2];exact hZ _ _
 have HB2:=hid (HB1.o.trans (hb2.mono HB1.o.size));have hs2:=hb2.size
 have HSq:Hid (Do 141 #[pZ w1.heap.size] X.h.length qs bq w2):=D9 w1.heap.size bq qa qc qs HO.o.s.qu (by omega) w2 hx2 (fun k hk=>⟨0,(Hsq.o k hk).1,by
  have h1:=(Hsq.o k hk).2;rw[Nat.zero_add];exact (HB2.o.cell (p:=(dZ bq k)) (ag h1)).trans h1⟩)
 have HV2:=hid (HV1.o.below hb2)
 have HRo:Hid (Calls prog 114 #[pZ vb,iV ((200:Nat):Int),.func (.func 141) #[] #[pZ w1.heap.size]] w2 fun e w'=>e=.returned (iV (gg ((200:Nat):Int) (gd (ah X.h) X.h.length qs)))/\(∃σ',VW w' vb m ha X.h.length hcp (ah X.h) σ')/\w2.grownBy w' (some m)):=
  G2 200 lZ vb m ha X.h.length hcp (ah X.h) _ _ _ qs bq w2 HO.o.s.hg hlb HV2.o HEv.o (by omega) (by omega) HSq.o
 clear hw2 hb2 hx2 x5;go_wp2_with fail;refine HRo.o.mono ?_;rintro e w4 ⟨rfl,⟨σ4,hV4⟩,hg4⟩;have HV4:=hid hV4;have HB4:Hid (Below w.heap.size w w4):=HB2.o.grown hg4 (by omega) (fun k e=>by cases e;omega)
 have hs4:=hg4.size;clear hV4 hg4 HRo HSq
 by_cases hbig:200<gd (ah X.h) X.h.length qs
 case pos=>
  have hrv:=ue hbig
  have HF:Hid (a6 r.P qs ⟨X,an.map br,st0⟩=⟨{ X with fin:=3},an.map br,st0⟩):=by rw[Hid];unfold a6;rw[if_pos hbig]
  rw[hrv];obtain ⟨_,_,x7,_,xf7,_⟩:=HKp.o w4 HB4.o;clear hbig hrv;go_wp2_with fail
  go_end0
  have hM4:=HM.o.mn.below HB4.o
  have h1:=hM4.int 7 3 (r':= { r with fin:=3}) rfl ⟨rfl,rfl,rfl,rfl,rfl,rfl⟩
  refine ⟨rfl,{ r with fin:=3},an,?_,?_,⟨rfl,rfl,rfl,fun _ _ h=>h⟩,(Bw.ofBelow HB4.o).grown (af s 7 _) (by omega) (fun k e=> .inr (.inl (oj e).symm))⟩
  .rw[HF.o]
   exact ⟨h1,HM.o.first,HM.o.left,rfl⟩
  .rw[HF.o]
 obtain ⟨rr,hrr⟩: ∃rr:Nat,rr+gd (ah X.h) X.h.length qs=200:=⟨200-gd (ah X.h) X.h.length qs,by omega⟩
 have hrv:=ug hrr;have hrn: ¬((rr:Int)<0):=by omega
 have HBg:=hid hbig;have HNn:=hid (Ak w4);rw[hrv];clear hbig hrv hrr;go_wp2_with fail;refine HNn.o.mono ?_;rintro e w5 ⟨nb,nm,rfl,hN5,hb5⟩;have HB5:=hid (HB4.o.trans (hb5.mono HB4.o.size));have hs5:=hb5.size;have hlo5:=hN5.lo;have hlt5:=hN5.lt;have hnl:nb<w5.heap.size/\nm<w5.heap.size/\w.heap.size<=nb/\w.heap.size<=nm:=⟨hlt5.1,hlt5.2.1,by omega,by omega⟩
 have HR5:Hid (Ps w w4 w5 X.h qs ha hcp vb m nb nm 0 nZ w5 [] σ4 nZ):=by
  refine ⟨⟨World.ownsRow_nil _ _ _ _,fun T h=>(by cases h),rfl,fun i h=>absurd h (nL i)⟩,rfl,HV4.o.below hb5,?_,fun T h=>(by cases h),fun i h=>absurd h (nL i),HB5.o,lZ⟩
  exact hN5
 obtain ⟨_,x5,_⟩:=HKp.o w5 HB5.o;obtain ⟨it,hit,ht0,ht1,ht2⟩:=info_parts Q3;clear hN5 hb5 HNn hlo5 hlt5;go_wp2_with fail
 go_loopw [4,33] (fun a x wr=>∃(k:Nat) (ts:List Tm) (σ':Int->Option Int) (nv:Value),k<=qs.length/\x=iV (k:Int)/\Ps w w4 w5 X.h qs ha hcp vb m nb nm k a wr ts σ' nv) (fun _ x _=>qs.length-(intOf x).toNat)
 case atStart=>exact ⟨0,[],σ4,nZ,oZ,rfl,HR5.o⟩
 case round=>
  obtain ⟨k,ts,σ',nv,hk,rfl,hR⟩:=hrel;have HR:=hid hR;clear hR
  by_cases hlt:k<qs.length
  case neg=>
   have hke:k=qs.length:=by omega
   have hR1:=HR.o;rw[hke]at hR1;obtain ⟨A,hA1,hA2,hA3,hA4⟩:=hR1.done;have HBr:=hid HR.o.bel;have hsr:=HR.o.siz;have hkI: ¬((k:Int)<(qs.length:Int)):=by omega
   obtain ⟨_,_,x7,x8,xf7,xf8⟩:=HKp.o wr HBr.o;have HBn:Hid (Below w.heap.size w (wr.alloc (.cells #[.slice A.a A.len A.cap] 87))):=HBr.o.trans (bA.mono HBr.o.size);have hba:Below wr.heap.size wr (wr.alloc (.cells #[.slice A.a A.len A.cap] 87)):=bA;obtain ⟨_,_,z7,z8,zf7,zf8⟩:=HKp.o _ HBn.o;have HMa:=hid (HM.o.mn.below HBn.o);have HAa:Hid (ay (wr.alloc (.cells #[.slice A.a A.len A.cap] 87)) A/\NM (cm s r) A):=⟨hA2.below hba,hA3.nm fun k hk=>by have:=HM.o.lt k hk;omega⟩
   have HOa:Hid ((wr.alloc (.cells #[.slice A.a A.len A.cap] 87)).ownsRow lo 87 1 (.slice va an.length vc) an.length (an.map lh)):=by have:=HMa.o.anr;rwa [Hav.o]at this
   have HNw:=hid (Sm wr A)
   have Hda:Hid (∀q,(Value.slice va an.length vc).ownBlock=some q->q≠s):=fun q hq e=>by
    subst e;exact HM.o.mn.apart.h1.2.2.2.2.2 (by rw[Hav.o];exact hq)
   have hsl2:s<(wr.alloc (.cells #[.slice A.a A.len A.cap] 87)).heap.size:=by have:=hba.size;omega
   have hlo2:lo<=(wr.alloc (.cells #[.slice A.a A.len A.cap] 87)).heap.size:=by have:=hba.size;omega
   obtain ⟨i0,hi0,hz0,hz1,hz2⟩:=info_parts O6;have HA4:=hid hA4;have HRg:Hid (an.map br++ [jv X.h qs]=(an++ [A]).map br):=by rw[Hid,List.map_append,List.map_cons,List.map_nil,hA4]
   have HF0:Hid (a6 r.P qs ⟨X,an.map br,st0⟩=if 40<=an.length+1 then ⟨{ X with fin:=1},(an++ [A]).map br,st0⟩else ⟨dr r.P X,(an++ [A]).map br,st0⟩):=by
    rw[Hid];unfold a6;rw[if_neg HBg.o]
    show (if 40<=(an.map br).length+1 then FM.mk { X with fin:=1} (an.map br++ [jv X.h qs]) st0 else FM.mk (dr r.P X) (an.map br++ [jv X.h qs]) st0)=_
    rw[List.length_map,HRg.o]
   subst hA1;clear hR1 hA2 hA3 hA4 hba hke
   by_cases h40:40<=an.length+1
   case pos=>
    have h40I:(40:Int)<=(an.length:Int)+1:=by omega
    have HF:Hid (a6 r.P qs ⟨X,an.map br,st0⟩=⟨{ X with fin:=1},(an++ [A]).map br,st0⟩):=by rw[Hid,HF0.o,if_pos h40]
    clear h40 HF0
    go_wp2_with (at_builtin;refine wpList_append_own_at _ rfl (.tmp 51) (.tmp 53) 29 rfl lo 87 i0 nZ 1 24 Tryz.underlying29 hi0 hz0 hz1 hz2 rfl (by decide) (.slice va an.length vc) an.length (an.map lh) rfl HOa.o (dZ wr.heap.size 0) 1 1 [lh A] rfl rfl HNw.o (by intro u hu;simp[lh]at hu;rw[hu];rfl) (by unfold maxLen;omega) (by omega) hlo2 ?_;intro v' w8 hown' hgrow hnil hat;have hv': ∃g' cap',v'=sZ g' (an.length+1) cap':=(by rcases hown'.2 with ⟨_,h0⟩| ⟨g',cap',_,h,_⟩;(·omega);(·exact ⟨g',cap',h⟩));obtain ⟨g',cap',rfl⟩:=hv';have hst:w8.heap[s]?=(wr.alloc (.cells #[.slice A.a A.len A.cap] 87)).heap[s]?:=hgrow.block s hsl2 (fun e=>Hda.o s e.symm rfl);have q8:w8.cell? (dZ s 8)=some (.slice va an.length vc):=(cB hst).trans z8;have qf8:w8.frozen? (dZ s 8)=false:=(World.frozen?_of_block hst).trans zf8;have q7:w8.cell? (dZ s 7)=some (iV r.fin):=(cB hst).trans z7;have qf7:w8.frozen? (dZ s 7)=false:=(World.frozen?_of_block hst).trans zf7)
    have hB8:Bw (fun k=>r.av.ownBlock=some k) (wr.alloc (.cells #[.slice A.a A.len A.cap] 87)).heap.size (wr.alloc (.cells #[.slice A.a A.len A.cap] 87)) w8:=⟨hgrow.os,hgrow.tape,hgrow.output,hgrow.size,fun k hk hm=>hgrow.block k hk (fun e=>hm (by rw[Hav.o];exact e.symm))⟩
    have HA8:Hid (MN lo (w8.setCell (dZ s 8) (sZ g' (an.length+1) cap')) s { r with av:=sZ g' (an.length+1) cap'} X.h X.gs X.cs X.tr qs (an++ [A])/\Bw (fun k=>k=s\/r.av.ownBlock=some k) (wr.alloc (.cells #[.slice A.a A.len A.cap] 87)).heap.size (wr.alloc (.cells #[.slice A.a A.len A.cap] 87)) (w8.setCell (dZ s 8) (sZ g' (an.length+1) cap'))):=HMa.o.toA hB8 (fun k hk=> .inl hk) (fun B hB=>eo (HMa.o.all B hB).1 fun k hk=>(HMa.o.all B hB).2.nb (rZ (rZ (.inr hk)))) (by rw[List.length_append,List.map_append];exact hown') (by
     rw[Hav.o]
     rcases hat with e|e
     .exact .inl e
     .exact .inr ⟨_,e,lZ⟩) HAa.o.1 HAa.o.2 (eo HAa.o.1 fun k hk=>HAa.o.2.nb (rZ (rZ (.inr hk))))
    have HRa:Hid (RA w s r { r with av:=sZ g' (an.length+1) cap'}):=⟨rfl,rfl,rfl,fun k hk hm=>by
     rcases hm with e|e|e|e|e|e
     .exact .inl e
     .exact .inr (.inl e)
     .exact rZ (.inl e)
     .exact rZ (.inr (.inl e))
     .exact rZ (rZ (.inl e))
     .have e1:=e
      rcases hat with e'|e'
      .rw[e']at e1;exact rZ (rZ (.inr (by rw[Hav.o];exact e1)))
      .rw[e']at e1;have:=oj e1;have:=HBn.o.size;omega⟩
    have HBf:Hid (Bw (cm s r) w.heap.size w (w8.setCell (dZ s 8) (sZ g' (an.length+1) cap'))):=(Bw.ofBelow HBn.o).trans ((HA8.o.2.mono HBn.o.size).wide fun k _ hm=>by
     rcases hm with e|e
     .exact .inl e
     .exact rZ (rZ (.inr e)))
    clear hown' hgrow hnil hat hst q8 qf8 hB8
    go_end0
    have h1:=HA8.o.1.int 7 1 (r':= { r with av:=sZ g' (an.length+1) cap',fin:=1}) rfl ⟨rfl,rfl,rfl,rfl,rfl,rfl⟩
    refine ⟨rfl,{ r with av:=sZ g' (an.length+1) cap',fin:=1},an++ [A],?_,?_,⟨rfl,rfl,rfl,HRa.o.own⟩,HBf.o.grown (af s 7 _) HBf.o.size (fun k e=> .inr (.inl (oj e).symm))⟩
    .rw[HF.o]
     exact ⟨h1,HM.o.first,HM.o.left,rfl⟩
    .rw[HF.o]
   have h40I: ¬(40:Int)<=(an.length:Int)+1:=by omega
   have HF:Hid (a6 r.P qs ⟨X,an.map br,st0⟩=⟨dr r.P X,(an++ [A]).map br,st0⟩):=by rw[Hid,HF0.o,if_neg h40]
   clear h40 HF0
   go_wp2_with (at_builtin;refine wpList_append_own_at _ rfl (.tmp 51) (.tmp 53) 29 rfl lo 87 i0 nZ 1 24 Tryz.underlying29 hi0 hz0 hz1 hz2 rfl (by decide) (.slice va an.length vc) an.length (an.map lh) rfl HOa.o (dZ wr.heap.size 0) 1 1 [lh A] rfl rfl HNw.o (by intro u hu;simp[lh]at hu;rw[hu];rfl) (by unfold maxLen;omega) (by omega) hlo2 ?_;intro v' w8 hown' hgrow hnil hat;have hv': ∃g' cap',v'=sZ g' (an.length+1) cap':=(by rcases hown'.2 with ⟨_,h0⟩| ⟨g',cap',_,h,_⟩;(·omega);(·exact ⟨g',cap',h⟩));obtain ⟨g',cap',rfl⟩:=hv';have hst:w8.heap[s]?=(wr.alloc (.cells #[.slice A.a A.len A.cap] 87)).heap[s]?:=hgrow.block s hsl2 (fun e=>Hda.o s e.symm rfl);have q8:w8.cell? (dZ s 8)=some (.slice va an.length vc):=(cB hst).trans z8;have qf8:w8.frozen? (dZ s 8)=false:=(World.frozen?_of_block hst).trans zf8;have q7:w8.cell? (dZ s 7)=some (iV r.fin):=(cB hst).trans z7;have qf7:w8.frozen? (dZ s 7)=false:=(World.frozen?_of_block hst).trans zf7)
   have hB8:Bw (fun k=>r.av.ownBlock=some k) (wr.alloc (.cells #[.slice A.a A.len A.cap] 87)).heap.size (wr.alloc (.cells #[.slice A.a A.len A.cap] 87)) w8:=⟨hgrow.os,hgrow.tape,hgrow.output,hgrow.size,fun k hk hm=>hgrow.block k hk (fun e=>hm (by rw[Hav.o];exact e.symm))⟩
   have HA8:Hid (MN lo (w8.setCell (dZ s 8) (sZ g' (an.length+1) cap')) s { r with av:=sZ g' (an.length+1) cap'} X.h X.gs X.cs X.tr qs (an++ [A])/\Bw (fun k=>k=s\/r.av.ownBlock=some k) (wr.alloc (.cells #[.slice A.a A.len A.cap] 87)).heap.size (wr.alloc (.cells #[.slice A.a A.len A.cap] 87)) (w8.setCell (dZ s 8) (sZ g' (an.length+1) cap'))):=HMa.o.toA hB8 (fun k hk=> .inl hk) (fun B hB=>eo (HMa.o.all B hB).1 fun k hk=>(HMa.o.all B hB).2.nb (rZ (rZ (.inr hk)))) (by rw[List.length_append,List.map_append];exact hown') (by
    rw[Hav.o]
    rcases hat with e|e
    .exact .inl e
    .exact .inr ⟨_,e,lZ⟩) HAa.o.1 HAa.o.2 (eo HAa.o.1 fun k hk=>HAa.o.2.nb (rZ (rZ (.inr hk))))
   have HRa:Hid (RA w s r { r with av:=sZ g' (an.length+1) cap'}):=⟨rfl,rfl,rfl,fun k hk hm=>by
    rcases hm with e|e|e|e|e|e
    .exact .inl e
    .exact .inr (.inl e)
    .exact rZ (.inl e)
    .exact rZ (.inr (.inl e))
    .exact rZ (rZ (.inl e))
    .have e1:=e
     rcases hat with e'|e'
     .rw[e']at e1;exact rZ (rZ (.inr (by rw[Hav.o];exact e1)))
     .rw[e']at e1;have:=oj e1;have:=HBn.o.size;omega⟩
   have HBf:Hid (Bw (cm s r) w.heap.size w (w8.setCell (dZ s 8) (sZ g' (an.length+1) cap'))):=(Bw.ofBelow HBn.o).trans ((HA8.o.2.mono HBn.o.size).wide fun k _ hm=>by
    rcases hm with e|e
    .exact .inl e
    .exact rZ (rZ (.inr e)))
   clear hown' hgrow hnil hat hst q8 qf8 hB8 q7 qf7
   have HBk:Hid (Calls prog 111 #[pZ s] (w8.setCell (dZ s 8) (sZ g' (an.length+1) cap')) (Jp lo (w8.setCell (dZ s 8) (sZ g' (an.length+1) cap')) s { r with av:=sZ g' (an.length+1) cap'} qs (an++ [A]) (dr r.P X))):=nr (r:= { r with av:=sZ g' (an.length+1) cap'}) _ ⟨HA8.o.1,HM.o.first,HM.o.left,HM.o.fin⟩ (by have:=HBf.o.size;omega) HO.o HC.o (HP.o.nextA HBf.o HRa.o) hg5 htr hcs
   refine HBk.o.mono ?_;rintro e z ⟨rfl,r9,hM9,hK9,hB9⟩;have HZ:Hid (Pw lo w s r qs ⟨dr r.P X,(an++ [A]).map br,st0⟩ (.returned (.tuple #[])) z):=⟨rfl,r9,an++ [A],hM9,rfl,HRa.o.trans hK9.ra HBf.o.size,Cj HBf.o HRa.o hB9⟩;clear hM9 hK9 hB9;go_wp2_with fail
   go_end0
   rw[HF.o];exact HZ.o
  have hkI:(k:Int)<(qs.length:Int):=by omega
  obtain ⟨hqa,_⟩:=Hsq.o k hlt
  have z0:wr.cell? (dZ bq k)=some (iV (qs[k]:Int)):=by
   have h1:=(Hsq.o k hlt).2;exact (HR.o.bel.cell (p:=(dZ bq k)) (ag h1)).trans h1
  have hsr:=HR.o.siz
  have HRd:Hid (Calls prog 117 #[pZ vb,iV (qs[k]:Int),.func (.func 118) #[pZ nb] #[]] wr (Tj vb m ha X.h.length hcp (ah X.h) w4.heap.size nb nm nv (bg [] (Jg X.h qs k)) qs[k] wr)):=
   G3 HO.o.s.hg hlb qs[k] (HO.o.s.qu _ (List.getElem_mem hlt)) vb m ha hcp σ' σ4 w4.heap.size nb nm nv _ wr w4 HV4.o lZ HR.o.vw HR.o.nms (by omega)
  have hmf: ∀(fn:Fn) (first cap:Array Value) (w:World),(Instr.makeFunc fn first cap).run prog w=.ok (.func fn first cap) w:=fun _ _ _ _=>rfl
  subst hqa;generalize hqk:(qs[k]:Nat)=y at*;have Hqk:=hid hqk;clear hqk;go_wp2_with fail;refine HRd.o.mono ?_;rintro e w6 ⟨T6,v6,σ6,rfl,hX6,hA6,hV6,hN6,hb6,ho6,hn6,hval6⟩;rw[<-Hqk.o]at hN6 hval6;have HQ:Hid (ay w6 T6/\bl wr.heap.size T6/\VW w6 vb m ha X.h.length hcp (ah X.h) σ6/\ob w6 w4.heap.size nb nm v6 (bg (bg [] (Jg X.h qs k)) (cz (gy (ah X.h) X.h.length qs[k])))/\Bw (Mr m nb nm nv) wr.heap.size wr w6/\(v6.ownBlock=nv.ownBlock\/∃g,v6.ownBlock=some g/\wr.heap.size<=g)/\(∀g,v6.ownBlock=some g->NB g T6)/\∀t'',bg (bg [] (Jg X.h qs k)) (cz (gy (ah X.h) X.h.length qs[k])) <+:t''->a9 T6=ap (iq (jz t'')) (gy (ah X.h) X.h.length qs[k])):=⟨hX6,hA6,hV6,hN6,hb6,ho6,hn6,hval6⟩;have hs6:=hb6.size
  have HLa:Hid ((w6.alloc (.cells #[iV T6.v,.string T6.nm,.slice T6.a T6.len T6.cap] 67)).ownsRow w5.heap.size 67 3 u4 ts.length (cy ts)):=by
   have hmr: ∀g,u4.ownBlock=some g->w6.heap[g]?=wr.heap[g]?:=fun g e=>by
    obtain ⟨cur,hc⟩:=de HR.o.lst.own e;refine hb6.block g (HR.o.lst.own.lt g e).2 fun hm=>?_
    rcases hm with e'|e'|e'|e'
    .subst e'
     obtain ⟨es,cl,hmap⟩:=HR.o.vw.mp.isMap;rw[hc]at hmap;cases hmap
    .subst e'
     have:=HR.o.nms.blk;rw[hc]at this;cases this
    .subst e'
     obtain ⟨es,cl,hmap⟩:=HR.o.nms.mp.isMap;rw[hc]at hmap;cases hmap
    .obtain ⟨cur',hc'⟩:=de HR.o.nms.row e'
     rw[hc]at hc';cases hc'
   exact bc (bc HR.o.lst.own hmr) fun g e=>jZ _ _ (by have:=(HR.o.lst.own.lt g e).2;omega)
  have HNt:=hid (Fi w6 T6);have hsz6:w5.heap.size<=(w6.alloc (.cells #[iV T6.v,.string T6.nm,.slice T6.a T6.len T6.cap] 67)).heap.size:=by simp;omega
  have htl:ts.length<=12:=by have:=HR.o.len;omega
  rw[show T6.val=.agg #[iV T6.v,.string T6.nm,.slice T6.a T6.len T6.cap]from rfl]
  obtain ⟨ua,uc,huv,_⟩:=ak HLa.o;subst huv;clear hX6 hA6 hV6 hN6 hb6 ho6 hn6 hval6 HRd z0
  go_wp2_with (at_builtin;refine wpList_append_own_at _ rfl (.tmp 37) (.tmp 43) 87 rfl w5.heap.size 67 it (.agg #[iV 0,.string ByteArray.empty,nZ]) 3 48 Tryz.underlying87 hit ht0 ht1 ht2 rfl (by decide) (.slice ua ts.length uc) ts.length (cy ts) rfl HLa.o (dZ w6.heap.size 0) 1 1 (cy [T6]) rfl rfl HNt.o (mw _) (by unfold maxLen;omega) (by omega) hsz6 ?_;intro v' w8 hown' hgrow hnil hat;have hv': ∃g' cap',v'=sZ g' (ts.length+1) cap':=(by rcases hown'.2 with ⟨_,h0⟩| ⟨g',cap',_,h,_⟩;(·omega);(·exact ⟨g',cap',h⟩));obtain ⟨g',cap',rfl⟩:=hv')
  have HRn:Hid (Ps w w4 w5 X.h qs ha hcp vb m nb nm (k+1) (sZ g' (ts.length+1) cap') w8 (ts++ [T6]) σ6 v6):=by
   obtain ⟨q1,q2,q3,q4,q5,q6,q7,q8⟩:=HQ.o;exact HR.o.next hlt HV4.o (by omega) hs5 ⟨by omega,hmm⟩ hnl q1 q2 q3 q4 q5 q6 q7 q8 rfl hown' hgrow hat
  clear hown' hgrow hnil hat;go_roundw
  case rel=>exact ⟨k+1,ts++ [T6],σ6,v6,by omega,by simp,HRn.o⟩
  case measure=>
   show qs.length-((k:Int)+1).toNat<qs.length-(k:Int).toNat
   omega
end
end Go.Proofs.YtmggaclaoefdaabGreat
