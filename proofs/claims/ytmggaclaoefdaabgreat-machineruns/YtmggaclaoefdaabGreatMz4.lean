/- Part of the proof. -/
import Derived.Laws.AppendOwnNone
import Derived.Test.YtmggaclaoefdaabGreatGAY
namespace Go.Proofs.YtmggaclaoefdaabGreat
open Go.RowKit Go.Proofs.Tryz
set_option linter.unusedVariables false
set_option linter.unusedSimpArgs false
set_option maxRecDepth 100000
set_option maxHeartbeats 8000000
attribute [local go_sem] Oper.semAt_some
section
variable {lo:Nat} {w w':World} {s:Nat} {r:Rn} {h:List Cl} {gs:List Gq} {cs:List jo} {tr qs:List Nat} {an:List Tm}
theorem MN.inH (M:MN lo w s r h gs cs tr qs an) {X:Nat->Prop} {w1:World} {h':List Cl} (hB:Bw X w.heap.size w w1) (hX: ∀k,X k->r.hv.ownBlock=some k\/(¬cm s r k/\r.qv.ownBlock≠some k)) (hA: ∀A∈an,NM X A) (hr:j3 lo w1 r.hv h'):MN lo w1 s r h' gs cs tr qs an:=by
 have hAp:=M.apart
 have hn: ∀k,k=s\/r.gv.ownBlock=some k\/r.cv.ownBlock=some k\/r.tv.ownBlock=some k\/r.av.ownBlock=some k\/r.qv.ownBlock=some k->¬X k:=fun k hm hx=>by
  rcases hX k hx with e| ⟨e1,e2⟩
  .rcases hm with e'|e'|e'|e'|e'|e'
   .subst e';exact hAp.h1.1 e
   .exact (hAp.hh k e).1 e'
   .exact (hAp.hh k e).2.1 e'
   .exact (hAp.hh k e).2.2.1 e'
   .exact (hAp.hh k e).2.2.2.2 e'
   .exact (hAp.hh k e).2.2.2.1 e'
  .rcases hm with e'|e'|e'|e'|e'|e'
   .exact e1 (.inl e')
   .exact e1 (rZ (.inl e'))
   .exact e1 (rZ (.inr (.inl e')))
   .exact e1 (rZ (rZ (.inl e')))
   .exact e1 (rZ (rZ (.inr e')))
   .exact e2 e'
 exact ⟨M.blk.kept (hB.block s M.blk.lt (hn s (.inl rfl))),hr,aw M.go hB fun k e=>hn k (.inr (.inl e)),aw M.ch hB fun k e=>hn k (rZ (.inl e)),aw M.tl hB fun k e=>hn k (rZ (.inr (.inl e))),aw M.qu hB fun k e=>hn k (rZ (rZ (.inr e))),aw M.anr hB fun k e=>hn k (rZ (rZ (.inl e))),M.all' hB hA fun _ _ h=>h,M.tq,M.los⟩
def Tl (lo:Nat) (w:World) (s:Nat) (r:Rn) (gs:List Gq) (cs:List jo) (tr qs:List Nat) (an:List Tm) (q:MR) (e:Ending) (w':World):Prop:=e=.returned (.bool q.ok)/\∃tv',MN lo w' s { r with tv:=tv',left:=q.left,fin:=if q.left<0 then 3 else r.fin} q.l gs cs (tr++q.bs) qs an/\Bw (cm s r) w.heap.size w w'/\(tv'.ownBlock=r.tv.ownBlock\/∃q,tv'.ownBlock=some q/\w.heap.size<=q)
theorem rt (l k:List Nat):fg (l++k)=fg l++fg k:=by unfold fg;simp
theorem F6 {a b n:Nat} (w:World) (M:MN lo w s r h gs cs tr qs an) (hlo:lo<=w.heap.size) (hG:HG (ah h) h.length) (hnm: ∀c∈h,c.nm.size<=maxLen) (ha:a<h.length) (hb:b<h.length) (hn:n<=4000) (hl:r.left=(n:Int)) (htr:tr.length<=10000000):
 Calls prog 112 #[.pointer (some ⟨s,0,none⟩),iV (a:Int),iV (b:Int)] w (Tl lo w s r gs cs tr qs an (jn (n+1) a b (n,h,[]))):=by
 obtain ⟨g,cap,hhv⟩: ∃g cap,r.hv=sZ g h.length cap:=by
  rcases M.hp.2 with ⟨_,h0⟩| ⟨g,cap,cur,hv,_⟩
  .omega
  .exact ⟨g,cap,hv⟩
 have hgd:=gj (n+1) a b (n,h,[]) ⟨hG,hnm⟩ ha hb;have hbs':((jn (n+1) a b (n,h,[])).bs.length:Int)<=n:=by have:=hgd.bs';simpa using this
 have hle:=hgd.le;have hlm:=A9 (n+1) a b (n,h,[]);have HM:=hid M;have Hhv:=hid hhv
 have HNA:Hid (∀A∈an,NM (fun k=>k=g) A):=fun A hA=>eo (M.all A hA).1 fun k hk=>by
  subst hk;exact (M.all A hA).2.nb (.inr (.inl (by rw[hhv];rfl)))
 have HSa:Hid (∀W,Below w.heap.size w W->Calls prog 137 #[sZ g h.length cap,iV (a:Int),iV (b:Int),iV (n:Int)] W (Ub W lo g cap h n (jn (n+1) a b (n,h,[])))):=fun W hW=>
  I3 W (by have:=World.ownsRow.kept M.hp (aq hW none) (by cases r.hv.ownBlock with|none=>exact .inl rfl|some g=>exact .inr (by simp));rw[hhv]at this;exact this) (lT hlo hW.size) hG hnm ha hb (by omega)
 have hsl:=M.blk.lt;have hgs:g≠s:=fun e=>M.apart.h1.1 (by rw[hhv,e];rfl)
 have HKp:Hid (∀W,Bw (fun k=>k=g) w.heap.size w W->W.cell? (dZ s 0)=some (sZ g h.length cap)/\W.cell? (dZ s 10)=some (iV (n:Int))):=fun W hW=>by
  obtain ⟨⟨c0,_⟩,⟨_,_,_,_,c10⟩,_⟩:=M.blk.get;rw[hhv]at c0;rw[hl]at c10;exact ⟨(hW.cell (p:=(dZ s 0)) hsl (fun e=>hgs e.symm)).trans c0,(hW.cell (p:=(dZ s 10)) hsl (fun e=>hgs e.symm)).trans c10⟩
 have HB0:Hid (Bw (fun k=>k=g) w.heap.size w w):=Bw.refl _ _ _
 have hk0:=HKp.o w (Bw.refl _ _ _);obtain ⟨c0,c10⟩:=hk0;obtain ⟨res,hres⟩: ∃res,jn (n+1) a b (n,h,[])=res:=⟨_,rfl⟩;rw[hres]at hgd hbs' hle hlm HSa |-;have hle':=hle;have Hll:=hid hgd.len;clear M hG hnm hgd hhv hres hle;obtain ⟨j0,hj,hj0,hj1,hj2⟩:=info_parts Tryz.info3
 go_enter Tryz.func112,Tryz.ntmps112
 go_wp2_with fail
 go_region_held3 (fun W=>W.cell? (dZ s 0)=some (sZ g h.length cap)/\W.cell? (dZ s 10)=some (iV (n:Int))) ((refine HKp.o _ ?_;repeat (first|exact HB0.o|refine Bw.drew ?_))) (first
  | (go_at_call 137
     refine (HSa.o _ (by repeat (first|exact bR|refine Below.drew ?_))).mono ?_
     rintro e w5 ⟨bv,rfl,hC5,hO5,hb5⟩;replace HB0:Hid (Bw (fun k=>k=g) w.heap.size w w5):=Bw.trans (by repeat (first|exact Bw.refl _ _ _|refine Bw.drew ?_)) (hb5.mono lZ)
     have HC5:=hid hC5;have HO5:=hid (bi hO5 lZ);clear hC5 hO5 hb5))
 all_goals
  have hM5:MN lo w5 s r res.l gs cs tr qs an:=HM.o.inH HB0.o (fun k hk=> .inl (by rw[Hhv.o,hk];rfl)) HNA.o (by rw[Hhv.o];exact HC5.o)
  have HM5:=hid hM5;obtain ⟨ta,ct,htv,htc,htn,_⟩:=ak hM5.tl;have Htv:=hid htv;obtain ⟨⟨_,_,_,_,d4,_⟩,_,df⟩:=hM5.blk.get;have df4:=df 4;rw[htv]at d4;have hs5:=HB0.o.size;clear df
  rcases HO5.o.2 with ⟨hbv,hb0⟩| ⟨gb,cb,cur,hbv,hbl,_⟩
  .subst hbv
   have hnil:res.bs= []:=List.eq_nil_of_length_eq_zero hb0;have h9:=hM5.toT (X:=fun _=>False) (v':=.slice ta tr.length ct) (tr':=tr++res.bs) (Bw.refl _ _ _) (fun k hk=>hk.elim) (fun A hA=>NM.old (hM5.all A hA).1 (fun k hk=>hk.elim)) (by rw[hnil,List.append_nil,<-htv];exact hM5.tl) (.inl (by rw[htv]))
   have h9':=h9.2
   replace h9:MN lo (w5.setCell (dZ s 4) (.slice ta tr.length ct)) s { r with tv:=.slice ta tr.length ct} res.l gs cs (tr++res.bs) qs an/\Bw (fun k=>k=s\/(fun k=>k=g) k) w5.heap.size w5 (w5.setCell (dZ s 4) (.slice ta tr.length ct)):=⟨h9.1,h9'.wide fun k _ hk=>by rcases hk with e|e;(·exact .inl e);(·exact e.elim)⟩
   have HTl:Hid (w5.ownsRow lo 3 1 (.slice ta tr.length ct) tr.length (fg tr)):=by rw[Hid,<-htv];exact hM5.tl
   clear h9' hM5 htv;have HM7:=hid h9.1;have HB7:Hid (Bw (fun k=>k=s\/(fun k=>k=g) k) w.heap.size w (w5.setCell (dZ s 4) (.slice ta tr.length ct))):=(HB0.o.wide fun k _ hk=> .inr hk).trans (h9.2.mono HB0.o.size)
   obtain ⟨_,⟨_,e7,_,_,e10⟩,ef⟩:=h9.1.blk.get;have ef10:=ef 10;have hl10:=hl;rw[hl10]at e10
   have hM8:=h9.1.int (r':= { r with tv:=(.slice ta tr.length ct),left:=res.left}) 10 res.left rfl ⟨rfl,rfl,rfl,rfl,rfl,rfl⟩
   have HM8:=hid hM8;obtain ⟨_,⟨_,f7,_,_,f10⟩,ff⟩:=hM8.blk.get;have ff7:=ff 7
   have hM9:=hM8.int (r':= { r with tv:=(.slice ta tr.length ct),left:=res.left,fin:=3}) 7 3 rfl ⟨rfl,rfl,rfl,rfl,rfl,rfl⟩
   have HM9:=hid hM9;have hs7:=HB7.o.size;have HB8:Hid (Bw (fun k=>k=s\/(fun k=>k=g) k) w.heap.size w ((w5.setCell (dZ s 4) (.slice ta tr.length ct)).setCell (dZ s 10) (iV res.left))):=HB7.o.grown (af s 10 _) hs7 (fun k e=> .inr (.inl (oj e).symm))
   have hs8:=HB8.o.size;have HB9:Hid (Bw (fun k=>k=s\/(fun k=>k=g) k) w.heap.size w (((w5.setCell (dZ s 4) (.slice ta tr.length ct)).setCell (dZ s 10) (iV res.left)).setCell (dZ s 7) (iV 3))):=HB8.o.grown (af s 7 _) hs8 (fun k e=> .inr (.inl (oj e).symm))
   have HWd:Hid (∀k,(k=s\/(fun k=>k=g) k)->cm s r k):=fun k hk=>by
    rcases hk with e|e
    .exact .inl e
    .exact .inr (.inl (by rw[Hhv.o,show k=g from e];rfl))
   have hww:IntKind.i64.wrap ((n:Int)-((n:Int)-res.left))=res.left:=by
    rw[show (n:Int)-((n:Int)-res.left)=res.left by omega]
    simp[IntKind.wrap,IntKind.bits,IntKind.signed];omega
   clear h9 hM8 hM9 ef ff
   by_cases hneg:res.left<0
   .have hd:=decide_eq_true hneg
    go_wp2_with (at_builtin;refine wpList_append_own_none rfl (.tmp 31) (.tmp 32) 28 rfl lo 3 j0 1 Tryz.underlying28 hj (.slice ta tr.length ct) tr.length (fg tr) rfl HTl.o rfl ?_);go_ret;refine ⟨rfl,(.slice ta tr.length ct),?_,HB9.o.wide fun k _ hk=>HWd.o k hk,.inl (by rw[Htv.o])⟩
    rw[if_pos hneg];exact HM9.o
   .have hd:=decide_eq_false hneg
    go_wp2_with (at_builtin;refine wpList_append_own_none rfl (.tmp 31) (.tmp 32) 28 rfl lo 3 j0 1 Tryz.underlying28 hj (.slice ta tr.length ct) tr.length (fg tr) rfl HTl.o rfl ?_);go_ret;refine ⟨rfl,(.slice ta tr.length ct),?_,HB8.o.wide fun k _ hk=>HWd.o k hk,.inl (by rw[Htv.o])⟩
    rw[if_neg (by omega)]
    exact HM8.o
  .subst hbv
   have HNw:Hid (∀j u,(fg res.bs)[j]?=some u->w5.cell? ((dZ gb 0).add j)=some u):=fun j u hu=>by
    rw[ir];have hj:j<res.bs.length:=by have:=(List.getElem?_eq_some_iff.1 hu).1;rw[Bo]at this;exact this
    exact (HO5.o.cellAt j (by omega)).trans hu
   have HTl:Hid (w5.ownsRow lo 3 1 (.slice ta tr.length ct) tr.length (fg tr)):=by rw[Hid,<-htv];exact hM5.tl
   have HNt:Hid (∀A∈an,NM (fun k=>r.tv.ownBlock=some k) A):=fun A hA=>eo (hM5.all A hA).1 fun k hk=>(hM5.all A hA).2.nb (rZ (rZ (.inl hk)))
   have hbn:(fg res.bs).length=res.bs.length*1:=by rw[Bo,Nat.mul_one]
   clear hM5
   have hww:IntKind.i64.wrap ((n:Int)-((n:Int)-res.left))=res.left:=by
    rw[show (n:Int)-((n:Int)-res.left)=res.left by omega]
    simp[IntKind.wrap,IntKind.bits,IntKind.signed];omega
   have HWd:Hid (∀k,(k=s\/(k=g\/r.tv.ownBlock=some k))->cm s r k):=fun k hk=>by
    rcases hk with e|e|e
    .exact .inl e
    .exact .inr (.inl (by rw[Hhv.o,e];rfl))
    .exact rZ (rZ (.inl e))
   by_cases hneg:res.left<0
   .have hd:=decide_eq_true hneg
    go_wp2_with (
     at_builtin
     refine wpList_append_own_at _ rfl (.tmp 31) (.tmp 32) 28 rfl lo 3 j0 (iV 0) 1 8 Tryz.underlying28 hj hj0 hj1 hj2 rfl (by decide) (.slice ta tr.length ct) tr.length (fg tr) rfl HTl.o (dZ gb 0) res.bs.length cb (fg res.bs) rfl hbn HNw.o (by intro u hu;unfold fg at hu;obtain ⟨x,_,rfl⟩:=List.mem_map.1 hu;rfl) (by unfold maxLen;omega) (by omega) (by omega) ?_
     intro v' w6 hown' hgrow hnil hat
     obtain ⟨tb,tc,hv6⟩: ∃tb tc,v'=(.slice tb (tr.length+res.bs.length) tc):=by rcases hown'.2 with ⟨h1,h2⟩| ⟨_,cp,_,h1,_⟩;(·exact ⟨none,0,by rw[h1,h2]⟩);(·exact ⟨_,cp,h1⟩)
     subst hv6;have hg6:Bw (fun k=>r.tv.ownBlock=some k) w5.heap.size w5 w6:=⟨hgrow.os,hgrow.tape,hgrow.output,hgrow.size,fun k hk hm=>hgrow.block k hk (fun e=>hm (by rw[Htv.o];exact e.symm))⟩
     have h9:=HM5.o.toT (X:=fun k=>r.tv.ownBlock=some k) (v':=(.slice tb (tr.length+res.bs.length) tc)) (tr':=tr++res.bs) hg6 (fun k hk=> .inl hk) HNt.o (by rw[List.length_append,rt];exact hown') (by rcases hat with e|e;(·exact .inl (by rw[Htv.o];exact e));(·exact .inr ⟨_,e,lZ⟩))
     have HM7:=hid h9.1
     have HB7:Hid (Bw (fun k=>k=s\/(k=g\/r.tv.ownBlock=some k)) w.heap.size w (w6.setCell (dZ s 4) (.slice tb (tr.length+res.bs.length) tc))):=(HB0.o.wide fun k _ hk=> .inr (.inl hk)).trans ((h9.2.mono HB0.o.size).wide fun k _ hk=>by rcases hk with e|e;(·exact .inl e);(·exact rZ e))
     have HAt:Hid ((Value.slice tb (tr.length+res.bs.length) tc).ownBlock=r.tv.ownBlock\/∃q,(Value.slice tb (tr.length+res.bs.length) tc).ownBlock=some q/\w.heap.size<=q):=by rcases hat with e|e;(·exact .inl (by rw[Htv.o];exact e));(·exact .inr ⟨_,e,hs5⟩)
     have d46:w6.cell? (dZ s 4)=some (.slice ta tr.length ct):=(hg6.cell (p:=(dZ s 4)) (by have:=HM5.o.blk.lt;exact this) (fun e=>HM5.o.apart.h1.2.2.2.1 e)).trans d4
     have df46:w6.frozen? (dZ s 4)=false:=(hg6.frozen (p:=(dZ s 4)) (by have:=HM5.o.blk.lt;exact this) (fun e=>HM5.o.apart.h1.2.2.2.1 e)).trans df4
     obtain ⟨_,⟨_,e7,_,_,e10⟩,ef⟩:=h9.1.blk.get;have ef10:=ef 10;have hl10:=hl;rw[hl10]at e10
     have hM8:=h9.1.int (r':= { r with tv:=(.slice tb (tr.length+res.bs.length) tc),left:=res.left}) 10 res.left rfl ⟨rfl,rfl,rfl,rfl,rfl,rfl⟩
     have HM8:=hid hM8;obtain ⟨_,⟨_,f7,_,_,f10⟩,ff⟩:=hM8.blk.get;have ff7:=ff 7
     have hM9:=hM8.int (r':= { r with tv:=(.slice tb (tr.length+res.bs.length) tc),left:=res.left,fin:=3}) 7 3 rfl ⟨rfl,rfl,rfl,rfl,rfl,rfl⟩
     have HM9:=hid hM9;have hs7:=HB7.o.size;have HB8:Hid (Bw (fun k=>k=s\/(k=g\/r.tv.ownBlock=some k)) w.heap.size w ((w6.setCell (dZ s 4) (.slice tb (tr.length+res.bs.length) tc)).setCell (dZ s 10) (iV res.left))):=HB7.o.grown (af s 10 _) hs7 (fun k e=> .inr (.inl (oj e).symm))
     have hs8:=HB8.o.size;have HB9:Hid (Bw (fun k=>k=s\/(k=g\/r.tv.ownBlock=some k)) w.heap.size w (((w6.setCell (dZ s 4) (.slice tb (tr.length+res.bs.length) tc)).setCell (dZ s 10) (iV res.left)).setCell (dZ s 7) (iV 3))):=HB8.o.grown (af s 7 _) hs8 (fun k e=> .inr (.inl (oj e).symm))
     clear h9 hM8 hM9 ef ff hg6 hown' hgrow hnil hat)
    go_ret;refine ⟨rfl,_,?_,HB9.o.wide fun k _ hk=>HWd.o k hk,HAt.o⟩
    rw[if_pos hneg];exact HM9.o
   .have hd:=decide_eq_false hneg
    go_wp2_with (
     at_builtin
     refine wpList_append_own_at _ rfl (.tmp 31) (.tmp 32) 28 rfl lo 3 j0 (iV 0) 1 8 Tryz.underlying28 hj hj0 hj1 hj2 rfl (by decide) (.slice ta tr.length ct) tr.length (fg tr) rfl HTl.o (dZ gb 0) res.bs.length cb (fg res.bs) rfl hbn HNw.o (by intro u hu;unfold fg at hu;obtain ⟨x,_,rfl⟩:=List.mem_map.1 hu;rfl) (by unfold maxLen;omega) (by omega) (by omega) ?_
     intro v' w6 hown' hgrow hnil hat
     obtain ⟨tb,tc,hv6⟩: ∃tb tc,v'=(.slice tb (tr.length+res.bs.length) tc):=by rcases hown'.2 with ⟨h1,h2⟩| ⟨_,cp,_,h1,_⟩;(·exact ⟨none,0,by rw[h1,h2]⟩);(·exact ⟨_,cp,h1⟩)
     subst hv6;have hg6:Bw (fun k=>r.tv.ownBlock=some k) w5.heap.size w5 w6:=⟨hgrow.os,hgrow.tape,hgrow.output,hgrow.size,fun k hk hm=>hgrow.block k hk (fun e=>hm (by rw[Htv.o];exact e.symm))⟩
     have h9:=HM5.o.toT (X:=fun k=>r.tv.ownBlock=some k) (v':=(.slice tb (tr.length+res.bs.length) tc)) (tr':=tr++res.bs) hg6 (fun k hk=> .inl hk) HNt.o (by rw[List.length_append,rt];exact hown') (by rcases hat with e|e;(·exact .inl (by rw[Htv.o];exact e));(·exact .inr ⟨_,e,lZ⟩))
     have HM7:=hid h9.1
     have HB7:Hid (Bw (fun k=>k=s\/(k=g\/r.tv.ownBlock=some k)) w.heap.size w (w6.setCell (dZ s 4) (.slice tb (tr.length+res.bs.length) tc))):=(HB0.o.wide fun k _ hk=> .inr (.inl hk)).trans ((h9.2.mono HB0.o.size).wide fun k _ hk=>by rcases hk with e|e;(·exact .inl e);(·exact rZ e))
     have HAt:Hid ((Value.slice tb (tr.length+res.bs.length) tc).ownBlock=r.tv.ownBlock\/∃q,(Value.slice tb (tr.length+res.bs.length) tc).ownBlock=some q/\w.heap.size<=q):=by rcases hat with e|e;(·exact .inl (by rw[Htv.o];exact e));(·exact .inr ⟨_,e,hs5⟩)
     have d46:w6.cell? (dZ s 4)=some (.slice ta tr.length ct):=(hg6.cell (p:=(dZ s 4)) (by have:=HM5.o.blk.lt;exact this) (fun e=>HM5.o.apart.h1.2.2.2.1 e)).trans d4
     have df46:w6.frozen? (dZ s 4)=false:=(hg6.frozen (p:=(dZ s 4)) (by have:=HM5.o.blk.lt;exact this) (fun e=>HM5.o.apart.h1.2.2.2.1 e)).trans df4
     obtain ⟨_,⟨_,e7,_,_,e10⟩,ef⟩:=h9.1.blk.get;have ef10:=ef 10;have hl10:=hl;rw[hl10]at e10
     have hM8:=h9.1.int (r':= { r with tv:=(.slice tb (tr.length+res.bs.length) tc),left:=res.left}) 10 res.left rfl ⟨rfl,rfl,rfl,rfl,rfl,rfl⟩
     have HM8:=hid hM8;obtain ⟨_,⟨_,f7,_,_,f10⟩,ff⟩:=hM8.blk.get;have ff7:=ff 7
     have hM9:=hM8.int (r':= { r with tv:=(.slice tb (tr.length+res.bs.length) tc),left:=res.left,fin:=3}) 7 3 rfl ⟨rfl,rfl,rfl,rfl,rfl,rfl⟩
     have HM9:=hid hM9;have hs7:=HB7.o.size;have HB8:Hid (Bw (fun k=>k=s\/(k=g\/r.tv.ownBlock=some k)) w.heap.size w ((w6.setCell (dZ s 4) (.slice tb (tr.length+res.bs.length) tc)).setCell (dZ s 10) (iV res.left))):=HB7.o.grown (af s 10 _) hs7 (fun k e=> .inr (.inl (oj e).symm))
     have hs8:=HB8.o.size;have HB9:Hid (Bw (fun k=>k=s\/(k=g\/r.tv.ownBlock=some k)) w.heap.size w (((w6.setCell (dZ s 4) (.slice tb (tr.length+res.bs.length) tc)).setCell (dZ s 10) (iV res.left)).setCell (dZ s 7) (iV 3))):=HB8.o.grown (af s 7 _) hs8 (fun k e=> .inr (.inl (oj e).symm))
     clear h9 hM8 hM9 ef ff hg6 hown' hgrow hnil hat)
    go_ret;refine ⟨rfl,_,?_,HB8.o.wide fun k _ hk=>HWd.o k hk,HAt.o⟩
    rw[if_neg (by omega)]
    exact HM8.o
end
end Go.Proofs.YtmggaclaoefdaabGreat
