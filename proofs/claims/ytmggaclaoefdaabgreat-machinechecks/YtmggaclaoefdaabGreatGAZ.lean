/- Part of the proof. Part of the proof. Part of the proof. -/
import Derived.Test.YtmggaclaoefdaabGreatSq0
import Derived.Deep.RegionHeld3
import Derived.Laws.AppendOwnNone
import Derived.Test.YtmggaclaoefdaabGreatGAY
import Derived.Test.YtmggaclaoefdaabGreatGAR
import Derived.Laws.StructEq
namespace Go.Proofs.YtmggaclaoefdaabGreat
open Go.RowKit
set_option linter.unusedVariables false
set_option linter.unusedSimpArgs false
attribute [local go_sem] Oper.semAt_some
section
variable {lo:Nat} {w w':World} {s:Nat} {r:Rn} {h:List Cl} {gs:List Gq} {cs:List Chq} {tr qs:List Nat} {an:List Tm}
theorem MN.inH (M:MN lo w s r h gs cs tr qs an) {X:Nat→Prop} {w1:World} {h':List Cl} (hB:Bw X w.heap.size w w1) (hX: ∀k,X k→r.hv.ownBlock=some k∨(¬MnR s r k∧r.qv.ownBlock≠some k)) (hA: ∀A∈an,NM X A) (hr:CRw lo w1 r.hv h'):MN lo w1 s r h' gs cs tr qs an:=by
 have hAp:=M.apart
 have hn: ∀k,k=s∨r.gv.ownBlock=some k∨r.cv.ownBlock=some k∨r.tv.ownBlock=some k∨r.av.ownBlock=some k∨r.qv.ownBlock=some k→¬X k:=fun k hm hx=>by
  rcases hX k hx with e| ⟨e1,e2⟩
  ·rcases hm with e'|e'|e'|e'|e'|e'
   ·subst e';exact hAp.h1.1 e
   ·exact (hAp.hh k e).1 e'
   ·exact (hAp.hh k e).2.1 e'
   ·exact (hAp.hh k e).2.2.1 e'
   ·exact (hAp.hh k e).2.2.2.2 e'
   ·exact (hAp.hh k e).2.2.2.1 e'
  ·rcases hm with e'|e'|e'|e'|e'|e'
   ·exact e1 (.inl e')
   ·exact e1 (.inr (.inr (.inl e')))
   ·exact e1 (.inr (.inr (.inr (.inl e'))))
   ·exact e1 (.inr (.inr (.inr (.inr (.inl e')))))
   ·exact e1 (.inr (.inr (.inr (.inr (.inr e')))))
   ·exact e2 e'
 exact ⟨M.blk.kept (hB.block s M.blk.lt (hn s (.inl rfl))),hr,rowStays M.go hB fun k e=>hn k (.inr (.inl e)),rowStays M.ch hB fun k e=>hn k (.inr (.inr (.inl e))),rowStays M.tl hB fun k e=>hn k (.inr (.inr (.inr (.inl e)))),rowStays M.qu hB fun k e=>hn k (.inr (.inr (.inr (.inr (.inr e))))),rowStays M.anr hB fun k e=>hn k (.inr (.inr (.inr (.inr (.inl e))))),M.all' hB hA fun _ _ h=>h,M.tq,M.los⟩
def MsR (lo:Nat) (w:World) (s:Nat) (r:Rn) (gs:List Gq) (cs:List Chq) (tr qs:List Nat) (an:List Tm) (q:MR) (e:Ending) (w':World):Prop:=e=.returned (.bool q.ok)∧∃tv',MN lo w' s { r with tv:=tv',left:=q.left,fin:=if q.left<0 then 3 else r.fin} q.l gs cs (tr++q.bs) qs an∧Bw (MnR s r) w.heap.size w w'∧(tv'.ownBlock=r.tv.ownBlock∨∃q,tv'.ownBlock=some q∧w.heap.size≤q)
theorem natL_append (l k:List Nat):natL (l++k)=natL l++natL k:=by unfold natL;simp
set_option maxRecDepth 100000 in
set_option maxHeartbeats 8000000 in
theorem msame_M {a b n:Nat} (w:World) (M:MN lo w s r h gs cs tr qs an) (hlo:lo≤w.heap.size) (hG:HG (hOf h) h.length) (hnm: ∀c∈h,c.nm.size≤maxLen) (ha:a<h.length) (hb:b<h.length) (hn:n≤4000) (hl:r.left=(n:Int)) (htr:tr.length≤10000000):
 Calls Tryz.prog 112 #[.pointer (some ⟨s,0,none⟩),iV (a:Int),iV (b:Int)] w (MsR lo w s r gs cs tr qs an (smH (n+1) a b (n,h,[]))):=by
 obtain ⟨g,cap,hhv⟩: ∃g cap,r.hv=.slice (some ⟨g,0,none⟩) h.length cap:=by
  rcases M.hp.2 with ⟨_,h0⟩| ⟨g,cap,cur,hv,_⟩
  ·omega
  ·exact ⟨g,cap,hv⟩
 have hgd:=smH_good (n+1) a b (n,h,[]) ⟨hG,hnm⟩ ha hb;have hbs':((smH (n+1) a b (n,h,[])).bs.length:Int)≤n:=by have:=hgd.bs';simpa using this
 have hle:=hgd.le;have hlm:=smH_left (n+1) a b (n,h,[]);have HM:=hid M;have Hhv:=hid hhv
 have HNA:Hid (∀A∈an,NM (fun k=>k=g) A):=fun A hA=>nmOfT (M.all A hA).1 fun k hk=>by
  subst hk;exact (M.all A hA).2.nb (.inr (.inl (by rw[hhv];rfl)))
 have HSa:Hid (∀W,Below w.heap.size w W→Calls Tryz.prog 137 #[.slice (some ⟨g,0,none⟩) h.length cap,iV (a:Int),iV (b:Int),iV (n:Int)] W (SaR W lo g cap h n (smH (n+1) a b (n,h,[])))):=fun W hW=>
  csame_any W (by have:=World.ownsRow.kept M.hp (grown_of_below hW none) (by cases r.hv.ownBlock with|none=>exact .inl rfl|some g=>exact .inr (by simp));rw[hhv]at this;exact this) (Nat.le_trans hlo hW.size) hG hnm ha hb (by omega)
 have hsl:=M.blk.lt;have hgs:g≠s:=fun e=>M.apart.h1.1 (by rw[hhv,e];rfl)
 have HKp:Hid (∀W,Bw (fun k=>k=g) w.heap.size w W→W.cell? ⟨s,0,none⟩=some (.slice (some ⟨g,0,none⟩) h.length cap)∧W.cell? ⟨s,10,none⟩=some (iV (n:Int))):=fun W hW=>by
  obtain ⟨⟨c0,_⟩,⟨_,_,_,_,c10⟩,_⟩:=M.blk.get;rw[hhv]at c0;rw[hl]at c10;exact ⟨(hW.cell (p:=⟨s,0,none⟩) hsl (fun e=>hgs e.symm)).trans c0,(hW.cell (p:=⟨s,10,none⟩) hsl (fun e=>hgs e.symm)).trans c10⟩
 have HB0:Hid (Bw (fun k=>k=g) w.heap.size w w):=Bw.refl _ _ _
 have hk0:=HKp.o w (Bw.refl _ _ _);obtain ⟨c0,c10⟩:=hk0;obtain ⟨res,hres⟩: ∃res,smH (n+1) a b (n,h,[])=res:=⟨_,rfl⟩;rw[hres]at hgd hbs' hle hlm HSa ⊢;have hle':=hle;have Hll:=hid hgd.len;clear M hG hnm hgd hhv hres hle;obtain ⟨j0,hj,hj0,hj1,hj2⟩:=info_parts Tryz.info3
 go_enter Tryz.func112,Tryz.ntmps112
 go_wp2_with fail
 go_region_held3 (fun W=>W.cell? ⟨s,0,none⟩=some (.slice (some ⟨g,0,none⟩) h.length cap)∧W.cell? ⟨s,10,none⟩=some (iV (n:Int))) ((refine HKp.o _ ?_;repeat (first|exact HB0.o|refine Bw.drew ?_))) (first
  | (go_at_call 137
     refine (HSa.o _ (by repeat (first|exact Below.refl _ _|refine Below.drew ?_))).mono ?_
     rintro e w5 ⟨bv,rfl,hC5,hO5,hb5⟩;replace HB0:Hid (Bw (fun k=>k=g) w.heap.size w w5):=Bw.trans (by repeat (first|exact Bw.refl _ _ _|refine Bw.drew ?_)) (hb5.mono (Nat.le_refl _))
     have HC5:=hid hC5;have HO5:=hid (ownsRow_mono hO5 (Nat.le_refl _));clear hC5 hO5 hb5))
 all_goals
  have hM5:MN lo w5 s r res.l gs cs tr qs an:=HM.o.inH HB0.o (fun k hk=> .inl (by rw[Hhv.o,hk];rfl)) HNA.o (by rw[Hhv.o];exact HC5.o)
  have HM5:=hid hM5;obtain ⟨ta,ct,htv,htc,htn,_⟩:=row_nil hM5.tl;have Htv:=hid htv;obtain ⟨⟨_,_,_,_,d4,_⟩,_,df⟩:=hM5.blk.get;have df4:=df 4;rw[htv]at d4;have hs5:=HB0.o.size;clear df
  rcases HO5.o.2 with ⟨hbv,hb0⟩| ⟨gb,cb,cur,hbv,hbl,_⟩
  ·subst hbv
   have hnil:res.bs= []:=List.eq_nil_of_length_eq_zero hb0;have h9:=hM5.toT (X:=fun _=>False) (v':=.slice ta tr.length ct) (tr':=tr++res.bs) (Bw.refl _ _ _) (fun k hk=>hk.elim) (fun A hA=>NM.old (hM5.all A hA).1 (fun k hk=>hk.elim)) (by rw[hnil,List.append_nil,←htv];exact hM5.tl) (.inl (by rw[htv]))
   have h9':=h9.2
   replace h9:MN lo (w5.setCell ⟨s,4,none⟩ (.slice ta tr.length ct)) s { r with tv:=.slice ta tr.length ct} res.l gs cs (tr++res.bs) qs an∧Bw (fun k=>k=s∨(fun k=>k=g) k) w5.heap.size w5 (w5.setCell ⟨s,4,none⟩ (.slice ta tr.length ct)):=⟨h9.1,h9'.wide fun k _ hk=>by rcases hk with e|e;(·exact .inl e);(·exact e.elim)⟩
   have HTl:Hid (w5.ownsRow lo 3 1 (.slice ta tr.length ct) tr.length (natL tr)):=by rw[Hid,←htv];exact hM5.tl
   clear h9' hM5 htv;have HM7:=hid h9.1;have HB7:Hid (Bw (fun k=>k=s∨(fun k=>k=g) k) w.heap.size w (w5.setCell ⟨s,4,none⟩ (.slice ta tr.length ct))):=(HB0.o.wide fun k _ hk=> .inr hk).trans (h9.2.mono HB0.o.size)
   obtain ⟨_,⟨_,e7,_,_,e10⟩,ef⟩:=h9.1.blk.get;have ef10:=ef 10;have hl10:=hl;rw[hl10]at e10
   have hM8:=h9.1.int (r':= { r with tv:=(.slice ta tr.length ct),left:=res.left}) 10 res.left rfl ⟨rfl,rfl,rfl,rfl,rfl,rfl⟩
   have HM8:=hid hM8;obtain ⟨_,⟨_,f7,_,_,f10⟩,ff⟩:=hM8.blk.get;have ff7:=ff 7
   have hM9:=hM8.int (r':= { r with tv:=(.slice ta tr.length ct),left:=res.left,fin:=3}) 7 3 rfl ⟨rfl,rfl,rfl,rfl,rfl,rfl⟩
   have HM9:=hid hM9;have hs7:=HB7.o.size;have HB8:Hid (Bw (fun k=>k=s∨(fun k=>k=g) k) w.heap.size w ((w5.setCell ⟨s,4,none⟩ (.slice ta tr.length ct)).setCell ⟨s,10,none⟩ (iV res.left))):=HB7.o.grown (grown_set s 10 _) hs7 (fun k e=> .inr (.inl (Option.some.inj e).symm))
   have hs8:=HB8.o.size;have HB9:Hid (Bw (fun k=>k=s∨(fun k=>k=g) k) w.heap.size w (((w5.setCell ⟨s,4,none⟩ (.slice ta tr.length ct)).setCell ⟨s,10,none⟩ (iV res.left)).setCell ⟨s,7,none⟩ (iV 3))):=HB8.o.grown (grown_set s 7 _) hs8 (fun k e=> .inr (.inl (Option.some.inj e).symm))
   have HWd:Hid (∀k,(k=s∨(fun k=>k=g) k)→MnR s r k):=fun k hk=>by
    rcases hk with e|e
    ·exact .inl e
    ·exact .inr (.inl (by rw[Hhv.o,show k=g from e];rfl))
   have hww:IntKind.i64.wrap ((n:Int)-((n:Int)-res.left))=res.left:=by
    rw[show (n:Int)-((n:Int)-res.left)=res.left by omega]
    simp[IntKind.wrap,IntKind.bits,IntKind.signed];omega
   clear h9 hM8 hM9 ef ff
   by_cases hneg:res.left<0
   ·have hd:=decide_eq_true hneg
    go_wp2_with (at_builtin;refine wpList_append_own_none rfl (.tmp 31) (.tmp 32) 28 rfl lo 3 j0 1 Tryz.underlying28 hj (.slice ta tr.length ct) tr.length (natL tr) rfl HTl.o rfl ?_);go_ret;refine ⟨rfl,(.slice ta tr.length ct),?_,HB9.o.wide fun k _ hk=>HWd.o k hk,.inl (by rw[Htv.o])⟩
    rw[if_pos hneg];exact HM9.o
   ·have hd:=decide_eq_false hneg
    go_wp2_with (at_builtin;refine wpList_append_own_none rfl (.tmp 31) (.tmp 32) 28 rfl lo 3 j0 1 Tryz.underlying28 hj (.slice ta tr.length ct) tr.length (natL tr) rfl HTl.o rfl ?_);go_ret;refine ⟨rfl,(.slice ta tr.length ct),?_,HB8.o.wide fun k _ hk=>HWd.o k hk,.inl (by rw[Htv.o])⟩
    rw[if_neg (by omega)]
    exact HM8.o
  ·subst hbv
   have HNw:Hid (∀j u,(natL res.bs)[j]?=some u→w5.cell? ((⟨gb,0,none⟩:Addr).add j)=some u):=fun j u hu=>by
    rw[addr_add];have hj:j<res.bs.length:=by have:=(List.getElem?_eq_some_iff.1 hu).1;rw[natL_len]at this;exact this
    exact (HO5.o.cellAt j (by omega)).trans hu
   have HTl:Hid (w5.ownsRow lo 3 1 (.slice ta tr.length ct) tr.length (natL tr)):=by rw[Hid,←htv];exact hM5.tl
   have HNt:Hid (∀A∈an,NM (fun k=>r.tv.ownBlock=some k) A):=fun A hA=>nmOfT (hM5.all A hA).1 fun k hk=>(hM5.all A hA).2.nb (.inr (.inr (.inr (.inr (.inl hk)))))
   have hbn:(natL res.bs).length=res.bs.length*1:=by rw[natL_len,Nat.mul_one]
   clear hM5
   have hww:IntKind.i64.wrap ((n:Int)-((n:Int)-res.left))=res.left:=by
    rw[show (n:Int)-((n:Int)-res.left)=res.left by omega]
    simp[IntKind.wrap,IntKind.bits,IntKind.signed];omega
   have HWd:Hid (∀k,(k=s∨(k=g∨r.tv.ownBlock=some k))→MnR s r k):=fun k hk=>by
    rcases hk with e|e|e
    ·exact .inl e
    ·exact .inr (.inl (by rw[Hhv.o,e];rfl))
    ·exact .inr (.inr (.inr (.inr (.inl e))))
   by_cases hneg:res.left<0
   ·have hd:=decide_eq_true hneg
    go_wp2_with (
     at_builtin
     refine wpList_append_own_at _ rfl (.tmp 31) (.tmp 32) 28 rfl lo 3 j0 (iV 0) 1 8 Tryz.underlying28 hj hj0 hj1 hj2 rfl (by decide) (.slice ta tr.length ct) tr.length (natL tr) rfl HTl.o ⟨gb,0,none⟩ res.bs.length cb (natL res.bs) rfl hbn HNw.o (by intro u hu;unfold natL at hu;obtain ⟨x,_,rfl⟩:=List.mem_map.1 hu;rfl) (by unfold maxLen;omega) (by omega) (by omega) ?_
     intro v' w6 hown' hgrow hnil hat
     obtain ⟨tb,tc,hv6⟩: ∃tb tc,v'=(.slice tb (tr.length+res.bs.length) tc):=by rcases hown'.2 with ⟨h1,h2⟩| ⟨_,cp,_,h1,_⟩;(·exact ⟨none,0,by rw[h1,h2]⟩);(·exact ⟨_,cp,h1⟩)
     subst hv6;have hg6:Bw (fun k=>r.tv.ownBlock=some k) w5.heap.size w5 w6:=⟨hgrow.os,hgrow.tape,hgrow.output,hgrow.size,fun k hk hm=>hgrow.block k hk (fun e=>hm (by rw[Htv.o];exact e.symm))⟩
     have h9:=HM5.o.toT (X:=fun k=>r.tv.ownBlock=some k) (v':=(.slice tb (tr.length+res.bs.length) tc)) (tr':=tr++res.bs) hg6 (fun k hk=> .inl hk) HNt.o (by rw[List.length_append,natL_append];exact hown') (by rcases hat with e|e;(·exact .inl (by rw[Htv.o];exact e));(·exact .inr ⟨_,e,Nat.le_refl _⟩))
     have HM7:=hid h9.1
     have HB7:Hid (Bw (fun k=>k=s∨(k=g∨r.tv.ownBlock=some k)) w.heap.size w (w6.setCell ⟨s,4,none⟩ (.slice tb (tr.length+res.bs.length) tc))):=(HB0.o.wide fun k _ hk=> .inr (.inl hk)).trans ((h9.2.mono HB0.o.size).wide fun k _ hk=>by rcases hk with e|e;(·exact .inl e);(·exact .inr (.inr e)))
     have HAt:Hid ((Value.slice tb (tr.length+res.bs.length) tc).ownBlock=r.tv.ownBlock∨∃q,(Value.slice tb (tr.length+res.bs.length) tc).ownBlock=some q∧w.heap.size≤q):=by rcases hat with e|e;(·exact .inl (by rw[Htv.o];exact e));(·exact .inr ⟨_,e,hs5⟩)
     have d46:w6.cell? ⟨s,4,none⟩=some (.slice ta tr.length ct):=(hg6.cell (p:=⟨s,4,none⟩) (by have:=HM5.o.blk.lt;exact this) (fun e=>HM5.o.apart.h1.2.2.2.1 e)).trans d4
     have df46:w6.frozen? ⟨s,4,none⟩=false:=(hg6.frozen (p:=⟨s,4,none⟩) (by have:=HM5.o.blk.lt;exact this) (fun e=>HM5.o.apart.h1.2.2.2.1 e)).trans df4
     obtain ⟨_,⟨_,e7,_,_,e10⟩,ef⟩:=h9.1.blk.get;have ef10:=ef 10;have hl10:=hl;rw[hl10]at e10
     have hM8:=h9.1.int (r':= { r with tv:=(.slice tb (tr.length+res.bs.length) tc),left:=res.left}) 10 res.left rfl ⟨rfl,rfl,rfl,rfl,rfl,rfl⟩
     have HM8:=hid hM8;obtain ⟨_,⟨_,f7,_,_,f10⟩,ff⟩:=hM8.blk.get;have ff7:=ff 7
     have hM9:=hM8.int (r':= { r with tv:=(.slice tb (tr.length+res.bs.length) tc),left:=res.left,fin:=3}) 7 3 rfl ⟨rfl,rfl,rfl,rfl,rfl,rfl⟩
     have HM9:=hid hM9;have hs7:=HB7.o.size;have HB8:Hid (Bw (fun k=>k=s∨(k=g∨r.tv.ownBlock=some k)) w.heap.size w ((w6.setCell ⟨s,4,none⟩ (.slice tb (tr.length+res.bs.length) tc)).setCell ⟨s,10,none⟩ (iV res.left))):=HB7.o.grown (grown_set s 10 _) hs7 (fun k e=> .inr (.inl (Option.some.inj e).symm))
     have hs8:=HB8.o.size;have HB9:Hid (Bw (fun k=>k=s∨(k=g∨r.tv.ownBlock=some k)) w.heap.size w (((w6.setCell ⟨s,4,none⟩ (.slice tb (tr.length+res.bs.length) tc)).setCell ⟨s,10,none⟩ (iV res.left)).setCell ⟨s,7,none⟩ (iV 3))):=HB8.o.grown (grown_set s 7 _) hs8 (fun k e=> .inr (.inl (Option.some.inj e).symm))
     clear h9 hM8 hM9 ef ff hg6 hown' hgrow hnil hat)
    go_ret;refine ⟨rfl,_,?_,HB9.o.wide fun k _ hk=>HWd.o k hk,HAt.o⟩
    rw[if_pos hneg];exact HM9.o
   ·have hd:=decide_eq_false hneg
    go_wp2_with (
     at_builtin
     refine wpList_append_own_at _ rfl (.tmp 31) (.tmp 32) 28 rfl lo 3 j0 (iV 0) 1 8 Tryz.underlying28 hj hj0 hj1 hj2 rfl (by decide) (.slice ta tr.length ct) tr.length (natL tr) rfl HTl.o ⟨gb,0,none⟩ res.bs.length cb (natL res.bs) rfl hbn HNw.o (by intro u hu;unfold natL at hu;obtain ⟨x,_,rfl⟩:=List.mem_map.1 hu;rfl) (by unfold maxLen;omega) (by omega) (by omega) ?_
     intro v' w6 hown' hgrow hnil hat
     obtain ⟨tb,tc,hv6⟩: ∃tb tc,v'=(.slice tb (tr.length+res.bs.length) tc):=by rcases hown'.2 with ⟨h1,h2⟩| ⟨_,cp,_,h1,_⟩;(·exact ⟨none,0,by rw[h1,h2]⟩);(·exact ⟨_,cp,h1⟩)
     subst hv6;have hg6:Bw (fun k=>r.tv.ownBlock=some k) w5.heap.size w5 w6:=⟨hgrow.os,hgrow.tape,hgrow.output,hgrow.size,fun k hk hm=>hgrow.block k hk (fun e=>hm (by rw[Htv.o];exact e.symm))⟩
     have h9:=HM5.o.toT (X:=fun k=>r.tv.ownBlock=some k) (v':=(.slice tb (tr.length+res.bs.length) tc)) (tr':=tr++res.bs) hg6 (fun k hk=> .inl hk) HNt.o (by rw[List.length_append,natL_append];exact hown') (by rcases hat with e|e;(·exact .inl (by rw[Htv.o];exact e));(·exact .inr ⟨_,e,Nat.le_refl _⟩))
     have HM7:=hid h9.1
     have HB7:Hid (Bw (fun k=>k=s∨(k=g∨r.tv.ownBlock=some k)) w.heap.size w (w6.setCell ⟨s,4,none⟩ (.slice tb (tr.length+res.bs.length) tc))):=(HB0.o.wide fun k _ hk=> .inr (.inl hk)).trans ((h9.2.mono HB0.o.size).wide fun k _ hk=>by rcases hk with e|e;(·exact .inl e);(·exact .inr (.inr e)))
     have HAt:Hid ((Value.slice tb (tr.length+res.bs.length) tc).ownBlock=r.tv.ownBlock∨∃q,(Value.slice tb (tr.length+res.bs.length) tc).ownBlock=some q∧w.heap.size≤q):=by rcases hat with e|e;(·exact .inl (by rw[Htv.o];exact e));(·exact .inr ⟨_,e,hs5⟩)
     have d46:w6.cell? ⟨s,4,none⟩=some (.slice ta tr.length ct):=(hg6.cell (p:=⟨s,4,none⟩) (by have:=HM5.o.blk.lt;exact this) (fun e=>HM5.o.apart.h1.2.2.2.1 e)).trans d4
     have df46:w6.frozen? ⟨s,4,none⟩=false:=(hg6.frozen (p:=⟨s,4,none⟩) (by have:=HM5.o.blk.lt;exact this) (fun e=>HM5.o.apart.h1.2.2.2.1 e)).trans df4
     obtain ⟨_,⟨_,e7,_,_,e10⟩,ef⟩:=h9.1.blk.get;have ef10:=ef 10;have hl10:=hl;rw[hl10]at e10
     have hM8:=h9.1.int (r':= { r with tv:=(.slice tb (tr.length+res.bs.length) tc),left:=res.left}) 10 res.left rfl ⟨rfl,rfl,rfl,rfl,rfl,rfl⟩
     have HM8:=hid hM8;obtain ⟨_,⟨_,f7,_,_,f10⟩,ff⟩:=hM8.blk.get;have ff7:=ff 7
     have hM9:=hM8.int (r':= { r with tv:=(.slice tb (tr.length+res.bs.length) tc),left:=res.left,fin:=3}) 7 3 rfl ⟨rfl,rfl,rfl,rfl,rfl,rfl⟩
     have HM9:=hid hM9;have hs7:=HB7.o.size;have HB8:Hid (Bw (fun k=>k=s∨(k=g∨r.tv.ownBlock=some k)) w.heap.size w ((w6.setCell ⟨s,4,none⟩ (.slice tb (tr.length+res.bs.length) tc)).setCell ⟨s,10,none⟩ (iV res.left))):=HB7.o.grown (grown_set s 10 _) hs7 (fun k e=> .inr (.inl (Option.some.inj e).symm))
     have hs8:=HB8.o.size;have HB9:Hid (Bw (fun k=>k=s∨(k=g∨r.tv.ownBlock=some k)) w.heap.size w (((w6.setCell ⟨s,4,none⟩ (.slice tb (tr.length+res.bs.length) tc)).setCell ⟨s,10,none⟩ (iV res.left)).setCell ⟨s,7,none⟩ (iV 3))):=HB8.o.grown (grown_set s 7 _) hs8 (fun k e=> .inr (.inl (Option.some.inj e).symm))
     clear h9 hM8 hM9 ef ff hg6 hown' hgrow hnil hat)
    go_ret;refine ⟨rfl,_,?_,HB8.o.wide fun k _ hk=>HWd.o k hk,HAt.o⟩
    rw[if_neg (by omega)]
    exact HM8.o
end
end Go.Proofs.YtmggaclaoefdaabGreat

namespace Go.Proofs.YtmggaclaoefdaabGreat
open Go.RowKit
set_option linter.unusedVariables false
set_option linter.unusedSimpArgs false
attribute [local go_sem] Oper.semAt_some
def rstH (l:List Cl) (ats:List Nat):List Cl:=ats.foldl (fun l x=>if x<l.length then l.set x (frC x)else l) l
theorem rstH_len (ats:List Nat): ∀l:List Cl,(rstH l ats).length=l.length:=by
 induction ats with
 |nil=>intro l;rfl
 |cons x ats ih=>
  intro l
  show (rstH (if x<l.length then l.set x (frC x)else l) ats).length=_
  rw[ih]
  split <;> simp
theorem rstH_snoc (l:List Cl) (ats:List Nat) (x:Nat):rstH l (ats++ [x])=if x<l.length then (rstH l ats).set x (frC x)else rstH l ats:=by
 unfold rstH;rw[List.foldl_append];have:=rstH_len ats l;unfold rstH at this;simp only[List.foldl_cons,List.foldl_nil,this]
section
variable {lo:Nat} {w w':World} {s:Nat} {r:Rn} {h:List Cl} {gs:List Gq} {cs:List Chq} {tr qs:List Nat} {an:List Tm}
theorem fromN (a:Option Addr) (ln cp k:Nat) (h:k≤ln) (hc:ln≤cp) (hn:a=none→ln=0∧cp=0) (hg: ∀ad,a=some ad→∃g,ad=⟨g,0,none⟩): ∃a',(∀W:World,(Instr.slice 28 (.slice a ln cp) (some (iV k)) none none).run Tryz.prog W=.ok (.slice a' (ln-k) (cp-k)) W)∧(k<ln→∃g,a=some ⟨g,0,none⟩∧a'=some ⟨g,k,none⟩):=by
 cases a with
 |none=>
  obtain ⟨rfl,rfl⟩:=hn rfl;obtain rfl:k=0:=by omega
  exact ⟨none,fun W=>from_nil W,fun h=>absurd h (Nat.lt_irrefl 0)⟩
 |some ad=>
  obtain ⟨g,rfl⟩:=hg ad rfl;obtain ⟨o,h1,h2⟩:=from_run g ln cp k h hc;exact ⟨some ⟨g,o,none⟩,h1,fun hk=>⟨g,rfl,by rw[h2 hk]⟩⟩
theorem toN (a:Option Addr) (ln cp k:Nat) (h:k≤ln) (hc:ln≤cp) (hn:a=none→ln=0∧cp=0) (hg: ∀ad,a=some ad→∃g,ad=⟨g,0,none⟩) (W:World):(Instr.slice 28 (.slice a ln cp) none (some (iV k)) none).run Tryz.prog W=.ok (.slice a k cp) W:=by
 cases a with
 |none=>
  obtain ⟨rfl,rfl⟩:=hn rfl;obtain rfl:k=0:=by omega
  exact to_nil W
 |some ad=>
  obtain ⟨g,rfl⟩:=hg ad rfl;exact to_run g ln cp k h hc W
theorem infoGq:(Tryz.prog.info? 76).map (fun i=>(i.zero,i.size,i.bytes))=some (some (.agg #[iV 0,iV 0,iV 0]),3,24):=by kernel_rfl
theorem toG_run (a:Option Addr) (ln cp k:Nat) (h:k≤ln) (hc:ln≤cp) (W:World):(Instr.slice 26 (.slice a ln cp) none (some (iV k)) none).run Tryz.prog W=.ok (.slice a k cp) W:=by
 obtain ⟨i0,hi,hz0,hz1,hz2⟩:=info_parts infoGq;have h':(k:Int)≤(cp:Int):=by omega
 cases a with
 |none=>simp[Instr.slice,run_underlying Tryz.underlying26,Instr.sliceBounds,run_sliceBound,sizeOf,typeInfo,hi,h',Addr.add]
 |some ad=>simp[Instr.slice,run_underlying Tryz.underlying26,Instr.sliceBounds,run_sliceBound,sizeOf,typeInfo,hi,h',Addr.add]
theorem CRw.setF {lo:Nat} {w:World} {g n cp:Nat} {l:List Cl} (h:CRw lo w (.slice (some ⟨g,0,none⟩) n cp) l) (hn:n=l.length) {i:Nat} (hi:i<l.length) (c:Cl):
 CRw lo (((w.setCell ⟨g,i*3,none⟩ (iV c.k)).setCell ⟨g,i*3+1,none⟩ (iV c.n)).setCell ⟨g,i*3+2,none⟩ (.string c.nm)) (.slice (some ⟨g,0,none⟩) n cp) (l.set i c):=by
 obtain ⟨h1,h2⟩:=h
 rcases h2 with ⟨h2,_⟩| ⟨g',cap',cur,hv,hlo,hg,hnc,hcm,hsz,htk⟩
 ·cases h2
 cases hv
 have hfl:flatC (l.set i c)=(((flatC l).set (i*3) (iV c.k)).set (i*3+1) (iV c.n)).set (i*3+2) (.string c.nm):=by
  clear h1 hnc hsz htk hg
  induction l generalizing i with
  |nil=>exact absurd hi (Nat.not_lt_zero i)
  |cons d l ih=>
   cases i with
   |zero=>rfl
   |succ i=>
    show cellsC d++flatC (l.set i c)=_
    rw[ih (Nat.lt_of_succ_lt_succ hi) rfl]
    show _=(((cellsC d++flatC l).set ((i+1)*3) _).set ((i+1)*3+1) _).set ((i+1)*3+2) _
    rw[List.set_append_right _ _ (by show 3≤_;omega),List.set_append_right _ _ (by show 3≤_;omega),List.set_append_right _ _ (by show 3≤_;omega)]
    rw[show (i+1)*3-(cellsC d).length=i*3 by show (i+1)*3-3=_;omega,show (i+1)*3+1-(cellsC d).length=i*3+1 by show (i+1)*3+1-3=_;omega,show (i+1)*3+2-(cellsC d).length=i*3+2 by show (i+1)*3+2-3=_;omega]
 refine ⟨by rw[hfl];simpa using h1,.inr ⟨g,cp,((cur.setIfInBounds (i*3) (iV c.k)).setIfInBounds (i*3+1) (iV c.n)).setIfInBounds (i*3+2) (.string c.nm),?_,hlo,?_,?_,hcm,by simp[hsz],?_⟩⟩
 ·rw[List.length_set,←hn]
 ·simp only[World.setCell,Array.getElem?_modify]
  simp[hg]
 ·simpa using hnc
 ·rw[hfl,←htk]
  simp only[List.length_set];have e: ∀(a:List Value) (k j:Nat) (x:Value),(a.set j x).take k=(a.take k).set j x:=fun a k j x=>by rw[List.take_set]
  simp[e]
theorem own_same (a:Option Addr) (n c m d:Nat):(Value.slice a n c).ownBlock=(Value.slice a m d).ownBlock:=by cases a <;> rfl
def undoR (lo:Nat) (w:World) (s:Nat) (r:Rn) (h:List Cl) (gs:List Gq) (cs:List Chq) (tr qs:List Nat) (an:List Tm) (c:Chq) (w':World):Prop:=∃hv' gv' tv',MN lo w' s { r with hv:=hv',gv:=gv',tv:=tv',first:=(c.goal:Int)} (rstH (h.take c.hp) (tr.drop c.tr)) (gs.take c.gs) cs (tr.take c.tr) qs an∧hv'.ownBlock=r.hv.ownBlock∧gv'.ownBlock=r.gv.ownBlock∧tv'.ownBlock=r.tv.ownBlock∧Bw (MnR s r) w.heap.size w w'
set_option maxRecDepth 100000 in
set_option maxHeartbeats 8000000 in
theorem mundo_any {c:Chq} (w:World) (M:MN lo w s r h gs cs tr qs an) (h1:c.hp≤h.length) (h2:c.tr≤tr.length) (h3:c.gs≤gs.length) (htr:tr.length≤10000000):
 Calls Tryz.prog 136 #[.pointer (some ⟨s,0,none⟩),.agg #[iV (c.goal:Int),iV (c.cl:Int),iV (c.hp:Int),iV (c.tr:Int),iV (c.gs:Int)]] w fun e w'=>e=.returned (.tuple #[])∧undoR lo w s r h gs cs tr qs an c w':=by
 obtain ⟨ha,hcp,hhv,hhc,hhn,hhg⟩:=row_nil M.hp;obtain ⟨ta,tcp,htv,htc,htn,htg⟩:=row_nil M.tl;obtain ⟨ga,gcp,hgv,hgc,hgn,hgg⟩:=row_nil M.go;have HBa:Hid (Below w.heap.size w (w.alloc (.cells #[iV (c.goal:Int),iV (c.cl:Int),iV (c.hp:Int),iV (c.tr:Int),iV (c.gs:Int)] 78))):=(Below.refl _ _).alloc (Nat.le_refl _) _;have HXa:Hid ((w.alloc (.cells #[iV (c.goal:Int),iV (c.cl:Int),iV (c.hp:Int),iV (c.tr:Int),iV (c.gs:Int)] 78)).heap[w.heap.size]?=some (.cells #[iV (c.goal:Int),iV (c.cl:Int),iV (c.hp:Int),iV (c.tr:Int),iV (c.gs:Int)] 78)):=heap_alloc_new _ _;have hMa:=M.below HBa.o;have HMa:Hid (MN lo (w.alloc (.cells #[iV (c.goal:Int),iV (c.cl:Int),iV (c.hp:Int),iV (c.tr:Int),iV (c.gs:Int)] 78)) s r h gs cs tr qs an):=hMa;have hsa:(w.alloc (.cells #[iV (c.goal:Int),iV (c.cl:Int),iV (c.hp:Int),iV (c.tr:Int),iV (c.gs:Int)] 78)).heap.size=w.heap.size+1:=by simp
 have hsl:=M.blk.lt;clear M;generalize hwa:w.alloc (.cells #[iV (c.goal:Int),iV (c.cl:Int),iV (c.hp:Int),iV (c.tr:Int),iV (c.gs:Int)] 78)=wa at*
 have b5: ∀W:World,W.heap[w.heap.size]?=some (.cells #[iV (c.goal:Int),iV (c.cl:Int),iV (c.hp:Int),iV (c.tr:Int),iV (c.gs:Int)] 78)→W.cell? ⟨w.heap.size,0,none⟩=some (iV (c.goal:Int))∧W.cell? ⟨w.heap.size,2,none⟩=some (iV (c.hp:Int))∧W.cell? ⟨w.heap.size,3,none⟩=some (iV (c.tr:Int))∧W.cell? ⟨w.heap.size,4,none⟩=some (iV (c.gs:Int)):=fun W hW=>by
  refine ⟨?_,?_,?_,?_⟩ <;> simp[World.cell?,hW]
 obtain ⟨⟨c0,c1,c2,c3,c4,c5⟩,_,cf⟩:=hMa.blk.get;have cf0:=cf 0;rw[hhv]at c0;obtain ⟨k0,k2,k3,k4⟩:=b5 wa HXa.o;have hto:=to_runH ha h.length hcp c.hp h1 hhc
 have h9:=hMa.toH (X:=fun _=>False) (v':=.slice ha c.hp hcp) (h':=h.take c.hp) (Bw.refl _ _ _) (fun k hk=>hk.elim) (fun A hA=>NM.old (hMa.all A hA).1 (fun k hk=>hk.elim)) (by
  have:=row_cut (k:=c.hp) (ys:=flatC (h.take c.hp)) (by rw[←hhv];exact hMa.hp) h1 (flatC_take h c.hp) (fun e=>by have:=hhn e;omega)
  unfold CRw;rw[List.length_take,Nat.min_eq_left h1];exact this) (.inl (by rw[hhv];exact own_same _ _ _ _ _))
 have HM1:Hid (MN lo (wa.setCell ⟨s,0,none⟩ (.slice ha c.hp hcp)) s { r with hv:=.slice ha c.hp hcp} (h.take c.hp) gs cs tr qs an):=h9.1
 have HB1:Hid (Bw (MnR s r) w.heap.size w (wa.setCell ⟨s,0,none⟩ (.slice ha c.hp hcp))):=(Bw.ofBelow HBa.o).trans ((h9.2.mono HBa.o.size).wide fun k _ hk=>by rcases hk with e|e;(·exact .inl e);(·exact e.elim))
 have HX1:Hid ((wa.setCell ⟨s,0,none⟩ (.slice ha c.hp hcp)).heap[w.heap.size]?=some (.cells #[iV (c.goal:Int),iV (c.cl:Int),iV (c.hp:Int),iV (c.tr:Int),iV (c.gs:Int)] 78)):=((grown_set (W:=wa) s 0 _).block _ (by omega) (fun e=>by have:=Option.some.inj e;omega)).trans HXa.o
 clear h9 cf
 go_enter Tryz.func136,Tryz.ntmps136
 go_wp2_with fail
 go_region
 have HM2:Hid (MN lo (wa.setCell ⟨s,0,none⟩ (.slice ha c.hp hcp)).drew s { r with hv:=.slice ha c.hp hcp} (h.take c.hp) gs cs tr qs an):=HM1.o.below ((Below.refl _ _).drew)
 have HB2:Hid (Bw (MnR s r) w.heap.size w (wa.setCell ⟨s,0,none⟩ (.slice ha c.hp hcp)).drew):=HB1.o.drew;have HX2:Hid ((wa.setCell ⟨s,0,none⟩ (.slice ha c.hp hcp)).drew.heap[w.heap.size]?=some (.cells #[iV (c.goal:Int),iV (c.cl:Int),iV (c.hp:Int),iV (c.tr:Int),iV (c.gs:Int)] 78)):=HX1.o;generalize (wa.setCell ⟨s,0,none⟩ (.slice ha c.hp hcp)).drew=w2 at*;have Hb5:Hid (∀W:World,W.heap[w.heap.size]?=some (.cells #[iV (c.goal:Int),iV (c.cl:Int),iV (c.hp:Int),iV (c.tr:Int),iV (c.gs:Int)] 78)→W.cell? ⟨w.heap.size,0,none⟩=some (iV (c.goal:Int))∧W.cell? ⟨w.heap.size,2,none⟩=some (iV (c.hp:Int))∧W.cell? ⟨w.heap.size,3,none⟩=some (iV (c.tr:Int))∧W.cell? ⟨w.heap.size,4,none⟩=some (iV (c.gs:Int))):=b5;have Hhv:Hid (r.hv=.slice ha h.length hcp):=hhv;have Htv:Hid (r.tv=.slice ta tr.length tcp):=htv;have Hgv:Hid (r.gv=.slice ga gs.length gcp):=hgv;have Hhg:Hid (∀ad,ha=some ad→∃g,ad=⟨g,0,none⟩):=hhg;have Hhn:Hid (ha=none→h.length=0∧hcp=0):=hhn;have Hgn:Hid (ga=none→gs.length=0∧gcp=0):=hgn;have Htn:Hid (ta=none→tr.length=0∧tcp=0):=htn;have Htg:Hid (∀ad,ta=some ad→∃g,ad=⟨g,0,none⟩):=htg;obtain ⟨a',hfr,hfr2⟩:=fromN ta tr.length tcp c.tr h2 htc htn htg;have Hfr2:Hid (c.tr<tr.length→∃g,ta=some ⟨g,0,none⟩∧a'=some ⟨g,c.tr,none⟩):=hfr2;clear hMa hwa HMa c0 c1 c2 c3 c4 c5 cf0 k0 k2 k3 k4 hto HM1 HB1 HX1 b5 hhv htv hgv hhg hhn hgn htn htg hgg hfr2 HXa;obtain ⟨k0,k2,k3,k4⟩:=Hb5.o w2 HX2.o;obtain ⟨⟨_,_,_,_,c4,_⟩,_,_⟩:=HM2.o.blk.get
 rw[show ({ r with hv:=.slice ha c.hp hcp}:Rn).tv=.slice ta tr.length tcp from Htv.o]at c4
 go_wp2_with fail
 go_region
 have HM3:Hid (MN lo w2.drew s { r with hv:=.slice ha c.hp hcp} (h.take c.hp) gs cs tr qs an):=HM2.o.below ((Below.refl _ _).drew)
 have HB3:Hid (Bw (MnR s r) w.heap.size w w2.drew):=HB2.o.drew;have HX3:Hid (w2.drew.heap[w.heap.size]?=some (.cells #[iV (c.goal:Int),iV (c.cl:Int),iV (c.hp:Int),iV (c.tr:Int),iV (c.gs:Int)] 78)):=HX2.o;generalize w2.drew=w3 at*;clear HM2 HB2 HX2 k0 k2 k3 k4 c4 hfr;generalize hnn:tr.length-c.tr=n at*;go_wp2_with fail
 go_loopw [5,27] (fun v5 iv wq=>∃j:Nat,j≤n∧iv=iV j∧MN lo wq s { r with hv:=.slice ha c.hp hcp} (rstH (h.take c.hp) ((tr.drop c.tr).take j)) gs cs tr qs an∧wq.heap[w.heap.size]?=some (.cells #[iV (c.goal:Int),iV (c.cl:Int),iV (c.hp:Int),iV (c.tr:Int),iV (c.gs:Int)] 78)∧Bw (MnR s r) w.heap.size w wq) (fun _ v _=>n-(intOf v).toNat)
 case atStart=>exact ⟨0,Nat.zero_le _,rfl,HM3.o,HX3.o,HB3.o⟩
 case round=>
  obtain ⟨j,hjn,rfl,hMr,hXr,hBr⟩:=hrel
  have HMr:Hid (MN lo wr s { r with hv:=.slice ha c.hp hcp} (rstH (h.take c.hp) ((tr.drop c.tr).take j)) gs cs tr qs an):=hMr
  have HXr:Hid (wr.heap[w.heap.size]?=some (.cells #[iV (c.goal:Int),iV (c.cl:Int),iV (c.hp:Int),iV (c.tr:Int),iV (c.gs:Int)] 78)):=hXr;have HBr:Hid (Bw (MnR s r) w.heap.size w wr):=hBr;clear hMr hXr hBr HM3 HB3 HX3;obtain ⟨k0,k2,k3,k4⟩:=Hb5.o wr HXr.o
  by_cases hlt:j<n
  case pos=>
   have hjI:(j:Int)<(n:Int):=by omega
   have hjb:j<10000000:=by omega
   obtain ⟨tg,hta,ha'⟩:=Hfr2.o (by omega)
   subst ha';have hx:c.tr+j<tr.length:=by omega
   have hcx:wr.cell? ⟨tg,c.tr+j,none⟩=some (iV ((tr[c.tr+j]:Nat):Int)):=by
    have h8:=HMr.o.tl
    rw[show ({ r with hv:=.slice ha c.hp hcp}:Rn).tv=.slice (some ⟨tg,0,none⟩) tr.length tcp from by rw[←hta];exact Htv.o]at h8
    refine (h8.cellAt (c.tr+j) (by omega)).trans ?_
    unfold natL;rw[List.getElem?_map,List.getElem?_eq_getElem hx]
    rfl
   have HTk:Hid ((tr.drop c.tr).take (j+1)=(tr.drop c.tr).take j++ [tr[c.tr+j]]):=by
    rw[Hid,List.take_add_one,List.getElem?_drop,List.getElem?_eq_getElem hx]
    rfl
   clear hta;generalize hxx:tr[c.tr+j]=x at*;have HLn:Hid ((h.take c.hp).length=c.hp):=by rw[Hid,List.length_take,Nat.min_eq_left h1]
   clear hxx
   by_cases hxh:x<c.hp
   case pos=>
    have hxI:(x:Int)<(c.hp:Int):=by omega
    obtain ⟨hg,hha⟩: ∃hg,ha=some ⟨hg,0,none⟩:=by
     cases hae:ha with
     |none=>have:=Hhn.o hae;omega
     |some ad=>obtain ⟨g,e⟩:=Hhg.o ad hae;exact ⟨g,by rw[e]⟩
    subst hha;have HSn:Hid (rstH (h.take c.hp) ((tr.drop c.tr).take (j+1))=(rstH (h.take c.hp) ((tr.drop c.tr).take j)).set x (frC x)):=by rw[Hid,HTk.o,rstH_snoc,if_pos (by rw[HLn.o];exact hxh)]
    obtain ⟨⟨c0,_⟩,_,_⟩:=HMr.o.blk.get;have c0':wr.cell? ⟨s,0,none⟩=some (.slice (some ⟨hg,0,none⟩) c.hp hcp):=c0;have HRl:Hid ((rstH (h.take c.hp) ((tr.drop c.tr).take j)).length=c.hp):=by rw[Hid,rstH_len,HLn.o]
    have HRow:Hid (∀W,Below wr.heap.size wr W→CRw lo W (.slice (some ⟨hg,0,none⟩) c.hp hcp) (rstH (h.take c.hp) ((tr.drop c.tr).take j))):=fun W hW=>World.ownsRow.kept HMr.o.hp (grown_of_below hW none) (.inr (fun e=>by cases e))
    have HFr:Hid (∀W,Calls Tryz.prog 109 #[iV (x:Int)] W fun e w'=>e=.returned (celV (frC x))∧Below W.heap.size W w'):=fun W=>free_any _ W
    clear c0;have hsr:=HMr.o.blk.lt;go_wp2_with fail
    go_region_law (first
     | (go_simp
        go_at_call 109
        refine (HFr.o _).mono ?_;rintro e w5 ⟨rfl,hb5⟩;have HB5:Hid (Below wr.heap.size wr w5):=Below.trans (by repeat (first|exact Below.refl _ _|refine Below.drew ?_)) (hb5.mono (Nat.le_refl _))
        rw[show celV (frC (x:Int))=.agg #[iV 1,iV (x:Int),.string ⟨#[]⟩]from rfl]
        have hrow5:=HRow.o w5 HB5.o;obtain ⟨cu5,hcu5⟩:=row_blk hrow5 (g:=hg) rfl;have hrow6:w5.ownsRow lo 81 3 (.slice (some ⟨hg,0,none⟩) c.hp hcp) c.hp (flatC (rstH (h.take c.hp) ((tr.drop c.tr).take j))):=by have h8:=hrow5;unfold CRw at h8;rw[HRl.o]at h8;exact h8
        have ex5: ∀i,i<c.hp*3→∃v,w5.cell? ⟨hg,i,none⟩=some v:=fun i hi=>by
         have h8:=World.ownsRow.cellAt hrow6 i hi;have hl:i<(flatC (rstH (h.take c.hp) ((tr.drop c.tr).take j))).length:=by rw[flatC_length,HRl.o];exact hi
         exact ⟨_,h8.trans (List.getElem?_eq_getElem hl)⟩
        obtain ⟨z0,y0⟩:=ex5 (x*3) (by omega)
        obtain ⟨z1,y1⟩:=ex5 (x*3+1) (by omega)
        obtain ⟨z2,y2⟩:=ex5 (x*3+2) (by omega)
        have q0:w5.frozen? ⟨hg,x*3,none⟩=false:=by simp[World.frozen?,hcu5]
        have q1:w5.frozen? ⟨hg,x*3+1,none⟩=false:=by simp[World.frozen?,hcu5]
        have q2:w5.frozen? ⟨hg,x*3+2,none⟩=false:=by simp[World.frozen?,hcu5]
        have c05:w5.cell? ⟨s,0,none⟩=some (.slice (some ⟨hg,0,none⟩) c.hp hcp):=(HB5.o.cell (p:=⟨s,0,none⟩) hsr).trans c0';clear hb5 hrow5 hrow6 hcu5 ex5))
    all_goals
     have hM5:=HMr.o.below HB5.o;have hS5:=CRw.setF (HRow.o w5 HB5.o) HRl.o.symm (i:=x) (by rw[HRl.o];exact hxh) (frC x)
     have hg3:w5.grownBy (((w5.setCell ⟨hg,x*3,none⟩ (iV 1)).setCell ⟨hg,x*3+1,none⟩ (iV (x:Int))).setCell ⟨hg,x*3+2,none⟩ (.string ⟨#[]⟩)) (some hg):=((grown_set _ _ _).trans (grown_set _ _ _)).trans (grown_set _ _ _);have hB6:Bw (fun k=>k=hg) w5.heap.size w5 (((w5.setCell ⟨hg,x*3,none⟩ (iV 1)).setCell ⟨hg,x*3+1,none⟩ (iV (x:Int))).setCell ⟨hg,x*3+2,none⟩ (.string ⟨#[]⟩)):=⟨hg3.os,hg3.tape,hg3.output,hg3.size,fun k hk hm=>hg3.block k hk (fun e=>hm (Option.some.inj e))⟩
     have hM6:=hM5.inH (h':=(rstH (h.take c.hp) ((tr.drop c.tr).take j)).set x (frC x)) hB6 (fun k hk=> .inl (by rw[hk];rfl)) (fun A hA=>nmOfT (hM5.all A hA).1 fun k hk=>by subst hk;exact (hM5.all A hA).2.nb (.inr (.inl rfl))) hS5
     have HM6:Hid (MN lo (((w5.setCell ⟨hg,x*3,none⟩ (iV 1)).setCell ⟨hg,x*3+1,none⟩ (iV (x:Int))).setCell ⟨hg,x*3+2,none⟩ (.string ⟨#[]⟩)) s { r with hv:=.slice (some ⟨hg,0,none⟩) c.hp hcp} (rstH (h.take c.hp) ((tr.drop c.tr).take (j+1))) gs cs tr qs an):=by rw[Hid,HSn.o];exact hM6
     have hs5:=HB5.o.size;have hsb:=HBr.o.size;have HB6:Hid (Bw (MnR s r) w.heap.size w (((w5.setCell ⟨hg,x*3,none⟩ (iV 1)).setCell ⟨hg,x*3+1,none⟩ (iV (x:Int))).setCell ⟨hg,x*3+2,none⟩ (.string ⟨#[]⟩))):=(HBr.o.trans (Bw.ofBelow (HB5.o.mono hsb))).trans ((hB6.mono (by omega)).wide fun k _ hk=> .inr (.inl (by rw[Hhv.o,hk];rfl)))
     have hgw:hg≠w.heap.size:=fun e=>by
      obtain ⟨cu,hcu⟩:=row_blk HMr.o.hp (g:=hg) rfl;have h7:=HXr.o;rw[←e,hcu]at h7
      injection h7 with h7
      injection h7 with _ h8
      cases h8
     have hwl:w.heap.size<wr.heap.size:=(Array.getElem?_eq_some_iff.1 HXr.o).1;have HX6:Hid ((((w5.setCell ⟨hg,x*3,none⟩ (iV 1)).setCell ⟨hg,x*3+1,none⟩ (iV (x:Int))).setCell ⟨hg,x*3+2,none⟩ (.string ⟨#[]⟩)).heap[w.heap.size]?=some (.cells #[iV (c.goal:Int),iV (c.cl:Int),iV (c.hp:Int),iV (c.tr:Int),iV (c.gs:Int)] 78)):=(hg3.block _ (by omega) (fun e=>hgw (Option.some.inj e).symm)).trans ((HB5.o.block _ hwl).trans HXr.o)
     clear hM5 hS5 hg3 hB6 hM6 hgw;go_wp2_with fail;go_roundw
     case rel=>exact ⟨j+1,by omega,by go_num,HM6.o,HX6.o,HB6.o⟩
     case measure=>simp[intOf];omega
   have hxI: ¬((x:Int)<(c.hp:Int)):=by omega
   have HSn:Hid (rstH (h.take c.hp) ((tr.drop c.tr).take (j+1))=rstH (h.take c.hp) ((tr.drop c.tr).take j)):=by rw[Hid,HTk.o,rstH_snoc,if_neg (by rw[HLn.o];exact hxh)]
   go_wp2_with fail;go_roundw
   case rel=>exact ⟨j+1,by omega,by go_num,by rw[HSn.o];exact HMr.o,HXr.o,HBr.o⟩
   case measure=>simp[intOf];omega
  have hjI: ¬((j:Int)<(n:Int)):=by omega
  have HAll:Hid (rstH (h.take c.hp) ((tr.drop c.tr).take j)=rstH (h.take c.hp) (tr.drop c.tr)):=by rw[Hid,show (tr.drop c.tr).take j=tr.drop c.tr from List.take_of_length_le (by rw[List.length_drop];omega)]
  have hM7:MN lo wr s { r with hv:=.slice ha c.hp hcp} (rstH (h.take c.hp) (tr.drop c.tr)) gs cs tr qs an:=by rw[←HAll.o];exact HMr.o
  obtain ⟨⟨_,_,_,_,c4,_⟩,_,cf⟩:=hM7.blk.get
  rw[show ({ r with hv:=.slice ha c.hp hcp}:Rn).tv=.slice ta tr.length tcp from Htv.o]at c4
  have cf4:=cf 4;have htoT:=toN ta tr.length tcp c.tr h2 htc Htn.o Htg.o
  have h9:=hM7.toT (X:=fun _=>False) (v':=.slice ta c.tr tcp) (tr':=tr.take c.tr) (Bw.refl _ _ _) (fun k hk=>hk.elim) (fun A hA=>NM.old (hM7.all A hA).1 (fun k hk=>hk.elim)) (by
   have h8:=hM7.tl
   rw[show ({ r with hv:=.slice ha c.hp hcp}:Rn).tv=.slice ta tr.length tcp from Htv.o]at h8
   have:=row_cut (k:=c.tr) (ys:=natL (tr.take c.tr)) h8 h2 (natL_take tr c.tr) (fun e=>by have:=Htn.o e;omega)
   rw[List.length_take,Nat.min_eq_left h2]
   exact this) (.inl (by rw[show ({ r with hv:=.slice ha c.hp hcp}:Rn).tv=.slice ta tr.length tcp from Htv.o];exact own_same _ _ _ _ _))
  have HM8:Hid (MN lo (wr.setCell ⟨s,4,none⟩ (.slice ta c.tr tcp)).drew s { r with hv:=.slice ha c.hp hcp,tv:=.slice ta c.tr tcp} (rstH (h.take c.hp) (tr.drop c.tr)) gs cs (tr.take c.tr) qs an):=h9.1.below ((Below.refl _ _).drew)
  have hsb:=HBr.o.size;have HB8:Hid (Bw (MnR s r) w.heap.size w (wr.setCell ⟨s,4,none⟩ (.slice ta c.tr tcp)).drew):=(HBr.o.grown (grown_set s 4 _) hsb (fun k e=> .inr (.inl (Option.some.inj e).symm))).drew
  have hwl:w.heap.size<wr.heap.size:=(Array.getElem?_eq_some_iff.1 HXr.o).1;have HX8:Hid ((wr.setCell ⟨s,4,none⟩ (.slice ta c.tr tcp)).drew.heap[w.heap.size]?=some (.cells #[iV (c.goal:Int),iV (c.cl:Int),iV (c.hp:Int),iV (c.tr:Int),iV (c.gs:Int)] 78)):=((grown_set (W:=wr) s 4 _).block _ hwl (fun e=>by have:=Option.some.inj e;omega)).trans HXr.o
  clear h9 hM7 cf;go_wp2_with fail
  go_region
  generalize (wr.setCell ⟨s,4,none⟩ (.slice ta c.tr tcp)).drew=w8 at*;clear k0 k2 k3 k4 c4 cf4 htoT;obtain ⟨k0,k2,k3,k4⟩:=Hb5.o w8 HX8.o;have hM8:=HM8.o;obtain ⟨⟨_,c1,_⟩,_,cf⟩:=hM8.blk.get
  rw[show ({ r with hv:=.slice ha c.hp hcp,tv:=.slice ta c.tr tcp}:Rn).gv=.slice ga gs.length gcp from Hgv.o]at c1
  have cf1:=cf 1;have htoG:=toG_run ga gs.length gcp c.gs h3 hgc
  have h9:=hM8.toG (X:=fun _=>False) (v':=.slice ga c.gs gcp) (gs':=gs.take c.gs) (Bw.refl _ _ _) (fun k hk=>hk.elim) (fun A hA=>NM.old (hM8.all A hA).1 (fun k hk=>hk.elim)) (by
   have h8:=hM8.go
   rw[show ({ r with hv:=.slice ha c.hp hcp,tv:=.slice ta c.tr tcp}:Rn).gv=.slice ga gs.length gcp from Hgv.o]at h8
   have:=row_cut (k:=c.gs) (ys:=flatG (gs.take c.gs)) h8 h3 (flatG_take gs c.gs) (fun e=>by have:=Hgn.o e;omega)
   rw[List.length_take,Nat.min_eq_left h3]
   exact this) (.inl (by rw[show ({ r with hv:=.slice ha c.hp hcp,tv:=.slice ta c.tr tcp}:Rn).gv=.slice ga gs.length gcp from Hgv.o];exact own_same _ _ _ _ _))
  have hM9:=h9.1.below ((Below.refl _ _).drew);have HM9:=hid hM9;have hs8:=HB8.o.size;have HB9:Hid (Bw (MnR s r) w.heap.size w (w8.setCell ⟨s,1,none⟩ (.slice ga c.gs gcp)).drew):=(HB8.o.grown (grown_set s 1 _) hs8 (fun k e=> .inr (.inl (Option.some.inj e).symm))).drew
  have hwl8:w.heap.size<w8.heap.size:=(Array.getElem?_eq_some_iff.1 HX8.o).1;have HX9:Hid ((w8.setCell ⟨s,1,none⟩ (.slice ga c.gs gcp)).drew.heap[w.heap.size]?=some (.cells #[iV (c.goal:Int),iV (c.cl:Int),iV (c.hp:Int),iV (c.tr:Int),iV (c.gs:Int)] 78)):=((grown_set (W:=w8) s 1 _).block _ hwl8 (fun e=>by have:=Option.some.inj e;omega)).trans HX8.o
  clear h9 hM8 hM9 cf;go_wp2_with fail
  go_region
  generalize (w8.setCell ⟨s,1,none⟩ (.slice ga c.gs gcp)).drew=w9 at*;clear k0 k2 k3 k4 c1 cf1 htoG;obtain ⟨k0,k2,k3,k4⟩:=Hb5.o w9 HX9.o;obtain ⟨⟨_,_,c2,_⟩,_,cf⟩:=HM9.o.blk.get;have cf2:=cf 2
  have HMf:Hid (MN lo (w9.setCell ⟨s,2,none⟩ (iV (c.goal:Int))) s { r with hv:=.slice ha c.hp hcp,tv:=.slice ta c.tr tcp,gv:=.slice ga c.gs gcp,first:=(c.goal:Int)} (rstH (h.take c.hp) (tr.drop c.tr)) (gs.take c.gs) cs (tr.take c.tr) qs an):=HM9.o.int 2 (c.goal:Int) rfl ⟨rfl,rfl,rfl,rfl,rfl,rfl⟩
  have hs9:=HB9.o.size;have HBf:Hid (Bw (MnR s r) w.heap.size w (w9.setCell ⟨s,2,none⟩ (iV (c.goal:Int)))):=HB9.o.grown (grown_set s 2 _) hs9 (fun k e=> .inr (.inl (Option.some.inj e).symm))
  clear cf;go_wp2_with fail
  go_end0
  exact ⟨rfl,_,_,_,HMf.o,by rw[Hhv.o];exact own_same _ _ _ _ _,by rw[Hgv.o];exact own_same _ _ _ _ _,by rw[Htv.o];exact own_same _ _ _ _ _,HBf.o⟩
end
end Go.Proofs.YtmggaclaoefdaabGreat

namespace Go.Proofs.YtmggaclaoefdaabGreat
open Go.RowKit
def sameC (x y:Cl):Bool:=(x.k==y.k)&&((x.n==y.n)&&(x.nm.toList==y.nm.toList))
end Go.Proofs.YtmggaclaoefdaabGreat
