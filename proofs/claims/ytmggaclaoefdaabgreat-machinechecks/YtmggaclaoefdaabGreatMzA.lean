/- Part of the proof. -/
import Derived.Test.YtmggaclaoefdaabGreatSq0
import Derived.Test.YtmggaclaoefdaabGreatMz9
namespace Go.Proofs.YtmggaclaoefdaabGreat
open Go.RowKit Go.Shelf
set_option linter.unusedVariables false
set_option linter.unusedSimpArgs false
attribute [local go_sem] Oper.semAt_some
theorem HG.nm8z {h:Nat→Cl} {len:Nat} (H:HG h len) {i:Nat} (hi:i<len):(h i).nm.size≤8:=by
 rcases H.kind i hi with hk|hk
 ·have h1:=H.nmr i hi hk
  have:(h i).nm.toList.length=(h i).nm.size:=by rw[ByteArray.toList_eq];rfl
  rw[h1]at this;simp at this;omega
 ·exact nameB_size (H.nmf i hi hk).1
theorem HG.nmZ {l:List Cl} (H:HG (hOf l) l.length): ∀c∈l,c.nm.size≤maxLen:=fun c hc=>by
 obtain ⟨i,hi,rfl⟩:=List.mem_iff_getElem.1 hc;have:=H.nm8z hi;rw[hOf_get hi]at this;unfold maxLen;omega
structure PM where
 h:List Cl
 gs:List Gq
 cs:List Chq
 tr:List Nat
 first:Nat
 left:Int
 fin:Int
def nosub:Int→Option Int:=fun _=>none
def enP (H:Tm) (X:PM):HSt × Int:=putT H (X.h,nosub)
noncomputable def enR (H:Tm) (at':Nat) (X:PM):MR:=smH (X.left.toNat+1) (enP H X).2.toNat at' (X.left.toNat,(enP H X).1.1,[])
noncomputable def enA (H B:Tm) (at' nx:Nat) (X:PM):AhS:=ahP B.f X.cs.length (bwL B.len) (((enR H at' X).l,(enP H X).1.2),X.gs,nx)
noncomputable def enterP (H B:Tm) (at' nx:Nat) (X:PM):PM × Bool:=
 if fullB (enP H X).1.1 X.gs=true then ({ X with h:=(enP H X).1.1,fin:=3},false)
 else if (enR H at' X).ok=false then ({ X with h:=(enR H at' X).l,tr:=X.tr++(enR H at' X).bs,left:=(enR H at' X).left,fin:=if (enR H at' X).left<0 then 3 else X.fin},false)
 else if fullB (enA H B at' nx X).1.1 (enA H B at' nx X).2.1=true then ({ X with h:=(enA H B at' nx X).1.1,gs:=(enA H B at' nx X).2.1,first:=(enA H B at' nx X).2.2,tr:=X.tr++(enR H at' X).bs,left:=(enR H at' X).left,fin:=3},false)
 else ({ X with h:=(enA H B at' nx X).1.1,gs:=(enA H B at' nx X).2.1,first:=(enA H B at' nx X).2.2,tr:=X.tr++(enR H at' X).bs,left:=(enR H at' X).left,fin:=if (enR H at' X).left<0 then 3 else X.fin},true)
structure MX (lo:Nat) (w:World) (s:Nat) (r:Rn) (X:PM) (qs:List Nat) (an:List Tm):Prop where
 mn:MN lo w s r X.h X.gs X.cs X.tr qs an
 first:r.first=(X.first:Int)
 left:r.left=X.left
 fin:r.fin=X.fin
structure RK (w:World) (s:Nat) (r r':Rn):Prop where
 q:r'.qv=r.qv
 st:r'.st=r.st
 av:r'.av=r.av
 P:r'.P=r.P
 own: ∀k,k<w.heap.size→MnR s r' k→MnR s r k
def EnR (lo:Nat) (w:World) (s:Nat) (r:Rn) (qs:List Nat) (an:List Tm) (Y:PM × Bool) (e:Ending) (w':World):Prop:=e=.returned (.bool Y.2)∧∃r',MX lo w' s r' Y.1 qs an∧RK w s r r'∧Bw (MnR s r) w.heap.size w w'
theorem nosub_put (h:List Cl):PutI h.length (h,nosub):=⟨fun v c e=>(by cases (show (none:Option Int)=some c from e)),fun x h1 h2=>absurd h2 (by show¬x<h.length;omega),Nat.le_refl _⟩
section
variable {lo:Nat} {w w':World} {s:Nat} {r:Rn} {X:PM} {qs:List Nat} {an:List Tm}
theorem rk_tv {w w3:World} {hv' tv':Value} {l f:Int} (h3: ∀k,k<w.heap.size+2→MnR s { r with hv:=hv'} k→MnR s r k) (hs:w.heap.size≤w3.heap.size) (hat:tv'.ownBlock=({ r with hv:=hv'}:Rn).tv.ownBlock∨∃q,tv'.ownBlock=some q∧w3.heap.size≤q) {k:Nat} (hk:k<w.heap.size) (hm:MnR s { r with hv:=hv',tv:=tv',left:=l,fin:=f} k):MnR s r k:=by
 rcases hm with e|e|e|e|e|e
 ·exact .inl e
 ·exact h3 k (by omega) (.inr (.inl e))
 ·exact .inr (.inr (.inl e))
 ·exact .inr (.inr (.inr (.inl e)))
 ·have e2:tv'.ownBlock=some k:=e
  rcases hat with e'| ⟨q,e',hq⟩
  ·rw[e']at e2;exact .inr (.inr (.inr (.inr (.inl e2))))
  ·rw[e']at e2;have:=Option.some.inj e2;omega
 ·exact .inr (.inr (.inr (.inr (.inr e))))
set_option maxRecDepth 100000 in
set_option maxHeartbeats 8000000 in
theorem menter_any {H B:Tm} {at' nx n:Nat} (w:World) (M:MX lo w s r X qs an) (hlo:lo≤w.heap.size) (hG:HG (hOf X.h) X.h.length)
 (hH:TIn w H∧Okv 12 H∧err H=0∧cnt H≤1000∧NM (MnR s r) H) (hB:TIn w B∧NM (MnR s r) B∧B.len≤100∧∀i,i<B.len→Okv 12 (B.f i)∧err (B.f i)=0∧cnt (B.f i)≤1000)
 (hat:at'<X.h.length) (hg5:X.gs.length≤10000) (hn:X.left=(n:Int)∧n≤4000) (htr:X.tr.length≤9000000):
 Calls Tryz.prog 139 #[.pointer (some ⟨s,0,none⟩),.agg #[iV H.v,.string H.nm,.slice H.a H.len H.cap,.slice B.a B.len B.cap],iV (at':Int),iV (nx:Int)] w (EnR lo w s r qs an (enterP H B at' nx X)):=by
 obtain ⟨w1,hw1⟩: ∃w1,w.alloc (.cells #[iV H.v,.string H.nm,.slice H.a H.len H.cap,.slice B.a B.len B.cap] 107)=w1:=⟨_,rfl⟩;have hB1:Below w.heap.size w w1:=by rw[←hw1];exact (Below.refl _ _).alloc (Nat.le_refl _) _
 have hs1:w1.heap.size=w.heap.size+1:=by rw[←hw1];simp
 have hX1:w1.heap[w.heap.size]?=some (.cells #[iV H.v,.string H.nm,.slice H.a H.len H.cap,.slice B.a B.len B.cap] 107):=by rw[←hw1];exact heap_alloc_new _ _
 have hlen:=hG.ok.few;have hmm:= @run_makeMap Tryz.prog;obtain ⟨w2,hw2⟩: ∃w2,w1.alloc (.map #[] 0)=w2:=⟨_,rfl⟩;have hB12:Below w1.heap.size w1 w2:=by rw[←hw2];exact (Below.refl _ _).alloc (Nat.le_refl _) _
 have hB2:=hB1.trans (hB12.mono hB1.size);have hs2:w2.heap.size=w.heap.size+2:=by rw[←hw2];simp;omega
 have hX2:=(hB12.block _ (by omega)).trans hX1
 have hI2:IM w2 (w.heap.size+1) nosub:=by rw[←hw2,←hs1];exact IM.made w1
 have hM2:MN lo w2 s r X.h X.gs X.cs X.tr qs an:=M.mn.below hB2;have hnew: ∀{Z:Tm},TIn w Z→∀k,w.heap.size≤k→NB k Z:=fun hZ k hk=>(NM.old (M:=fun k=>w.heap.size≤k) hZ (fun k h=>h)).nb hk
 have hPt:Calls Tryz.prog 56 #[.pointer (some ⟨s,0,none⟩),.agg #[iV H.v,.string H.nm,.slice H.a H.len H.cap],.map (some (w.heap.size+1))] w2 (PuR lo w2 s (w.heap.size+1) r X.gs X.cs X.tr qs an (enP H X)):=
  mput_any w2 hM2 hI2 (hH.1.below hB2) hH.2.1 hH.2.2.2.2 (hnew hH.1 _ (by omega)) (fun A hA=>hnew (M.mn.all A hA).1 _ (by omega)) (by have:=hH.2.2.2.1;omega) (by omega)
 have HPt:Hid (Calls Tryz.prog 56 #[.pointer (some ⟨s,0,none⟩),.agg #[iV H.v,.string H.nm,.slice H.a H.len H.cap],.map (some (w.heap.size+1))] w2 (PuR lo w2 s (w.heap.size+1) r X.gs X.cs X.tr qs an (enP H X))):=hPt;have HPo:Hid (PutO X.h.length (X.h,nosub) H (enP H X)):=putT_po H hH.2.2.1 (X.h,nosub) (nosub_put X.h);have HX2:Hid (w2.heap[w.heap.size]?=some (.cells #[iV H.v,.string H.nm,.slice H.a H.len H.cap,.slice B.a B.len B.cap] 107)):=hX2;have HM0:Hid (MX lo w s r X qs an):=M;have HH:Hid (TIn w H∧Okv 12 H∧err H=0∧cnt H≤1000∧NM (MnR s r) H):=hH;have HBd:Hid (TIn w B∧NM (MnR s r) B∧B.len≤100∧∀i,i<B.len→Okv 12 (B.f i)∧err (B.f i)=0∧cnt (B.f i)≤1000):=hB;have HG0:Hid (HG (hOf X.h) X.h.length):=hG;have Hn:Hid (X.left=(n:Int)∧n≤4000):=hn;have HB2:Hid (Below w.heap.size w w2):=hB2;have HNw:Hid (∀{Z:Tm},TIn w Z→∀k,w.heap.size≤k→NB k Z):=hnew;obtain ⟨x0,x1,x2,x3⟩:w2.cell? ⟨w.heap.size,0,none⟩=some (iV H.v)∧w2.cell? ⟨w.heap.size,1,none⟩=some (.string H.nm)∧w2.cell? ⟨w.heap.size,2,none⟩=some (.slice H.a H.len H.cap)∧w2.cell? ⟨w.heap.size,3,none⟩=some (.slice B.a B.len B.cap):=⟨by simp[World.cell?,hX2],by simp[World.cell?,hX2],by simp[World.cell?,hX2],by simp[World.cell?,hX2]⟩
 have hsl:=M.mn.blk.lt
 have HMl:Hid (∀k,MnR s r k→k<w.heap.size):=fun k hm=>by
  rcases hm with e|e|e|e|e|e
  ·omega
  ·exact rowLt M.mn.hp e
  ·exact rowLt M.mn.go e
  ·exact rowLt M.mn.ch e
  ·exact rowLt M.mn.tl e
  ·exact rowLt M.mn.anr e
 obtain ⟨t,ht,htl,_⟩:=HPo.o.at_;clear hPt hM2 hI2 hH hB hG hn hB12 hB1 hX1 hX2 M hB2 hnew
 go_enter Tryz.func139,Tryz.ntmps139
 go_wp2_with fail;refine HPt.o.mono ?_;rintro e w3 ⟨hv',rfl,hM3,hI3,hB3,hat3⟩;rw[ht]
 have hB3w:Bw (MnR s r) w.heap.size w w3:=(Bw.ofBelow HB2.o).trans ((hB3.mono (by omega)).wide fun k hk hX=>by
  rcases hX with e|e|e
  ·exact .inl e
  ·omega
  ·exact .inr (.inl e))
 have hv3: ∀k,k<w.heap.size+2→hv'.ownBlock=some k→r.hv.ownBlock=some k:=fun k hk e=>by
  rcases hat3 with e'| ⟨q,e',hq⟩
  ·rw[←e'];exact e
  ·rw[e']at e;have:=Option.some.inj e;omega
 have hR3: ∀k,k<w.heap.size+2→MnR s { r with hv:=hv'} k→MnR s r k:=fun k hk hm=>by
  rcases hm with e|e|e
  ·exact .inl e
  ·exact .inr (.inl (hv3 k hk e))
  ·exact .inr (.inr e)
 have hn3: ∀k,w.heap.size≤k→k<w.heap.size+2→¬MnR s { r with hv:=hv'} k:=fun k h1 h2 hm=>by
  have:=HMl.o k (hR3 k h2 hm);omega
 have hX3:w3.heap[w.heap.size]?=some (.cells #[iV H.v,.string H.nm,.slice H.a H.len H.cap,.slice B.a B.len B.cap] 107):=(hB3.block _ (by omega) (fun hX=>by
  rcases hX with e|e|e
  ·omega
  ·omega
  ·have:=HMl.o _ (.inr (.inl e));omega)).trans HX2.o
 have HM3:=hid hM3;have HI3:Hid (IM w3 (w.heap.size+1) (enP H X).1.2):=hI3;have HB3:Hid (Bw (MnR s r) w.heap.size w w3):=hB3w
 have HR3:Hid (∀k,k<w.heap.size+2→MnR s { r with hv:=hv'} k→MnR s r k):=hR3
 have Hn3:Hid (∀k,w.heap.size≤k→k<w.heap.size+2→¬MnR s { r with hv:=hv'} k):=hn3
 have HX3:Hid (w3.heap[w.heap.size]?=some (.cells #[iV H.v,.string H.nm,.slice H.a H.len H.cap,.slice B.a B.len B.cap] 107)):=hX3;have hs3:w.heap.size+2≤w3.heap.size:=by have:=hB3.size;omega
 clear hM3 hI3 hB3 hB3w hat3 hv3 hR3 hn3 hX3 x0 x1 x2 x3 hmm hw1 hw2 hs1 HPt HX2 HB2 hs2
 have HF:Hid (Calls Tryz.prog 163 #[.pointer (some ⟨s,0,none⟩)] w3 fun e w'=>e=.returned (.bool (fullB (enP H X).1.1 X.gs))∧(fullB (enP H X).1.1 X.gs=false→w'=w3)∧(fullB (enP H X).1.1 X.gs=true→MN lo w' s { r with hv:=hv',fin:=3} (enP H X).1.1 X.gs X.cs X.tr qs an∧Bw (fun k=>k=s) w3.heap.size w3 w')):=mfull_any w3 HM3.o
 cases hf:fullB (enP H X).1.1 X.gs with
 |true=>
  have HE:Hid (enterP H B at' nx X=({ X with h:=(enP H X).1.1,fin:=3},false)):=by rw[Hid,enterP,if_pos hf]
  rw[hf]at HF;clear hf;go_wp2_with fail;refine HF.o.mono ?_;rintro e w4 ⟨rfl,_,h4⟩
  have HM4:Hid (MN lo w4 s { r with hv:=hv',fin:=3} (enP H X).1.1 X.gs X.cs X.tr qs an∧Bw (fun k=>k=s) w3.heap.size w3 w4):=h4 (by first|rfl|trivial)
  clear h4;go_wp2_with fail;go_ret;rw[HE.o];exact ⟨rfl,_,⟨HM4.o.1,HM0.o.first,HM0.o.left,rfl⟩,⟨rfl,rfl,rfl,rfl,fun k hk hm=>HR3.o k (by omega) hm⟩,HB3.o.trans ((HM4.o.2.mono (by omega)).wide fun k _ hk=> .inl hk)⟩
 |false=>
  have Hf:Hid (fullB (enP H X).1.1 X.gs=false):=hf
  have hl1:(enP H X).1.1.length≤400000:=by
   unfold fullB at hf;simp at hf;omega
  have hG3:HG (hOf (enP H X).1.1) (enP H X).1.1.length:=HPo.o.inv.hg HG0.o HPo.o.old hl1;have hl0:X.h.length≤(enP H X).1.1.length:=HPo.o.len
  have hER:enR H at' X=smH (n+1) t at' (n,(enP H X).1.1,[]):=by
   unfold enR;rw[ht,Hn.o.1,Int.toNat_natCast,Int.toNat_natCast]
  have HSm:Hid (Calls Tryz.prog 112 #[.pointer (some ⟨s,0,none⟩),iV (t:Int),iV (at':Int)] w3 (MsR lo w3 s { r with hv:=hv'} X.gs X.cs X.tr qs an (enR H at' X))):=by
   rw[Hid,hER];exact msame_M w3 HM3.o (by omega) hG3 hG3.nmZ htl (by omega) Hn.o.2 (HM0.o.left.trans Hn.o.1) (by omega)
  have HGd:Hid ((enR H at' X).Good (n,(enP H X).1.1,[])):=by
   rw[Hid,hER];exact smH_good (n+1) t at' (n,(enP H X).1.1,[]) ⟨hG3,hG3.nmZ⟩ htl (by show at'<(enP H X).1.1.length;omega)
  rw[hf]at HF;clear hf hG3 hER
  cases hok:(enR H at' X).ok with
  |false=>
   have HE:Hid (enterP H B at' nx X=({ X with h:=(enR H at' X).l,tr:=X.tr++(enR H at' X).bs,left:=(enR H at' X).left,fin:=if (enR H at' X).left<0 then 3 else X.fin},false)):=by rw[Hid,enterP,if_neg (by rw[Hf.o];simp),if_pos hok]
   have Hok:Hid ((enR H at' X).ok=false):=hok;clear hok
   go_wp2_with (first
    | (go_at_call 163
       refine HF.o.mono ?_;rintro e w4 ⟨rfl,h4,_⟩;obtain rfl:=h4 (by first|rfl|trivial)
       clear h4)
    | (go_at_call 112
       refine HSm.o.mono ?_;rintro e w5 ⟨rfl,tv',hM5,hB5,hat5⟩;rw[Hok.o];have HM5:Hid _:=hM5;have HB5:Hid _:=hB5;have HA5:Hid _:=hat5;clear hM5 hB5 hat5))
   go_ret;rw[HE.o];refine ⟨rfl,_,⟨HM5.o,HM0.o.first,rfl,by show (if _ then _ else _)=_;rw[←HM0.o.fin]⟩,⟨rfl,rfl,rfl,rfl,fun k hk hm=>?_⟩,HB3.o.trans ((HB5.o.mono (by omega)).wide fun k hk hm=>HR3.o k (by omega) hm)⟩
   exact rk_tv HR3.o (by omega) HA5.o hk hm
  |true=>
   have Hok:Hid ((enR H at' X).ok=true):=hok
   have hPI:PutI (enR H at' X).l.length ((enR H at' X).l,(enP H X).1.2):=⟨fun v c e=>by
    obtain ⟨y,e1,e2,_⟩:=HPo.o.inv.var v c e;have h1:=HGd.o.len;have h2:(enR H at' X).l.length=(enP H X).1.1.length:=h1;exact ⟨y,e1,by show y<(enR H at' X).l.length;omega,fun h3=>absurd h3 (by omega)⟩,fun x h1 h2=>absurd h2 (by show¬x<(enR H at' X).l.length;omega),Nat.le_refl _⟩
   have HPI:=hid hPI;have hll:=HGd.o.len;have Hll:=hid hll;obtain ⟨sc,cc,hcv,_⟩:=row_nil HM3.o.ch;have Hcv:=hid hcv;have hNb: ¬(enR H at' X).ok=false:=by rw[hok];simp
   have HN1:=hid hNb;clear hok hPI hll hcv hNb
   go_wp2_with (first
    | (go_at_call 163
       refine HF.o.mono ?_;rintro e w4 ⟨rfl,h4,_⟩;obtain rfl:=h4 (by first|rfl|trivial)
       clear h4)
    | (go_at_call 112
       refine HSm.o.mono ?_;rintro e w5 ⟨rfl,tv',hM5,hB5,hat5⟩;rw[Hok.o];have HM5:Hid _:=hM5;have HB5:Hid _:=hB5;have HA5:Hid _:=hat5;clear hM5 hB5 hat5))
   have hB5w:Bw (MnR s r) w.heap.size w w5:=HB3.o.trans ((HB5.o.mono (by omega)).wide fun k hk hm=>HR3.o k (by omega) hm)
   have hs5:=HB5.o.size;have hX5:=(HB5.o.block _ (by omega) (Hn3.o _ (by omega) (by omega))).trans HX3.o
   have hI5:=HI3.o.keep (HB5.o.block _ (by omega) (Hn3.o _ (by omega) (by omega)))
   have hO5: ∀k,k<w.heap.size→MnR s { r with hv:=hv',tv:=tv',left:=(enR H at' X).left,fin:=if (enR H at' X).left<0 then 3 else r.fin} k→MnR s r k:=fun k hk hm=>rk_tv HR3.o (by omega) HA5.o hk hm
   have hT5:TIn w5 B:=HBd.o.1.bw hB5w (Nat.le_refl _) HBd.o.2.1;have hN5:=HBd.o.2.1.anti HBd.o.1 hO5
   have HAh:Hid (∀W,Below w5.heap.size w5 W→Calls Tryz.prog 57 #[.pointer (some ⟨s,0,none⟩),.slice B.a B.len B.cap,.agg #[iV 0,iV (X.cs.length:Int),iV (nx:Int)],.map (some (w.heap.size+1))] W (fun e w'=>e=.returned (.tuple #[])∧∃hv6 gv6,MN lo w' s { r with hv:=hv6,gv:=gv6,tv:=tv',first:=((enA H B at' nx X).2.2:Int),left:=(enR H at' X).left,fin:=if (enR H at' X).left<0 then 3 else r.fin} (enA H B at' nx X).1.1 (enA H B at' nx X).2.1 X.cs (X.tr++(enR H at' X).bs) qs an∧Bw (AhM s (w.heap.size+1) { r with hv:=hv',tv:=tv',left:=(enR H at' X).left,fin:=if (enR H at' X).left<0 then 3 else r.fin}) W.heap.size W w'∧(hv6.ownBlock=hv'.ownBlock∨∃k,hv6.ownBlock=some k∧W.heap.size≤k)∧(gv6.ownBlock=r.gv.ownBlock∨∃k,gv6.ownBlock=some k∧W.heap.size≤k))):=fun W hW=>by
    have hb:=HBd.o.2.2.1;refine (mahead_any (T:=B) (m:=w.heap.size+1) (c:=X.cs.length) (nx:=nx) (ga:=0) W (HM5.o.below hW) (hI5.kept (grown_of_below hW none) (by simp)) (hT5.below hW) HBd.o.2.2.2 hN5 (HNw.o HBd.o.1 _ (by omega)) (fun A hA=>HNw.o (HM0.o.mn.all A hA).1 _ (by omega)) HPI.o (by have:=Hll.o;omega) (by omega) (by have:=hW.size;omega)).mono ?_
    rintro e w' ⟨he,hv6,gv6,h1,_,_,h2,h3,h4⟩;exact ⟨he,hv6,gv6,h1,h2,h3,h4⟩
   have HKp:Hid (∀W:World,(∃r',RBk W s r'∧r'.cv=r.cv)∧W.heap[w.heap.size]?=some (.cells #[iV H.v,.string H.nm,.slice H.a H.len H.cap,.slice B.a B.len B.cap] 107)→W.cell? ⟨w.heap.size,3,none⟩=some (.slice B.a B.len B.cap)∧W.cell? ⟨s,3,none⟩=some (.slice sc X.cs.length cc)):=fun W hW=>by
    obtain ⟨⟨r',hr,hc⟩,hx⟩:=hW;obtain ⟨⟨_,_,_,c3,_⟩,_⟩:=hr.get;exact ⟨by simp[World.cell?,hx],by rw[c3,hc,Hcv.o]⟩
   have HB0:Hid ((∃r',RBk w5 s r'∧r'.cv=r.cv)∧w5.heap[w.heap.size]?=some (.cells #[iV H.v,.string H.nm,.slice H.a H.len H.cap,.slice B.a B.len B.cap] 107)):=⟨⟨_,HM5.o.blk,rfl⟩,hX5⟩;have HX5:=hid hX5
   have HO5:Hid (∀k,k<w.heap.size→MnR s { r with hv:=hv',tv:=tv',left:=(enR H at' X).left,fin:=if (enR H at' X).left<0 then 3 else r.fin} k→MnR s r k):=hO5
   have HB5w:Hid (Bw (MnR s r) w.heap.size w w5):=hB5w
   have HH5:Hid (∀k,hv'.ownBlock=some k→k<w.heap.size→r.hv.ownBlock=some k):=fun k e hk=>by
    rcases hO5 k hk (.inr (.inl e))with e'|e'|e'|e'|e'|e'
    ·exact absurd e (by rw[e'];exact HM3.o.apart.h1.1)
    ·exact e'
    ·exact absurd e' (HM3.o.apart.hh k e).1
    ·exact absurd e' (HM3.o.apart.hh k e).2.1
    ·exact absurd e' (HM3.o.apart.hh k e).2.2.1
    ·exact absurd e' (HM3.o.apart.hh k e).2.2.2.2
   obtain ⟨p3,ps3⟩:=HKp.o w5 HB0.o;clear hB5w hX5 hI5 hO5 hT5 hN5
   go_region_held3 (fun W=>W.cell? ⟨w.heap.size,3,none⟩=some (.slice B.a B.len B.cap)∧W.cell? ⟨s,3,none⟩=some (.slice sc X.cs.length cc)) ((exact HKp.o _ HB0.o)) (first
    | (go_at_call 57
       refine (HAh.o _ (by repeat (first|exact Below.refl _ _|refine Below.drew ?_))).mono ?_
       rintro e w6 ⟨rfl,hv6,gv6,hM6,hB6,ho6,hg6⟩
       have HB6:Hid (Bw (AhM s (w.heap.size+1) { r with hv:=hv',tv:=tv',left:=(enR H at' X).left,fin:=if (enR H at' X).left<0 then 3 else r.fin}) w5.heap.size w5 w6):=Bw.trans (by repeat (first|exact Bw.refl _ _ _|refine Bw.drew ?_)) (hB6.mono (Nat.le_refl _))
       have HM6:Hid (MN lo w6 s { r with hv:=hv6,gv:=gv6,tv:=tv',first:=((enA H B at' nx X).2.2:Int),left:=(enR H at' X).left,fin:=if (enR H at' X).left<0 then 3 else r.fin} (enA H B at' nx X).1.1 (enA H B at' nx X).2.1 X.cs (X.tr++(enR H at' X).bs) qs an):=hM6
       have Ho6:Hid (hv6.ownBlock=hv'.ownBlock∨∃k,hv6.ownBlock=some k∧w5.heap.size≤k):=ho6;have Hg6:Hid (gv6.ownBlock=r.gv.ownBlock∨∃k,gv6.ownBlock=some k∧w5.heap.size≤k):=hg6
       replace HB0:Hid ((∃r',RBk w6 s r'∧r'.cv=r.cv)∧w6.heap[w.heap.size]?=some (.cells #[iV H.v,.string H.nm,.slice H.a H.len H.cap,.slice B.a B.len B.cap] 107)):=⟨⟨_,hM6.blk,rfl⟩,(HB6.o.block _ (by omega) (fun hm=>by
        rcases hm with e|e|e|e
        ·omega
        ·omega
        ·have e2:hv'.ownBlock=some w.heap.size:=e
         exact Hn3.o _ (Nat.le_refl _) (by omega) (.inr (.inl e2))
        ·have e2:r.gv.ownBlock=some w.heap.size:=e
         have:=HMl.o _ (.inr (.inr (.inl e2)));omega)).trans HX5.o⟩
       clear hM6 hB6 ho6 hg6))
   all_goals
    have hs6:=HB6.o.size;have hs45:w4.heap.size≤w5.heap.size:=HB5.o.size
    have HRK:Hid (∀(f:Int) (k:Nat),k<w.heap.size→MnR s { r with hv:=hv6,gv:=gv6,tv:=tv',first:=((enA H B at' nx X).2.2:Int),left:=(enR H at' X).left,fin:=f} k→MnR s r k):=fun f k hk hm=>by
     rcases hm with e|e|e|e|e|e
     ·exact .inl e
     ·have e2:hv6.ownBlock=some k:=e
      rcases Ho6.o with e'| ⟨q,e',hq⟩
      ·rw[e']at e2;exact .inr (.inl (HH5.o k e2 hk))
      ·rw[e']at e2;have:=Option.some.inj e2;omega
     ·have e2:gv6.ownBlock=some k:=e
      rcases Hg6.o with e'| ⟨q,e',hq⟩
      ·rw[e']at e2;exact .inr (.inr (.inl e2))
      ·rw[e']at e2;have:=Option.some.inj e2;omega
     ·exact .inr (.inr (.inr (.inl e)))
     ·exact HO5.o k hk (.inr (.inr (.inr (.inr (.inl e)))))
     ·exact .inr (.inr (.inr (.inr (.inr e))))
    have HBw:Hid (Bw (MnR s r) w.heap.size w w6):=HB5w.o.trans ((HB6.o.mono (by omega)).wide fun k hk hm=>by
     rcases hm with e|e|e|e
     ·exact .inl e
     ·omega
     ·exact .inr (.inl (HH5.o k e hk))
     ·exact .inr (.inr (.inl e)))
    have HF6:=hid (mfull_any w6 HM6.o)
    cases hf6:fullB (enA H B at' nx X).1.1 (enA H B at' nx X).2.1 with
    |true=>
     have HE:Hid (enterP H B at' nx X=({ X with h:=(enA H B at' nx X).1.1,gs:=(enA H B at' nx X).2.1,first:=(enA H B at' nx X).2.2,tr:=X.tr++(enR H at' X).bs,left:=(enR H at' X).left,fin:=3},false)):=by rw[Hid,enterP,if_neg (by rw[Hf.o];simp),if_neg HN1.o,if_pos hf6]
     rw[hf6]at HF6;clear hf6 HB0;go_wp2_with fail;refine HF6.o.mono ?_;rintro e w7 ⟨rfl,_,h7⟩
     have HM7:Hid (MN lo w7 s { r with hv:=hv6,gv:=gv6,tv:=tv',first:=((enA H B at' nx X).2.2:Int),left:=(enR H at' X).left,fin:=3} (enA H B at' nx X).1.1 (enA H B at' nx X).2.1 X.cs (X.tr++(enR H at' X).bs) qs an∧Bw (fun k=>k=s) w6.heap.size w6 w7):=h7 (by first|rfl|trivial)
     clear h7;go_wp2_with fail;go_ret;rw[HE.o];exact ⟨rfl,_,⟨HM7.o.1,rfl,rfl,rfl⟩,⟨rfl,rfl,rfl,rfl,fun k hk hm=>HRK.o 3 k hk hm⟩,HBw.o.trans ((HM7.o.2.mono (by omega)).wide fun k _ hk=> .inl hk)⟩
    |false=>
     have HE:Hid (enterP H B at' nx X=({ X with h:=(enA H B at' nx X).1.1,gs:=(enA H B at' nx X).2.1,first:=(enA H B at' nx X).2.2,tr:=X.tr++(enR H at' X).bs,left:=(enR H at' X).left,fin:=if (enR H at' X).left<0 then 3 else X.fin},true)):=by rw[Hid,enterP,if_neg (by rw[Hf.o];simp),if_neg HN1.o,if_neg (by rw[hf6];simp)]
     rw[hf6]at HF6;clear hf6 HB0;go_wp2_with fail;refine HF6.o.mono ?_;rintro e w7 ⟨rfl,h7,_⟩;obtain rfl:=h7 (by first|rfl|trivial)
     clear h7;go_wp2_with fail;go_ret;rw[HE.o];exact ⟨rfl,_,⟨HM6.o,rfl,rfl,by show (if _ then _ else _)=_;rw[←HM0.o.fin]⟩,⟨rfl,rfl,rfl,rfl,fun k hk hm=>HRK.o _ k hk hm⟩,HBw.o⟩
end
end Go.Proofs.YtmggaclaoefdaabGreat
