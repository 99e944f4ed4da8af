/- Part of the proof. -/
import Derived.Test.YtmggaclaoefdaabGreatMz9
namespace Go.Proofs.YtmggaclaoefdaabGreat
open Go.RowKit Go.Shelf Go.Proofs.Tryz
set_option linter.unusedVariables false
set_option linter.unusedSimpArgs false
set_option maxRecDepth 100000
set_option maxHeartbeats 8000000
attribute [local go_sem] Oper.semAt_some
theorem HG.nm8z {h:Nat->Cl} {len:Nat} (H:HG h len) {i:Nat} (hi:i<len):(h i).nm.size<=8:=by
 rcases H.kind i hi with hk|hk
 .have h1:=H.nmr i hi hk
  have:(h i).nm.toList.length=(h i).nm.size:=by rw[ByteArray.toList_eq];rfl
  rw[h1]at this;simp at this;omega
 .exact El (H.nmf i hi hk).1
theorem HG.nmZ {l:List Cl} (H:HG (ah l) l.length): ∀c∈l,c.nm.size<=maxLen:=fun c hc=>by
 obtain ⟨i,hi,rfl⟩:=List.mem_iff_getElem.1 hc;have:=H.nm8z hi;rw[jg hi]at this;unfold maxLen;omega
structure PM where
 h:List Cl
 gs:List Gq
 cs:List jo
 tr:List Nat
 first:Nat
 left:Int
 fin:Int
def el:Int->Option Int:=fun _=>none
def dk (H:Tm) (X:PM):HSt × Int:=bp H (X.h,el)
noncomputable def dh (H:Tm) (at':Nat) (X:PM):MR:=jn (X.left.toNat+1) (dk H X).2.toNat at' (X.left.toNat,(dk H X).1.1,[])
noncomputable def gu (H B:Tm) (at' nx:Nat) (X:PM):Ax:=ahP B.f X.cs.length (ke B.len) (((dh H at' X).l,(dk H X).1.2),X.gs,nx)
noncomputable def a7 (H B:Tm) (at' nx:Nat) (X:PM):PM × Bool:=
 if dp (dk H X).1.1 X.gs=true then ({ X with h:=(dk H X).1.1,fin:=3},false)
 else if (dh H at' X).ok=false then ({ X with h:=(dh H at' X).l,tr:=X.tr++(dh H at' X).bs,left:=(dh H at' X).left,fin:=if (dh H at' X).left<0 then 3 else X.fin},false)
 else if dp (gu H B at' nx X).1.1 (gu H B at' nx X).2.1=true then ({ X with h:=(gu H B at' nx X).1.1,gs:=(gu H B at' nx X).2.1,first:=(gu H B at' nx X).2.2,tr:=X.tr++(dh H at' X).bs,left:=(dh H at' X).left,fin:=3},false)
 else ({ X with h:=(gu H B at' nx X).1.1,gs:=(gu H B at' nx X).2.1,first:=(gu H B at' nx X).2.2,tr:=X.tr++(dh H at' X).bs,left:=(dh H at' X).left,fin:=if (dh H at' X).left<0 then 3 else X.fin},true)
structure MX (lo:Nat) (w:World) (s:Nat) (r:Rn) (X:PM) (qs:List Nat) (an:List Tm):Prop where
 mn:MN lo w s r X.h X.gs X.cs X.tr qs an
 first:r.first=(X.first:Int)
 left:r.left=X.left
 fin:r.fin=X.fin
structure RK (w:World) (s:Nat) (r r':Rn):Prop where
 q:r'.qv=r.qv
 st:r'.st=r.st
 av:r'.av=r.av
 P:r'.P=r.P
 own: ∀k,k<w.heap.size->cm s r' k->cm s r k
def Rs (lo:Nat) (w:World) (s:Nat) (r:Rn) (qs:List Nat) (an:List Tm) (Y:PM × Bool) (e:Ending) (w':World):Prop:=e=.returned (.bool Y.2)/\∃r',MX lo w' s r' Y.1 qs an/\RK w s r r'/\Bw (cm s r) w.heap.size w w'
theorem jt (h:List Cl):li h.length (h,el):=⟨fun v c e=>(by cases (show (none:Option Int)=some c from e)),fun x h1 h2=>absurd h2 (by show¬x<h.length;omega),lZ⟩
section
variable {lo:Nat} {w w':World} {s:Nat} {r:Rn} {X:PM} {qs:List Nat} {an:List Tm}
theorem P0 {w w3:World} {hv' tv':Value} {l f:Int} (h3: ∀k,k<w.heap.size+2->cm s { r with hv:=hv'} k->cm s r k) (hs:w.heap.size<=w3.heap.size) (hat:tv'.ownBlock=({ r with hv:=hv'}:Rn).tv.ownBlock\/∃q,tv'.ownBlock=some q/\w3.heap.size<=q) {k:Nat} (hk:k<w.heap.size) (hm:cm s { r with hv:=hv',tv:=tv',left:=l,fin:=f} k):cm s r k:=by
 rcases hm with e|e|e|e|e|e
 .exact .inl e
 .exact h3 k (by omega) (.inr (.inl e))
 .exact rZ (.inl e)
 .exact rZ (.inr (.inl e))
 .have e2:tv'.ownBlock=some k:=e
  rcases hat with e'| ⟨q,e',hq⟩
  .rw[e']at e2;exact rZ (rZ (.inl e2))
  .rw[e']at e2;have:=oj e2;omega
 .exact rZ (rZ (.inr e))
theorem Ep {H B:Tm} {at' nx n:Nat} (w:World) (M:MX lo w s r X qs an) (hlo:lo<=w.heap.size) (hG:HG (ah X.h) X.h.length)
 (hH:ay w H/\d9 12 H/\iz H=0/\cnt H<=1000/\NM (cm s r) H) (hB:ay w B/\NM (cm s r) B/\B.len<=100/\∀i,i<B.len->d9 12 (B.f i)/\iz (B.f i)=0/\cnt (B.f i)<=1000)
 (hat:at'<X.h.length) (hg5:X.gs.length<=10000) (hn:X.left=(n:Int)/\n<=4000) (htr:X.tr.length<=9000000):
 Calls prog 139 #[.pointer (some ⟨s,0,none⟩),.agg #[iV H.v,.string H.nm,.slice H.a H.len H.cap,.slice B.a B.len B.cap],iV (at':Int),iV (nx:Int)] w (Rs lo w s r qs an (a7 H B at' nx X)):=by
 obtain ⟨w1,hw1⟩: ∃w1,w.alloc (.cells #[iV H.v,.string H.nm,.slice H.a H.len H.cap,.slice B.a B.len B.cap] 107)=w1:=⟨_,rfl⟩;have hB1:Below w.heap.size w w1:=by rw[<-hw1];exact bA
 have hs1:w1.heap.size=w.heap.size+1:=by rw[<-hw1];simp
 have hX1:w1.heap[w.heap.size]?=some (.cells #[iV H.v,.string H.nm,.slice H.a H.len H.cap,.slice B.a B.len B.cap] 107):=by rw[<-hw1];exact hZ _ _
 have hlen:=hG.ok.few;have hmm:= @run_makeMap prog;obtain ⟨w2,hw2⟩: ∃w2,w1.alloc (.map #[] 0)=w2:=⟨_,rfl⟩;have hB12:Below w1.heap.size w1 w2:=by rw[<-hw2];exact bA
 have hB2:=hB1.trans (hB12.mono hB1.size);have hs2:w2.heap.size=w.heap.size+2:=by rw[<-hw2];simp;omega
 have hX2:=(hB12.block _ (by omega)).trans hX1
 have hI2:IM w2 (w.heap.size+1) el:=by rw[<-hw2,<-hs1];exact IM.made w1
 have hM2:MN lo w2 s r X.h X.gs X.cs X.tr qs an:=M.mn.below hB2;have hnew: ∀{Z:Tm},ay w Z->∀k,w.heap.size<=k->NB k Z:=fun hZ k hk=>(NM.old (M:=fun k=>w.heap.size<=k) hZ (fun k h=>h)).nb hk
 have hPt:Calls prog 56 #[pZ s,.agg #[iV H.v,.string H.nm,.slice H.a H.len H.cap],.map (some (w.heap.size+1))] w2 (S9 lo w2 s (w.heap.size+1) r X.gs X.cs X.tr qs an (dk H X)):=
  uk w2 hM2 hI2 (hH.1.below hB2) hH.2.1 hH.2.2.2.2 (hnew hH.1 _ (by omega)) (fun A hA=>hnew (M.mn.all A hA).1 _ (by omega)) (by have:=hH.2.2.2.1;omega) (by omega)
 have HPt:Hid (Calls prog 56 #[pZ s,.agg #[iV H.v,.string H.nm,.slice H.a H.len H.cap],.map (some (w.heap.size+1))] w2 (S9 lo w2 s (w.heap.size+1) r X.gs X.cs X.tr qs an (dk H X))):=hPt;have HPo:Hid (ws X.h.length (X.h,el) H (dk H X)):=iw H hH.2.2.1 (X.h,el) (jt X.h);have HX2:Hid (w2.heap[w.heap.size]?=some (.cells #[iV H.v,.string H.nm,.slice H.a H.len H.cap,.slice B.a B.len B.cap] 107)):=hX2;have HM0:Hid (MX lo w s r X qs an):=M;have HH:Hid (ay w H/\d9 12 H/\iz H=0/\cnt H<=1000/\NM (cm s r) H):=hH;have HBd:Hid (ay w B/\NM (cm s r) B/\B.len<=100/\∀i,i<B.len->d9 12 (B.f i)/\iz (B.f i)=0/\cnt (B.f i)<=1000):=hB;have HG0:Hid (HG (ah X.h) X.h.length):=hG;have Hn:Hid (X.left=(n:Int)/\n<=4000):=hn;have HB2:Hid (Below w.heap.size w w2):=hB2;have HNw:Hid (∀{Z:Tm},ay w Z->∀k,w.heap.size<=k->NB k Z):=hnew;obtain ⟨x0,x1,x2,x3⟩:w2.cell? (dZ w.heap.size 0)=some (iV H.v)/\w2.cell? (dZ w.heap.size 1)=some (.string H.nm)/\w2.cell? (dZ w.heap.size 2)=some (.slice H.a H.len H.cap)/\w2.cell? (dZ w.heap.size 3)=some (.slice B.a B.len B.cap):=⟨by simp[World.cell?,hX2],by simp[World.cell?,hX2],by simp[World.cell?,hX2],by simp[World.cell?,hX2]⟩
 have hsl:=M.mn.blk.lt
 have HMl:Hid (∀k,cm s r k->k<w.heap.size):=fun k hm=>by
  rcases hm with e|e|e|e|e|e
  .omega
  .exact fj M.mn.hp e
  .exact fj M.mn.go e
  .exact fj M.mn.ch e
  .exact fj M.mn.tl e
  .exact fj M.mn.anr e
 obtain ⟨t,ht,htl,_⟩:=HPo.o.at_;clear hPt hM2 hI2 hH hB hG hn hB12 hB1 hX1 hX2 M hB2 hnew
 go_enter Tryz.func139,Tryz.ntmps139
 go_wp2_with fail;refine HPt.o.mono ?_;rintro e w3 ⟨hv',rfl,hM3,hI3,hB3,hat3⟩;rw[ht]
 have hB3w:Bw (cm s r) w.heap.size w w3:=(Bw.ofBelow HB2.o).trans ((hB3.mono (by omega)).wide fun k hk hX=>by
  rcases hX with e|e|e
  .exact .inl e
  .omega
  .exact .inr (.inl e))
 have hv3: ∀k,k<w.heap.size+2->hv'.ownBlock=some k->r.hv.ownBlock=some k:=fun k hk e=>by
  rcases hat3 with e'| ⟨q,e',hq⟩
  .rw[<-e'];exact e
  .rw[e']at e;have:=oj e;omega
 have hR3: ∀k,k<w.heap.size+2->cm s { r with hv:=hv'} k->cm s r k:=fun k hk hm=>by
  rcases hm with e|e|e
  .exact .inl e
  .exact .inr (.inl (hv3 k hk e))
  .exact rZ e
 have hn3: ∀k,w.heap.size<=k->k<w.heap.size+2->¬cm s { r with hv:=hv'} k:=fun k h1 h2 hm=>by
  have:=HMl.o k (hR3 k h2 hm);omega
 have hX3:w3.heap[w.heap.size]?=some (.cells #[iV H.v,.string H.nm,.slice H.a H.len H.cap,.slice B.a B.len B.cap] 107):=(hB3.block _ (by omega) (fun hX=>by
  rcases hX with e|e|e
  .omega
  .omega
  .have:=HMl.o _ (.inr (.inl e));omega)).trans HX2.o
 have HM3:=hid hM3;have HI3:Hid (IM w3 (w.heap.size+1) (dk H X).1.2):=hI3;have HB3:Hid (Bw (cm s r) w.heap.size w w3):=hB3w
 have HR3:Hid (∀k,k<w.heap.size+2->cm s { r with hv:=hv'} k->cm s r k):=hR3
 have Hn3:Hid (∀k,w.heap.size<=k->k<w.heap.size+2->¬cm s { r with hv:=hv'} k):=hn3
 have HX3:Hid (w3.heap[w.heap.size]?=some (.cells #[iV H.v,.string H.nm,.slice H.a H.len H.cap,.slice B.a B.len B.cap] 107)):=hX3;have hs3:w.heap.size+2<=w3.heap.size:=by have:=hB3.size;omega
 clear hM3 hI3 hB3 hB3w hat3 hv3 hR3 hn3 hX3 x0 x1 x2 x3 hmm hw1 hw2 hs1 HPt HX2 HB2 hs2
 have HF:Hid (Calls prog 163 #[pZ s] w3 fun e w'=>e=.returned (.bool (dp (dk H X).1.1 X.gs))/\(dp (dk H X).1.1 X.gs=false->w'=w3)/\(dp (dk H X).1.1 X.gs=true->MN lo w' s { r with hv:=hv',fin:=3} (dk H X).1.1 X.gs X.cs X.tr qs an/\Bw (fun k=>k=s) w3.heap.size w3 w')):=ya w3 HM3.o
 cases hf:dp (dk H X).1.1 X.gs with
 |true=>
  have HE:Hid (a7 H B at' nx X=({ X with h:=(dk H X).1.1,fin:=3},false)):=by rw[Hid,a7,if_pos hf]
  rw[hf]at HF;clear hf;go_wp2_with fail;refine HF.o.mono ?_;rintro e w4 ⟨rfl,_,h4⟩
  have HM4:Hid (MN lo w4 s { r with hv:=hv',fin:=3} (dk H X).1.1 X.gs X.cs X.tr qs an/\Bw (fun k=>k=s) w3.heap.size w3 w4):=h4 (by first|rfl|trivial)
  clear h4;go_wp2_with fail;go_ret;rw[HE.o];exact ⟨rfl,_,⟨HM4.o.1,HM0.o.first,HM0.o.left,rfl⟩,⟨rfl,rfl,rfl,rfl,fun k hk hm=>HR3.o k (by omega) hm⟩,HB3.o.trans ((HM4.o.2.mono (by omega)).wide fun k _ hk=> .inl hk)⟩
 |false=>
  have Hf:Hid (dp (dk H X).1.1 X.gs=false):=hf
  have hl1:(dk H X).1.1.length<=400000:=by
   unfold dp at hf;simp at hf;omega
  have hG3:HG (ah (dk H X).1.1) (dk H X).1.1.length:=HPo.o.inv.hg HG0.o HPo.o.old hl1;have hl0:X.h.length<=(dk H X).1.1.length:=HPo.o.len
  have hER:dh H at' X=jn (n+1) t at' (n,(dk H X).1.1,[]):=by
   unfold dh;rw[ht,Hn.o.1,Int.toNat_natCast,Int.toNat_natCast]
  have HSm:Hid (Calls prog 112 #[pZ s,iV (t:Int),iV (at':Int)] w3 (Tl lo w3 s { r with hv:=hv'} X.gs X.cs X.tr qs an (dh H at' X))):=by
   rw[Hid,hER];exact F6 w3 HM3.o (by omega) hG3 hG3.nmZ htl (by omega) Hn.o.2 (HM0.o.left.trans Hn.o.1) (by omega)
  have HGd:Hid ((dh H at' X).Good (n,(dk H X).1.1,[])):=by
   rw[Hid,hER];exact gj (n+1) t at' (n,(dk H X).1.1,[]) ⟨hG3,hG3.nmZ⟩ htl (by show at'<(dk H X).1.1.length;omega)
  rw[hf]at HF;clear hf hG3 hER
  cases hok:(dh H at' X).ok with
  |false=>
   have HE:Hid (a7 H B at' nx X=({ X with h:=(dh H at' X).l,tr:=X.tr++(dh H at' X).bs,left:=(dh H at' X).left,fin:=if (dh H at' X).left<0 then 3 else X.fin},false)):=by rw[Hid,a7,if_neg (by rw[Hf.o];simp),if_pos hok]
   have Hok:Hid ((dh H at' X).ok=false):=hok;clear hok
   go_wp2_with (first
    | (go_at_call 163
       refine HF.o.mono ?_;rintro e w4 ⟨rfl,h4,_⟩;obtain rfl:=h4 (by first|rfl|trivial)
       clear h4)
    | (go_at_call 112
       refine HSm.o.mono ?_;rintro e w5 ⟨rfl,tv',hM5,hB5,hat5⟩;rw[Hok.o];have HM5:Hid _:=hM5;have HB5:Hid _:=hB5;have HA5:Hid _:=hat5;clear hM5 hB5 hat5))
   go_ret;rw[HE.o];refine ⟨rfl,_,⟨HM5.o,HM0.o.first,rfl,by show (if _ then _ else _)=_;rw[<-HM0.o.fin]⟩,⟨rfl,rfl,rfl,rfl,fun k hk hm=>?_⟩,HB3.o.trans ((HB5.o.mono (by omega)).wide fun k hk hm=>HR3.o k (by omega) hm)⟩
   exact P0 HR3.o (by omega) HA5.o hk hm
  |true=>
   have Hok:Hid ((dh H at' X).ok=true):=hok
   have hPI:li (dh H at' X).l.length ((dh H at' X).l,(dk H X).1.2):=⟨fun v c e=>by
    obtain ⟨y,e1,e2,_⟩:=HPo.o.inv.var v c e;have h1:=HGd.o.len;have h2:(dh H at' X).l.length=(dk H X).1.1.length:=h1;exact ⟨y,e1,by show y<(dh H at' X).l.length;omega,fun h3=>absurd h3 (by omega)⟩,fun x h1 h2=>absurd h2 (by show¬x<(dh H at' X).l.length;omega),lZ⟩
   have HPI:=hid hPI;have hll:=HGd.o.len;have Hll:=hid hll;obtain ⟨sc,cc,hcv,_⟩:=ak HM3.o.ch;have Hcv:=hid hcv;have hNb: ¬(dh H at' X).ok=false:=by rw[hok];simp
   have HN1:=hid hNb;clear hok hPI hll hcv hNb
   go_wp2_with (first
    | (go_at_call 163
       refine HF.o.mono ?_;rintro e w4 ⟨rfl,h4,_⟩;obtain rfl:=h4 (by first|rfl|trivial)
       clear h4)
    | (go_at_call 112
       refine HSm.o.mono ?_;rintro e w5 ⟨rfl,tv',hM5,hB5,hat5⟩;rw[Hok.o];have HM5:Hid _:=hM5;have HB5:Hid _:=hB5;have HA5:Hid _:=hat5;clear hM5 hB5 hat5))
   have hB5w:Bw (cm s r) w.heap.size w w5:=HB3.o.trans ((HB5.o.mono (by omega)).wide fun k hk hm=>HR3.o k (by omega) hm)
   have hs5:=HB5.o.size;have hX5:=(HB5.o.block _ (by omega) (Hn3.o _ (by omega) (by omega))).trans HX3.o
   have hI5:=HI3.o.keep (HB5.o.block _ (by omega) (Hn3.o _ (by omega) (by omega)))
   have hO5: ∀k,k<w.heap.size->cm s { r with hv:=hv',tv:=tv',left:=(dh H at' X).left,fin:=if (dh H at' X).left<0 then 3 else r.fin} k->cm s r k:=fun k hk hm=>P0 HR3.o (by omega) HA5.o hk hm
   have hT5:ay w5 B:=HBd.o.1.bw hB5w lZ HBd.o.2.1;have hN5:=HBd.o.2.1.anti HBd.o.1 hO5
   have HAh:Hid (∀W,Below w5.heap.size w5 W->Calls prog 57 #[pZ s,.slice B.a B.len B.cap,.agg #[iV 0,iV (X.cs.length:Int),iV (nx:Int)],.map (some (w.heap.size+1))] W (fun e w'=>e=.returned (.tuple #[])/\∃hv6 gv6,MN lo w' s { r with hv:=hv6,gv:=gv6,tv:=tv',first:=((gu H B at' nx X).2.2:Int),left:=(dh H at' X).left,fin:=if (dh H at' X).left<0 then 3 else r.fin} (gu H B at' nx X).1.1 (gu H B at' nx X).2.1 X.cs (X.tr++(dh H at' X).bs) qs an/\Bw (Ji s (w.heap.size+1) { r with hv:=hv',tv:=tv',left:=(dh H at' X).left,fin:=if (dh H at' X).left<0 then 3 else r.fin}) W.heap.size W w'/\(hv6.ownBlock=hv'.ownBlock\/∃k,hv6.ownBlock=some k/\W.heap.size<=k)/\(gv6.ownBlock=r.gv.ownBlock\/∃k,gv6.ownBlock=some k/\W.heap.size<=k))):=fun W hW=>by
    have hb:=HBd.o.2.2.1;refine (vj (T:=B) (m:=w.heap.size+1) (c:=X.cs.length) (nx:=nx) (ga:=0) W (HM5.o.below hW) (hI5.kept (aq hW none) (by simp)) (hT5.below hW) HBd.o.2.2.2 hN5 (HNw.o HBd.o.1 _ (by omega)) (fun A hA=>HNw.o (HM0.o.mn.all A hA).1 _ (by omega)) HPI.o (by have:=Hll.o;omega) (by omega) (by have:=hW.size;omega)).mono ?_
    rintro e w' ⟨he,hv6,gv6,h1,_,_,h2,h3,h4⟩;exact ⟨he,hv6,gv6,h1,h2,h3,h4⟩
   have HKp:Hid (∀W:World,(∃r',o9 W s r'/\r'.cv=r.cv)/\W.heap[w.heap.size]?=some (.cells #[iV H.v,.string H.nm,.slice H.a H.len H.cap,.slice B.a B.len B.cap] 107)->W.cell? (dZ w.heap.size 3)=some (.slice B.a B.len B.cap)/\W.cell? (dZ s 3)=some (.slice sc X.cs.length cc)):=fun W hW=>by
    obtain ⟨⟨r',hr,hc⟩,hx⟩:=hW;obtain ⟨⟨_,_,_,c3,_⟩,_⟩:=hr.get;exact ⟨by simp[World.cell?,hx],by rw[c3,hc,Hcv.o]⟩
   have HB0:Hid ((∃r',o9 w5 s r'/\r'.cv=r.cv)/\w5.heap[w.heap.size]?=some (.cells #[iV H.v,.string H.nm,.slice H.a H.len H.cap,.slice B.a B.len B.cap] 107)):=⟨⟨_,HM5.o.blk,rfl⟩,hX5⟩;have HX5:=hid hX5
   have HO5:Hid (∀k,k<w.heap.size->cm s { r with hv:=hv',tv:=tv',left:=(dh H at' X).left,fin:=if (dh H at' X).left<0 then 3 else r.fin} k->cm s r k):=hO5
   have HB5w:Hid (Bw (cm s r) w.heap.size w w5):=hB5w
   have HH5:Hid (∀k,hv'.ownBlock=some k->k<w.heap.size->r.hv.ownBlock=some k):=fun k e hk=>by
    rcases hO5 k hk (.inr (.inl e))with e'|e'|e'|e'|e'|e'
    .exact absurd e (by rw[e'];exact HM3.o.apart.h1.1)
    .exact e'
    .exact absurd e' (HM3.o.apart.hh k e).1
    .exact absurd e' (HM3.o.apart.hh k e).2.1
    .exact absurd e' (HM3.o.apart.hh k e).2.2.1
    .exact absurd e' (HM3.o.apart.hh k e).2.2.2.2
   obtain ⟨p3,ps3⟩:=HKp.o w5 HB0.o;clear hB5w hX5 hI5 hO5 hT5 hN5
   go_region_held3 (fun W=>W.cell? (dZ w.heap.size 3)=some (.slice B.a B.len B.cap)/\W.cell? (dZ s 3)=some (.slice sc X.cs.length cc)) ((exact HKp.o _ HB0.o)) (first
    | (go_at_call 57
       refine (HAh.o _ (by repeat (first|exact bR|refine Below.drew ?_))).mono ?_
       rintro e w6 ⟨rfl,hv6,gv6,hM6,hB6,ho6,hg6⟩
       have HB6:Hid (Bw (Ji s (w.heap.size+1) { r with hv:=hv',tv:=tv',left:=(dh H at' X).left,fin:=if (dh H at' X).left<0 then 3 else r.fin}) w5.heap.size w5 w6):=Bw.trans (by repeat (first|exact Bw.refl _ _ _|refine Bw.drew ?_)) (hB6.mono lZ)
       have HM6:Hid (MN lo w6 s { r with hv:=hv6,gv:=gv6,tv:=tv',first:=((gu H B at' nx X).2.2:Int),left:=(dh H at' X).left,fin:=if (dh H at' X).left<0 then 3 else r.fin} (gu H B at' nx X).1.1 (gu H B at' nx X).2.1 X.cs (X.tr++(dh H at' X).bs) qs an):=hM6
       have Ho6:Hid (hv6.ownBlock=hv'.ownBlock\/∃k,hv6.ownBlock=some k/\w5.heap.size<=k):=ho6;have Hg6:Hid (gv6.ownBlock=r.gv.ownBlock\/∃k,gv6.ownBlock=some k/\w5.heap.size<=k):=hg6
       replace HB0:Hid ((∃r',o9 w6 s r'/\r'.cv=r.cv)/\w6.heap[w.heap.size]?=some (.cells #[iV H.v,.string H.nm,.slice H.a H.len H.cap,.slice B.a B.len B.cap] 107)):=⟨⟨_,hM6.blk,rfl⟩,(HB6.o.block _ (by omega) (fun hm=>by
        rcases hm with e|e|e|e
        .omega
        .omega
        .have e2:hv'.ownBlock=some w.heap.size:=e
         exact Hn3.o _ lZ (by omega) (.inr (.inl e2))
        .have e2:r.gv.ownBlock=some w.heap.size:=e
         have:=HMl.o _ (rZ (.inl e2));omega)).trans HX5.o⟩
       clear hM6 hB6 ho6 hg6))
   all_goals
    have hs6:=HB6.o.size;have hs45:w4.heap.size<=w5.heap.size:=HB5.o.size
    have HRK:Hid (∀(f:Int) (k:Nat),k<w.heap.size->cm s { r with hv:=hv6,gv:=gv6,tv:=tv',first:=((gu H B at' nx X).2.2:Int),left:=(dh H at' X).left,fin:=f} k->cm s r k):=fun f k hk hm=>by
     rcases hm with e|e|e|e|e|e
     .exact .inl e
     .have e2:hv6.ownBlock=some k:=e
      rcases Ho6.o with e'| ⟨q,e',hq⟩
      .rw[e']at e2;exact .inr (.inl (HH5.o k e2 hk))
      .rw[e']at e2;have:=oj e2;omega
     .have e2:gv6.ownBlock=some k:=e
      rcases Hg6.o with e'| ⟨q,e',hq⟩
      .rw[e']at e2;exact rZ (.inl e2)
      .rw[e']at e2;have:=oj e2;omega
     .exact rZ (.inr (.inl e))
     .exact HO5.o k hk (rZ (rZ (.inl e)))
     .exact rZ (rZ (.inr e))
    have HBw:Hid (Bw (cm s r) w.heap.size w w6):=HB5w.o.trans ((HB6.o.mono (by omega)).wide fun k hk hm=>by
     rcases hm with e|e|e|e
     .exact .inl e
     .omega
     .exact .inr (.inl (HH5.o k e hk))
     .exact rZ (.inl e))
    have HF6:=hid (ya w6 HM6.o)
    cases hf6:dp (gu H B at' nx X).1.1 (gu H B at' nx X).2.1 with
    |true=>
     have HE:Hid (a7 H B at' nx X=({ X with h:=(gu H B at' nx X).1.1,gs:=(gu H B at' nx X).2.1,first:=(gu H B at' nx X).2.2,tr:=X.tr++(dh H at' X).bs,left:=(dh H at' X).left,fin:=3},false)):=by rw[Hid,a7,if_neg (by rw[Hf.o];simp),if_neg HN1.o,if_pos hf6]
     rw[hf6]at HF6;clear hf6 HB0;go_wp2_with fail;refine HF6.o.mono ?_;rintro e w7 ⟨rfl,_,h7⟩
     have HM7:Hid (MN lo w7 s { r with hv:=hv6,gv:=gv6,tv:=tv',first:=((gu H B at' nx X).2.2:Int),left:=(dh H at' X).left,fin:=3} (gu H B at' nx X).1.1 (gu H B at' nx X).2.1 X.cs (X.tr++(dh H at' X).bs) qs an/\Bw (fun k=>k=s) w6.heap.size w6 w7):=h7 (by first|rfl|trivial)
     clear h7;go_wp2_with fail;go_ret;rw[HE.o];exact ⟨rfl,_,⟨HM7.o.1,rfl,rfl,rfl⟩,⟨rfl,rfl,rfl,rfl,fun k hk hm=>HRK.o 3 k hk hm⟩,HBw.o.trans ((HM7.o.2.mono (by omega)).wide fun k _ hk=> .inl hk)⟩
    |false=>
     have HE:Hid (a7 H B at' nx X=({ X with h:=(gu H B at' nx X).1.1,gs:=(gu H B at' nx X).2.1,first:=(gu H B at' nx X).2.2,tr:=X.tr++(dh H at' X).bs,left:=(dh H at' X).left,fin:=if (dh H at' X).left<0 then 3 else X.fin},true)):=by rw[Hid,a7,if_neg (by rw[Hf.o];simp),if_neg HN1.o,if_neg (by rw[hf6];simp)]
     rw[hf6]at HF6;clear hf6 HB0;go_wp2_with fail;refine HF6.o.mono ?_;rintro e w7 ⟨rfl,h7,_⟩;obtain rfl:=h7 (by first|rfl|trivial)
     clear h7;go_wp2_with fail;go_ret;rw[HE.o];exact ⟨rfl,_,⟨HM6.o,rfl,rfl,by show (if _ then _ else _)=_;rw[<-HM0.o.fin]⟩,⟨rfl,rfl,rfl,rfl,fun k hk hm=>HRK.o _ k hk hm⟩,HBw.o⟩
end
end Go.Proofs.YtmggaclaoefdaabGreat
