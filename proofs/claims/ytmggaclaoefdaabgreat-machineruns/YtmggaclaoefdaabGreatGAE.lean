/- Part of the proof. -/
import Derived.Test.YtmggaclaoefdaabGreatGAD
import Derived.Deep.QuietTactic
import Derived.BigQuiet
import Derived.Deep.LoopGhost
import Derived.Maps.AppendAt
import Derived.Maps.OwnSet
import Derived.OwnWalk
namespace Go.Proofs.YtmggaclaoefdaabGreat
open Go.RowKit Go.Proofs.Tryz
set_option linter.unusedVariables false
set_option linter.unusedSimpArgs false
set_option maxRecDepth 100000
set_option maxHeartbeats 8000000
theorem jZ (w:World) (o:Obj) {r:Nat} (h:r<w.heap.size):(w.alloc o).heap[r]?=w.heap[r]?:=by
 show (w.heap.push o)[r]?=_
 rw[Array.getElem?_push,if_neg (Nat.ne_of_lt h)]
abbrev G (b:Nat) (w w':World):Prop:=w.grownBy w' (some b)
theorem G.refl (b:Nat) (w:World):G b w w:=⟨rfl,rfl,rfl,lZ,fun _ _ _=>rfl⟩
theorem G.trans {b:Nat} {u v w:World} (h:G b u v) (k:G b v w):G b u w:=
 ⟨k.os.trans h.os,k.tape.trans h.tape,k.output.trans h.output,lT h.size k.size,fun i hi hb=>(k.block i (lL hi h.size) hb).trans (h.block i hi hb)⟩
theorem G.set (b:Nat) (w:World) (i:Nat) (v:Value):G b w (w.setCell ⟨b,i,none⟩ v):=
 ⟨rfl,rfl,rfl,by simp[World.setCell],fun k _ hb=>Below.heap_setCell _ _ _ _ (fun e=>hb (by rw[e]))⟩
theorem G.below {b:Nat} {w w':World} (h:Below w.heap.size w w'):G b w w':=⟨h.os,h.tape,h.output,h.size,fun k hk _=>h.block k hk⟩
def Ff:Tm->Tm->Prop
 | .nil,U=>U.v=0/\U.nm=⟨#[]⟩/\U.len=0
 | .mk v nm _ len _ f,U=>v=U.v/\nm=U.nm/\len=U.len/\∀i,i<len->Ff (f i) (U.f i)
def bl (lo:Nat):Tm->Prop
 | .nil=>True
 | .mk _ _ a len _ f=>(0<len->∃b o,a=some ⟨b,o,none⟩/\lo<=b)/\∀i,i<len->bl lo (f i)
def NB (k:Nat):Tm->Prop
 | .nil=>True
 | .mk _ _ a len _ f=>(0<len->∃b o,a=some ⟨b,o,none⟩/\b≠k)/\∀i,i<len->NB k (f i)
theorem bl.mono {lo lo':Nat} {T:Tm} (h:bl lo T) (hl:lo'<=lo):bl lo' T:=by
 induction T with
 |nil=>trivial
 |mk v nm a len cap f ih=>exact ⟨fun h0=>let ⟨b,o,h1,h2⟩:=h.1 h0;⟨b,o,h1,lT hl h2⟩,fun i hi=>ih i (h.2 i hi)⟩
theorem bl.nb {lo k:Nat} {T:Tm} (h:bl lo T) (hk:k<lo):NB k T:=by
 induction T with
 |nil=>trivial
 |mk v nm a len cap f ih=>exact ⟨fun h0=>let ⟨b,o,h1,h2⟩:=h.1 h0;⟨b,o,h1,by omega⟩,fun i hi=>ih i (h.2 i hi)⟩
theorem ay.nb {w:World} {k:Nat} {T:Tm} (h:ay w T) (hk:w.heap.size<=k):NB k T:=by
 induction T with
 |nil=>trivial
 |mk v nm a len cap f ih=>
  refine ⟨fun h0=>?_,fun i hi=>ih i (h.2.2 i hi).2⟩
  obtain ⟨b,o,h1,h2,_⟩:=(h.2.2 0 h0).1;have:b<w.heap.size:=ag h2;exact ⟨b,o,h1,by omega⟩
theorem ay.grown {w w':World} {row:Option Nat} {T:Tm} (h:ay w T) (hg:w.grownBy w' row) (hn: ∀k,row=some k->NB k T):ay w' T:=by
 induction T with
 |nil=>exact h
 |mk v nm a len cap f ih=>
  refine ⟨h.1,h.2.1,fun i hi=>⟨?_,ih i (h.2.2 i hi).2 (fun k hk=>(hn k hk).2 i hi)⟩⟩
  obtain ⟨b,o,rfl,h0,h1,h2⟩:=(h.2.2 i hi).1
  have hne:some b≠row:=fun e=>by
   obtain ⟨b',o',e1,e2⟩:=(hn b e.symm).1 (by omega)
   exact e2 (by cases e1;rfl)
  exact ⟨b,o,rfl,hg.cell h0 hne,hg.cell h1 hne,hg.cell h2 hne⟩
theorem wl {W:World} {r:Nat} {x y z a b c:Value} (h:W.heap[r]?=some (.cells #[x,y,z] 67)):
 (((W.setCell ⟨r,0,none⟩ a).setCell ⟨r,1,none⟩ b).setCell ⟨r,2,none⟩ c).heap[r]?=some (.cells #[a,b,c] 67):=by
 simp only[World.setCell,Array.getElem?_modify];simp[h]
theorem ae {w:World} {k:Nat} {x y z:Value} {t:TypeId} (h:w.heap[k]?=some (.cells #[x,y,z] t)):
 w.cell? ⟨k,0,none⟩=some x/\w.cell? ⟨k,1,none⟩=some y/\w.cell? ⟨k,2,none⟩=some z/\w.frozen? ⟨k,0,none⟩=false/\w.frozen? ⟨k,1,none⟩=false/\w.frozen? ⟨k,2,none⟩=false:=by
 refine ⟨?_,?_,?_,?_,?_,?_⟩ <;> simp[World.cell?,World.frozen?,h]
theorem ay.retop {w:World} {T:Tm} {v:Int} {nm:ByteArray} (h:ay w T) (hn:nm.size<=maxLen):ay w (.mk v nm T.a T.len T.cap T.f):=⟨hn,h.len,fun _ hi=>⟨h.row hi,h.kid hi⟩⟩
theorem bl.retop {lo:Nat} {T:Tm} {v:Int} {nm:ByteArray} (h:bl lo T):bl lo (.mk v nm T.a T.len T.cap T.f):=by
 cases T with
 |nil=>exact ⟨fun h0=>absurd h0 (Nat.lt_irrefl 0),fun i hi=>absurd hi (nL i)⟩
 |mk=>exact h
theorem af {W:World} (r i:Nat) (v:Value):W.grownBy (W.setCell ⟨r,i,none⟩ v) (some r):=G.set r W i v
theorem xe {w W:World} {r:Nat} {x y z:Value} (hr:w.heap.size<=r) (hX:W.heap[r]?=some (.cells #[x,y,z] 67)) (hB:Below w.heap.size w W) (a c d:Value):
 ∃W',((W.setCell ⟨r,0,none⟩ a).setCell ⟨r,1,none⟩ c).setCell ⟨r,2,none⟩ d=W'/\W'.cell? ⟨r,0,none⟩=some a/\W'.cell? ⟨r,1,none⟩=some c/\W'.cell? ⟨r,2,none⟩=some d/\Below w.heap.size w W'/\W.grownBy W' (some r):=by
 have h3:W.grownBy (((W.setCell (dZ r 0) a).setCell (dZ r 1) c).setCell (dZ r 2) d) (some r):=G.trans (G.trans (af r 0 a) (af r 1 c)) (af r 2 d);have hc:=wl (a:=a) (b:=c) (c:=d) hX;refine ⟨_,rfl,by simp[World.cell?,hc],by simp[World.cell?,hc],by simp[World.cell?,hc],?_,h3⟩
 exact ⟨h3.os.trans hB.os,h3.tape.trans hB.tape,h3.output.trans hB.output,lT hB.size h3.size,fun k hk=>(h3.block k (lL hk hB.size) (by simp;omega)).trans (hB.block k hk)⟩
def T9 (B:Tm) (us:List Tm):Prop:=B.len=us.length/\∀i,i<B.len->Ff (B.f i) (us.getD i .nil)
structure i6 (lo:Nat) (w:World) (v:Value) (ts us:List Tm):Prop where
 own:w.ownsRow lo 67 3 v ts.length (cy ts)
 all: ∀T∈ts,ay w T/\bl lo T/\∀k,v.ownBlock=some k->NB k T
 len:ts.length=us.length
 sim: ∀i,i<ts.length->Ff (ts.getD i .nil) (us.getD i .nil)
theorem i6.keep {lo:Nat} {w w':World} {v:Value} {ts us:List Tm} (h:i6 lo w v ts us) (hB:Below w.heap.size w w'):i6 lo w' v ts us:=by
 refine ⟨h.own.kept (aq hB none) ?_,fun T hT=>⟨(h.all T hT).1.below hB,(h.all T hT).2⟩,h.len,h.sim⟩
 cases v.ownBlock with
 |none=>exact .inl rfl
 |some g=>exact .inr (by simp)
theorem i6.more {lo:Nat} {w4 w5:World} {v v':Value} {ts us:List Tm} {T U:Tm} (h:i6 lo w4 v ts us) (hT:ay w4 T) (hA:bl lo T)
 (hN: ∀g,v.ownBlock=some g->NB g T) (hS:Ff T U)
 (hown:w5.ownsRow lo 67 3 v' (ts.length+1) (cy ts++cy [T])) (hg:w4.grownBy w5 v.ownBlock) (hat:v'.ownBlock=v.ownBlock\/v'.ownBlock=some w4.heap.size):i6 lo w5 v' (ts++ [T]) (us++ [U]):=by
 have hnb: ∀X:Tm,ay w4 X->(∀g,v.ownBlock=some g->NB g X)->∀g,v'.ownBlock=some g->NB g X:=fun X h1 h2 g hg=>by
  rcases hat with e|e
  .exact h2 g (by rw[<-e];exact hg)
  .have:g=w4.heap.size:=by rw[e]at hg;exact (oj hg).symm
   exact h1.nb (by omega)
 refine ⟨?_,?_,?_,?_⟩
 .rw[rv,List.length_append];exact hown
 .intro X hX
  rcases List.mem_append.1 hX with hX|hX
  .obtain ⟨h1,h2,h3⟩:=h.all X hX
   exact ⟨h1.grown hg h3,h2,hnb _ h1 h3⟩
  .rw[List.mem_singleton]at hX
   subst hX;exact ⟨hT.grown hg hN,hA,hnb _ hT hN⟩
 .rw[List.length_append,List.length_append,h.len];rfl
 .intro i hi
  rw[List.length_append]at hi
  by_cases hl:i<ts.length
  .have h1:=h.sim i hl
   simpa[List.getD,List.getElem?_append_left hl,List.getElem?_append_left (show i<us.length by rw[<-h.len];exact hl)]using h1
  .have hi':i=ts.length:=by simp at hi;omega
   subst hi';have e:=h.len.symm
   simpa[List.getD,List.getElem?_append_right,e]using hS
theorem i6.terms {lo:Nat} {w:World} {v:Value} {ts us:List Tm} (h:i6 lo w v ts us):
 ∃T:Tm,v=.slice T.a T.len T.cap/\ay w T/\bl lo T/\T9 T us:=by
 have hget: ∀i (hi:i<ts.length),ts.getD i .nil=ts[i]:=fun i hi=>by simp[List.getD,gE hi]
 rcases h.own.2 with ⟨rfl,h0⟩| ⟨g,cap,cur,rfl,hlo,hgg,hnc,hcm,hsz,htk⟩
 .refine ⟨.mk 0 ⟨#[]⟩ none 0 0 (fun _=> .nil),rfl,⟨oZ,oZ,fun i hi=>absurd hi (nL i)⟩,⟨fun h=>absurd h (Nat.lt_irrefl 0),fun i hi=>absurd hi (nL i)⟩,?_,fun i hi=>absurd hi (nL i)⟩
  show 0=us.length
  rw[<-h.len,h0]
 .refine ⟨.mk 0 ⟨#[]⟩ (some (dZ g 0)) ts.length cap (fun i=>ts.getD i .nil),rfl,⟨oZ,(show ts.length<=maxLen from lT hnc hcm),fun i hi=>?_⟩,⟨fun _=>⟨g,0,rfl,hlo⟩,fun i hi=>?_⟩,h.len,fun i hi=>h.sim i hi⟩
  .obtain ⟨f0,f1,f2⟩:=km ts i hi
   have hm:=h.all _ (List.getElem_mem hi)
   show fe w _ i (ts.getD i .nil)/\ay w (ts.getD i .nil)
   rw[hget i hi];refine ⟨⟨g,0,rfl,?_,?_,?_⟩,hm.1⟩
   .rw[Nat.zero_add];exact (h.own.cellAt (i*3) (by omega)).trans f0
   .rw[Nat.zero_add];exact (h.own.cellAt (i*3+1) (by omega)).trans f1
   .rw[Nat.zero_add];exact (h.own.cellAt (i*3+2) (by omega)).trans f2
  .show bl lo (ts.getD i .nil)
   rw[hget i hi];exact (h.all _ (List.getElem_mem hi)).2.1
theorem ir (b j:Nat):(⟨b,0,none⟩:Addr).add j=⟨b,j,none⟩:=by unfold Addr.add;split <;> simp_all
def cq (g:Nat->Bool):Nat->Bool
 |0=>true
 |k+1=>cq g k&&g k
theorem ux {g:Nat->Bool} {j k:Nat} (h:j<=k) (hk:cq g k=true):cq g j=true:=by
 induction k with
 |zero=>rw[Nat.le_zero.1 h];rfl
 |succ k ih=>
  rcases Nat.lt_or_ge j (k+1)with h1|h1
  .exact ih (by omega) (by rw[cq,Bool.and_eq_true]at hk;exact hk.1)
  .rw[show j=k+1 by omega];exact hk
theorem Nk {g:Nat->Bool} {j k:Nat} (h:j<k) (hj:g j=false):cq g k=false:=by
 cases hk:cq g k with
 |false=>rfl
 |true=>
  have:=ux (show j+1<=k from h) hk
  rw[cq,hj,Bool.and_false]at this;exact absurd this (by simp)
theorem dm {g:Nat->Bool} {k:Nat}:cq g k=true↔∀i,i<k->g i=true:=by
 refine ⟨fun h i hi=>?_,fun h=>?_⟩
 .have:=ux (show i+1<=k from hi) h
  rw[cq,Bool.and_eq_true]at this;exact this.2
 .induction k with
  |zero=>rfl
  |succ k ih=>rw[cq,ih (fun i hi=>h i (by omega)),h k (by omega)];rfl
def ib:Tm->Tm->Bool
 | .nil,U=>((0:Int)==U.v)&&((ByteArray.toList ⟨#[]⟩==U.nm.toList)&&((((0:Nat):Int)==(U.len:Int))&&true))
 | .mk v nm _ len _ f,U=>(v==U.v)&&((nm.toList==U.nm.toList)&&(((len:Int)==(U.len:Int))&&cq (fun i=>ib (f i) (U.f i)) len))
def fq (T U:Tm):Bool:=((T.len:Int)==(U.len:Int))&&cq (fun i=>ib (T.f i) (U.f i)) T.len
theorem t9 (T U:Tm):ib T U=((T.v==U.v)&&((T.nm.toList==U.nm.toList)&&fq T U)):=by cases T <;> rfl
theorem xt (T U:Tm) (w:World) (hT:ay w T) (hU:ay w U)
 (h18: ∀w,ay w T->ay w U->Calls prog 45 #[.slice T.a T.len T.cap,.slice U.a U.len U.cap] w fun e w'=>e=.returned (.bool (fq T U))/\Below w.heap.size w w'):
 Calls prog 46 #[T.val,U.val] w fun e w'=>e=.returned (.bool (ib T U))/\Below w.heap.size w w':=by
 have HT:=hid hT;have HU:=hid hU;have H18:=hid h18;have HE:=hid (t9 T U);clear hT hU h18
 show Calls prog 46 #[.agg #[iV T.v,.string T.nm,.slice T.a T.len T.cap],.agg #[iV U.v,.string U.nm,.slice U.a U.len U.cap]] w _
 cases hv:(T.v==U.v)with
 |false=>
  have HR:Hid (ib T U=false):=by rw[Hid,HE.o,hv];rfl
  go_enter Tryz.func46,Tryz.ntmps46
  go_wp2_with fail;go_ret;exact ⟨by rw[HR.o];rfl,bA.alloc (by simp) _⟩
 |true=>
 cases hn:(T.nm.toList==U.nm.toList)with
 |false=>
  have HR:Hid (ib T U=false):=by rw[Hid,HE.o,hn];simp
  go_enter Tryz.func46,Tryz.ntmps46
  go_wp2_with fail;go_ret;exact ⟨by rw[HR.o];rfl,bA.alloc (by simp) _⟩
 |true=>
  have HR:Hid (ib T U=fq T U):=by rw[Hid,HE.o,hv,hn];rfl
  have HB:Hid (Below w.heap.size w ((w.alloc (.cells #[iV T.v,.string T.nm,.slice T.a T.len T.cap] 67)).alloc (.cells #[iV U.v,.string U.nm,.slice U.a U.len U.cap] 67))):=bA.alloc (by simp) _
  go_enter Tryz.func46,Tryz.ntmps46
  go_wp2_with fail;refine (H18.o _ (HT.o.below HB.o) (HU.o.below HB.o)).mono ?_;rintro e w1 ⟨rfl,hb1⟩;have HB1:=hid (HB.o.trans (hb1.mono HB.o.size));clear hb1;go_wp2_with fail;go_ret;exact ⟨by rw[HR.o];rfl,HB1.o⟩
theorem Kc (T:Tm): ∀(U:Tm) (w:World),ay w T->ay w U->
 Calls prog 45 #[.slice T.a T.len T.cap,.slice U.a U.len U.cap] w fun e w'=>e=.returned (.bool (fq T U))/\Below w.heap.size w w':=by
 induction T with
 |nil=>intro U w hin;exact False.elim hin
 |mk v nm a len cap f ih=>
  intro U w hin hU;have IH:Hid (∀i (U:Tm) (w:World),ay w (f i)->ay w U->Calls prog 46 #[(f i).val,U.val] w fun e w'=>e=.returned (.bool (ib (f i) U))/\Below w.heap.size w w'):=fun i U w h1 h2=>xt (f i) U w h1 h2 (fun w h1 h2=>ih i U w h1 h2)
  have HIn:=hid hin;have HU:Hid (ay w U):=hU;have hlen:len<=2 ^ 63-1:=ay.len (T:=.mk v nm a len cap f) hin;have hlenU:U.len<=2 ^ 63-1:=hU.len;have HS:Hid (fq (.mk v nm a len cap f) U=(((len:Int)==(U.len:Int))&&cq (fun i=>ib (f i) (U.f i)) len)):=rfl
  have HRow:Hid (∀k,k<U.len->∀wr,Below w.heap.size w wr->fe wr U.a k (U.f k)/\ay wr (U.f k)):=fun k hk wr hb=>⟨(hU.row hk).below hb,(hU.kid hk).below hb⟩
  clear ih hin hU
  show Calls prog 45 #[.slice a len cap,.slice U.a U.len U.cap] w _
  cases hl:((len:Int)==(U.len:Int))with
  |false=>
   have HR:Hid (fq (.mk v nm a len cap f) U=false):=by rw[Hid,HS.o,hl];rfl
   go_enter Tryz.func45,Tryz.ntmps45
   go_wp2_with fail;go_ret;exact ⟨by rw[HR.o];rfl,bR⟩
  |true=>
  have HR:Hid (fq (.mk v nm a len cap f) U=cq (fun i=>ib (f i) (U.f i)) len):=by rw[Hid,HS.o,hl];rfl
  have hl2:len=U.len:=by have:=beq_iff_eq.1 hl;omega
  generalize hg:fq (.mk v nm a len cap f) U=res at*;generalize U.f=uf at*;generalize U.cap=ucap at*;generalize U.a=ua at*;generalize hul:U.len=ulen at*;clear hg hul HS hl hlenU;subst hl2
  go_enter Tryz.func45,Tryz.ntmps45
  go_wp2_with fail
  go_loopw [5] (fun i wr=>∃k:Nat,k<=len/\i=iV k/\cq (fun i=>ib (f i) (uf i)) k=true/\Below w.heap.size w wr) (fun i _=>len-(intOf i).toNat)
  case atStart=>exact ⟨0,oZ,rfl,rfl,bR⟩
  case round=>
   obtain ⟨k,hk,rfl,hs,hb⟩:=hrel;have HK:Hid (cq (fun i=>ib (f i) (uf i)) k=true):=hs
   have HB:Hid (Below w.heap.size w wr):=hb;have hsz:=hb.size;clear hs hb
   by_cases hlt:k<len
   .have hr:fe wr a k (f k):=(ay.row (T:=.mk v nm a len cap f) HIn.o hlt).below HB.o
    obtain ⟨b,o,ha,c0,c1,c2⟩:=hr;have HT:Hid (ay wr (f k)):=(ay.kid (T:=.mk v nm a len cap f) HIn.o hlt).below HB.o;obtain ⟨⟨b',o',ha',d0,d1,d2⟩,hTU⟩:=HRow.o k (by omega) wr HB.o
    have HTU:Hid (ay wr (uf k)):=hTU;clear hTU;have hltU:k<len:=hlt;have HN:Hid (ib (f k) (uf k)=false->res=false):=fun h=>by rw[HR.o];exact Nk hlt h
    have HZ:Hid (ib (f k) (uf k)=true->cq (fun i=>ib (f i) (uf i)) (k+1)=true):=fun h=>by rw[cq,HK.o,h];rfl
    subst ha ha';have HTT:Hid (∀wx,Below w.heap.size w wx->ay wx (f k)/\ay wx (uf k)):=fun wx hb=>⟨(ay.kid (T:=.mk v nm (some (dZ b o)) len cap f) HIn.o hlt).below hb,(HRow.o k hltU wx hb).2⟩
    have HKp:Hid (∀w',Below w.heap.size w w'->w'.cell? (dZ b (o+k*3))=some (iV (f k).v)/\w'.cell? (dZ b (o+k*3+1))=some (.string (f k).nm)/\w'.cell? (dZ b (o+k*3+2))=some (.slice (f k).a (f k).len (f k).cap)/\w'.cell? (dZ b' (o'+k*3))=some (iV (uf k).v)/\w'.cell? (dZ b' (o'+k*3+1))=some (.string (uf k).nm)/\w'.cell? (dZ b' (o'+k*3+2))=some (.slice (uf k).a (uf k).len (uf k).cap)):=fun wx hb=>by
     obtain ⟨b1,o1,e1,x0,x1,x2⟩:=(ay.row (T:=.mk v nm (some (dZ b o)) len cap f) HIn.o hlt).below hb;obtain ⟨⟨b2,o2,e2,y0,y1,y2⟩,_⟩:=HRow.o k hltU wx hb;cases e1;cases e2;exact ⟨x0,x1,x2,y0,y1,y2⟩
    have hk0:(0:Int)<=(k:Int):=by omega
    have hk1:(k:Int)<(len:Int):=by omega
    go_wp2_with fail
    go_region_held3 (fun w'=>w'.cell? (dZ b (o+k*3))=some (iV (f k).v)/\w'.cell? (dZ b (o+k*3+1))=some (.string (f k).nm)/\w'.cell? (dZ b (o+k*3+2))=some (.slice (f k).a (f k).len (f k).cap)/\w'.cell? (dZ b' (o'+k*3))=some (iV (uf k).v)/\w'.cell? (dZ b' (o'+k*3+1))=some (.string (uf k).nm)/\w'.cell? (dZ b' (o'+k*3+2))=some (.slice (uf k).a (uf k).len (uf k).cap)) (first|exact HKp.o _ HB1.o|exact HKp.o _ HB.o|exact HKp.o _ HB.o.drew)
     (first
       | (go_at_call 46
          refine (IH.o k (uf k) _ (by first|exact (HTT.o _ HB.o).1|exact (HTT.o _ HB.o.drew).1) (by first|exact (HTT.o _ HB.o).2|exact (HTT.o _ HB.o.drew).2)).mono ?_
          rintro e w1 ⟨rfl,hb1⟩;have HB1:Hid (Below w.heap.size w w1):=Below.trans (by first|exact HB.o|exact HB.o.drew) (hb1.mono hsz)
          clear hb1))
    cases hs:ib (f k) (uf k)with
    |false=>
     have HX:Hid (res=false):=HN.o hs;clear hs;go_wp2_with fail;go_ret;exact ⟨by rw[HX.o];rfl,HB1.o⟩
    |true=>
     have HX:Hid (cq (fun i=>ib (f i) (uf i)) (k+1)=true):=HZ.o hs
     clear hs;go_wp2_with fail;go_roundw
     case rel=>exact ⟨k+1,by omega,by go_num,HX.o,HB1.o⟩
     case measure=>simp[intOf];omega
   .have hke:k=len:=by omega
    have HX:Hid (res=true):=by rw[Hid,HR.o,<-hke,HK.o]
    clear hke;go_wp2_with fail;go_ret;exact ⟨by rw[HX.o];rfl,HB.o⟩
theorem Qt (T U:Tm) (w:World) (hT:ay w T) (hU:ay w U):
 Calls prog 46 #[T.val,U.val] w fun e w'=>e=.returned (.bool (ib T U))/\Below w.heap.size w w':=
 xt T U w hT hU (fun w h1 h2=>Kc T U w h1 h2)
abbrev Sg:=Int->Option Tm
def n8 (v:Value):Option (DataW Value × List MemPlace):=some (.held v,[])
theorem il:Maps.Keyed prog 3:=Maps.int_keyed Tryz.underlying3
theorem pk {i:Int} (h0:0<=i) (h1:i<=1000000):keyOf prog 3 (.int .i64 i)=some (.int .i64 i):=
 Maps.keyOf_int_mk Tryz.underlying3 (by
  have a:IntKind.i64.min<=i:=Int.le_trans (by decide) h0
  have b:i<=IntKind.i64.max:=Int.le_trans h1 (by decide)
  rw[Lit.wf,Bool.and_eq_true,decide_eq_true_eq,decide_eq_true_eq];exact ⟨a,b⟩)
theorem Qo (w:World):(zeroValue 67).run prog w=.ok (.agg #[.int .i64 0,.string ⟨#[]⟩,.slice none 0 0]) w:=by kernel_rfl
def gt (w:World) (m n:Nat) (σ:Sg):Prop:=∃D:DataW Value,w.ownsMap prog 3 n8 m n D/\Maps.IsMap D/\
 ∀i:Int,0<=i->i<=1000000->Maps.has D (.int .i64 i)=(σ i).isSome/\∀T,σ i=some T->∀z,D.atKey (.int .i64 i) z=.held T.val
theorem gt.kept {w w':World} {m n:Nat} {σ:Sg} {row:Option Nat} (h:gt w m n σ) (hg:w.grownBy w' row) (hne:some m≠row):gt w' m n σ:=by
 obtain ⟨D,h1,h2⟩:=h;exact ⟨D,h1.kept hg hne,h2⟩
theorem gt.lt {w:World} {m n:Nat} {σ:Sg} (h:gt w m n σ):m<w.heap.size:=by
 obtain ⟨D,h1,_⟩:=h;exact h1.lt
theorem gt.look {w:World} {m n:Nat} {σ:Sg} (h:gt w m n σ) {i:Int} (h0:0<=i) (h1:i<=1000000):
 (∀T,σ i=some T->(Instr.lookup 130 (.map (some m)) (.int .i64 i) true).run prog w=.ok (.tuple #[.agg #[.int .i64 T.v,.string T.nm,.slice T.a T.len T.cap],.bool true]) w)/\
 (σ i=none->(Instr.lookup 130 (.map (some m)) (.int .i64 i) true).run prog w=.ok (.tuple #[.agg #[.int .i64 0,.string ⟨#[]⟩,.slice none 0 0],.bool false]) w):=by
 obtain ⟨D,hD,hm,hs⟩:=h;obtain ⟨hs1,hs2⟩:=hs i h0 h1;obtain ⟨v,ps,hrun,hv⟩:=hD.look_ok (t:=130) (e:=67) il Tryz.underlying130 (Qo w) (zd:=.held (.agg #[.int .i64 0,.string ⟨#[]⟩,nZ])) (zp:= []) rfl (pk h0 h1);have hv':=congrArg Prod.fst (oj hv)
 constructor
 .intro T hT
  rw[hs2 T hT]at hv';rw[hs1,hT]at hrun;obtain rfl:=DataW.held.inj hv';exact hrun
 .intro hn
  rw[hn]at hs1;rw[Maps.atKey_of_not_has hs1]at hv';obtain rfl:=DataW.held.inj hv';rw[hs1]at hrun;exact hrun
theorem gt.looks {w:World} {m n:Nat} {σ:Sg} (h:gt w m n σ): ∃o:Obj,w.heap[m]?=some o/\∀W:World,W.heap[m]?=some o->gt W m n σ:=by
 obtain ⟨D,⟨es,clock,h1,h2⟩,h3⟩:=h;exact ⟨_,h1,fun W hW=>⟨D,⟨es,clock,hW,h2⟩,h3⟩⟩
def upd (σ:Sg) (i:Int) (T:Tm):Sg:=fun j=>if j=i then some T else σ j
theorem gt.store {w:World} {m n:Nat} {σ:Sg} (h:gt w m n σ) {i:Int} (h0:0<=i) (h1:i<=1000000) (hn:n<100000000000) (T:Tm):
 ∃w',(Instr.mapUpdate 130 (.map (some m)) (.int .i64 i) (.agg #[.int .i64 T.v,.string T.nm,.slice T.a T.len T.cap])).run prog w=.ok () w'/\gt w' m (n+1) (upd σ i T)/\w.grownBy w' (some m):=by
 obtain ⟨D,hD,hm,hs⟩:=h;obtain ⟨w',hrun,ho,hg⟩:=hD.update (t:=130) (e:=67) il Tryz.underlying130 (by unfold maxLen;omega) (pk h0 h1) (val:=.agg #[.int .i64 T.v,.string T.nm,.slice T.a T.len T.cap]) (d:=.held T.val) (ps:= []) rfl
 refine ⟨w',hrun,⟨_,ho,hm.put _ _,fun j j0 j1=>?_⟩,hg⟩
 by_cases e:j=i
 .subst e
  refine ⟨by rw[Maps.has_put_same hm (il.key (pk h0 h1))];simp[upd],fun T' hT' z=>?_⟩
  rw[Maps.atKey_put_same hm (il.key (pk h0 h1))];simp[upd]at hT';rw[hT']
 .have hne:(Lit.int .i64 j)≠.int .i64 i:=fun h=>e (by injection h)
  obtain ⟨g1,g2⟩:=hs j j0 j1;refine ⟨by rw[Maps.has_put_other hne,g1,upd,if_neg e],fun T' hT' z=>?_⟩
  rw[Maps.atKey_put_other hne];rw[upd,if_neg e]at hT';exact g2 T' hT' z
def d9 (N:Int):Tm->Prop
 | .nil=>False
 | .mk v nm _ len _ f=>0<=v/\v<=N/\(v≠0->nm=⟨#[]⟩/\len=0)/\len<=4/\∀i,i<len->d9 N (f i)
theorem d9.top {N:Int} {T:Tm} (h:d9 N T):0<=T.v/\T.v<=N/\(T.v≠0->T.nm=⟨#[]⟩/\T.len=0):=by
 cases T with
 |nil=>exact False.elim h
 |mk=>exact ⟨h.1,h.2.1,h.2.2.1⟩
theorem d9.kid {N:Int} {T:Tm} (h:d9 N T) {i:Nat} (hi:i<T.len):d9 N (T.f i):=by
 cases T with
 |nil=>exact False.elim h
 |mk=>exact h.2.2.2.2 i hi
def wh (σ:Sg):Nat->Tm->Tm
 |0,T=>T
 |k+1,T=>if T.v=0 then T else match σ T.v with
  |none=>T
  |some U=>wh σ k U
def wha (σ:Sg) (T:Tm):Tm:=wh σ (T.v.toNat+1) T
def Dj (σ:Sg):Prop:=∀v U,σ v=some U->U.v=0\/(0<U.v/\U.v<v)
theorem xj {σ:Sg} (hd:Dj σ): ∀(k:Nat) (T:Tm),0<=T.v->T.v.toNat<k->wh σ k T=wha σ T:=by
 intro k
 induction k with
 |zero=>intro T _ h;omega
 |succ k ih=>
  intro T h0 hk;unfold wha;rw[wh,wh]
  by_cases hv:T.v=0
  .rw[if_pos hv,if_pos hv]
  .rw[if_neg hv,if_neg hv]
   cases hs:σ T.v with
   |none=>rfl
   |some U=>
    simp only
    rcases hd _ _ hs with h1| ⟨h1,h2⟩
    .rw[ih U (by omega) (by omega)]
     by_cases hT:T.v.toNat=0
     .omega
     .obtain ⟨j,hj⟩: ∃j,T.v.toNat=j+1:=⟨T.v.toNat-1,by omega⟩
      rw[hj];unfold wha;rw[wh,wh,if_pos h1,if_pos h1]
    .rw[ih U (by omega) (by omega),ih' hd U T.v.toNat (by omega) (by omega)]
where
 ih' {σ:Sg} (hd:Dj σ) (U:Tm) (k:Nat) (h0:0<=U.v) (hk:U.v.toNat<k):wh σ k U=wha σ U:=by
  have: ∀(j k:Nat) (U:Tm),0<=U.v->U.v.toNat<j->U.v.toNat<k->wh σ j U=wh σ k U:=by
   intro j
   induction j with
   |zero=>intro k U _ h;omega
   |succ j ih=>
    intro k U h0 hj hk;obtain ⟨k,rfl⟩: ∃k',k=k'+1:=⟨k-1,by omega⟩
    rw[wh,wh]
    by_cases hv:U.v=0
    .rw[if_pos hv,if_pos hv]
    .rw[if_neg hv,if_neg hv]
     cases hs:σ U.v with
     |none=>rfl
     |some V=>
      simp only
      rcases hd _ _ hs with h1| ⟨h1,h2⟩
      .exact ih k V (by omega) (by omega) (by omega)
      .exact ih k V (by omega) (by omega) (by omega)
  exact this k (U.v.toNat+1) U h0 hk (by omega)
theorem ld {σ:Sg} {T:Tm} (h:T.v=0):wha σ T=T:=by unfold wha;rw[wh,if_pos h]
theorem gh {σ:Sg} {T:Tm} (h:σ T.v=none):wha σ T=T:=by
 unfold wha;rw[wh]
 by_cases hv:T.v=0
 .rw[if_pos hv]
 .rw[if_neg hv,h]
theorem ll {σ:Sg} (hd:Dj σ) {T U:Tm} (h0:0<=T.v) (hv:T.v≠0) (h:σ T.v=some U):wha σ T=wha σ U:=by
 have e:wha σ T=wh σ T.v.toNat U:=by unfold wha;rw[wh,if_neg hv,h]
 rw[e]
 rcases hd _ _ h with h1| ⟨h1,h2⟩
 .exact xj hd _ _ (by omega) (by omega)
 .exact xj hd _ _ (by omega) (by omega)
theorem zv {σ:Sg} (hd:Dj σ): ∀(k:Nat) (T:Tm),0<=T.v->T.v.toNat<k->(wh σ k T).v≠0->σ (wh σ k T).v=none:=by
 intro k
 induction k with
 |zero=>intro T _ h;omega
 |succ k ih=>
  intro T h0 hk hv;rw[wh]at hv |-
  by_cases hT:T.v=0
  .rw[if_pos hT]at hv;exact absurd hT hv
  .rw[if_neg hT]at hv |-
   cases hs:σ T.v with
   |none=>simp only;exact hs
   |some U=>
    rw[hs]at hv;simp only at hv |-
    rcases hd _ _ hs with h| ⟨h1,h2⟩
    .exact ih U (by omega) (by omega) hv
    .exact ih U (by omega) (by omega) hv
structure VS (w:World) (b m:Nat) (tv:Value) (N:Int) (lo n:Nat) (σ:Sg) (L:Int):Prop where
 blk:w.heap[b]?=some (.cells #[.map (some m),tv,.int .i64 L] 132)
 map:gt w m n σ
 own: ∃tr:List Int,w.ownsRow lo 3 1 tv tr.length (tr.map (Value.int .i64))/\tr.length<=n
 ne:b≠m
 tb: ∀g,tv.ownBlock=some g->g≠b/\g≠m
 lob:lo<=b/\lo<=m
 trm: ∀v T,σ v=some T->ay w T/\d9 N T/\NB b T/\NB m T/\∀g,tv.ownBlock=some g->NB g T
 dec:Dj σ
 big:N<=1000000
theorem VS.lt {w:World} {b m:Nat} {tv:Value} {N:Int} {lo n:Nat} {σ:Sg} {L:Int} (h:VS w b m tv N lo n σ L):b<w.heap.size:=(aZ h.blk)
theorem VS.below {w w':World} {b m:Nat} {tv:Value} {N:Int} {lo n:Nat} {σ:Sg} {L:Int} (h:VS w b m tv N lo n σ L) (hb:Below w.heap.size w w'):VS w' b m tv N lo n σ L:=by
 refine ⟨(hb.block b h.lt).trans h.blk,h.map.kept (aq hb none) (by simp),?_,h.ne,h.tb,h.lob,fun v T hv=>⟨(h.trm v T hv).1.below hb,(h.trm v T hv).2⟩,h.dec,h.big⟩
 obtain ⟨tr,h1,h2⟩:=h.own;refine ⟨tr,h1.kept (aq hb none) ?_,h2⟩
 cases tv.ownBlock with
 |none=>exact .inl rfl
 |some g=>exact .inr (by simp)
theorem t5 {b m:Nat} {tv:Value} {N:Int} {lo n:Nat} {σ:Sg} {L:Int} (T:Tm) (w:World) (hS:VS w b m tv N lo n σ L) (hT:d9 N T):
 Calls prog 122 #[.pointer (some ⟨b,0,none⟩),T.val] w fun e w'=>e=.returned (wha σ T).val/\Below w.heap.size w w'/\d9 N (wha σ T):=by
 have HS:=hid hS;have HT:=hid hT;have hbl:=hS.lt;clear hS hT
 show Calls prog 122 #[pZ b,.agg #[iV T.v,.string T.nm,.slice T.a T.len T.cap]] w _
 go_enter Tryz.func122,Tryz.ntmps122
 go_wp2_with fail
 go_loopg [] T.v.toNat (fun fu wr=>∃U:Tm,wr.heap[w.heap.size]?=some (.cells #[iV U.v,.string U.nm,.slice U.a U.len U.cap] 67)/\wr.heap[w.heap.size+1]?=some (.cells #[iV 0,.string ⟨#[]⟩,nZ] 67)/\Below w.heap.size w wr/\wha σ T=wha σ U/\d9 N U/\U.v.toNat<=fu)
 case atStart=>
  refine ⟨T,?_,?_,bA.alloc (by simp) _,rfl,HT.o,lZ⟩
  .rw[jZ _ _ (by simp)];exact hZ w _
  .have:=hZ (w.alloc (.cells #[iV T.v,.string T.nm,.slice T.a T.len T.cap] 67)) (.cells #[iV 0,.string ⟨#[]⟩,nZ] 67)
   rwa [show (w.alloc (.cells #[iV T.v,.string T.nm,.slice T.a T.len T.cap] 67)).heap.size=w.heap.size+1 from by simp]at this
 case round=>
  obtain ⟨U,hX,hY,hB,he,hU,hfu⟩:=hrel;have HX:=hid hX;have HY:=hid hY;have HB:=hid hB;have HE:=hid he;have HU:=hid hU;have HSr:=hid (HS.o.below hB);obtain ⟨x0,x1,x2,f0,f1,f2⟩:=ae hX;obtain ⟨y0,y1,y2,g0,g1,g2⟩:=ae hY;obtain ⟨u0,u1,_⟩:=hU.top;have hN:=HS.o.big;obtain ⟨v0,v1,v2,k0,k1,k2⟩:=ae HSr.o.blk;clear hX hY hB he hU
  by_cases hv:U.v=0
  .have hvb:(U.v !=0)=false:=by rw[hv];rfl
   have HW:Hid (wha σ T=U):=by rw[Hid,HE.o,ld hv]
   clear hv;go_wp2_with fail;obtain ⟨W',hW,z0,z1,z2,hB',_⟩:=xe (r:=w.heap.size+1) (by omega) HY.o HB.o (iV U.v) (.string U.nm) (.slice U.a U.len U.cap)
   rw[hW];refine bodyPost_ret (v:=U.val) ?_ rfl ⟨by rw[HW.o],hB',by rw[HW.o];exact HU.o⟩
   simp[results,Tryz.results122,go_sem,z0,z1,z2,Tm.val]
  .have hvb:=bne_iff_ne.2 hv
   obtain ⟨o,ho,hW⟩:=HSr.o.map.looks;have hm:=HSr.o.map.lt
   cases hs:σ U.v with
   |none=>
    have HW:Hid (wha σ T=U):=by rw[Hid,HE.o,gh hs]
    have hl: ∀W:World,W.heap[m]?=some o->(Instr.lookup 130 (.map (some m)) (iV U.v) true).run prog W=.ok (.tuple #[.agg #[iV 0,.string ⟨#[]⟩,nZ],.bool false]) W:=fun W h=>((hW W h).look u0 (Int.le_trans u1 hN)).2 hs
    clear hW hs hv;go_wp2_with fail;have HKp:Hid (∀W,Below wr.heap.size wr W->W.cell? (dZ b 0)=some (.map (some m))/\W.cell? (dZ w.heap.size 0)=some (iV U.v)/\W.heap[m]?=some o):=fun W hB=>⟨(hB.cell (p:=(dZ b 0)) HSr.o.lt).trans v0,(hB.cell (p:=(dZ w.heap.size 0)) (ag x0)).trans x0,(hB.block m hm).trans ho⟩
    go_region_held3 (fun w'=>w'.cell? (dZ b 0)=some (.map (some m))/\w'.cell? (dZ w.heap.size 0)=some (iV U.v)/\w'.heap[m]?=some o) ((refine HKp.o _ ?_;repeat (first|exact bR|refine Below.drew ?_|refine Below.alloc ?_ (by first|exact lZ|simp) _|refine Below.setCell ?_ (by first|exact lZ|simp) _))) (fail)
    all_goals
     have HBn:Hid (Below wr.heap.size wr (wr.alloc (.cells #[iV 0,.string ⟨#[]⟩,nZ] 67)).drew):=bA.drew;have HY2:=hid ((HBn.o.block _ (ag y0)).trans HY.o);have HX2:=hid ((HBn.o.block _ (ag x0)).trans HX.o);have HB2:=hid (HB.o.trans (HBn.o.mono HB.o.size));generalize (wr.alloc (.cells #[iV 0,.string ⟨#[]⟩,nZ] 67)).drew=w2 at*;clear x0 x1 x2 f0 f1 f2 y0 y1 y2 g0 g1 g2;obtain ⟨x0,x1,x2,f0,f1,f2⟩:=ae HX2.o;obtain ⟨y0,y1,y2,g0,g1,g2⟩:=ae HY2.o;go_wp2_with fail;obtain ⟨W',hW,z0,z1,z2,hB',_⟩:=xe (r:=w.heap.size+1) (by omega) HY2.o HB2.o (iV U.v) (.string U.nm) (.slice U.a U.len U.cap)
     rw[hW];refine bodyPost_ret (v:=U.val) ?_ rfl ⟨by rw[HW.o],hB',by rw[HW.o];exact HU.o⟩
     simp[results,Tryz.results122,go_sem,z0,z1,z2,Tm.val]
   |some V=>
    have HW:Hid (wha σ T=wha σ V):=by rw[Hid,HE.o,ll HS.o.dec u0 hv hs]
    have HV:=hid ((HS.o.trm _ _ hs).2.1)
    have hdec:V.v.toNat<U.v.toNat:=by
     rcases HS.o.dec _ _ hs with h| ⟨h1,h2⟩ <;> omega
    have hl: ∀W:World,W.heap[m]?=some o->(Instr.lookup 130 (.map (some m)) (iV U.v) true).run prog W=.ok (.tuple #[.agg #[iV V.v,.string V.nm,.slice V.a V.len V.cap],.bool true]) W:=fun W h=>((hW W h).look u0 (Int.le_trans u1 hN)).1 V hs
    clear hW hs hv;go_wp2_with fail;have HKp:Hid (∀W,Below wr.heap.size wr W->W.cell? (dZ b 0)=some (.map (some m))/\W.cell? (dZ w.heap.size 0)=some (iV U.v)/\W.heap[m]?=some o):=fun W hB=>⟨(hB.cell (p:=(dZ b 0)) HSr.o.lt).trans v0,(hB.cell (p:=(dZ w.heap.size 0)) (ag x0)).trans x0,(hB.block m hm).trans ho⟩
    go_region_held3 (fun w'=>w'.cell? (dZ b 0)=some (.map (some m))/\w'.cell? (dZ w.heap.size 0)=some (iV U.v)/\w'.heap[m]?=some o) ((refine HKp.o _ ?_;repeat (first|exact bR|refine Below.drew ?_|refine Below.alloc ?_ (by first|exact lZ|simp) _|refine Below.setCell ?_ (by first|exact lZ|simp) _))) (fail)
    all_goals
     have HBn:Hid (Below wr.heap.size wr (wr.alloc (.cells #[iV V.v,.string V.nm,.slice V.a V.len V.cap] 67)).drew):=bA.drew;have HY2:=hid ((HBn.o.block _ (ag y0)).trans HY.o);have HX2:=hid ((HBn.o.block _ (ag x0)).trans HX.o);have HN2:Hid ((wr.alloc (.cells #[iV V.v,.string V.nm,.slice V.a V.len V.cap] 67)).drew.heap[wr.heap.size]?=some (.cells #[iV V.v,.string V.nm,.slice V.a V.len V.cap] 67)):=hZ wr _;have HB2:=hid (HB.o.trans (HBn.o.mono HB.o.size));have hlt0:w.heap.size+1<wr.heap.size:=ag y0;generalize (wr.alloc (.cells #[iV V.v,.string V.nm,.slice V.a V.len V.cap] 67)).drew=w2 at*;clear x0 x1 x2 f0 f1 f2 y0 y1 y2 g0 g1 g2;obtain ⟨x0,x1,x2,f0,f1,f2⟩:=ae HX2.o;obtain ⟨n0,n1,n2,_,_,_⟩:=ae HN2.o;go_wp2_with fail;obtain ⟨W',hW,z0,z1,z2,hB',hgr⟩:=xe (r:=w.heap.size) lZ HX2.o HB2.o (iV V.v) (.string V.nm) (.slice V.a V.len V.cap);have hX3:=wl (a:=iV V.v) (b:=.string V.nm) (c:=.slice V.a V.len V.cap) HX2.o;rw[hW]at hX3 |-
     go_roundg V.v.toNat
     case measure=>omega
     case rel=>exact ⟨V,hX3,(hgr.block _ (ag (ae HY2.o).1) (by simp)).trans HY2.o,hB',HW.o,HV.o,lZ⟩
theorem VS.atB {w w':World} {b m:Nat} {tv:Value} {N:Int} {lo n:Nat} {σ:Sg} {L L':Int} (h:VS w b m tv N lo n σ L) (hg:w.grownBy w' (some b)) (hb:w'.heap[b]?=some (.cells #[.map (some m),tv,iV L'] 132)):VS w' b m tv N lo n σ L':=by
 refine ⟨hb,h.map.kept hg (fun e=>h.ne (oj e).symm),?_,h.ne,h.tb,h.lob,fun v T hv=>?_,h.dec,h.big⟩
 .obtain ⟨tr,h1,h2⟩:=h.own
  refine ⟨tr,h1.kept hg ?_,h2⟩
  cases hv:tv.ownBlock with
  |none=>exact .inl rfl
  |some g=>exact .inr (by simpa using (h.tb g hv).1)
 .obtain ⟨h1,h2,h3,h4⟩:=h.trm v T hv
  exact ⟨h1.grown hg (fun k hk=>by obtain rfl:=oj hk;exact h3),h2,h3,h4⟩
theorem VS.atK {w w':World} {b m:Nat} {tv:Value} {N:Int} {lo n:Nat} {σ:Sg} {L:Int} {k:Nat} (h:VS w b m tv N lo n σ L) (hg:w.grownBy w' (some k)) (h1:k≠b) (h2:k≠m) (h3: ∀g,tv.ownBlock=some g->g≠k) (h4: ∀v T,σ v=some T->NB k T):VS w' b m tv N lo n σ L:=by
 refine ⟨(hg.block b h.lt (by simp;omega)).trans h.blk,h.map.kept hg (fun e=>h2 (oj e).symm),?_,h.ne,h.tb,h.lob,fun v T hv=>?_,h.dec,h.big⟩
 .obtain ⟨tr,g1,g2⟩:=h.own
  refine ⟨tr,g1.kept hg ?_,g2⟩
  cases hv:tv.ownBlock with
  |none=>exact .inl rfl
  |some g=>exact .inr (by simpa using h3 g hv)
 .obtain ⟨g1,g2⟩:=h.trm v T hv
  exact ⟨g1.grown hg (fun j hj=>by obtain rfl:=oj hj;exact h4 v T hv),g2⟩
theorem Jt {w:World} {b:Nat} {x y z c:Value} {t:TypeId} (h:w.heap[b]?=some (.cells #[x,y,z] t)):(w.setCell ⟨b,2,none⟩ c).heap[b]?=some (.cells #[x,y,c] t):=by
 simp only[World.setCell,Array.getElem?_modify];simp[h]
theorem Bx {b m:Nat} {tv:Value} {N:Int} {lo n:Nat} {σ:Sg} {L:Nat} (w:World) (hS:VS w b m tv N lo n σ L) (hL:L<=4000):
 Calls prog 165 #[.pointer (some ⟨b,0,none⟩)] w fun e w'=>e=.returned (.bool (decide (1<=(L:Int))))/\VS w' b m tv N lo n σ ((L:Int)-1)/\G b w w':=by
 have HS:=hid hS;obtain ⟨v0,v1,v2,k0,k1,k2⟩:=ae hS.blk;have h2:=Jt (c:=iV ((L:Int)-1)) hS.blk;have HX:=hid h2;have hc:(w.setCell (dZ b 2) (iV ((L:Int)-1))).cell? (dZ b 2)=some (iV ((L:Int)-1)):=by simp[World.cell?,h2]
 have HG:Hid (G b w (w.setCell (dZ b 2) (iV ((L:Int)-1)))):=G.set b w 2 _;clear hS h2
 go_enter Tryz.func165,Tryz.ntmps165
 go_wp2_with fail;go_ret;exact ⟨rfl,HS.o.atB HG.o HX.o,HG.o⟩
theorem pq (σ:Sg): ∀(k:Nat) (T:Tm),wh σ k T=T\/∃v,σ v=some (wh σ k T):=by
 intro k
 induction k with
 |zero=>intro T;exact .inl rfl
 |succ k ih=>
  intro T;rw[wh]
  by_cases hv:T.v=0
  .rw[if_pos hv];exact .inl rfl
  .rw[if_neg hv]
   cases hs:σ T.v with
   |none=>exact .inl rfl
   |some U=>
    simp only
    rcases ih U with e|h
    .rw[e];exact .inr ⟨_,hs⟩
    .exact .inr h
theorem VS.what {w:World} {b m:Nat} {tv:Value} {N:Int} {lo n:Nat} {σ:Sg} {L:Int} (h:VS w b m tv N lo n σ L) {T:Tm} (hT:ay w T) (hb:NB b T) (hm:NB m T) (ht: ∀g,tv.ownBlock=some g->NB g T):ay w (wha σ T)/\NB b (wha σ T)/\NB m (wha σ T)/\∀g,tv.ownBlock=some g->NB g (wha σ T):=by
 rcases pq σ (T.v.toNat+1) T with e| ⟨v,e⟩
 .unfold wha;rw[e];exact ⟨hT,hb,hm,ht⟩
 .obtain ⟨h1,_,h3,h4,h5⟩:=h.trm v _ e
  exact ⟨h1,h3,h4,h5⟩
end Go.Proofs.YtmggaclaoefdaabGreat
