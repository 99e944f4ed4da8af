/- Part of the proof. -/
import Derived.Test.YtmggaclaoefdaabGreatGAC
import Derived.Deep.RegionWith
import Derived.Deep.RegionHeld3
import Derived.ProofKit
import Derived.Deep.Slices
namespace Go.Proofs.YtmggaclaoefdaabGreat
open Go.RowKit Go.Proofs.Tryz
set_option linter.unusedVariables false
set_option linter.unusedSimpArgs false
set_option maxRecDepth 100000
set_option maxHeartbeats 8000000
def i9 (T:Tm):Int:=if ei T=0 then (if T.v=0 then (if zq T.nm T.len=true then 4 else 0)else 1)else ei T
theorem Jb {w w1:World} {T:Tm} (h:Below (w.heap.size+1) (w.alloc (.cells #[iV T.v,.string T.nm,.slice T.a T.len T.cap] 67)) w1):
 w1.cell? ⟨w.heap.size,0,none⟩=some (iV T.v)/\w1.cell? ⟨w.heap.size,1,none⟩=some (.string T.nm)/\w1.cell? ⟨w.heap.size,2,none⟩=some (.slice T.a T.len T.cap):=
 ⟨(h.cell (p:=(dZ w.heap.size 0)) (by simp)).trans (by go_simp),(h.cell (p:=(dZ w.heap.size 1)) (by simp)).trans (by go_simp),(h.cell (p:=(dZ w.heap.size 2)) (by simp)).trans (by go_simp)⟩
theorem Ml (T:Tm) (w:World) (hin:ay w T):
 Calls prog 60 #[T.val] w fun e w'=>e=.returned (iV (i9 T))/\Below w.heap.size w w':=by
 have HIn:=hid hin;clear hin
 show Calls prog 60 #[.agg #[iV T.v,.string T.nm,.slice T.a T.len T.cap]] w _
 have H1:Hid (ay (w.alloc (.cells #[iV T.v,.string T.nm,.slice T.a T.len T.cap] 67)) T):=HIn.o.below bA
 go_enter Tryz.func60,Tryz.ntmps60
 go_wp2_with fail;refine (rk T _ H1.o).mono ?_;rintro e w1 ⟨rfl,hb1⟩
 have HB1:Hid (Below (w.heap.size+1) (w.alloc (.cells #[iV T.v,.string T.nm,.slice T.a T.len T.cap] 67)) w1):=by
  have:=hb1;rw[Hid];simpa using this
 have HW1:Hid (Below w.heap.size w w1):=bA.trans (hb1.mono (by simp))
 have hsz1:=HW1.o.size;clear hb1;obtain ⟨hc0,hc1,hc2⟩:=Jb HB1.o
 by_cases hz:ei T=0
 .by_cases hv:T.v=0
  .cases hm:zq T.nm T.len
   .have HX:Hid (i9 T=0):=by rw[Hid,i9,if_pos hz,if_pos hv,if_neg (by rw[hm];simp)]
    rw[hz];rw[hv]at hc0;clear hz;go_wp2_with fail;refine (yb _ _ _ _ _ _).mono ?_;rintro e w2 ⟨rfl,hb2⟩;rw[hm];have HW2:=hid (HW1.o.trans (hb2.mono hsz1));clear hb2;go_wp2_with fail;go_ret;exact ⟨by rw[HX.o];rfl,HW2.o⟩
   .have HX:Hid (i9 T=4):=by rw[Hid,i9,if_pos hz,if_pos hv,if_pos hm]
    rw[hz];rw[hv]at hc0;clear hz;go_wp2_with fail;refine (yb _ _ _ _ _ _).mono ?_;rintro e w2 ⟨rfl,hb2⟩;rw[hm];have HW2:=hid (HW1.o.trans (hb2.mono hsz1));clear hb2;go_wp2_with fail;go_ret;exact ⟨by rw[HX.o];rfl,HW2.o⟩
  .have HX:Hid (i9 T=1):=by rw[Hid,i9,if_pos hz,if_neg hv]
   have hvb:=bF hv;rw[hz];clear hz hv;go_wp2_with fail;go_ret;exact ⟨by rw[HX.o];rfl,HW1.o⟩
 .have HX:Hid (i9 T=ei T):=by rw[Hid,i9,if_neg hz]
  have hzb:=bF hz;clear hz;go_wp2_with fail;go_ret;exact ⟨by rw[HX.o];rfl,HW1.o⟩
structure Pg where
 a:Option Addr
 len:Nat
 cap:Nat
 hd:Nat->Tm
 bd:Nat->Tm
def wu (w:World) (a:Option Addr) (i:Nat) (H B:Tm):Prop:=
 ∃b o,a=some ⟨b,o,none⟩/\w.cell? ⟨b,o+i*4,none⟩=some (iV H.v)/\w.cell? ⟨b,o+i*4+1,none⟩=some (.string H.nm)/\w.cell? ⟨b,o+i*4+2,none⟩=some (.slice H.a H.len H.cap)/\w.cell? ⟨b,o+i*4+3,none⟩=some (.slice B.a B.len B.cap)
theorem wu.below {w w':World} {a:Option Addr} {i:Nat} {H B:Tm} (h:wu w a i H B) (hb:Below w.heap.size w w'):wu w' a i H B:=by
 obtain ⟨b,o,rfl,h0,h1,h2,h3⟩:=h;exact ⟨b,o,rfl,(hb.cell (ag h0)).trans h0,(hb.cell (ag h1)).trans h1,(hb.cell (ag h2)).trans h2,(hb.cell (ag h3)).trans h3⟩
def kg (w:World) (P:Pg):Prop:=P.len<=maxLen/\∀i,i<P.len->wu w P.a i (P.hd i) (P.bd i)/\ay w (P.hd i)/\ay w (P.bd i)
theorem kg.below {w w':World} {P:Pg} (h:kg w P) (hb:Below w.heap.size w w'):kg w' P:=⟨h.1,fun i hi=>⟨(h.2 i hi).1.below hb,(h.2 i hi).2.1.below hb,(h.2 i hi).2.2.below hb⟩⟩
def Aw (H B:Tm):Int:=if i9 H=0 then bo B else i9 H
def oe (P:Pg) (k:Nat):Int:=fst (fun i=>Aw (P.hd i) (P.bd i)) k
def ck (P:Pg):Int:=if P.len<=30 then oe P P.len else 2
theorem I8 (P:Pg) {k:Nat} (h:oe P k=0) (h0:Aw (P.hd k) (P.bd k)=0):oe P (k+1)=0:=by
 unfold oe at h |-;rw[fst,if_pos h];exact h0
theorem I7 (P:Pg) {k:Nat} (hk:k<P.len) (h:oe P k=0) (h0:Aw (P.hd k) (P.bd k)≠0):oe P P.len=Aw (P.hd k) (P.bd k):=um _ hk h h0
theorem m7 (P:Pg) (w:World) (hin:kg w P):
 Calls prog 32 #[.slice P.a P.len P.cap] w fun e w'=>e=.returned (iV (ck P))/\Below w.heap.size w w':=by
 have HIn:=hid hin;have hlen:=hin.1;clear hin
 by_cases h6:P.len<=30
 case neg=>
  have HR:Hid (ck P=2):=by rw[Hid,ck,if_neg h6]
  go_enter Tryz.func32,Tryz.ntmps32
  go_wp2_with fail;go_ret;exact ⟨by rw[HR.o];rfl,bR⟩
 have HR:Hid (ck P=oe P P.len):=by rw[Hid,ck,if_pos h6]
 have HStop:Hid (∀k,k<P.len->oe P k=0->Aw (P.hd k) (P.bd k)≠0->ck P=Aw (P.hd k) (P.bd k)):=fun k hk h h0=>HR.o.trans (I7 P hk h h0)
 have HRow:Hid (∀k,k<P.len->∀wr,Below w.heap.size w wr->wu wr P.a k (P.hd k) (P.bd k)/\ay wr (P.hd k)/\ay wr (P.bd k)):=fun k hk wr hb=>(HIn.o.below hb).2 k hk
 have HNext:Hid (∀k,oe P k=0->Aw (P.hd k) (P.bd k)=0->oe P (k+1)=0):=fun k h h0=>I8 P h h0
 generalize P.hd=hd at*;generalize P.bd=bd at*;generalize P.cap=cap at*;generalize P.a=a at*;generalize hl:P.len=len at*;clear hl
 go_enter Tryz.func32,Tryz.ntmps32
 go_wp2_with fail
 go_loopw [12] (fun i wr=>∃k:Nat,k<=len/\i=iV k/\oe P k=0/\Below w.heap.size w wr) (fun i _=>len-(intOf i).toNat)
 case atStart=>exact ⟨0,oZ,rfl,rfl,bR⟩
 case round=>
  obtain ⟨k,hk,rfl,hf,hb⟩:=hrel;have HF:=hid hf;have HB:=hid hb;have hsz:=hb.size;clear hf hb
  by_cases hlt:k<len
  .obtain ⟨⟨b,o,ha,c0,c1,c2,c3⟩,hT,hQ⟩:=HRow.o k hlt wr HB.o
   have HT:=hid hT;have HQ:=hid hQ;have HS':=hid (HStop.o k hlt HF.o);have HN':=hid (HNext.o k HF.o);clear hT hQ;subst ha;go_wp2_with fail;refine (Ml (hd k) _ (HT.o.below bA)).mono ?_;rintro e w1 ⟨rfl,hb1⟩
   have HB1:Hid (Below (wr.heap.size+1) (wr.alloc (.cells #[iV (hd k).v,.string (hd k).nm,.slice (hd k).a (hd k).len (hd k).cap,.slice (bd k).a (bd k).len (bd k).cap] 107)) w1):=by
    have:=hb1;rw[Hid];simpa using this
   clear hb1;have HWr:Hid (Below wr.heap.size wr w1):=bA.trans (HB1.o.mono (by omega))
   have hsz1:=HWr.o.size;have HW1:=hid (HB.o.trans (HWr.o.mono hsz));have hc3:w1.cell? (dZ wr.heap.size 3)=some (.slice (bd k).a (bd k).len (bd k).cap):=(HB1.o.cell (p:=(dZ wr.heap.size 3)) (by simp)).trans (by go_simp)
   by_cases hz:i9 (hd k)=0
   .have HC:Hid (Aw (hd k) (bd k)=bo (bd k)):=by rw[Hid,Aw,if_pos hz]
    rw[hz];clear hz;go_wp2_with fail;refine (xy (bd k) _ (HQ.o.below HWr.o)).mono ?_;rintro e w2 ⟨rfl,hb2⟩;have HW2:=hid (HW1.o.trans (hb2.mono (by omega)))
    clear hb2
    by_cases hq:bo (bd k)=0
    .have HX:=hid (HN'.o (HC.o.trans hq))
     rw[hq];clear hq;go_wp2_with fail;go_roundw
     case rel=>exact ⟨k+1,by omega,by go_num,HX.o,HW2.o⟩
     case measure=>simp[intOf];omega
    .have HX:Hid (ck P=bo (bd k)):=(HS'.o (by rw[HC.o];exact hq)).trans HC.o
     have hqb:=bF hq;clear hq;go_wp2_with fail;go_ret;exact ⟨by rw[HX.o];rfl,HW2.o⟩
   .have HC:Hid (Aw (hd k) (bd k)=i9 (hd k)):=by rw[Hid,Aw,if_neg hz]
    have HX:Hid (ck P=i9 (hd k)):=(HS'.o (by rw[HC.o];exact hz)).trans HC.o
    have hzb:=bF hz;clear hz;go_wp2_with fail;go_ret;exact ⟨by rw[HX.o];rfl,HW1.o⟩
  .have hke:k=len:=by omega
   have HX:Hid (ck P=0):=by rw[Hid,HR.o,<-hke,HF.o]
   clear hke;go_wp2_with fail;go_ret;exact ⟨by rw[HX.o];rfl,HB.o⟩
def me (g:Nat->Int):Nat->Int
 |0=>0
 |k+1=>max (me g k) (g k)
def gr:Tm->Int
 | .nil=>max 0 0
 | .mk v _ _ len _ f=>max v (me (fun i=>gr (f i)) len)
def Nt (T:Tm):Int:=me (fun i=>gr (T.f i)) T.len
theorem J2 (T:Tm):gr T=max T.v (Nt T):=by cases T <;> rfl
theorem Tz (a b c:Int):max a (max b c)=if (if a<b then b else a)<c then c else if a<b then b else a:=by
 split <;> split <;> omega
theorem Ap (T:Tm): ∀(w:World),ay w T->
 Calls prog 84 #[.slice T.a T.len T.cap] w fun e w'=>e=.returned (iV (Nt T))/\Below w.heap.size w w':=by
 induction T with
 |nil=>intro w hin;exact False.elim hin
 |mk v nm a len cap f ih=>
  intro w hin;have IH:Hid (∀i (w:World),ay w (f i)->Calls prog 84 #[.slice (f i).a (f i).len (f i).cap] w fun e w'=>e=.returned (iV (Nt (f i)))/\Below w.heap.size w w'):=ih
  have HIn:Hid (ay w (.mk v nm a len cap f)):=hin;have hlen:len<=2 ^ 63-1:=ay.len (T:=.mk v nm a len cap f) hin;have HS:Hid (Nt (.mk v nm a len cap f)=me (fun i=>gr (f i)) len):=rfl
  clear ih hin
  show Calls prog 84 #[.slice a len cap] w _
  go_enter Tryz.func84,Tryz.ntmps84
  go_wp2_with fail
  go_loopw [3,8] (fun n' i wr=>∃k:Nat,k<=len/\i=iV k/\n'=iV (me (fun i=>gr (f i)) k)/\Below w.heap.size w wr) (fun _ i _=>len-(intOf i).toNat)
  case atStart=>exact ⟨0,oZ,rfl,rfl,bR⟩
  case round=>
   obtain ⟨k,hk,rfl,rfl,hb⟩:=hrel;have HB:Hid (Below w.heap.size w wr):=hb;have hsz:=hb.size;clear hb
   by_cases hlt:k<len
   .have hr:fe wr a k (f k):=(ay.row (T:=.mk v nm a len cap f) HIn.o hlt).below HB.o
    obtain ⟨b,o,ha,c0,c1,c2⟩:=hr;have HT:Hid (ay wr (f k)):=(ay.kid (T:=.mk v nm a len cap f) HIn.o hlt).below HB.o;have HE:Hid (me (fun i=>gr (f i)) (k+1)=max (me (fun i=>gr (f i)) k) (max (f k).v (Nt (f k)))):=by rw[Hid,me,J2]
    generalize me (fun i=>gr (f i)) k=sk at*
    subst ha;go_wp2_with fail
    go_region_with (
     go_at_call 84
     refine (IH.o k _ (HT.o.below (by exact bA.drew))).mono ?_
     rintro e w1 ⟨rfl,hb1⟩;have hc0:w1.cell? (dZ wr.heap.size 0)=some (iV (f k).v):=(hb1.cell (p:=(dZ wr.heap.size 0)) (by simp)).trans (by go_simp)
     have HX:Hid (Below w.heap.size w w1):=by
      refine HB.o.trans (Below.trans ?_ (hb1.mono (by simp;omega)))
      exact (bA.drew).mono hsz
     clear hb1)
    all_goals
     go_wp2_with fail;go_roundw
     case rel=>exact ⟨k+1,by omega,by go_num,by rw[HE.o,Tz],HX.o⟩
     case measure=>simp[intOf];omega
   .have hke:k=len:=by omega
    have HR:Hid (Nt (.mk v nm a len cap f)=me (fun i=>gr (f i)) k):=by rw[Hid,HS.o,<-hke]
    clear hke;go_wp2_with fail;go_ret;exact ⟨by rw[HR.o];rfl,HB.o⟩
theorem C6 (g:Nat->Int) (k:Nat):0<=me g k:=by
 induction k with
 |zero=>exact Int.le_refl _
 |succ k ih=>rw[me];omega
def gp (T:Tm):Int:=if bo T=0 then Nt T else 0
theorem A3 (T:Tm) (w:World) (hin:ay w T):
 Calls prog 48 #[.slice T.a T.len T.cap] w fun e w'=>e=.returned (.tuple #[iV (gp T),iV (bo T)])/\Below w.heap.size w w':=by
 have HIn:=hid hin;clear hin
 go_enter Tryz.func48,Tryz.ntmps48
 go_wp2_with fail;refine (xy T _ HIn.o).mono ?_;rintro e w1 ⟨rfl,hb1⟩;have HB1:=hid hb1;have hsz:=hb1.size;clear hb1
 by_cases hz:bo T=0
 .have HX:Hid (gp T=Nt T):=by rw[Hid,gp,if_pos hz]
  have HZ:=hid hz;rw[hz];clear hz;go_wp2_with fail;refine (Ap T _ (HIn.o.below HB1.o)).mono ?_;rintro e w2 ⟨rfl,hb2⟩;have HB2:=hid (HB1.o.trans (hb2.mono hsz));clear hb2;go_wp2_with fail
  go_ret2
  exact ⟨by rw[HX.o,HZ.o];rfl,HB2.o⟩
 .have HX:Hid (gp T=0):=by rw[Hid,gp,if_neg hz]
  have hzb:=bF hz;clear hz;go_wp2_with fail
  go_ret2
  exact ⟨by rw[HX.o];rfl,HB1.o⟩
theorem mi (nm:ByteArray) (a:Option Addr) (len cap:Nat) (w:World):
 Calls prog 29 #[.string nm,.slice a len cap] w fun e w'=>e=.returned (.agg #[iV 0,.string nm,.slice a len cap])/\Below w.heap.size w w':=by
 go_enter Tryz.func29,Tryz.ntmps29
 go_wp2
 exact bodyPost_ret (v:=.agg #[iV 0,.string nm,.slice a len cap]) (by simp[results,Tryz.results29,go_sem]) rfl ⟨rfl,bA⟩
theorem zl (n:Int) (w:World):
 Calls prog 30 #[iV n] w fun e w'=>e=.returned (.agg #[iV n,.string ⟨#[]⟩,.slice none 0 0])/\Below w.heap.size w w':=by
 go_enter Tryz.func30,Tryz.ntmps30
 go_wp2
 exact bodyPost_ret (v:=.agg #[iV n,.string ⟨#[]⟩,nZ]) (by simp[results,Tryz.results30,go_sem]) rfl ⟨rfl,bA⟩
theorem ay.rename {w:World} {v v':Int} {nm nm':ByteArray} {a:Option Addr} {len cap cap':Nat} {f:Nat->Tm} (h:ay w (.mk v nm a len cap f)) (hs:nm'.size<=maxLen):ay w (.mk v' nm' a len cap' f):=⟨hs,h.2⟩
def l7 (v:Int) (nm:ByteArray):Tm:=.mk v nm none 0 0 (fun _=> .nil)
theorem kw (w:World) (v:Int) (nm:ByteArray) (h:nm.size<=maxLen):ay w (l7 v nm):=⟨h,oZ,fun i hi=>absurd hi (nL i)⟩
def Gn (nm:ByteArray) (b:Nat) (T:Tm):Tm:=.mk 0 nm (some ⟨b,0,none⟩) 1 1 (fun _=>T)
theorem n6 (nm:ByteArray) (h:nm.size<=2):nm.size<=maxLen:=by unfold maxLen;omega
section
open Go.ChangeShapes Go.WideShapes
theorem Tryz.cells67:prog.cellsOf 67=3:=by kernel_rfl
theorem Tryz.cells107:prog.cellsOf 107=4:=by kernel_rfl
theorem Tryz.cells24:prog.cellsOf 24=1:=by kernel_rfl
theorem Tryz.cells3:prog.cellsOf 3=1:=by kernel_rfl
theorem Tryz.cells9:prog.cellsOf 9=1:=by kernel_rfl
instance:Inhabited Tm:=⟨.nil⟩
section
variable {H:Type} {enc:TypeId × Value->H} {W:World} {spare:Nat->Bool} {held:Bool}
theorem Ai {a:Addr} {i:Nat} {T:Tm} (hs:a.spot=none) (h:W.cells? 0 (a.add (i*3)) 3=some (cells3 T)):fe W (some a) i T:=by
 obtain ⟨b,o,s⟩:=a;cases hs;obtain ⟨_,_,hc⟩:=World.cells?_some h
 have e: ∀j,((⟨b,o,none⟩:Addr).add (i*3)).add j=⟨b,o+i*3+j,none⟩:=fun j=>by
  rw[Go.Deep.add_add];unfold Addr.add
  split
  .rename_i h0
   have h2:j=0:=by omega
   rw[h2];simp
  .simp[Nat.add_assoc]
 refine ⟨b,o,rfl,?_,?_,?_⟩
 .have:=hc 0 (by omega);rw[e]at this;exact this
 .have:=hc 1 (by omega);rw[e]at this;exact this
 .have:=hc 2 (by omega);rw[e]at this;exact this
theorem re: ∀(n:Nat),(∀(cs:List Value) (x:DataW H × List MemPlace),DataW.trod enc prog W 0 spare held n 67 cs=some x->∃T:Tm,cs=cells3 T/\ay W T)/\
 (∀(cs:List Value) (x:DataW H × List MemPlace),DataW.trod enc prog W 0 spare held n 24 cs=some x->∃T:Tm,T.v=0/\T.nm=⟨#[]⟩/\cs= [.slice T.a T.len T.cap]/\ay W T):=by
 intro n
 induction n with
 |zero=>exact ⟨fun cs x h=>by simp[DataW.trod]at h,fun cs x h=>by simp[DataW.trod]at h⟩
 |succ n ih=>
  constructor
  .intro cs x h
   obtain ⟨xs,m,hm,_,hl,hlen,hf⟩:=DataW.trod_struct Tryz.underlying67 h;obtain rfl:n=m:=by omega
   rw[Tryz.cells67]at hl
   match cs,hl with
   | [c0,c1,c2],_=>
     match xs,hlen with
     | [y0,y1,y2],_=>
       have h0:DataW.trod enc prog W 0 spare held n 3 (([c0,c1,c2].drop 0).take (prog.cellsOf 3))=some y0:=hf 0 _ rfl;have h1:DataW.trod enc prog W 0 spare held n 9 (([c0,c1,c2].drop 1).take (prog.cellsOf 9))=some y1:=hf 1 _ rfl;have h2:DataW.trod enc prog W 0 spare held n 24 (([c0,c1,c2].drop 2).take (prog.cellsOf 24))=some y2:=hf 2 _ rfl;rw[Tryz.cells3]at h0;rw[Tryz.cells9]at h1;rw[Tryz.cells24]at h2;obtain ⟨v,e0,_,_⟩:=DataW.trod_int Tryz.underlying3 h0;obtain ⟨s,e1,_,hs⟩:=DataW.trod_string Tryz.underlying9 h1;obtain ⟨T,_,_,e2,hT⟩:=ih.2 _ _ h2;simp at e0 e1 e2;subst e0 e1 e2;refine ⟨.mk v s T.a T.len T.cap T.f,rfl,?_⟩;exact ⟨hs,hT.len,fun i hi=>⟨hT.row hi,hT.kid hi⟩⟩
  .intro cs x h
   rcases DataW.trod_slice Tryz.underlying24 h with ⟨rfl,_⟩| ⟨a,len,cap,elems,rest,m,hm,rfl,_,hb,hl,hmx,hlen,hel,_,_⟩
   .exact ⟨.mk 0 ⟨#[]⟩ none 0 0 (fun _=> .nil),rfl,rfl,rfl,oZ,oZ,fun i hi=>absurd hi (nL i)⟩
   .obtain rfl:n=m:=by omega
    rw[Tryz.cells67]at hel
    have key: ∀i,i<len->∃T:Tm,W.cells? 0 (a.add (i*3)) 3=some (cells3 T)/\ay W T:=fun i hi=>by
     have:=hel i hi;rw[gE (by omega)]at this
     obtain ⟨cs',g1,g2⟩:=Option.bind_eq_some_iff.1 this;obtain ⟨T,rfl,hT⟩:=ih.1 _ _ g2;exact ⟨T,g1,hT⟩
    obtain ⟨f,hf⟩:=Go.Deep.choose_lt key;refine ⟨.mk 0 ⟨#[]⟩ (some a) len cap f,rfl,rfl,rfl,oZ,lT hl hmx,fun i hi=>⟨?_,(hf i hi).2⟩⟩
    have hs:a.spot=none:=by
     obtain ⟨_,_,hc⟩:=World.cells?_some (hf 0 (by omega)).1
     have h0:=hc 0 (by omega)
     exact World.cell?_spot (w:=W) (a:=a) (v:=iV (f 0).v) (by simpa[Addr.add,cells3]using h0)
    exact Ai hs (hf i hi).1
theorem Da {a:Addr} {i:Nat} {T B:Tm} (hs:a.spot=none) (h:W.cells? 0 (a.add (i*4)) 4=some (cells3 T++ [.slice B.a B.len B.cap])):wu W (some a) i T B:=by
 obtain ⟨b,o,s⟩:=a;cases hs;obtain ⟨_,_,hc⟩:=World.cells?_some h
 have e: ∀j,((⟨b,o,none⟩:Addr).add (i*4)).add j=⟨b,o+i*4+j,none⟩:=fun j=>by
  rw[Go.Deep.add_add];unfold Addr.add
  split
  .rename_i h0
   have h2:j=0:=by omega
   rw[h2];simp
  .simp[Nat.add_assoc]
 refine ⟨b,o,rfl,?_,?_,?_,?_⟩
 .have:=hc 0 (by omega);rw[e]at this;exact this
 .have:=hc 1 (by omega);rw[e]at this;exact this
 .have:=hc 2 (by omega);rw[e]at this;exact this
 .have:=hc 3 (by omega);rw[e]at this;exact this
theorem C3 (n:Nat) (cs:List Value) (x:DataW H × List MemPlace) (h:DataW.trod enc prog W 0 spare held n 107 cs=some x): ∃T B:Tm,cs=cells3 T++ [.slice B.a B.len B.cap]/\ay W T/\ay W B:=by
 obtain ⟨xs,m,hm,_,hl,hlen,hf⟩:=DataW.trod_struct Tryz.underlying107 h;rw[Tryz.cells107]at hl
 match cs,hl with
 | [c0,c1,c2,c3],_=>
   match xs,hlen with
   | [y0,y1],_=>
     have h0:DataW.trod enc prog W 0 spare held m 67 (([c0,c1,c2,c3].drop 0).take (prog.cellsOf 67))=some y0:=hf 0 _ rfl;have h1:DataW.trod enc prog W 0 spare held m 24 (([c0,c1,c2,c3].drop 3).take (prog.cellsOf 24))=some y1:=hf 1 _ rfl;rw[Tryz.cells67]at h0;rw[Tryz.cells24]at h1;obtain ⟨T,e0,hT⟩:=(re m).1 _ _ h0;obtain ⟨B,_,_,e1,hB⟩:=(re m).2 _ _ h1;simp[cells3]at e0 e1;obtain ⟨rfl,rfl,rfl⟩:=e0;subst e1;exact ⟨T,B,rfl,hT,hB⟩
theorem Ia (n:Nat) (cs:List Value) (x:DataW H × List MemPlace) (h:DataW.trod enc prog W 0 spare held n 23 cs=some x): ∃P:Pg,cs= [.slice P.a P.len P.cap]/\kg W P:=by
 rcases DataW.trod_slice Tryz.underlying23 h with ⟨rfl,_⟩| ⟨a,len,cap,elems,rest,m,hm,rfl,_,hb,hl,hmx,hlen,hel,_,_⟩
 .exact ⟨{ a:=none,len:=0,cap:=0,hd:=fun _=> .nil,bd:=fun _=> .nil},rfl,oZ,fun i hi=>absurd hi (nL i)⟩
 .rw[Tryz.cells107]at hel
  have key: ∀i,i<len->∃TB:Tm × Tm,W.cells? 0 (a.add (i*4)) 4=some (cells3 TB.1++ [.slice TB.2.a TB.2.len TB.2.cap])/\ay W TB.1/\ay W TB.2:=fun i hi=>by
   have:=hel i hi;rw[gE (by omega)]at this
   obtain ⟨cs',g1,g2⟩:=Option.bind_eq_some_iff.1 this;obtain ⟨T,B,rfl,hT,hB⟩:=C3 _ _ _ g2;exact ⟨(T,B),g1,hT,hB⟩
  obtain ⟨f,hf⟩:=Go.Deep.choose_lt key;refine ⟨{ a:=some a,len:=len,cap:=cap,hd:=fun i=>(f i).1,bd:=fun i=>(f i).2},rfl,lT hl hmx,fun i hi=>⟨?_,(hf i hi).2⟩⟩
  have hi':i<len:=hi
  have hs:a.spot=none:=by
   obtain ⟨_,_,hc⟩:=World.cells?_some (hf 0 (by omega)).1
   have h0:=hc 0 (by omega)
   exact World.cell?_spot (w:=W) (a:=a) (v:=iV (f 0).1.v) (by simpa[Addr.add,cells3]using h0)
  exact Da hs (hf i hi).1
end
end
def Dl (n:Nat) (deps:Nat->List Nat):Prop:=∃r:Nat->Nat,∀x,x<n->∀y∈deps x,r y<r x
structure Gr (n:Nat) (deps rd:Nat->List Nat):Prop where
 din: ∀x,x<n->∀y∈deps x,y<n
 rin: ∀y,y<n->∀x∈rd y,x<n
 cnt: ∀x y,x<n->y<n->(rd y).count x=(deps x).count y
def Gs (deps:Nat->List Nat) (q:List Nat) (k x:Nat):Nat:=((deps x).filter (fun y=>decide (y ∉ q.take k))).length
structure KI (n:Nat) (deps rd:Nat->List Nat) (c:Nat->Int) (q:List Nat) (k:Nat) (ds:List Nat):Prop where
 nd:q.Nodup
 lt: ∀x∈q,x<n
 kle:k<=q.length
 cn: ∀x,x<n->c x=(Gs deps q k x:Int)-(ds.count x:Int)
 z: ∀x,x<n->(x∈q↔c x=0)
 ord: ∀j (hj:j<q.length),∀y∈deps q[j],y∈q.take j
theorem t7 {q:List Nat} {x k:Nat} (h:k<=q.length):(q++ [x]).take k=q.take k:=List.take_append_of_le_length h
theorem KI.step {n:Nat} {deps rd:Nat->List Nat} (hG:Gr n deps rd) {c:Nat->Int} {q:List Nat} {k:Nat} {ds xs:List Nat} {x:Nat} (hk:k<q.length) (hr:rd q[k]=ds++x::xs) (h:KI n deps rd c q k ds):
 x<n/\1<=c x/\((c x=1->KI n deps rd (fun i=>if i=x then c i-1 else c i) (q++ [x]) k (ds++ [x]))/\(c x≠1->KI n deps rd (fun i=>if i=x then c i-1 else c i) q k (ds++ [x]))):=by
 have hy:q[k]<n:=h.lt _ (List.getElem_mem hk);have hx:x<n:=hG.rin _ hy x (by rw[hr];simp)
 have hyk:q[k] ∉ q.take k:=fun hm=>by
  have h1:=h.nd;rw[<-List.take_append_drop k q,List.nodup_append]at h1;exact h1.2.2 _ hm _ (by rw[List.drop_eq_getElem_cons hk];exact List.mem_cons_self) rfl
 have hfc: ∀l:List Nat,l.count q[k]<=(l.filter (fun y=>decide (y ∉ q.take k))).length:=fun l=>by
  rw[<-List.count_filter (l:=l) (p:=fun y=>decide (y ∉ q.take k)) (by simpa using hyk)]
  exact List.count_le_length
 have hdc:ds.count x+1<=Gs deps q k x:=by
  have h1:=hG.cnt x q[k] hx hy;rw[hr,List.count_append,List.count_cons]at h1;have h2:=hfc (deps x);unfold Gs;simp at h1;omega
 have hc1:1<=c x:=by rw[h.cn x hx];omega
 have hxq:x ∉ q:=fun hm=>by have:=(h.z x hx).1 hm;omega
 have hcn: ∀i,i<n->(fun i=>if i=x then c i-1 else c i) i=(Gs deps q k i:Int)-((ds++ [x]).count i:Int):=fun i hi=>by
  show (if i=x then c i-1 else c i)=_
  have hci:=h.cn i hi;rw[List.count_append,List.count_singleton]
  by_cases e:i=x
  .subst e
   rw[if_pos rfl];simp;omega
  .rw[if_neg e,if_neg (by simpa using fun h=>e h.symm)]
   omega
 refine ⟨hx,hc1,fun h1=>?_,fun h1=>?_⟩
 .have htk:(q++ [x]).take k=q.take k:=t7 h.kle
  refine ⟨?_,?_,by simp;omega,fun i hi=>?_,fun i hi=>?_,fun j hj y hyd=>?_⟩
  .rw[List.nodup_append]
   refine ⟨h.nd,by simp,fun a ha b hb=>?_⟩
   rw[List.mem_singleton]at hb;subst hb;exact fun e=>hxq (e▸ha)
  .intro i hi
   rcases List.mem_append.1 hi with hi|hi
   .exact h.lt i hi
   .rw[List.mem_singleton]at hi;rw[hi];exact hx
  .refine (hcn i hi).trans ?_
   unfold Gs;rw[htk]
  .show _↔(if i=x then c i-1 else c i)=0
   rw[List.mem_append,List.mem_singleton,h.z i hi]
   by_cases e:i=x
   .subst e;rw[if_pos rfl];simp;omega
   .rw[if_neg e];simp[e]
  .by_cases hjq:j<q.length
   .rw[List.getElem_append_left hjq]at hyd
    rw[t7 (Nat.le_of_lt hjq)];exact h.ord j hjq y hyd
   .have hje:j=q.length:=by simp at hj;omega
    subst hje;rw[List.getElem_append_right lZ]at hyd;simp at hyd;rw[t7 lZ,List.take_length]
    by_cases hyt:y∈q.take k
    .exact List.mem_of_mem_take hyt
    .have hlf:Gs deps q k x=ds.count x+1:=by have:=h.cn x hx;omega
     have h2:=hG.cnt x q[k] hx (h.lt _ (List.getElem_mem hk));rw[hr,List.count_append,List.count_cons]at h2;simp at h2
     have h3:((deps x).filter (fun y=>decide (y ∉ q.take k))).count q[k]=((deps x).filter (fun y=>decide (y ∉ q.take k))).length:=by
      have a1:((deps x).filter (fun y=>decide (y ∉ q.take k))).count q[k]=(deps x).count q[k]:=List.count_filter (by simpa using hyk)
      have a2:= @List.count_le_length _ _ q[k] ((deps x).filter (fun y=>decide (y ∉ q.take k)))
      unfold Gs at hlf;omega
     have h4:=(List.count_eq_length.1 h3) y (List.mem_filter.2 ⟨hyd,by simpa using hyt⟩)
     rw[<-h4];exact List.getElem_mem hk
 .refine ⟨h.nd,h.lt,h.kle,hcn,fun i hi=>?_,h.ord⟩
  show _↔(if i=x then c i-1 else c i)=0
  by_cases e:i=x
  .subst e
   rw[if_pos rfl];exact ⟨fun hm=>absurd hm hxq,fun h0=>by omega⟩
  .rw[if_neg e];exact h.z i hi
theorem Mt {A:List Nat} {y:Nat} (hy:y ∉ A): ∀l:List Nat,(l.filter (fun z=>decide (z ∉ A))).length=(l.filter (fun z=>decide (z ∉ A++ [y]))).length+l.count y:=by
 intro l
 induction l with
 |nil=>rfl
 |cons a l ih=>
  rw[List.filter_cons,List.filter_cons,List.count_cons]
  by_cases ha:a∈A
  .have hne:a≠y:=fun e=>hy (e▸ha)
   rw[if_neg (by simpa using ha),if_neg (by simp[ha]),if_neg (by simpa using hne)]
   omega
  .by_cases hae:a=y
   .rw[if_pos (by simpa using ha),if_neg (by simp[hae]),if_pos (by simpa using hae),List.length_cons]
    omega
   .rw[if_pos (by simpa using ha),if_pos (by simp[ha,hae]),if_neg (by simpa using hae),List.length_cons,List.length_cons]
    omega
theorem KI.next {n:Nat} {deps rd:Nat->List Nat} (hG:Gr n deps rd) {c:Nat->Int} {q:List Nat} {k:Nat} (hk:k<q.length) (h:KI n deps rd c q k (rd q[k])):KI n deps rd c q (k+1) []:=by
 have hy:q[k]<n:=h.lt _ (List.getElem_mem hk)
 have hyk:q[k] ∉ q.take k:=fun hm=>by
  have h1:=h.nd;rw[<-List.take_append_drop k q,List.nodup_append]at h1;exact h1.2.2 _ hm _ (by rw[List.drop_eq_getElem_cons hk];exact List.mem_cons_self) rfl
 refine ⟨h.nd,h.lt,hk,fun x hx=>?_,h.z,h.ord⟩
 rw[h.cn x hx,hG.cnt x q[k] hx hy];have h1:=Mt hyk (deps x);rw[<-List.take_succ_eq_append_getElem hk]at h1;unfold Gs;simp only[List.count_nil];omega
theorem KI.done {n:Nat} {deps rd:Nat->List Nat} (hG:Gr n deps rd) {c:Nat->Int} {q:List Nat} {k:Nat} (hk:k=q.length) (h:KI n deps rd c q k []):q.length=n↔Dl n deps:=by
 have hall: ∀x,x<n->(∀y∈deps x,y∈q)->x∈q:=fun x hx hd=>by
  rw[h.z x hx,h.cn x hx]
  have:Gs deps q k x=0:=by
   unfold Gs;rw[hk,List.take_length,List.length_eq_zero_iff,List.filter_eq_nil_iff];intro y hy
   simpa using hd y hy
  rw[this];rfl
 constructor
 .intro hl
  have hin: ∀x,x<n->x∈q:=fun x hx=>by
   have hp:(List.range n).length<=q.length:=by rw[List.length_range,hl];exact lZ
   by_cases hx':x∈q
   .exact hx'
   .have hsub:q ⊆ (List.range n).erase x:=fun y hy=>by
     rw[List.Nodup.mem_erase_iff List.nodup_range];exact ⟨fun e=>hx' (e▸hy),List.mem_range.2 (h.lt y hy)⟩
    have:=List.Nodup.length_le_of_subset h.nd hsub;rw[List.length_erase_of_mem (List.mem_range.2 hx),List.length_range]at this;omega
  refine ⟨fun x=>q.idxOf x,fun x hx y hy=>?_⟩
  have hxq:=hin x hx;have hi:=List.idxOf_lt_length_of_mem hxq;have he:=List.getElem_idxOf hi;have hyt:=h.ord _ hi y (by rw[he];exact hy)
  obtain ⟨j,hj,hjy⟩:=List.mem_take_iff_getElem.1 hyt;have hjl:j<q.length:=by omega
  have:q.idxOf y=j:=by
   rw[<-hjy];exact List.Nodup.idxOf_getElem h.nd j hjl
  show q.idxOf y<q.idxOf x
  rw[this];omega
 .rintro ⟨r,hr⟩
  have hin: ∀m x,r x=m->x<n->x∈q:=by
   intro m
   induction m using Nat.strongRecOn with
   |_ m ih=>
    intro x hm hx;exact hall x hx (fun y hy=>ih (r y) (by have:=hr x hx y hy;omega) y rfl (hG.din x hx y hy))
  have h1:=List.Nodup.length_le_of_subset (List.nodup_range (n:=n)) (fun x hx=>hin _ x rfl (List.mem_range.1 hx):List.range n ⊆ q)
  have h2:=List.Nodup.length_le_of_subset h.nd (fun x hx=>List.mem_range.2 (h.lt x hx):q ⊆ List.range n)
  rw[List.length_range]at h1 h2;omega
def vt (lead:Nat->List Nat) (i y:Nat):List Nat:=(List.range i).flatMap fun x=>List.replicate ((lead x).count y) x
theorem uh (lead:Nat->List Nat) (i y:Nat):vt lead (i+1) y=vt lead i y++List.replicate ((lead i).count y) i:=by
 unfold vt;rw[List.range_succ,List.flatMap_append];simp
theorem Ke (lead:Nat->List Nat) (y:Nat): ∀i x,x∈vt lead i y->x<i:=by
 intro i x hx;obtain ⟨z,hz,hx⟩:=List.mem_flatMap.1 hx;have:=(List.mem_replicate.1 hx).2;have:=List.mem_range.1 hz;omega
theorem xx (lead:Nat->List Nat) (y x:Nat): ∀i,(vt lead i y).count x=if x<i then (lead x).count y else 0:=by
 intro i
 induction i with
 |zero=>rfl
 |succ i ih=>
  rw[uh,List.count_append,ih,List.count_replicate]
  by_cases h:x<i
  .simp[h,show x<i+1 from by omega,show¬i=x from by omega]
  .by_cases h1:x=i
   .subst h1;simp
   .simp[h,show¬x<i+1 from by omega,show¬i=x from by omega]
theorem Sq {n:Nat} {lead:Nat->List Nat} (hd: ∀x,x<n->∀y∈lead x,y<n):Gr n lead (vt lead n):=
 ⟨hd,fun y _ x hx=>Ke lead y n x hx,fun x y hx _=>by rw[xx,if_pos hx]⟩
theorem Q7 {n:Nat} {lead:Nat->List Nat} (hd: ∀x,x<n->∀y∈lead x,y<n):Gr n (vt lead n) lead:=
 ⟨fun y _ x hx=>Ke lead y n x hx,hd,fun y x _ hx=>by rw[xx,if_pos hx]⟩
theorem Gm {n:Nat} {deps rd:Nat->List Nat} (hG:Gr n deps rd) (h:Dl n deps):Dl n rd:=by
 obtain ⟨r,hr⟩:=h
 have hb: ∃M,∀x,x<n->r x<M:=by
  clear hr hG
  induction n with
  |zero=>exact ⟨0,fun x hx=>by omega⟩
  |succ n ih=>
   obtain ⟨M,hM⟩:=ih;refine ⟨M+r n+1,fun x hx=>?_⟩
   by_cases h:x<n
   .have:=hM x h;omega
   .have:x=n:=by omega
    rw[this];omega
 obtain ⟨M,hM⟩:=hb;refine ⟨fun x=>M-r x,fun y hy x hx=>?_⟩
 have hxn:=hG.rin y hy x hx
 have hm:y∈deps x:=by
  have:=hG.cnt x y hxn hy;have h1:=List.count_pos_iff.2 hx;exact List.count_pos_iff.1 (by omega)
 have h1:=hr x hxn y hm;have h2:=hM x hxn;have h3:=hM y hy
 show M-r x<M-r y
 omega
theorem KI.start {n:Nat} {deps rd:Nat->List Nat} {c:Nat->Int} (hc: ∀x,x<n->c x=((deps x).length:Int)):KI n deps rd c ((List.range n).filter fun x=>decide (c x=0)) 0 []:=by
 refine ⟨List.Nodup.sublist List.filter_sublist List.nodup_range,fun x hx=>List.mem_range.1 (List.mem_filter.1 hx).1,oZ,fun x hx=>?_,fun x hx=>?_,fun j hj y hy=>?_⟩
 .rw[hc x hx]
  have:Gs deps ((List.range n).filter fun x=>decide (c x=0)) 0 x=(deps x).length:=by
   unfold Gs;rw[List.take_zero];rw[List.filter_eq_self.2 (by intro a _;simp)]
  rw[this];simp
 .rw[List.mem_filter,List.mem_range]
  simp[hx]
 .have hm:=List.mem_filter.1 (List.getElem_mem hj)
  have h0:c ((List.range n).filter fun x=>decide (c x=0))[j]=0:=by simpa using hm.2
  rw[hc _ (List.mem_range.1 hm.1)]at h0;have hl:(deps ((List.range n).filter fun x=>decide (c x=0))[j]).length=0:=by omega
  rw[List.length_eq_zero_iff.1 hl]at hy;cases hy
end Go.Proofs.YtmggaclaoefdaabGreat
