/- Part of the proof. Part of the proof. Part of the proof. Part of the proof. Part of the proof. Part of the proof. Part of the proof. Part of the proof. -/
import Derived.Test.YtmggaclaoefdaabGreatSq0
import Derived.Test.YtmggaclaoefdaabGreatRefTerm
import Derived.Deep.RegionWith
import Derived.Deep.RegionHeld3
import Derived.ProofKit
import Derived.Deep.Slices
import Derived.Deep.QuietTactic
import Derived.BigQuiet
import Derived.Deep.LoopGhost
import Derived.Maps.AppendAt
import Derived.Maps.OwnSet
import Derived.OwnWalk
namespace Go.Proofs.YtmggaclaoefdaabGreat
open Go.RowKit
def chks (T:Tm) (k:Nat):Int:=fst (fun i=>checkV (T.f i)) k
def queryV (T:Tm):Int:=if T.len≤6 then chks T T.len else 2
theorem chks_next (T:Tm) {k:Nat} (h:chks T k=0) (h0:checkV (T.f k)=0):chks T (k+1)=0:=by
 unfold chks at h ⊢;rw[fst,if_pos h];exact h0
theorem chks_stop (T:Tm) {k:Nat} (hk:k<T.len) (h:chks T k=0) (h0:checkV (T.f k)≠0):chks T T.len=checkV (T.f k):=fst_stop _ hk h h0
set_option maxHeartbeats 400000 in
theorem query_any (T:Tm) (w:World) (hin:TIn w T):
 Calls Tryz.prog 61 #[.slice T.a T.len T.cap] w fun e w'=>e=.returned (iV (queryV T))∧Below w.heap.size w w':=by
 have HIn:Hid (TIn w T):=hin;have hlen:T.len≤2 ^ 63-1:=hin.len;clear hin
 by_cases h6:T.len≤6
 case neg=>
  have HR:Hid (queryV T=2):=by rw[Hid,queryV,if_neg h6]
  go_enter Tryz.func61,Tryz.ntmps61
  go_wp2_with fail;go_ret;exact ⟨by rw[HR.o];rfl,Below.refl _ _⟩
 have HR:Hid (queryV T=chks T T.len):=by rw[Hid,queryV,if_pos h6]
 have HStop:Hid (∀k,k<T.len→chks T k=0→checkV (T.f k)≠0→queryV T=checkV (T.f k)):=fun k hk h h0=>HR.o.trans (chks_stop T hk h h0)
 have HRow:Hid (∀k,k<T.len→∀wr,Below w.heap.size w wr→RowAt wr T.a k (T.f k)∧TIn wr (T.f k)):=fun k hk wr hb=>⟨(HIn.o.row hk).below hb,(HIn.o.kid hk).below hb⟩
 have HNext:Hid (∀k,chks T k=0→checkV (T.f k)=0→chks T (k+1)=0):=fun k h h0=>chks_next T h h0
 generalize T.f=f at*;generalize T.cap=cap at*;generalize T.a=a at*;generalize hl:T.len=len at*;clear hl
 go_enter Tryz.func61,Tryz.ntmps61
 go_wp2_with fail
 go_loopw [11] (fun i wr=>∃k:Nat,k≤len∧i=iV k∧chks T k=0∧Below w.heap.size w wr) (fun i _=>len-(intOf i).toNat)
 case atStart=>exact ⟨0,Nat.zero_le _,rfl,rfl,Below.refl _ _⟩
 case round=>
  obtain ⟨k,hk,rfl,hf,hb⟩:=hrel;have HF:Hid (chks T k=0):=hf;have HB:Hid (Below w.heap.size w wr):=hb;have hsz:=hb.size;clear hf hb
  by_cases hlt:k<len
  ·obtain ⟨⟨b,o,ha,c0,c1,c2⟩,hT⟩:=HRow.o k hlt wr HB.o
   have HT:Hid (TIn wr (f k)):=hT;have HS:=HStop.o k hlt HF.o;have HS':Hid (checkV (f k)≠0→queryV T=checkV (f k)):=HS;have HN':Hid (checkV (f k)=0→chks T (k+1)=0):=HNext.o k HF.o;clear hT HS;subst ha;go_wp2_with fail;refine (check_any (f k) _ (HT.o.below ((Below.refl _ _).alloc (Nat.le_refl _) _))).mono ?_;rintro e w1 ⟨rfl,hb1⟩;have HW1:Hid (Below w.heap.size w w1):=(HB.o.trans (((Below.refl _ _).alloc (Nat.le_refl _) _).mono hsz)).trans (hb1.mono (by simp;omega))
   clear hb1
   by_cases hz:checkV (f k)=0
   ·have HX:Hid (chks T (k+1)=0):=HN'.o hz
    rw[hz];clear hz;go_wp2_with fail;go_roundw
    case rel=>exact ⟨k+1,by omega,by go_num,HX.o,HW1.o⟩
    case measure=>simp[intOf];omega
   ·have HX:Hid (queryV T=checkV (f k)):=HS'.o hz
    have hzb:(checkV (f k)==0)=false:=beq_eq_false_iff_ne.2 hz;clear hz;go_wp2_with fail;go_ret;exact ⟨by rw[HX.o];rfl,HW1.o⟩
  ·have hke:k=len:=by omega
   have HX:Hid (queryV T=0):=by rw[Hid,HR.o,←hke,HF.o]
   clear hke;go_wp2_with fail;go_ret;exact ⟨by rw[HX.o];rfl,HB.o⟩
set_option maxHeartbeats 400000 in
theorem checkQuery_any (T:Tm) (w:World) (hin:TIn w T):
 Calls Tryz.prog 27 #[.slice T.a T.len T.cap] w fun e w'=>e=.returned (iV (queryV T))∧Below w.heap.size w w':=by
 have HIn:Hid (TIn w T):=hin;have hlen:T.len≤2 ^ 63-1:=hin.len;clear hin
 by_cases h6:T.len≤6
 case neg=>
  have HR:Hid (queryV T=2):=by rw[Hid,queryV,if_neg h6]
  go_enter Tryz.func27,Tryz.ntmps27
  go_wp2_with fail;go_ret;exact ⟨by rw[HR.o];rfl,Below.refl _ _⟩
 have HR:Hid (queryV T=chks T T.len):=by rw[Hid,queryV,if_pos h6]
 have HStop:Hid (∀k,k<T.len→chks T k=0→checkV (T.f k)≠0→queryV T=checkV (T.f k)):=fun k hk h h0=>HR.o.trans (chks_stop T hk h h0)
 have HRow:Hid (∀k,k<T.len→∀wr,Below w.heap.size w wr→RowAt wr T.a k (T.f k)∧TIn wr (T.f k)):=fun k hk wr hb=>⟨(HIn.o.row hk).below hb,(HIn.o.kid hk).below hb⟩
 have HNext:Hid (∀k,chks T k=0→checkV (T.f k)=0→chks T (k+1)=0):=fun k h h0=>chks_next T h h0
 generalize T.f=f at*;generalize T.cap=cap at*;generalize T.a=a at*;generalize hl:T.len=len at*;clear hl
 go_enter Tryz.func27,Tryz.ntmps27
 go_wp2_with fail
 go_loopw [3] (fun i wr=>∃k:Nat,k≤len∧i=iV k∧chks T k=0∧Below w.heap.size w wr) (fun i _=>len-(intOf i).toNat)
 case atStart=>exact ⟨0,Nat.zero_le _,rfl,rfl,Below.refl _ _⟩
 case round=>
  obtain ⟨k,hk,rfl,hf,hb⟩:=hrel;have HF:Hid (chks T k=0):=hf;have HB:Hid (Below w.heap.size w wr):=hb;have hsz:=hb.size;clear hf hb
  by_cases hlt:k<len
  ·obtain ⟨⟨b,o,ha,c0,c1,c2⟩,hT⟩:=HRow.o k hlt wr HB.o
   have HT:Hid (TIn wr (f k)):=hT;have HS:=HStop.o k hlt HF.o;have HS':Hid (checkV (f k)≠0→queryV T=checkV (f k)):=HS;have HN':Hid (checkV (f k)=0→chks T (k+1)=0):=HNext.o k HF.o;clear hT HS;subst ha;go_wp2_with fail;refine (checkTerm_any (f k) _ HT.o).mono ?_;rintro e w1 ⟨rfl,hb1⟩;have HW1:Hid (Below w.heap.size w w1):=HB.o.trans (hb1.mono hsz);clear hb1
   by_cases hz:checkV (f k)=0
   ·have HX:Hid (chks T (k+1)=0):=HN'.o hz
    rw[hz];clear hz;go_wp2_with fail;go_roundw
    case rel=>exact ⟨k+1,by omega,by go_num,HX.o,HW1.o⟩
    case measure=>simp[intOf];omega
   ·have HX:Hid (queryV T=checkV (f k)):=HS'.o hz
    have hzb:(checkV (f k)==0)=false:=beq_eq_false_iff_ne.2 hz;clear hz;go_wp2_with fail;go_ret;exact ⟨by rw[HX.o];rfl,HW1.o⟩
  ·have hke:k=len:=by omega
   have HX:Hid (queryV T=0):=by rw[Hid,HR.o,←hke,HF.o]
   clear hke;go_wp2_with fail;go_ret;exact ⟨by rw[HX.o];rfl,HB.o⟩
end Go.Proofs.YtmggaclaoefdaabGreat

namespace Go.Proofs.YtmggaclaoefdaabGreat
open Go.RowKit
def headV (T:Tm):Int:=if checkV T=0 then (if T.v=0 then (if meansB T.nm T.len=true then 4 else 0)else 1)else checkV T
theorem box_cells {w w1:World} {T:Tm} (h:Below (w.heap.size+1) (w.alloc (.cells #[iV T.v,.string T.nm,.slice T.a T.len T.cap] 67)) w1):
 w1.cell? ⟨w.heap.size,0,none⟩=some (iV T.v)∧w1.cell? ⟨w.heap.size,1,none⟩=some (.string T.nm)∧w1.cell? ⟨w.heap.size,2,none⟩=some (.slice T.a T.len T.cap):=
 ⟨(h.cell (p:=⟨w.heap.size,0,none⟩) (by simp)).trans (by go_simp),(h.cell (p:=⟨w.heap.size,1,none⟩) (by simp)).trans (by go_simp),(h.cell (p:=⟨w.heap.size,2,none⟩) (by simp)).trans (by go_simp)⟩
set_option maxHeartbeats 400000 in
theorem head_any (T:Tm) (w:World) (hin:TIn w T):
 Calls Tryz.prog 60 #[T.val] w fun e w'=>e=.returned (iV (headV T))∧Below w.heap.size w w':=by
 have HIn:=hid hin;clear hin
 show Calls Tryz.prog 60 #[.agg #[iV T.v,.string T.nm,.slice T.a T.len T.cap]] w _
 have H1:Hid (TIn (w.alloc (.cells #[iV T.v,.string T.nm,.slice T.a T.len T.cap] 67)) T):=HIn.o.below ((Below.refl _ _).alloc (Nat.le_refl _) _)
 go_enter Tryz.func60,Tryz.ntmps60
 go_wp2_with fail;refine (check_any T _ H1.o).mono ?_;rintro e w1 ⟨rfl,hb1⟩
 have HB1:Hid (Below (w.heap.size+1) (w.alloc (.cells #[iV T.v,.string T.nm,.slice T.a T.len T.cap] 67)) w1):=by
  have:=hb1;rw[Hid];simpa using this
 have HW1:Hid (Below w.heap.size w w1):=((Below.refl _ _).alloc (Nat.le_refl _) _).trans (hb1.mono (by simp))
 have hsz1:=HW1.o.size;clear hb1;obtain ⟨hc0,hc1,hc2⟩:=box_cells HB1.o
 by_cases hz:checkV T=0
 ·by_cases hv:T.v=0
  ·cases hm:meansB T.nm T.len
   ·have HX:Hid (headV T=0):=by rw[Hid,headV,if_pos hz,if_pos hv,if_neg (by rw[hm];simp)]
    rw[hz];rw[hv]at hc0;clear hz;go_wp2_with fail;refine (means_any _ _ _ _ _ _).mono ?_;rintro e w2 ⟨rfl,hb2⟩;rw[hm];have HW2:=hid (HW1.o.trans (hb2.mono hsz1));clear hb2;go_wp2_with fail;go_ret;exact ⟨by rw[HX.o];rfl,HW2.o⟩
   ·have HX:Hid (headV T=4):=by rw[Hid,headV,if_pos hz,if_pos hv,if_pos hm]
    rw[hz];rw[hv]at hc0;clear hz;go_wp2_with fail;refine (means_any _ _ _ _ _ _).mono ?_;rintro e w2 ⟨rfl,hb2⟩;rw[hm];have HW2:=hid (HW1.o.trans (hb2.mono hsz1));clear hb2;go_wp2_with fail;go_ret;exact ⟨by rw[HX.o];rfl,HW2.o⟩
  ·have HX:Hid (headV T=1):=by rw[Hid,headV,if_pos hz,if_neg hv]
   have hvb:=beq_eq_false_iff_ne.2 hv;rw[hz];clear hz hv;go_wp2_with fail;go_ret;exact ⟨by rw[HX.o];rfl,HW1.o⟩
 ·have HX:Hid (headV T=checkV T):=by rw[Hid,headV,if_neg hz]
  have hzb:=beq_eq_false_iff_ne.2 hz;clear hz;go_wp2_with fail;go_ret;exact ⟨by rw[HX.o];rfl,HW1.o⟩
structure Pg where
 a:Option Addr
 len:Nat
 cap:Nat
 hd:Nat→Tm
 bd:Nat→Tm
def ClAt (w:World) (a:Option Addr) (i:Nat) (H B:Tm):Prop:=
 ∃b o,a=some ⟨b,o,none⟩∧w.cell? ⟨b,o+i*4,none⟩=some (iV H.v)∧w.cell? ⟨b,o+i*4+1,none⟩=some (.string H.nm)∧w.cell? ⟨b,o+i*4+2,none⟩=some (.slice H.a H.len H.cap)∧w.cell? ⟨b,o+i*4+3,none⟩=some (.slice B.a B.len B.cap)
theorem ClAt.below {w w':World} {a:Option Addr} {i:Nat} {H B:Tm} (h:ClAt w a i H B) (hb:Below w.heap.size w w'):ClAt w' a i H B:=by
 obtain ⟨b,o,rfl,h0,h1,h2,h3⟩:=h;exact ⟨b,o,rfl,(hb.cell (lt_of_cell h0)).trans h0,(hb.cell (lt_of_cell h1)).trans h1,(hb.cell (lt_of_cell h2)).trans h2,(hb.cell (lt_of_cell h3)).trans h3⟩
def PIn (w:World) (P:Pg):Prop:=P.len≤maxLen∧∀i,i<P.len→ClAt w P.a i (P.hd i) (P.bd i)∧TIn w (P.hd i)∧TIn w (P.bd i)
theorem PIn.below {w w':World} {P:Pg} (h:PIn w P) (hb:Below w.heap.size w w'):PIn w' P:=⟨h.1,fun i hi=>⟨(h.2 i hi).1.below hb,(h.2 i hi).2.1.below hb,(h.2 i hi).2.2.below hb⟩⟩
def clV (H B:Tm):Int:=if headV H=0 then queryV B else headV H
def clsV (P:Pg) (k:Nat):Int:=fst (fun i=>clV (P.hd i) (P.bd i)) k
def progV (P:Pg):Int:=if P.len≤30 then clsV P P.len else 2
theorem clsV_next (P:Pg) {k:Nat} (h:clsV P k=0) (h0:clV (P.hd k) (P.bd k)=0):clsV P (k+1)=0:=by
 unfold clsV at h ⊢;rw[fst,if_pos h];exact h0
theorem clsV_stop (P:Pg) {k:Nat} (hk:k<P.len) (h:clsV P k=0) (h0:clV (P.hd k) (P.bd k)≠0):clsV P P.len=clV (P.hd k) (P.bd k):=fst_stop _ hk h h0
set_option maxHeartbeats 400000 in
theorem clauses_any (P:Pg) (w:World) (hin:PIn w P):
 Calls Tryz.prog 32 #[.slice P.a P.len P.cap] w fun e w'=>e=.returned (iV (progV P))∧Below w.heap.size w w':=by
 have HIn:=hid hin;have hlen:=hin.1;clear hin
 by_cases h6:P.len≤30
 case neg=>
  have HR:Hid (progV P=2):=by rw[Hid,progV,if_neg h6]
  go_enter Tryz.func32,Tryz.ntmps32
  go_wp2_with fail;go_ret;exact ⟨by rw[HR.o];rfl,Below.refl _ _⟩
 have HR:Hid (progV P=clsV P P.len):=by rw[Hid,progV,if_pos h6]
 have HStop:Hid (∀k,k<P.len→clsV P k=0→clV (P.hd k) (P.bd k)≠0→progV P=clV (P.hd k) (P.bd k)):=fun k hk h h0=>HR.o.trans (clsV_stop P hk h h0)
 have HRow:Hid (∀k,k<P.len→∀wr,Below w.heap.size w wr→ClAt wr P.a k (P.hd k) (P.bd k)∧TIn wr (P.hd k)∧TIn wr (P.bd k)):=fun k hk wr hb=>(HIn.o.below hb).2 k hk
 have HNext:Hid (∀k,clsV P k=0→clV (P.hd k) (P.bd k)=0→clsV P (k+1)=0):=fun k h h0=>clsV_next P h h0
 generalize P.hd=hd at*;generalize P.bd=bd at*;generalize P.cap=cap at*;generalize P.a=a at*;generalize hl:P.len=len at*;clear hl
 go_enter Tryz.func32,Tryz.ntmps32
 go_wp2_with fail
 go_loopw [12] (fun i wr=>∃k:Nat,k≤len∧i=iV k∧clsV P k=0∧Below w.heap.size w wr) (fun i _=>len-(intOf i).toNat)
 case atStart=>exact ⟨0,Nat.zero_le _,rfl,rfl,Below.refl _ _⟩
 case round=>
  obtain ⟨k,hk,rfl,hf,hb⟩:=hrel;have HF:=hid hf;have HB:=hid hb;have hsz:=hb.size;clear hf hb
  by_cases hlt:k<len
  ·obtain ⟨⟨b,o,ha,c0,c1,c2,c3⟩,hT,hQ⟩:=HRow.o k hlt wr HB.o
   have HT:=hid hT;have HQ:=hid hQ;have HS':=hid (HStop.o k hlt HF.o);have HN':=hid (HNext.o k HF.o);clear hT hQ;subst ha;go_wp2_with fail;refine (head_any (hd k) _ (HT.o.below ((Below.refl _ _).alloc (Nat.le_refl _) _))).mono ?_;rintro e w1 ⟨rfl,hb1⟩
   have HB1:Hid (Below (wr.heap.size+1) (wr.alloc (.cells #[iV (hd k).v,.string (hd k).nm,.slice (hd k).a (hd k).len (hd k).cap,.slice (bd k).a (bd k).len (bd k).cap] 107)) w1):=by
    have:=hb1;rw[Hid];simpa using this
   clear hb1;have HWr:Hid (Below wr.heap.size wr w1):=((Below.refl _ _).alloc (Nat.le_refl _) _).trans (HB1.o.mono (by omega))
   have hsz1:=HWr.o.size;have HW1:=hid (HB.o.trans (HWr.o.mono hsz));have hc3:w1.cell? ⟨wr.heap.size,3,none⟩=some (.slice (bd k).a (bd k).len (bd k).cap):=(HB1.o.cell (p:=⟨wr.heap.size,3,none⟩) (by simp)).trans (by go_simp)
   by_cases hz:headV (hd k)=0
   ·have HC:Hid (clV (hd k) (bd k)=queryV (bd k)):=by rw[Hid,clV,if_pos hz]
    rw[hz];clear hz;go_wp2_with fail;refine (query_any (bd k) _ (HQ.o.below HWr.o)).mono ?_;rintro e w2 ⟨rfl,hb2⟩;have HW2:=hid (HW1.o.trans (hb2.mono (by omega)))
    clear hb2
    by_cases hq:queryV (bd k)=0
    ·have HX:=hid (HN'.o (HC.o.trans hq))
     rw[hq];clear hq;go_wp2_with fail;go_roundw
     case rel=>exact ⟨k+1,by omega,by go_num,HX.o,HW2.o⟩
     case measure=>simp[intOf];omega
    ·have HX:Hid (progV P=queryV (bd k)):=(HS'.o (by rw[HC.o];exact hq)).trans HC.o
     have hqb:=beq_eq_false_iff_ne.2 hq;clear hq;go_wp2_with fail;go_ret;exact ⟨by rw[HX.o];rfl,HW2.o⟩
   ·have HC:Hid (clV (hd k) (bd k)=headV (hd k)):=by rw[Hid,clV,if_neg hz]
    have HX:Hid (progV P=headV (hd k)):=(HS'.o (by rw[HC.o];exact hz)).trans HC.o
    have hzb:=beq_eq_false_iff_ne.2 hz;clear hz;go_wp2_with fail;go_ret;exact ⟨by rw[HX.o];rfl,HW1.o⟩
  ·have hke:k=len:=by omega
   have HX:Hid (progV P=0):=by rw[Hid,HR.o,←hke,HF.o]
   clear hke;go_wp2_with fail;go_ret;exact ⟨by rw[HX.o];rfl,HB.o⟩
end Go.Proofs.YtmggaclaoefdaabGreat

namespace Go.Proofs.YtmggaclaoefdaabGreat
open Go.RowKit
set_option maxHeartbeats 800000 in
theorem checkProgram_any (P:Pg) (w:World) (hin:PIn w P):
 Calls Tryz.prog 26 #[.slice P.a P.len P.cap] w fun e w'=>e=.returned (iV (progV P))∧Below w.heap.size w w':=by
 have HIn:Hid (PIn w P):=hin;have hlen:P.len≤2 ^ 63-1:=hin.1;clear hin
 by_cases h6:P.len≤30
 case neg=>
  have HR:Hid (progV P=2):=by rw[Hid,progV,if_neg h6]
  go_enter Tryz.func26,Tryz.ntmps26
  go_wp2_with fail;go_ret;exact ⟨by rw[HR.o];rfl,Below.refl _ _⟩
 have HR:Hid (progV P=clsV P P.len):=by rw[Hid,progV,if_pos h6]
 have HStop:Hid (∀k,k<P.len→clsV P k=0→clV (P.hd k) (P.bd k)≠0→progV P=clV (P.hd k) (P.bd k)):=fun k hk h h0=>HR.o.trans (clsV_stop P hk h h0)
 have HRow:Hid (∀k,k<P.len→∀wr,Below w.heap.size w wr→ClAt wr P.a k (P.hd k) (P.bd k)∧TIn wr (P.hd k)∧TIn wr (P.bd k)):=fun k hk wr hb=>(HIn.o.below hb).2 k hk
 have HNext:Hid (∀k,clsV P k=0→clV (P.hd k) (P.bd k)=0→clsV P (k+1)=0):=fun k h h0=>clsV_next P h h0
 generalize P.hd=hd at*;generalize P.bd=bd at*;generalize P.cap=cap at*;generalize P.a=a at*;generalize hl:P.len=len at*;clear hl
 go_enter Tryz.func26,Tryz.ntmps26
 go_wp2_with fail
 go_loopw [3] (fun i wr=>∃k:Nat,k≤len∧i=iV k∧clsV P k=0∧Below w.heap.size w wr) (fun i _=>len-(intOf i).toNat)
 case atStart=>exact ⟨0,Nat.zero_le _,rfl,rfl,Below.refl _ _⟩
 case round=>
  obtain ⟨k,hk,rfl,hf,hb⟩:=hrel;have HF:Hid (clsV P k=0):=hf;have HB:Hid (Below w.heap.size w wr):=hb;have hsz:=hb.size;clear hf hb
  by_cases hlt:k<len
  ·obtain ⟨⟨b,o,ha,c0,c1,c2,c3⟩,hT,hQ⟩:=HRow.o k hlt wr HB.o
   have HT:Hid (TIn wr (hd k)):=hT;have HQ:Hid (TIn wr (bd k)):=hQ;have HS':Hid (clV (hd k) (bd k)≠0→progV P=clV (hd k) (bd k)):=HStop.o k hlt HF.o;have HN':Hid (clV (hd k) (bd k)=0→clsV P (k+1)=0):=HNext.o k HF.o;clear hT hQ;subst ha;have HC3:Hid (wr.cell? ⟨b,o+k*4+3,none⟩=some (.slice (bd k).a (bd k).len (bd k).cap)):=c3;clear c3;go_wp2_with fail;refine (checkTerm_any (hd k) _ (HT.o.below ((Below.refl _ _).alloc (Nat.le_refl _) _))).mono ?_;rintro e w1 ⟨rfl,hb1⟩
   have HB1:Hid (Below (wr.heap.size+1) (wr.alloc (.cells #[iV (hd k).v,.string (hd k).nm,.slice (hd k).a (hd k).len (hd k).cap] 67)) w1):=by
    have:=hb1;rw[Hid];simpa using this
   clear hb1;have HWr:Hid (Below wr.heap.size wr w1):=((Below.refl _ _).alloc (Nat.le_refl _) _).trans (HB1.o.mono (by omega))
   have hsz1:wr.heap.size≤w1.heap.size:=HWr.o.size;have HW1:Hid (Below w.heap.size w w1):=HB.o.trans (HWr.o.mono hsz);obtain ⟨hc0,hc1,hc2⟩:=box_cells (T:=hd k) HB1.o;have hc3:w1.cell? ⟨b,o+k*4+3,none⟩=some (.slice (bd k).a (bd k).len (bd k).cap):=(HWr.o.cell (lt_of_cell HC3.o)).trans HC3.o;clear c0 c1 c2
   by_cases hck:checkV (hd k)=0
   case neg=>
    have HH:Hid (headV (hd k)=checkV (hd k)):=by rw[Hid,headV,if_neg hck]
    have HC:Hid (clV (hd k) (bd k)=checkV (hd k)):=by rw[Hid,clV,HH.o,if_neg hck]
    have HX:Hid (progV P=checkV (hd k)):=(HS'.o (by rw[HC.o];exact hck)).trans HC.o
    have hzb:(checkV (hd k)==0)=false:=beq_eq_false_iff_ne.2 hck;clear hck;go_wp2_with fail;go_ret;exact ⟨by rw[HX.o];rfl,HW1.o⟩
   by_cases hv:(hd k).v=0
   case neg=>
    have HH:Hid (headV (hd k)=1):=by rw[Hid,headV,if_pos hck,if_neg hv]
    have HC:Hid (clV (hd k) (bd k)=1):=by rw[Hid,clV,HH.o];rfl
    have HX:Hid (progV P=1):=(HS'.o (by rw[HC.o];decide)).trans HC.o
    have hvb:((hd k).v==0)=false:=beq_eq_false_iff_ne.2 hv;rw[hck];clear hck hv;go_wp2_with fail;go_ret;exact ⟨by rw[HX.o];rfl,HW1.o⟩
   cases hm:meansB (hd k).nm (hd k).len
   case true=>
    have HH:Hid (headV (hd k)=4):=by rw[Hid,headV,if_pos hck,if_pos hv,if_pos hm]
    have HC:Hid (clV (hd k) (bd k)=4):=by rw[Hid,clV,HH.o];rfl
    have HX:Hid (progV P=4):=(HS'.o (by rw[HC.o];decide)).trans HC.o
    rw[hck];rw[hv]at hc0;have HM:Hid (meansB (hd k).nm (hd k).len=true):=hm;clear hck hv hm;go_wp2_with fail;refine (isBuiltin_any _ _ _).mono ?_;rintro e w2 ⟨rfl,rfl⟩;rw[HM.o];go_wp2_with fail;go_ret;exact ⟨by rw[HX.o];rfl,HW1.o⟩
   have HH:Hid (headV (hd k)=0):=by rw[Hid,headV,if_pos hck,if_pos hv,if_neg (by rw[hm];simp)]
   have HC:Hid (clV (hd k) (bd k)=queryV (bd k)):=by rw[Hid,clV,if_pos HH.o]
   rw[hck];rw[hv]at hc0;have HM:Hid (meansB (hd k).nm (hd k).len=false):=hm;clear hck hv hm;go_wp2_with fail;refine (isBuiltin_any _ _ _).mono ?_;rintro e w2 ⟨rfl,rfl⟩;rw[HM.o];go_wp2_with fail;refine (checkQuery_any (bd k) _ (HQ.o.below HWr.o)).mono ?_;rintro e w3 ⟨rfl,hb3⟩;have HW3:Hid (Below w.heap.size w w3):=HW1.o.trans (hb3.mono (by omega))
   clear hb3
   by_cases hq:queryV (bd k)=0
   ·have HX:Hid (clsV P (k+1)=0):=HN'.o (HC.o.trans hq)
    rw[hq];clear hq;go_wp2_with fail;go_roundw
    case rel=>exact ⟨k+1,by omega,by go_num,HX.o,HW3.o⟩
    case measure=>simp[intOf];omega
   ·have HX:Hid (progV P=queryV (bd k)):=(HS'.o (by rw[HC.o];exact hq)).trans HC.o
    have hqb:(queryV (bd k)==0)=false:=beq_eq_false_iff_ne.2 hq;clear hq;go_wp2_with fail;go_ret;exact ⟨by rw[HX.o];rfl,HW3.o⟩
  ·have hke:k=len:=by omega
   have HX:Hid (progV P=0):=by rw[Hid,HR.o,←hke,HF.o]
   clear hke;go_wp2_with fail;go_ret;exact ⟨by rw[HX.o];rfl,HB.o⟩
end Go.Proofs.YtmggaclaoefdaabGreat

namespace Go.Proofs.YtmggaclaoefdaabGreat
open Go.RowKit
def grTo (g:Nat→Int):Nat→Int
 |0=>0
 |k+1=>max (grTo g k) (g k)
def gr:Tm→Int
 | .nil=>max 0 0
 | .mk v _ _ len _ f=>max v (grTo (fun i=>gr (f i)) len)
def grs (T:Tm):Int:=grTo (fun i=>gr (T.f i)) T.len
theorem gr_eq (T:Tm):gr T=max T.v (grs T):=by cases T <;> rfl
theorem max3 (a b c:Int):max a (max b c)=if (if a<b then b else a)<c then c else if a<b then b else a:=by
 split <;> split <;> omega
set_option maxHeartbeats 800000 in
theorem greatest_any (T:Tm): ∀(w:World),TIn w T→
 Calls Tryz.prog 84 #[.slice T.a T.len T.cap] w fun e w'=>e=.returned (iV (grs T))∧Below w.heap.size w w':=by
 induction T with
 |nil=>intro w hin;exact False.elim hin
 |mk v nm a len cap f ih=>
  intro w hin;have IH:Hid (∀i (w:World),TIn w (f i)→Calls Tryz.prog 84 #[.slice (f i).a (f i).len (f i).cap] w fun e w'=>e=.returned (iV (grs (f i)))∧Below w.heap.size w w'):=ih
  have HIn:Hid (TIn w (.mk v nm a len cap f)):=hin;have hlen:len≤2 ^ 63-1:=TIn.len (T:=.mk v nm a len cap f) hin;have HS:Hid (grs (.mk v nm a len cap f)=grTo (fun i=>gr (f i)) len):=rfl
  clear ih hin
  show Calls Tryz.prog 84 #[.slice a len cap] w _
  go_enter Tryz.func84,Tryz.ntmps84
  go_wp2_with fail
  go_loopw [3,8] (fun n' i wr=>∃k:Nat,k≤len∧i=iV k∧n'=iV (grTo (fun i=>gr (f i)) k)∧Below w.heap.size w wr) (fun _ i _=>len-(intOf i).toNat)
  case atStart=>exact ⟨0,Nat.zero_le _,rfl,rfl,Below.refl _ _⟩
  case round=>
   obtain ⟨k,hk,rfl,rfl,hb⟩:=hrel;have HB:Hid (Below w.heap.size w wr):=hb;have hsz:=hb.size;clear hb
   by_cases hlt:k<len
   ·have hr:RowAt wr a k (f k):=(TIn.row (T:=.mk v nm a len cap f) HIn.o hlt).below HB.o
    obtain ⟨b,o,ha,c0,c1,c2⟩:=hr;have HT:Hid (TIn wr (f k)):=(TIn.kid (T:=.mk v nm a len cap f) HIn.o hlt).below HB.o;have HE:Hid (grTo (fun i=>gr (f i)) (k+1)=max (grTo (fun i=>gr (f i)) k) (max (f k).v (grs (f k)))):=by rw[Hid,grTo,gr_eq]
    generalize grTo (fun i=>gr (f i)) k=sk at*
    subst ha;go_wp2_with fail
    go_region_with (
     go_at_call 84
     refine (IH.o k _ (HT.o.below (by exact ((Below.refl _ _).alloc (Nat.le_refl _) _).drew))).mono ?_
     rintro e w1 ⟨rfl,hb1⟩;have hc0:w1.cell? ⟨wr.heap.size,0,none⟩=some (iV (f k).v):=(hb1.cell (p:=⟨wr.heap.size,0,none⟩) (by simp)).trans (by go_simp)
     have HX:Hid (Below w.heap.size w w1):=by
      refine HB.o.trans (Below.trans ?_ (hb1.mono (by simp;omega)))
      exact (((Below.refl _ _).alloc (Nat.le_refl _) _).drew).mono hsz
     clear hb1)
    all_goals
     go_wp2_with fail;go_roundw
     case rel=>exact ⟨k+1,by omega,by go_num,by rw[HE.o,max3],HX.o⟩
     case measure=>simp[intOf];omega
   ·have hke:k=len:=by omega
    have HR:Hid (grs (.mk v nm a len cap f)=grTo (fun i=>gr (f i)) k):=by rw[Hid,HS.o,←hke]
    clear hke;go_wp2_with fail;go_ret;exact ⟨by rw[HR.o];rfl,HB.o⟩
end Go.Proofs.YtmggaclaoefdaabGreat

namespace Go.Proofs.YtmggaclaoefdaabGreat
open Go.RowKit
theorem grTo_nonneg (g:Nat→Int) (k:Nat):0≤grTo g k:=by
 induction k with
 |zero=>exact Int.le_refl _
 |succ k ih=>rw[grTo];omega
def varsV (T:Tm):Int:=if queryV T=0 then grs T else 0
set_option maxHeartbeats 800000 in
theorem vars_any (T:Tm) (w:World) (hin:TIn w T):
 Calls Tryz.prog 48 #[.slice T.a T.len T.cap] w fun e w'=>e=.returned (.tuple #[iV (varsV T),iV (queryV T)])∧Below w.heap.size w w':=by
 have HIn:=hid hin;clear hin
 go_enter Tryz.func48,Tryz.ntmps48
 go_wp2_with fail;refine (query_any T _ HIn.o).mono ?_;rintro e w1 ⟨rfl,hb1⟩;have HB1:=hid hb1;have hsz:=hb1.size;clear hb1
 by_cases hz:queryV T=0
 ·have HX:Hid (varsV T=grs T):=by rw[Hid,varsV,if_pos hz]
  have HZ:=hid hz;rw[hz];clear hz;go_wp2_with fail;refine (greatest_any T _ (HIn.o.below HB1.o)).mono ?_;rintro e w2 ⟨rfl,hb2⟩;have HB2:=hid (HB1.o.trans (hb2.mono hsz));clear hb2;go_wp2_with fail
  go_ret2
  exact ⟨by rw[HX.o,HZ.o];rfl,HB2.o⟩
 ·have HX:Hid (varsV T=0):=by rw[Hid,varsV,if_neg hz]
  have hzb:=beq_eq_false_iff_ne.2 hz;clear hz;go_wp2_with fail
  go_ret2
  exact ⟨by rw[HX.o];rfl,HB1.o⟩
end Go.Proofs.YtmggaclaoefdaabGreat

namespace Go.Proofs.YtmggaclaoefdaabGreat
open Go.RowKit
theorem fn_any (nm:ByteArray) (a:Option Addr) (len cap:Nat) (w:World):
 Calls Tryz.prog 29 #[.string nm,.slice a len cap] w fun e w'=>e=.returned (.agg #[iV 0,.string nm,.slice a len cap])∧Below w.heap.size w w':=by
 go_enter Tryz.func29,Tryz.ntmps29
 go_wp2
 exact bodyPost_ret (v:=.agg #[iV 0,.string nm,.slice a len cap]) (by simp[results,Tryz.results29,go_sem]) rfl ⟨rfl,(Below.refl _ _).alloc (Nat.le_refl _) _⟩
theorem va_any (n:Int) (w:World):
 Calls Tryz.prog 30 #[iV n] w fun e w'=>e=.returned (.agg #[iV n,.string ⟨#[]⟩,.slice none 0 0])∧Below w.heap.size w w':=by
 go_enter Tryz.func30,Tryz.ntmps30
 go_wp2
 exact bodyPost_ret (v:=.agg #[iV n,.string ⟨#[]⟩,.slice none 0 0]) (by simp[results,Tryz.results30,go_sem]) rfl ⟨rfl,(Below.refl _ _).alloc (Nat.le_refl _) _⟩
theorem TIn.rename {w:World} {v v':Int} {nm nm':ByteArray} {a:Option Addr} {len cap cap':Nat} {f:Nat→Tm} (h:TIn w (.mk v nm a len cap f)) (hs:nm'.size≤maxLen):TIn w (.mk v' nm' a len cap' f):=⟨hs,h.2⟩
def leafT (v:Int) (nm:ByteArray):Tm:=.mk v nm none 0 0 (fun _=> .nil)
theorem leaf_in (w:World) (v:Int) (nm:ByteArray) (h:nm.size≤maxLen):TIn w (leafT v nm):=⟨h,Nat.zero_le _,fun i hi=>absurd hi (Nat.not_lt_zero i)⟩
def unT (nm:ByteArray) (b:Nat) (T:Tm):Tm:=.mk 0 nm (some ⟨b,0,none⟩) 1 1 (fun _=>T)
theorem size2 (nm:ByteArray) (h:nm.size≤2):nm.size≤maxLen:=by unfold maxLen;omega
end Go.Proofs.YtmggaclaoefdaabGreat

namespace Go.Proofs.YtmggaclaoefdaabGreat
open Go.RowKit Go.ChangeShapes Go.WideShapes
theorem Tryz.cells67:Tryz.prog.cellsOf 67=3:=by kernel_rfl
theorem Tryz.cells107:Tryz.prog.cellsOf 107=4:=by kernel_rfl
theorem Tryz.cells24:Tryz.prog.cellsOf 24=1:=by kernel_rfl
theorem Tryz.cells3:Tryz.prog.cellsOf 3=1:=by kernel_rfl
theorem Tryz.cells9:Tryz.prog.cellsOf 9=1:=by kernel_rfl
instance:Inhabited Tm:=⟨.nil⟩
section
variable {H:Type} {enc:TypeId × Value→H} {W:World} {spare:Nat→Bool} {held:Bool}
theorem row_of_cells {a:Addr} {i:Nat} {T:Tm} (hs:a.spot=none) (h:W.cells? 0 (a.add (i*3)) 3=some (cells3 T)):RowAt W (some a) i T:=by
 obtain ⟨b,o,s⟩:=a;cases hs;obtain ⟨_,_,hc⟩:=World.cells?_some h
 have e: ∀j,((⟨b,o,none⟩:Addr).add (i*3)).add j=⟨b,o+i*3+j,none⟩:=fun j=>by
  rw[Go.Deep.add_add];unfold Addr.add
  split
  ·rename_i h0
   have h2:j=0:=by omega
   rw[h2];simp
  ·simp[Nat.add_assoc]
 refine ⟨b,o,rfl,?_,?_,?_⟩
 ·have:=hc 0 (by omega);rw[e]at this;exact this
 ·have:=hc 1 (by omega);rw[e]at this;exact this
 ·have:=hc 2 (by omega);rw[e]at this;exact this
set_option maxRecDepth 100000 in
theorem open_term: ∀(n:Nat),(∀(cs:List Value) (x:DataW H × List MemPlace),DataW.trod enc Tryz.prog W 0 spare held n 67 cs=some x→∃T:Tm,cs=cells3 T∧TIn W T)∧
 (∀(cs:List Value) (x:DataW H × List MemPlace),DataW.trod enc Tryz.prog W 0 spare held n 24 cs=some x→∃T:Tm,T.v=0∧T.nm=⟨#[]⟩∧cs= [.slice T.a T.len T.cap]∧TIn W T):=by
 intro n
 induction n with
 |zero=>exact ⟨fun cs x h=>by simp[DataW.trod]at h,fun cs x h=>by simp[DataW.trod]at h⟩
 |succ n ih=>
  constructor
  ·intro cs x h
   obtain ⟨xs,m,hm,_,hl,hlen,hf⟩:=DataW.trod_struct Tryz.underlying67 h;obtain rfl:n=m:=by omega
   rw[Tryz.cells67]at hl
   match cs,hl with
   | [c0,c1,c2],_=>
     match xs,hlen with
     | [y0,y1,y2],_=>
       have h0:DataW.trod enc Tryz.prog W 0 spare held n 3 (([c0,c1,c2].drop 0).take (Tryz.prog.cellsOf 3))=some y0:=hf 0 _ rfl;have h1:DataW.trod enc Tryz.prog W 0 spare held n 9 (([c0,c1,c2].drop 1).take (Tryz.prog.cellsOf 9))=some y1:=hf 1 _ rfl;have h2:DataW.trod enc Tryz.prog W 0 spare held n 24 (([c0,c1,c2].drop 2).take (Tryz.prog.cellsOf 24))=some y2:=hf 2 _ rfl;rw[Tryz.cells3]at h0;rw[Tryz.cells9]at h1;rw[Tryz.cells24]at h2;obtain ⟨v,e0,_,_⟩:=DataW.trod_int Tryz.underlying3 h0;obtain ⟨s,e1,_,hs⟩:=DataW.trod_string Tryz.underlying9 h1;obtain ⟨T,_,_,e2,hT⟩:=ih.2 _ _ h2;simp at e0 e1 e2;subst e0 e1 e2;refine ⟨.mk v s T.a T.len T.cap T.f,rfl,?_⟩;exact ⟨hs,hT.len,fun i hi=>⟨hT.row hi,hT.kid hi⟩⟩
  ·intro cs x h
   rcases DataW.trod_slice Tryz.underlying24 h with ⟨rfl,_⟩| ⟨a,len,cap,elems,rest,m,hm,rfl,_,hb,hl,hmx,hlen,hel,_,_⟩
   ·exact ⟨.mk 0 ⟨#[]⟩ none 0 0 (fun _=> .nil),rfl,rfl,rfl,Nat.zero_le _,Nat.zero_le _,fun i hi=>absurd hi (Nat.not_lt_zero i)⟩
   ·obtain rfl:n=m:=by omega
    rw[Tryz.cells67]at hel
    have key: ∀i,i<len→∃T:Tm,W.cells? 0 (a.add (i*3)) 3=some (cells3 T)∧TIn W T:=fun i hi=>by
     have:=hel i hi;rw[List.getElem?_eq_getElem (by omega)]at this
     obtain ⟨cs',g1,g2⟩:=Option.bind_eq_some_iff.1 this;obtain ⟨T,rfl,hT⟩:=ih.1 _ _ g2;exact ⟨T,g1,hT⟩
    obtain ⟨f,hf⟩:=Go.Deep.choose_lt key;refine ⟨.mk 0 ⟨#[]⟩ (some a) len cap f,rfl,rfl,rfl,Nat.zero_le _,Nat.le_trans hl hmx,fun i hi=>⟨?_,(hf i hi).2⟩⟩
    have hs:a.spot=none:=by
     obtain ⟨_,_,hc⟩:=World.cells?_some (hf 0 (by omega)).1
     have h0:=hc 0 (by omega)
     exact World.cell?_spot (w:=W) (a:=a) (v:=iV (f 0).v) (by simpa[Addr.add,cells3]using h0)
    exact row_of_cells hs (hf i hi).1
theorem cl_of_cells {a:Addr} {i:Nat} {T B:Tm} (hs:a.spot=none) (h:W.cells? 0 (a.add (i*4)) 4=some (cells3 T++ [.slice B.a B.len B.cap])):ClAt W (some a) i T B:=by
 obtain ⟨b,o,s⟩:=a;cases hs;obtain ⟨_,_,hc⟩:=World.cells?_some h
 have e: ∀j,((⟨b,o,none⟩:Addr).add (i*4)).add j=⟨b,o+i*4+j,none⟩:=fun j=>by
  rw[Go.Deep.add_add];unfold Addr.add
  split
  ·rename_i h0
   have h2:j=0:=by omega
   rw[h2];simp
  ·simp[Nat.add_assoc]
 refine ⟨b,o,rfl,?_,?_,?_,?_⟩
 ·have:=hc 0 (by omega);rw[e]at this;exact this
 ·have:=hc 1 (by omega);rw[e]at this;exact this
 ·have:=hc 2 (by omega);rw[e]at this;exact this
 ·have:=hc 3 (by omega);rw[e]at this;exact this
set_option maxRecDepth 100000 in
theorem open_clause (n:Nat) (cs:List Value) (x:DataW H × List MemPlace) (h:DataW.trod enc Tryz.prog W 0 spare held n 107 cs=some x): ∃T B:Tm,cs=cells3 T++ [.slice B.a B.len B.cap]∧TIn W T∧TIn W B:=by
 obtain ⟨xs,m,hm,_,hl,hlen,hf⟩:=DataW.trod_struct Tryz.underlying107 h;rw[Tryz.cells107]at hl
 match cs,hl with
 | [c0,c1,c2,c3],_=>
   match xs,hlen with
   | [y0,y1],_=>
     have h0:DataW.trod enc Tryz.prog W 0 spare held m 67 (([c0,c1,c2,c3].drop 0).take (Tryz.prog.cellsOf 67))=some y0:=hf 0 _ rfl;have h1:DataW.trod enc Tryz.prog W 0 spare held m 24 (([c0,c1,c2,c3].drop 3).take (Tryz.prog.cellsOf 24))=some y1:=hf 1 _ rfl;rw[Tryz.cells67]at h0;rw[Tryz.cells24]at h1;obtain ⟨T,e0,hT⟩:=(open_term m).1 _ _ h0;obtain ⟨B,_,_,e1,hB⟩:=(open_term m).2 _ _ h1;simp[cells3]at e0 e1;obtain ⟨rfl,rfl,rfl⟩:=e0;subst e1;exact ⟨T,B,rfl,hT,hB⟩
theorem open_prog (n:Nat) (cs:List Value) (x:DataW H × List MemPlace) (h:DataW.trod enc Tryz.prog W 0 spare held n 23 cs=some x): ∃P:Pg,cs= [.slice P.a P.len P.cap]∧PIn W P:=by
 rcases DataW.trod_slice Tryz.underlying23 h with ⟨rfl,_⟩| ⟨a,len,cap,elems,rest,m,hm,rfl,_,hb,hl,hmx,hlen,hel,_,_⟩
 ·exact ⟨{ a:=none,len:=0,cap:=0,hd:=fun _=> .nil,bd:=fun _=> .nil},rfl,Nat.zero_le _,fun i hi=>absurd hi (Nat.not_lt_zero i)⟩
 ·rw[Tryz.cells107]at hel
  have key: ∀i,i<len→∃TB:Tm × Tm,W.cells? 0 (a.add (i*4)) 4=some (cells3 TB.1++ [.slice TB.2.a TB.2.len TB.2.cap])∧TIn W TB.1∧TIn W TB.2:=fun i hi=>by
   have:=hel i hi;rw[List.getElem?_eq_getElem (by omega)]at this
   obtain ⟨cs',g1,g2⟩:=Option.bind_eq_some_iff.1 this;obtain ⟨T,B,rfl,hT,hB⟩:=open_clause _ _ _ g2;exact ⟨(T,B),g1,hT,hB⟩
  obtain ⟨f,hf⟩:=Go.Deep.choose_lt key;refine ⟨{ a:=some a,len:=len,cap:=cap,hd:=fun i=>(f i).1,bd:=fun i=>(f i).2},rfl,Nat.le_trans hl hmx,fun i hi=>⟨?_,(hf i hi).2⟩⟩
  have hi':i<len:=hi
  have hs:a.spot=none:=by
   obtain ⟨_,_,hc⟩:=World.cells?_some (hf 0 (by omega)).1
   have h0:=hc 0 (by omega)
   exact World.cell?_spot (w:=W) (a:=a) (v:=iV (f 0).1.v) (by simpa[Addr.add,cells3]using h0)
  exact cl_of_cells hs (hf i hi).1
end
end Go.Proofs.YtmggaclaoefdaabGreat

namespace Go.Proofs.YtmggaclaoefdaabGreat
open Go.RowKit
theorem heapOld (w : World) (o : Obj) {r : Nat} (h : r < w.heap.size) : (w.alloc o).heap[r]? = w.heap[r]? := by
  show (w.heap.push o)[r]? = _
  rw [Array.getElem?_push, if_neg (Nat.ne_of_lt h)]
abbrev G (b:Nat) (w w':World):Prop:=w.grownBy w' (some b)
theorem G.refl (b:Nat) (w:World):G b w w:=⟨rfl,rfl,rfl,Nat.le_refl _,fun _ _ _=>rfl⟩
theorem G.trans {b:Nat} {u v w:World} (h:G b u v) (k:G b v w):G b u w:=
 ⟨k.os.trans h.os,k.tape.trans h.tape,k.output.trans h.output,Nat.le_trans h.size k.size,fun i hi hb=>(k.block i (Nat.lt_of_lt_of_le hi h.size) hb).trans (h.block i hi hb)⟩
theorem G.set (b:Nat) (w:World) (i:Nat) (v:Value):G b w (w.setCell ⟨b,i,none⟩ v):=
 ⟨rfl,rfl,rfl,by simp[World.setCell],fun k _ hb=>Below.heap_setCell _ _ _ _ (fun e=>hb (by rw[e]))⟩
theorem G.below {b:Nat} {w w':World} (h:Below w.heap.size w w'):G b w w':=⟨h.os,h.tape,h.output,h.size,fun k hk _=>h.block k hk⟩
def Sim:Tm→Tm→Prop
 | .nil,U=>U.v=0∧U.nm=⟨#[]⟩∧U.len=0
 | .mk v nm _ len _ f,U=>v=U.v∧nm=U.nm∧len=U.len∧∀i,i<len→Sim (f i) (U.f i)
def Above (lo:Nat):Tm→Prop
 | .nil=>True
 | .mk _ _ a len _ f=>(0<len→∃b o,a=some ⟨b,o,none⟩∧lo≤b)∧∀i,i<len→Above lo (f i)
def NB (k:Nat):Tm→Prop
 | .nil=>True
 | .mk _ _ a len _ f=>(0<len→∃b o,a=some ⟨b,o,none⟩∧b≠k)∧∀i,i<len→NB k (f i)
theorem Above.mono {lo lo':Nat} {T:Tm} (h:Above lo T) (hl:lo'≤lo):Above lo' T:=by
 induction T with
 |nil=>trivial
 |mk v nm a len cap f ih=>exact ⟨fun h0=>let ⟨b,o,h1,h2⟩:=h.1 h0;⟨b,o,h1,Nat.le_trans hl h2⟩,fun i hi=>ih i (h.2 i hi)⟩
theorem Above.nb {lo k:Nat} {T:Tm} (h:Above lo T) (hk:k<lo):NB k T:=by
 induction T with
 |nil=>trivial
 |mk v nm a len cap f ih=>exact ⟨fun h0=>let ⟨b,o,h1,h2⟩:=h.1 h0;⟨b,o,h1,by omega⟩,fun i hi=>ih i (h.2 i hi)⟩
theorem TIn.nb {w:World} {k:Nat} {T:Tm} (h:TIn w T) (hk:w.heap.size≤k):NB k T:=by
 induction T with
 |nil=>trivial
 |mk v nm a len cap f ih=>
  refine ⟨fun h0=>?_,fun i hi=>ih i (h.2.2 i hi).2⟩
  obtain ⟨b,o,h1,h2,_⟩:=(h.2.2 0 h0).1;have:b<w.heap.size:=lt_of_cell h2;exact ⟨b,o,h1,by omega⟩
theorem TIn.grown {w w':World} {row:Option Nat} {T:Tm} (h:TIn w T) (hg:w.grownBy w' row) (hn: ∀k,row=some k→NB k T):TIn w' T:=by
 induction T with
 |nil=>exact h
 |mk v nm a len cap f ih=>
  refine ⟨h.1,h.2.1,fun i hi=>⟨?_,ih i (h.2.2 i hi).2 (fun k hk=>(hn k hk).2 i hi)⟩⟩
  obtain ⟨b,o,rfl,h0,h1,h2⟩:=(h.2.2 i hi).1
  have hne:some b≠row:=fun e=>by
   obtain ⟨b',o',e1,e2⟩:=(hn b e.symm).1 (by omega)
   exact e2 (by cases e1;rfl)
  exact ⟨b,o,rfl,hg.cell h0 hne,hg.cell h1 hne,hg.cell h2 hne⟩
theorem set3 {W:World} {r:Nat} {x y z a b c:Value} (h:W.heap[r]?=some (.cells #[x,y,z] 67)):
 (((W.setCell ⟨r,0,none⟩ a).setCell ⟨r,1,none⟩ b).setCell ⟨r,2,none⟩ c).heap[r]?=some (.cells #[a,b,c] 67):=by
 simp only[World.setCell,Array.getElem?_modify];simp[h]
theorem block_cells {w:World} {k:Nat} {x y z:Value} {t:TypeId} (h:w.heap[k]?=some (.cells #[x,y,z] t)):
 w.cell? ⟨k,0,none⟩=some x∧w.cell? ⟨k,1,none⟩=some y∧w.cell? ⟨k,2,none⟩=some z∧w.frozen? ⟨k,0,none⟩=false∧w.frozen? ⟨k,1,none⟩=false∧w.frozen? ⟨k,2,none⟩=false:=by
 refine ⟨?_,?_,?_,?_,?_,?_⟩ <;> simp[World.cell?,World.frozen?,h]
theorem TIn.retop {w:World} {T:Tm} {v:Int} {nm:ByteArray} (h:TIn w T) (hn:nm.size≤maxLen):TIn w (.mk v nm T.a T.len T.cap T.f):=⟨hn,h.len,fun _ hi=>⟨h.row hi,h.kid hi⟩⟩
theorem Above.retop {lo:Nat} {T:Tm} {v:Int} {nm:ByteArray} (h:Above lo T):Above lo (.mk v nm T.a T.len T.cap T.f):=by
 cases T with
 |nil=>exact ⟨fun h0=>absurd h0 (Nat.lt_irrefl 0),fun i hi=>absurd hi (Nat.not_lt_zero i)⟩
 |mk=>exact h
theorem grown_set {W:World} (r i:Nat) (v:Value):W.grownBy (W.setCell ⟨r,i,none⟩ v) (some r):=G.set r W i v
theorem fin3n {w W:World} {r:Nat} {x y z:Value} (hr:w.heap.size≤r) (hX:W.heap[r]?=some (.cells #[x,y,z] 67)) (hB:Below w.heap.size w W) (a c d:Value):
 ∃W',((W.setCell ⟨r,0,none⟩ a).setCell ⟨r,1,none⟩ c).setCell ⟨r,2,none⟩ d=W'∧W'.cell? ⟨r,0,none⟩=some a∧W'.cell? ⟨r,1,none⟩=some c∧W'.cell? ⟨r,2,none⟩=some d∧Below w.heap.size w W'∧W.grownBy W' (some r):=by
 have h3:W.grownBy (((W.setCell ⟨r,0,none⟩ a).setCell ⟨r,1,none⟩ c).setCell ⟨r,2,none⟩ d) (some r):=G.trans (G.trans (grown_set r 0 a) (grown_set r 1 c)) (grown_set r 2 d);have hc:=set3 (a:=a) (b:=c) (c:=d) hX;refine ⟨_,rfl,by simp[World.cell?,hc],by simp[World.cell?,hc],by simp[World.cell?,hc],?_,h3⟩
 exact ⟨h3.os.trans hB.os,h3.tape.trans hB.tape,h3.output.trans hB.output,Nat.le_trans hB.size h3.size,fun k hk=>(h3.block k (Nat.lt_of_lt_of_le hk hB.size) (by simp;omega)).trans (hB.block k hk)⟩
structure LstR (lo:Nat) (w:World) (v:Value) (ts us:List Tm):Prop where
 own:w.ownsRow lo 67 3 v ts.length (flat ts)
 all: ∀T∈ts,TIn w T∧Above lo T∧∀k,v.ownBlock=some k→NB k T
 len:ts.length=us.length
 sim: ∀i,i<ts.length→Sim (ts.getD i .nil) (us.getD i .nil)
theorem LstR.keep {lo:Nat} {w w':World} {v:Value} {ts us:List Tm} (h:LstR lo w v ts us) (hB:Below w.heap.size w w'):LstR lo w' v ts us:=by
 refine ⟨h.own.kept (grown_of_below hB none) ?_,fun T hT=>⟨(h.all T hT).1.below hB,(h.all T hT).2⟩,h.len,h.sim⟩
 cases v.ownBlock with
 |none=>exact .inl rfl
 |some g=>exact .inr (by simp)
theorem LstR.more {lo:Nat} {w4 w5:World} {v v':Value} {ts us:List Tm} {T U:Tm} (h:LstR lo w4 v ts us) (hT:TIn w4 T) (hA:Above lo T)
 (hN: ∀g,v.ownBlock=some g→NB g T) (hS:Sim T U)
 (hown:w5.ownsRow lo 67 3 v' (ts.length+1) (flat ts++flat [T])) (hg:w4.grownBy w5 v.ownBlock) (hat:v'.ownBlock=v.ownBlock∨v'.ownBlock=some w4.heap.size):LstR lo w5 v' (ts++ [T]) (us++ [U]):=by
 have hnb: ∀X:Tm,TIn w4 X→(∀g,v.ownBlock=some g→NB g X)→∀g,v'.ownBlock=some g→NB g X:=fun X h1 h2 g hg=>by
  rcases hat with e|e
  ·exact h2 g (by rw[←e];exact hg)
  ·have:g=w4.heap.size:=by rw[e]at hg;exact (Option.some.inj hg).symm
   exact h1.nb (by omega)
 refine ⟨?_,?_,?_,?_⟩
 ·rw[flat_append,List.length_append];exact hown
 ·intro X hX
  rcases List.mem_append.1 hX with hX|hX
  ·obtain ⟨h1,h2,h3⟩:=h.all X hX
   exact ⟨h1.grown hg h3,h2,hnb _ h1 h3⟩
  ·rw[List.mem_singleton]at hX
   subst hX;exact ⟨hT.grown hg hN,hA,hnb _ hT hN⟩
 ·rw[List.length_append,List.length_append,h.len];rfl
 ·intro i hi
  rw[List.length_append]at hi
  by_cases hl:i<ts.length
  ·have h1:=h.sim i hl
   simpa[List.getD,List.getElem?_append_left hl,List.getElem?_append_left (show i<us.length by rw[←h.len];exact hl)]using h1
  ·have hi':i=ts.length:=by simp at hi;omega
   subst hi';have e:us.length=ts.length:=h.len.symm
   simpa[List.getD,List.getElem?_append_right,e]using hS
theorem addr_add (b j:Nat):(⟨b,0,none⟩:Addr).add j=⟨b,j,none⟩:=by unfold Addr.add;split <;> simp_all
def allTo (g:Nat→Bool):Nat→Bool
 |0=>true
 |k+1=>allTo g k&&g k
theorem allTo_le {g:Nat→Bool} {j k:Nat} (h:j≤k) (hk:allTo g k=true):allTo g j=true:=by
 induction k with
 |zero=>rw[Nat.le_zero.1 h];rfl
 |succ k ih=>
  rcases Nat.lt_or_ge j (k+1)with h1|h1
  ·exact ih (by omega) (by rw[allTo,Bool.and_eq_true]at hk;exact hk.1)
  ·rw[show j=k+1 by omega];exact hk
theorem allTo_iff {g:Nat→Bool} {k:Nat}:allTo g k=true↔∀i,i<k→g i=true:=by
 refine ⟨fun h i hi=>?_,fun h=>?_⟩
 ·have:=allTo_le (show i+1≤k from hi) h
  rw[allTo,Bool.and_eq_true]at this;exact this.2
 ·induction k with
  |zero=>rfl
  |succ k ih=>rw[allTo,ih (fun i hi=>h i (by omega)),h k (by omega)];rfl
end Go.Proofs.YtmggaclaoefdaabGreat
