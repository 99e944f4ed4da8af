/- Part of the proof. -/
import Derived.Test.YtmggaclaoefdaabGreatSq0
import Derived.Test.YtmggaclaoefdaabGreatGAC
namespace Go.Proofs.YtmggaclaoefdaabGreat
open Go.RowKit
theorem Tryz.info67:(Tryz.prog.info? 67).map (fun i=>(i.zero,i.size,i.bytes))=some (some (.agg #[iV 0,.string ByteArray.empty,.slice none 0 0]),3,48):=by kernel_rfl
def cells3 (T:Tm):List Value:= [iV T.v,.string T.nm,.slice T.a T.len T.cap]
def flat (l:List Tm):List Value:=l.flatMap cells3
def preTo (g:Nat→List Tm):Nat→List Tm
 |0=> []
 |k+1=>preTo g k++g k
def pre:Tm→List Tm
 | .nil=> [.nil]
 | .mk v nm a len cap f=> .mk v nm a len cap f::preTo (fun i=>pre (f i)) len
theorem preTo_length (g:Nat→List Tm) (k:Nat):(preTo g k).length=sumTo (fun i=>(g i).length) k:=by
 induction k with
 |zero=>rfl
 |succ k ih=>rw[preTo,sumTo,List.length_append,ih]
theorem pre_length (T:Tm):(pre T).length=cnt T:=by
 induction T with
 |nil=>rfl
 |mk v nm a len cap f ih=>
  rw[pre,cnt,List.length_cons,preTo_length];have:(fun i=>(pre (f i)).length)=fun i=>cnt (f i):=funext ih
  rw[this];omega
theorem flat_length (l:List Tm):(flat l).length=l.length*3:=by
 induction l with
 |nil=>rfl
 |cons x r ih=>
  have:(flat (x::r)).length=3+(flat r).length:=by simp[flat,cells3];omega
  rw[this,ih,List.length_cons];omega
theorem flat_append (l r:List Tm):flat (l++r)=flat l++flat r:=by simp[flat]
theorem flat_one (l:List Tm): ∀u∈flat l,u.oneCell'=true:=by
 intro u hu;obtain ⟨T,_,hT⟩:=List.mem_flatMap.1 hu;simp only[cells3,List.mem_cons,List.not_mem_nil,or_false]at hT
 rcases hT with rfl|rfl|rfl <;> rfl
theorem grown_of_below {w w':World} (h:Below w.heap.size w w') (row:Option Nat):w.grownBy w' row:=⟨h.os,h.tape,h.output,h.size,fun k hk _=>h.block k hk⟩
theorem ownsRow_mono {w:World} {base base':Nat} {e:TypeId} {size:Nat} {v:Value} {n:Nat} {xs:List Value} (h:w.ownsRow base e size v n xs) (hb:base'≤base):w.ownsRow base' e size v n xs:=by
 refine ⟨h.1,?_⟩
 rcases h.2 with h0| ⟨g,cap,cur,rfl,hg,r⟩
 ·exact .inl h0
 ·exact .inr ⟨g,cap,cur,rfl,Nat.le_trans hb hg,r⟩
set_option maxHeartbeats 800000 in
theorem partsOf_any (T:Tm): ∀(w:World),TIn w T→cnt T≤60→
 Calls Tryz.prog 97 #[T.val] w fun r w'=>∃g cp:Nat,r=.returned (.slice (some ⟨g,0,none⟩) (cnt T) cp)∧w'.ownsRow w.heap.size 67 3 (.slice (some ⟨g,0,none⟩) (cnt T) cp) (cnt T) (flat (pre T))∧Below w.heap.size w w':=by
 induction T with
 |nil=>intro w hin;exact False.elim hin
 |mk v nm a len cap f ih=>
  intro w hin hcnt;have IH:Hid (∀i (w:World),TIn w (f i)→cnt (f i)≤60→Calls Tryz.prog 97 #[(f i).val] w fun r w'=>∃g cp:Nat,r=.returned (.slice (some ⟨g,0,none⟩) (cnt (f i)) cp)∧w'.ownsRow w.heap.size 67 3 (.slice (some ⟨g,0,none⟩) (cnt (f i)) cp) (cnt (f i)) (flat (pre (f i)))∧Below w.heap.size w w'):=ih
  have HIn:Hid (TIn w (.mk v nm a len cap f)):=hin;have hlen:len≤2 ^ 63-1:=TIn.len (T:=.mk v nm a len cap f) hin;have HC:Hid (cnt (.mk v nm a len cap f)=1+sumTo (fun i=>cnt (f i)) len):=rfl
  have HP:Hid (pre (.mk v nm a len cap f)=.mk v nm a len cap f::preTo (fun i=>pre (f i)) len):=rfl
  have HL:Hid (1+sumTo (fun i=>cnt (f i)) len≤60):=hcnt
  obtain ⟨i0,hi,hz0,hz1,hz2⟩:=info_parts Tryz.info67;clear ih hin hcnt
  show Calls Tryz.prog 97 #[.agg #[iV v,.string nm,.slice a len cap]] w _
  go_enter Tryz.func97,Tryz.ntmps97
  go_wp2_with fail
  go_loopw [3,4] (fun out i wr=>∃k g cp:Nat,k≤len∧i=iV k∧out=.slice (some ⟨g,0,none⟩) (1+sumTo (fun i=>cnt (f i)) k) cp∧wr.ownsRow (w.heap.size+1) 67 3 (.slice (some ⟨g,0,none⟩) (1+sumTo (fun i=>cnt (f i)) k) cp) (1+sumTo (fun i=>cnt (f i)) k) (flat (.mk v nm a len cap f::preTo (fun i=>pre (f i)) k))∧Below (w.heap.size+1) (w.alloc (.cells #[iV v,.string nm,.slice a len cap] 67)) wr) (fun _ i _=>len-(intOf i).toNat)
  case atStart=>
   refine ⟨0,w.heap.size+1,1,Nat.zero_le _,rfl,rfl,?_,(Below.refl _ _).alloc (by simp) _⟩
   have:=World.ownsRow_lit (base:=w.heap.size+1) (e:=67) (size:=3) (w.alloc (.cells #[iV v,.string nm,.slice a len cap] 67)) #[iV v,.string nm,.slice a len cap] 1 (by simp) (by unfold maxLen;omega) rfl
   simpa[sumTo,preTo,flat,cells3,Tm.v,Tm.nm,Tm.a,Tm.len,Tm.cap]using this
  case round=>
   obtain ⟨k,g,cp,hk,rfl,rfl,hown,hb⟩:=hrel;have hbox:wr.cell? ⟨w.heap.size,2,none⟩=some (.slice a len cap):=(hb.cell (p:=⟨w.heap.size,2,none⟩) (by simp)).trans (by go_simp)
   have HB:Hid (Below (w.heap.size+1) (w.alloc (.cells #[iV v,.string nm,.slice a len cap] 67)) wr):=hb;have HBW:Hid (Below w.heap.size w wr):=((Below.refl _ _).alloc (Nat.le_refl _) _).trans (hb.mono (by omega))
   have hsz:w.heap.size+1≤wr.heap.size:=by have:=hb.size;simpa using this
   have HO:Hid (wr.ownsRow (w.heap.size+1) 67 3 (.slice (some ⟨g,0,none⟩) (1+sumTo (fun i=>cnt (f i)) k) cp) (1+sumTo (fun i=>cnt (f i)) k) (flat (.mk v nm a len cap f::preTo (fun i=>pre (f i)) k))):=hown
   clear hown hb
   by_cases hlt:k<len
   ·have hr:RowAt wr a k (f k):=(TIn.row (T:=.mk v nm a len cap f) HIn.o hlt).below HBW.o
    obtain ⟨b,o,ha,c0,c1,c2⟩:=hr;have HT:Hid (TIn wr (f k)):=(TIn.kid (T:=.mk v nm a len cap f) HIn.o hlt).below HBW.o;have HM:Hid (sumTo (fun i=>cnt (f i)) (k+1)≤sumTo (fun i=>cnt (f i)) len):=sumTo_le _ hlt
    have HE:Hid (sumTo (fun i=>cnt (f i)) (k+1)=sumTo (fun i=>cnt (f i)) k+cnt (f k)):=rfl
    have HQ:Hid (flat (.mk v nm a len cap f::preTo (fun i=>pre (f i)) (k+1))=flat (.mk v nm a len cap f::preTo (fun i=>pre (f i)) k)++flat (pre (f k))):=by
     rw[Hid,preTo,←flat_append];rfl
    generalize hfl:flat (.mk v nm a len cap f::preTo (fun i=>pre (f i)) k)=fl at*
    clear hfl;have hle:1+sumTo (fun i=>cnt (f i)) k+cnt (f k)≤60:=by have:=HM.o;have:=HE.o;have:=HL.o;omega
    generalize sumTo (fun i=>cnt (f i)) k=sk at*
    subst ha;go_wp2_with fail;refine (IH.o k _ HT.o (by omega)).mono ?_
    rintro r w1 ⟨g1,cp1,rfl,hown1,hb1⟩;have HO1:Hid (w1.ownsRow (w.heap.size+1) 67 3 (.slice (some ⟨g,0,none⟩) (1+sk) cp) (1+sk) fl):=HO.o.kept (grown_of_below hb1 none) (Or.inr (by simp[Value.ownBlock]))
    have HO2:Hid (w1.ownsRow wr.heap.size 67 3 (.slice (some ⟨g1,0,none⟩) (cnt (f k)) cp1) (cnt (f k)) (flat (pre (f k)))):=hown1;have HB1:Hid (Below (w.heap.size+1) (w.alloc (.cells #[iV v,.string nm,.slice (some ⟨b,o,none⟩) len cap] 67)) w1):=HB.o.trans (hb1.mono hsz);have hsz1:w.heap.size+1≤w1.heap.size:=Nat.le_trans hsz hb1.size;clear hown1 hb1;go_wp2_with (at_builtin;refine wpList_append_own _ rfl (.tmp 14) (.tmp 20) 24 rfl (w.heap.size+1) 67 i0 (.agg #[iV 0,.string ByteArray.empty,.slice none 0 0]) 3 48 Tryz.underlying24 hi hz0 hz1 hz2 rfl (by decide) (.slice (some ⟨g,0,none⟩) (1+sk) cp) (1+sk) fl rfl HO1.o ⟨g1,0,none⟩ (cnt (f k)) cp1 (flat (pre (f k))) rfl HO2.o.1 (HO2.o.cells rfl) (flat_one _) (by unfold maxLen;omega) (by omega) hsz1 ?_;intro v' w2 hown' hgrow hnil)
    have HB2:Hid (Below (w.heap.size+1) (w.alloc (.cells #[iV v,.string nm,.slice (some ⟨b,o,none⟩) len cap] 67)) w2):=HB1.o.grown hgrow hsz1 (fun j hj=>(HO1.o.lt j hj).1)
    rcases hown'.2 with ⟨hv',_⟩| ⟨g',cap',cur,hv',_⟩
    ·exact absurd (hnil.1 hv').1 (by simp)
    ·have HO3:Hid (w2.ownsRow (w.heap.size+1) 67 3 (.slice (some ⟨g',0,none⟩) (1+sk+cnt (f k)) cap') (1+sk+cnt (f k)) (fl++flat (pre (f k)))):=by rw[←hv'];exact hown'
     subst hv';clear hown' hnil hgrow;go_roundw
     case rel=>exact ⟨k+1,g',cap',by omega,by go_num,by rw[HE.o,←Nat.add_assoc],by rw[HE.o,←Nat.add_assoc,HQ.o];exact HO3.o,HB2.o⟩
     case measure=>simp[intOf];omega
   ·have hke:k=len:=by omega
    subst hke;go_wp2_with fail;go_ret;exact ⟨g,cp,rfl,ownsRow_mono HO.o (by omega),HBW.o⟩
end Go.Proofs.YtmggaclaoefdaabGreat
