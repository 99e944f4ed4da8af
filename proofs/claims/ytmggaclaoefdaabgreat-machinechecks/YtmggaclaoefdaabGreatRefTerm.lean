/- Part of the proof. -/
import Derived.Test.YtmggaclaoefdaabGreatSq0
import Derived.Test.YtmggaclaoefdaabGreatPre
namespace Go.Proofs.YtmggaclaoefdaabGreat
open Go.RowKit
def pe (T:Tm):Int:=partE T.v T.nm T.len
def firstL:List Tm→Int
 | []=>0
 |x::r=>if pe x=0 then firstL r else pe x
theorem firstL_append (l r:List Tm):firstL (l++r)=if firstL l=0 then firstL r else firstL l:=by
 induction l with
 |nil=>simp[firstL]
 |cons x l ih=>
  rw[List.cons_append,firstL,firstL,ih]
  by_cases h:pe x=0
  ·simp[h]
  ·simp[h]
theorem firstL_pre (T:Tm):firstL (pre T)=err T:=by
 induction T with
 |nil=>rfl
 |mk v nm a len cap f ih=>
  have key: ∀k,firstL (preTo (fun i=>pre (f i)) k)=fst (fun i=>err (f i)) k:=by
   intro k
   induction k with
   |zero=>rfl
   |succ k ihk=>rw[preTo,firstL_append,ihk,ih,fst]
  rw[pre,firstL,key,err];rfl
theorem flat_get (l:List Tm): ∀(k:Nat) (h:k<l.length),(flat l)[k*3]?=some (iV l[k].v)∧(flat l)[k*3+1]?=some (.string l[k].nm)∧(flat l)[k*3+2]?=some (.slice l[k].a l[k].len l[k].cap):=by
 induction l with
 |nil=>intro k h;simp at h
 |cons x r ih=>
  have e:flat (x::r)=cells3 x++flat r:=by simp[flat]
  intro k h
  cases k with
  |zero=>rw[e];exact ⟨rfl,rfl,rfl⟩
  |succ k=>
   have hk:k<r.length:=by simpa using h
   obtain ⟨h0,h1,h2⟩:=ih k hk;have hl:(cells3 x).length=3:=rfl;rw[e];refine ⟨?_,?_,?_⟩
   ·rw[List.getElem?_append_right (by rw[hl];omega),hl,show (k+1)*3-3=k*3 by omega];exact h0
   ·rw[List.getElem?_append_right (by rw[hl];omega),hl,show (k+1)*3+1-3=k*3+1 by omega];exact h1
   ·rw[List.getElem?_append_right (by rw[hl];omega),hl,show (k+1)*3+2-3=k*3+2 by omega];exact h2
theorem firstL_next (l:List Tm) (k:Nat) (h:k<l.length) (h0:firstL (l.take k)=0) (hp:pe l[k]=0):firstL (l.take (k+1))=0:=by
 rw[List.take_succ_eq_append_getElem h,firstL_append,if_pos h0,firstL,if_pos hp];rfl
theorem firstL_stop (l:List Tm) (k:Nat) (h:k<l.length) (h0:firstL (l.take k)=0) (hp:pe l[k]≠0):firstL l=pe l[k]:=by
 have e:firstL (l.take (k+1))=pe l[k]:=by
  rw[List.take_succ_eq_append_getElem h,firstL_append,if_pos h0,firstL,if_neg hp]
 have e2:firstL (l.take (k+1)++l.drop (k+1))=pe l[k]:=by rw[firstL_append,e,if_neg hp]
 rwa [List.take_append_drop]at e2
theorem names_in (w:World) (T:Tm) (h:TIn w T): ∀X∈pre T,X.nm.size≤maxLen:=by
 induction T with
 |nil=>exact False.elim h
 |mk v nm a len cap f ih=>
  have key: ∀k,k≤len→∀X∈preTo (fun i=>pre (f i)) k,X.nm.size≤maxLen:=by
   intro k
   induction k with
   |zero=>intro _ X hX;simp[preTo]at hX
   |succ k ihk=>
    intro hk X hX;rw[preTo]at hX
    rcases List.mem_append.1 hX with hX|hX
    ·exact ihk (by omega) X hX
    ·exact ih k (TIn.kid (T:=.mk v nm a len cap f) h (by exact hk)) X hX
  intro X hX;rw[pre]at hX
  rcases List.mem_cons.1 hX with rfl|hX
  ·exact h.1
  ·exact key len (Nat.le_refl _) X hX
set_option maxHeartbeats 1000000 in
theorem checkTerm_any (T:Tm) (w:World) (hin:TIn w T):
 Calls Tryz.prog 58 #[T.val] w fun e w'=>e=.returned (iV (checkV T))∧Below w.heap.size w w':=by
 have HIn:Hid (TIn w T):=hin;clear hin
 show Calls Tryz.prog 58 #[.agg #[iV T.v,.string T.nm,.slice T.a T.len T.cap]] w _
 have H1:Hid (TIn (w.alloc (.cells #[iV T.v,.string T.nm,.slice T.a T.len T.cap] 67)) T):=HIn.o.below ((Below.refl _ _).alloc (Nat.le_refl _) _)
 by_cases hc:cnt T≤60
 case neg=>
  have HR:Hid (checkV T=2):=by rw[Hid,checkV,if_neg hc]
  have HV:Hid (sizeV 60 (cnt T)=61):=by rw[Hid,sizeV,if_neg (by omega)];rfl
  go_enter Tryz.func58,Tryz.ntmps58
  go_wp2_with fail;refine (sizeOf_any T 60 _ H1.o (by omega) (by omega)).mono ?_
  rintro e w1 ⟨rfl,hb1⟩;rw[HV.o];have HW1:Hid (Below w.heap.size w w1):=((Below.refl _ _).alloc (Nat.le_refl _) _).trans (hb1.mono (by simp))
  clear hb1;go_wp2_with fail;go_ret;exact ⟨by rw[HR.o];rfl,HW1.o⟩
 have HR:Hid (checkV T=firstL (pre T)):=by rw[Hid,checkV,if_pos hc,firstL_pre]
 have HV:Hid (sizeV 60 (cnt T)=cnt T):=by rw[Hid,sizeV,if_pos (by omega)]
 have HNm:=names_in w T HIn.o;have HN:Hid (∀X∈pre T,X.nm.size≤maxLen):=HNm;clear HNm
 go_enter Tryz.func58,Tryz.ntmps58
 go_wp2_with fail;refine (sizeOf_any T 60 _ H1.o (by omega) (by omega)).mono ?_
 rintro e w1 ⟨rfl,hb1⟩;rw[HV.o]
 have HB1:Hid (Below (w.heap.size+1) (w.alloc (.cells #[iV T.v,.string T.nm,.slice T.a T.len T.cap] 67)) w1):=by
  have:=hb1;rw[Hid];simpa using this
 have HW1:Hid (Below w.heap.size w w1):=((Below.refl _ _).alloc (Nat.le_refl _) _).trans (hb1.mono (by simp))
 clear hb1;have hsz1:w.heap.size+1≤w1.heap.size:=by have:=HB1.o.size;simpa using this
 have hc0:w1.cell? ⟨w.heap.size,0,none⟩=some (iV T.v):=(HB1.o.cell (p:=⟨w.heap.size,0,none⟩) (by simp)).trans (by go_simp)
 have hc1:w1.cell? ⟨w.heap.size,1,none⟩=some (.string T.nm):=(HB1.o.cell (p:=⟨w.heap.size,1,none⟩) (by simp)).trans (by go_simp)
 have hc2:w1.cell? ⟨w.heap.size,2,none⟩=some (.slice T.a T.len T.cap):=(HB1.o.cell (p:=⟨w.heap.size,2,none⟩) (by simp)).trans (by go_simp)
 go_wp2_with fail;refine (partsOf_any T _ (HIn.o.below HW1.o) hc).mono ?_;rintro r w2 ⟨g,cp,rfl,hown,hb2⟩;have hlen:(pre T).length=cnt T:=pre_length T;have HLen:Hid ((pre T).length=cnt T):=hlen;have HO:Hid (w2.ownsRow w.heap.size 67 3 (.slice (some ⟨g,0,none⟩) (cnt T) cp) (cnt T) (flat (pre T))):=ownsRow_mono hown (by omega)
 have HW2:Hid (Below w.heap.size w w2):=HW1.o.trans (hb2.mono (by omega))
 clear hown hb2 hlen hc0 hc1 hc2;generalize pre T=l at*;generalize cnt T=n at*;go_wp2_with fail
 go_loopw [4] (fun i wr=>∃k:Nat,k≤n∧i=iV k∧firstL (l.take k)=0∧wr.ownsRow w.heap.size 67 3 (.slice (some ⟨g,0,none⟩) n cp) n (flat l)∧Below w.heap.size w wr) (fun i _=>n-(intOf i).toNat)
 case atStart=>exact ⟨0,Nat.zero_le _,rfl,rfl,HO.o,HW2.o⟩
 case round=>
  obtain ⟨k,hk,rfl,hf,hown,hb⟩:=hrel;have HF:Hid (firstL (l.take k)=0):=hf;have HO':Hid (wr.ownsRow w.heap.size 67 3 (.slice (some ⟨g,0,none⟩) n cp) n (flat l)):=hown;have HB':Hid (Below w.heap.size w wr):=hb;have hsz:=hb.size;clear hf hown hb
  by_cases hlt:k<n
  ·have hlt':k<l.length:=by rw[HLen.o];exact hlt
   obtain ⟨f0,f1,f2⟩:=flat_get l k hlt';have HNext:Hid (pe l[k]=0→firstL (l.take (k+1))=0):=firstL_next l k hlt' HF.o;have HStop:Hid (pe l[k]≠0→checkV T=pe l[k]):=fun h=>HR.o.trans (firstL_stop l k hlt' HF.o h)
   have c0:wr.cell? ⟨g,k*3,none⟩=some (iV l[k].v):=(HO'.o.cellAt (k*3) (by omega)).trans f0
   have c1:wr.cell? ⟨g,k*3+1,none⟩=some (.string l[k].nm):=(HO'.o.cellAt (k*3+1) (by omega)).trans f1
   have c2:wr.cell? ⟨g,k*3+2,none⟩=some (.slice l[k].a l[k].len l[k].cap):=(HO'.o.cellAt (k*3+2) (by omega)).trans f2
   have hnm:l[k].nm.size≤maxLen:=HN.o _ (List.getElem_mem hlt');clear f0 f1 f2;replace HNext:Hid (partE l[k].v l[k].nm l[k].len=0→firstL (l.take (k+1))=0):=HNext;replace HStop:Hid (partE l[k].v l[k].nm l[k].len≠0→checkV T=partE l[k].v l[k].nm l[k].len):=HStop;generalize l[k].v=v at*;generalize l[k].nm=nm at*;generalize l[k].a=a at*;generalize l[k].len=len at*;generalize l[k].cap=cap at*
   by_cases hv:v=0
   ·subst hv
    cases hnb:nameB nm
    ·skip
     have HX:Hid (checkV T=1):=by
      have e:partE 0 nm len=1:=by
       rw[partE,if_neg (by simp),if_pos hnb]
      rw[Hid,HStop.o (by rw[e];decide),e]
     go_wp2_with (first| (go_at_call 28;refine (between_any _ _ _ _).mono ?_;rintro e w' ⟨rfl,rfl⟩)| (go_at_call 72;refine (isName_any _ _ hnm).mono ?_;rintro e w' ⟨rfl,rfl⟩))
     go_ret;exact ⟨by rw[HX.o];rfl,HB'.o.trans (((Below.refl _ _).alloc (Nat.le_refl _) _).mono hsz)⟩
    ·by_cases h4:4<len
     ·skip
      have HX:Hid (checkV T=2):=by
       have e:partE 0 nm len=2:=by
        rw[partE,if_neg (by simp),if_neg (by rw[hnb];simp),if_pos h4]
       rw[Hid,HStop.o (by rw[e];decide),e]
      go_wp2_with (first| (go_at_call 28;refine (between_any _ _ _ _).mono ?_;rintro e w' ⟨rfl,rfl⟩)| (go_at_call 72;refine (isName_any _ _ hnm).mono ?_;rintro e w' ⟨rfl,rfl⟩))
      go_ret;exact ⟨by rw[HX.o];rfl,HB'.o.trans (((Below.refl _ _).alloc (Nat.le_refl _) _).mono hsz)⟩
     ·cases hcut:(nm.toList== [33])
      ·have hcn: ¬nm.toList= [33]:=beq_eq_false_iff_ne.1 hcut
       have HX:Hid (firstL (l.take (k+1))=0):=by
        have e:partE 0 nm len=0:=by
         rw[partE,if_neg (by simp),if_neg (by rw[hnb];simp),if_neg h4,if_neg (fun h=>hcn h.1)]
        exact HNext.o e
       clear hcn;go_wp2_with (first| (go_at_call 28;refine (between_any _ _ _ _).mono ?_;rintro e w' ⟨rfl,rfl⟩)| (go_at_call 72;refine (isName_any _ _ hnm).mono ?_;rintro e w' ⟨rfl,rfl⟩))
       go_roundw
       case rel=>exact ⟨k+1,by omega,by go_num,HX.o,HO'.o.alloc _,HB'.o.trans (((Below.refl _ _).alloc (Nat.le_refl _) _).mono hsz)⟩
       case measure=>simp[intOf];omega
      ·have hcn:nm.toList= [33]:=beq_iff_eq.1 hcut
       by_cases h0:0<len
       ·skip
        have HX:Hid (checkV T=1):=by
         have e:partE 0 nm len=1:=by
          rw[partE,if_neg (by simp),if_neg (by rw[hnb];simp),if_neg h4,if_pos ⟨hcn,h0⟩]
         rw[Hid,HStop.o (by rw[e];decide),e]
        clear hcn;go_wp2_with (first| (go_at_call 28;refine (between_any _ _ _ _).mono ?_;rintro e w' ⟨rfl,rfl⟩)| (go_at_call 72;refine (isName_any _ _ hnm).mono ?_;rintro e w' ⟨rfl,rfl⟩))
        go_ret;exact ⟨by rw[HX.o];rfl,HB'.o.trans (((Below.refl _ _).alloc (Nat.le_refl _) _).mono hsz)⟩
       ·skip
        have HX:Hid (firstL (l.take (k+1))=0):=by
         have e:partE 0 nm len=0:=by
          rw[partE,if_neg (by simp),if_neg (by rw[hnb];simp),if_neg h4,if_neg (fun h=>h0 h.2)]
         exact HNext.o e
        clear hcn;go_wp2_with (first| (go_at_call 28;refine (between_any _ _ _ _).mono ?_;rintro e w' ⟨rfl,rfl⟩)| (go_at_call 72;refine (isName_any _ _ hnm).mono ?_;rintro e w' ⟨rfl,rfl⟩))
        go_roundw
        case rel=>exact ⟨k+1,by omega,by go_num,HX.o,HO'.o.alloc _,HB'.o.trans (((Below.refl _ _).alloc (Nat.le_refl _) _).mono hsz)⟩
        case measure=>simp[intOf];omega
   ·have hvb:(v==0)=false:=beq_eq_false_iff_ne.2 hv
    cases hbt:btw v 1 12
    ·skip
     have HX:Hid (checkV T=3):=by
      have e:partE v nm len=3:=by
       rw[partE,if_pos hv,varE];simp[btw]at hbt;split
       ·rfl
       ·rw[if_pos (by omega)]
      rw[Hid,HStop.o (by rw[e];decide),e]
     clear hv;go_wp2_with (first| (go_at_call 28;refine (between_any _ _ _ _).mono ?_;rintro e w' ⟨rfl,rfl⟩)| (go_at_call 72;refine (isName_any _ _ hnm).mono ?_;rintro e w' ⟨rfl,rfl⟩))
     go_ret;exact ⟨by rw[HX.o];rfl,HB'.o.trans (((Below.refl _ _).alloc (Nat.le_refl _) _).mono hsz)⟩
    ·have hbb: ¬v<1∧¬12<v:=by simp[btw]at hbt;omega
     by_cases hn:nm.toList= []
     ·by_cases h0:0<len
      ·skip
       have HX:Hid (checkV T=1):=by
        have e:partE v nm len=1:=by
         rw[partE,if_pos hv,varE,if_neg hbb.1,if_neg hbb.2,if_pos hn,if_pos h0]
        rw[Hid,HStop.o (by rw[e];decide),e]
       clear hv hbb;go_wp2_with (first| (go_at_call 28;refine (between_any _ _ _ _).mono ?_;rintro e w' ⟨rfl,rfl⟩)| (go_at_call 72;refine (isName_any _ _ hnm).mono ?_;rintro e w' ⟨rfl,rfl⟩))
       go_ret;exact ⟨by rw[HX.o];rfl,HB'.o.trans (((Below.refl _ _).alloc (Nat.le_refl _) _).mono hsz)⟩
      ·skip
       have HX:Hid (firstL (l.take (k+1))=0):=by
        have e:partE v nm len=0:=by
         rw[partE,if_pos hv,varE,if_neg hbb.1,if_neg hbb.2,if_pos hn,if_neg h0]
        exact HNext.o e
       clear hv hbb;go_wp2_with (first| (go_at_call 28;refine (between_any _ _ _ _).mono ?_;rintro e w' ⟨rfl,rfl⟩)| (go_at_call 72;refine (isName_any _ _ hnm).mono ?_;rintro e w' ⟨rfl,rfl⟩))
       go_roundw
       case rel=>exact ⟨k+1,by omega,by go_num,HX.o,HO'.o.alloc _,HB'.o.trans (((Below.refl _ _).alloc (Nat.le_refl _) _).mono hsz)⟩
       case measure=>simp[intOf];omega
     ·skip
      have HX:Hid (checkV T=1):=by
       have e:partE v nm len=1:=by
        rw[partE,if_pos hv,varE,if_neg hbb.1,if_neg hbb.2,if_neg hn]
       rw[Hid,HStop.o (by rw[e];decide),e]
      clear hv hbb;go_wp2_with (first| (go_at_call 28;refine (between_any _ _ _ _).mono ?_;rintro e w' ⟨rfl,rfl⟩)| (go_at_call 72;refine (isName_any _ _ hnm).mono ?_;rintro e w' ⟨rfl,rfl⟩))
      go_ret;exact ⟨by rw[HX.o];rfl,HB'.o.trans (((Below.refl _ _).alloc (Nat.le_refl _) _).mono hsz)⟩
  ·have hke:k=n:=by omega
   have HX:Hid (checkV T=0):=by
    have e:l.take n=l:=List.take_of_length_le (by rw[HLen.o];exact Nat.le_refl _)
    rw[Hid,HR.o,←e,←hke,HF.o]
   clear hke;go_wp2_with fail;go_ret;exact ⟨by rw[HX.o];rfl,HB'.o⟩
end Go.Proofs.YtmggaclaoefdaabGreat
