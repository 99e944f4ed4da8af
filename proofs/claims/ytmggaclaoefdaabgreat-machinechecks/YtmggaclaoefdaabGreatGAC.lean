/- Part of the proof. Part of the proof. Part of the proof. Part of the proof. Part of the proof. Part of the proof. Part of the proof. Part of the proof. -/
import Derived.Test.YtmggaclaoefdaabGreatSq0
import Derived.Test.YtmggaclaoefdaabGreatProg
import Derived.WalkKit
import Derived.WalkSpells
import Derived.WalkLawsBesides
namespace Go.Proofs.YtmggaclaoefdaabGreat
open Go.RowKit
def btw (n l m:Int):Bool:=decide (l≤n)&&decide (n≤m)
set_option maxHeartbeats 400000 in
theorem between_any (n l m:Int) (w:World):
 Calls Tryz.prog 28 #[iV n,iV l,iV m] w fun e w'=>e=.returned (.bool (btw n l m))∧w'=w:=by
 by_cases h1:l≤n <;> by_cases h2:n≤m
 all_goals
  have H:Hid (btw n l m=(decide (l≤n)&&decide (n≤m))):=rfl
  go_enter Tryz.func28,Tryz.ntmps28
  go_wp2
  go_ret;exact ⟨by rw[H.o];simp[*],rfl⟩
set_option maxHeartbeats 400000 in
theorem letter_any (n:Int) (w:World):
 Calls Tryz.prog 174 #[.int .u8 n] w fun e w'=>e=.returned (.bool (btw n 97 122))∧w'=w:=by
 by_cases h1:97≤n <;> by_cases h2:n≤122
 all_goals
  have H:Hid (btw n 97 122=(decide (97≤n)&&decide (n≤122))):=rfl
  go_enter Tryz.func174,Tryz.ntmps174
  go_wp2
  go_ret;exact ⟨by rw[H.o];simp[*],rfl⟩
end Go.Proofs.YtmggaclaoefdaabGreat

namespace Go.Proofs.YtmggaclaoefdaabGreat
open Go.RowKit
def innerI (c:Int):Bool:=btw c 97 122 ||btw c 48 57 ||(c==95)
def allIn (l:List UInt8):Bool:=l.all fun c=>innerI (c.toNat:Int)
def firstOk (l:List UInt8):Bool:=match l with| []=>false|c::_=>btw (c.toNat:Int) 97 122
def wordB (s:ByteArray):Bool:=decide (1≤s.size)&&decide (s.size≤8)&&firstOk s.data.toList&&allIn s.data.toList
def nameB (s:ByteArray):Bool:=(s.toList== [33]) ||wordB s
theorem take_snoc (s:ByteArray) (k:Nat) (h:k<s.size):s.data.toList.take (k+1)=s.data.toList.take k++ [s[k]]:=by
 rw[List.take_succ_eq_append_getElem (by simpa using h)];rfl
theorem allIn_snoc (s:ByteArray) (k:Nat) (h:k<s.size):allIn (s.data.toList.take (k+1))=(allIn (s.data.toList.take k)&&innerI (s[k].toNat:Int)):=by
 rw[take_snoc s k h];simp[allIn]
theorem allIn_no (s:ByteArray) (k:Nat) (h:k<s.size) (hi:innerI (s[k].toNat:Int)=false):wordB s=false:=by
 have h1:allIn s.data.toList=false:=by
  rw[←List.take_append_drop (k+1) s.data.toList,take_snoc s k h];simp[allIn,hi]
 simp[wordB,h1]
theorem firstOk_eq (s:ByteArray) (h:0<s.size):firstOk s.data.toList=btw (s[0].toNat:Int) 97 122:=by
 have:s.data.toList=s[0]::s.data.toList.drop 1:=by
  rw[←List.drop_zero (l:=s.data.toList),List.drop_eq_getElem_cons (by simpa using h)];rfl
 rw[this];rfl
theorem wordB_yes (s:ByteArray) (h1:1≤s.size) (h8:s.size≤8) (h:0<s.size) (hf:btw (s[0].toNat:Int) 97 122=true) (ha:allIn (s.data.toList.take s.size)=true):wordB s=true:=by
 have e:s.data.toList.take s.size=s.data.toList:=List.take_of_length_le (by simp)
 rw[e]at ha;simp[wordB,h1,h8,firstOk_eq s h,hf,ha]
theorem wordB_short (s:ByteArray) (h: ¬1≤s.size):wordB s=false:=by simp[wordB,h]
theorem wordB_long (s:ByteArray) (h: ¬s.size≤8):wordB s=false:=by simp[wordB,h]
theorem wordB_first (s:ByteArray) (h:0<s.size) (hf:btw (s[0].toNat:Int) 97 122=false):wordB s=false:=by simp[wordB,firstOk_eq s h,hf]
theorem ret_bool {a b:Bool} (h:a=b):Ending.returned (.bool a)=.returned (.bool b):=by rw[h]
set_option maxHeartbeats 800000 in
theorem word_any (s:ByteArray) (w:World) (hs:s.size≤maxLen):
 Calls Tryz.prog 169 #[.string s] w fun e w'=>e=.returned (.bool (wordB s))∧w'=w:=by
 unfold maxLen at hs
 by_cases h1:1≤s.size
 case neg=>
  have H:=hid (wordB_short s h1)
  go_enter Tryz.func169,Tryz.ntmps169
  go_wp2_with fail;go_ret;exact ⟨by rw[H.o];rfl,rfl⟩
 by_cases h8:s.size≤8
 case neg=>
  have H:=hid (wordB_long s h8)
  go_enter Tryz.func169,Tryz.ntmps169
  go_wp2_with fail;go_ret;exact ⟨by rw[H.o];rfl,rfl⟩
 have h0:0<s.size:=by omega
 have hf0:btw (s[0].toNat:Int) 97 122=true∨btw (s[0].toNat:Int) 97 122=false:=by cases btw (s[0].toNat:Int) 97 122 <;> simp
 rcases hf0 with hf|hf
 case inr=>
  have H:=hid (wordB_first s h0 hf)
  go_enter Tryz.func169,Tryz.ntmps169
  go_wp2_with (go_at_call 174;refine (letter_any _ _).mono ?_;rintro e w' ⟨rfl,rfl⟩);go_ret;exact ⟨by rw[H.o];rfl,rfl⟩
 have HF:=hid hf
 go_enter Tryz.func169,Tryz.ntmps169
 go_wp2_with (go_at_call 174;refine (letter_any _ _).mono ?_;rintro e w' ⟨rfl,rfl⟩)
 go_loop [20] (fun i=>∃k:Nat,k≤s.size∧i=iV k∧allIn (s.data.toList.take k)=true) (fun i=>s.size-(intOf i).toNat)
 case atStart=>exact ⟨0,Nat.zero_le _,rfl,rfl⟩
 case round=>
  obtain ⟨k,hk,rfl,hal⟩:=hrel;have HA:=hid hal;clear hal hf
  by_cases hlt:k<s.size
  ·have hsn:=allIn_snoc s k hlt
   rw[HA.o,Bool.true_and]at hsn;have HS:=hid hsn;have hno:=allIn_no s k hlt;have HN:=hid hno;clear hsn hno;cases hL:btw (s[k].toNat:Int) 97 122
   ·by_cases hd1:(s[k].toNat:Int)<48
    ·by_cases hu:(s[k].toNat:Int)=95
     ·omega
     ·have hub:=beq_eq_false_iff_ne.2 hu
      have HI:Hid (wordB s=false):=HN.o (by simp[innerI,hub,btw];omega)
      go_wp2_with (go_at_call 174;refine (letter_any _ _).mono ?_;rintro e w' ⟨rfl,rfl⟩);go_ret;exact ⟨by rw[HI.o];rfl,rfl⟩
    ·by_cases hd2:(s[k].toNat:Int)>57
     ·by_cases hu:(s[k].toNat:Int)=95
      ·have hub:=beq_iff_eq.2 hu
       have HI:Hid (innerI (s[k].toNat:Int)=true):=by simp[Hid,innerI,hub]
       clear hu;go_wp2_with (go_at_call 174;refine (letter_any _ _).mono ?_;rintro e w' ⟨rfl,rfl⟩)
       go_round
       case rel=>exact ⟨k+1,by omega,by go_num,by rw[HS.o,HI.o]⟩
       case measure=>simp[intOf];omega
      ·have hub:=beq_eq_false_iff_ne.2 hu
       have HI:Hid (wordB s=false):=HN.o (by rw[innerI,hL,hub];simp[btw];omega)
       go_wp2_with (go_at_call 174;refine (letter_any _ _).mono ?_;rintro e w' ⟨rfl,rfl⟩);go_ret;exact ⟨by rw[HI.o];rfl,rfl⟩
     ·have HI:Hid (innerI (s[k].toNat:Int)=true):=by simp[Hid,innerI,btw];omega
      go_wp2_with (go_at_call 174;refine (letter_any _ _).mono ?_;rintro e w' ⟨rfl,rfl⟩)
      go_round
      case rel=>exact ⟨k+1,by omega,by go_num,by rw[HS.o,HI.o]⟩
      case measure=>simp[intOf];omega
   ·have HI:Hid (innerI (s[k].toNat:Int)=true):=by simp[Hid,innerI,hL]
    go_wp2_with (go_at_call 174;refine (letter_any _ _).mono ?_;rintro e w' ⟨rfl,rfl⟩)
    go_round
    case rel=>exact ⟨k+1,by omega,by go_num,by rw[HS.o,HI.o]⟩
    case measure=>simp[intOf];omega
  ·have hke:k=s.size:=by omega
   have HY:Hid (wordB s=true):=wordB_yes s h1 h8 h0 HF.o (by rw[←hke];exact HA.o)
   clear hke;go_wp2_with fail;go_ret;exact ⟨by rw[HY.o];rfl,rfl⟩
end Go.Proofs.YtmggaclaoefdaabGreat

namespace Go.Proofs.YtmggaclaoefdaabGreat
open Go.RowKit
theorem nameB_word (s:ByteArray) (h:(s.toList== [33])=false):nameB s=wordB s:=by rw[nameB,h,Bool.false_or]
set_option maxHeartbeats 800000 in
theorem isName_any (s:ByteArray) (w:World) (hs:s.size≤maxLen):
 Calls Tryz.prog 72 #[.string s] w fun e w'=>e=.returned (.bool (nameB s))∧w'=w:=by
 unfold maxLen at hs;cases hc:(s.toList== [33])
 case true=>
  have H:Hid (nameB s=true):=by rw[Hid,nameB,hc,Bool.true_or]
  go_enter Tryz.func72,Tryz.ntmps72
  go_wp2_with fail;go_ret;exact ⟨by rw[H.o];rfl,rfl⟩
 have HW:Hid (nameB s=wordB s):=nameB_word s hc
 by_cases h1:1≤s.size
 case neg=>
  have H:Hid (nameB s=false):=by rw[Hid,HW.o];exact wordB_short s h1
  have hb:btw (s.size:Int) 1 8=false:=by simp[btw];omega
  go_enter Tryz.func72,Tryz.ntmps72
  go_wp2_with (go_at_call 28;refine (between_any _ _ _ _).mono ?_;rintro e w' ⟨rfl,rfl⟩);go_ret;exact ⟨by rw[H.o];rfl,rfl⟩
 by_cases h8:s.size≤8
 case neg=>
  have H:Hid (nameB s=false):=by rw[Hid,HW.o];exact wordB_long s h8
  have hb:btw (s.size:Int) 1 8=false:=by simp[btw];omega
  go_enter Tryz.func72,Tryz.ntmps72
  go_wp2_with (go_at_call 28;refine (between_any _ _ _ _).mono ?_;rintro e w' ⟨rfl,rfl⟩);go_ret;exact ⟨by rw[H.o];rfl,rfl⟩
 have hb:btw (s.size:Int) 1 8=true:=by simp[btw];omega
 have h0:0<s.size:=by omega
 have hf0:btw (s[0].toNat:Int) 97 122=true∨btw (s[0].toNat:Int) 97 122=false:=by cases btw (s[0].toNat:Int) 97 122 <;> simp
 have hlt0:s[0].toNat<256:=s[0].toNat_lt
 rcases hf0 with hf|hf
 case inr=>
  have H:Hid (nameB s=false):=by rw[Hid,HW.o];exact wordB_first s h0 hf
  go_enter Tryz.func72,Tryz.ntmps72
  go_wp2_with (go_at_call 28;refine (between_any _ _ _ _).mono ?_;rintro e w' ⟨rfl,rfl⟩);go_ret;exact ⟨by rw[H.o];rfl,rfl⟩
 have HF:Hid (btw (s[0].toNat:Int) 97 122=true):=hf
 have HA0:Hid (allIn (s.data.toList.take 1)=true):=by
  rw[Hid,allIn_snoc s 0 h0];simp[allIn,innerI,hf]
 go_enter Tryz.func72,Tryz.ntmps72
 go_wp2_with (go_at_call 28;refine (between_any _ _ _ _).mono ?_;rintro e w' ⟨rfl,rfl⟩)
 go_loop [3] (fun i=>∃k:Nat,k≤s.size∧i=iV k∧allIn (s.data.toList.take k)=true) (fun i=>s.size-(intOf i).toNat)
 case atStart=>exact ⟨1,h1,rfl,HA0.o⟩
 case round=>
  obtain ⟨k,hk,rfl,hal⟩:=hrel;have HA:Hid (allIn (s.data.toList.take k)=true):=hal;clear hal hf hb
  by_cases hlt:k<s.size
  ·have hsn:=allIn_snoc s k hlt
   rw[HA.o,Bool.true_and]at hsn;have HS:Hid (allIn (s.data.toList.take (k+1))=innerI (s[k].toNat:Int)):=hsn;have hno:=allIn_no s k hlt;have HN:Hid (innerI (s[k].toNat:Int)=false→nameB s=false):=fun h=>HW.o.trans (hno h)
   clear hsn hno;have hltk:s[k].toNat<256:=s[k].toNat_lt;cases hL:btw (s[k].toNat:Int) 97 122
   ·cases hD:btw (s[k].toNat:Int) 48 57
    ·by_cases hu:(s[k].toNat:Int)=95
     ·have hub:((s[k].toNat:Int)==95)=true:=beq_iff_eq.2 hu
      have HI:Hid (innerI (s[k].toNat:Int)=true):=by simp[Hid,innerI,hub]
      clear hu;go_wp2_with (go_at_call 28;refine (between_any _ _ _ _).mono ?_;rintro e w' ⟨rfl,rfl⟩)
      go_round
      case rel=>exact ⟨k+1,by omega,by go_num,by rw[HS.o,HI.o]⟩
      case measure=>simp[intOf];omega
     ·have hub:((s[k].toNat:Int)==95)=false:=beq_eq_false_iff_ne.2 hu
      have HI:Hid (nameB s=false):=HN.o (by rw[innerI,hL,hD,hub];rfl)
      go_wp2_with (go_at_call 28;refine (between_any _ _ _ _).mono ?_;rintro e w' ⟨rfl,rfl⟩);go_ret;exact ⟨by rw[HI.o];rfl,rfl⟩
    ·have HI:Hid (innerI (s[k].toNat:Int)=true):=by simp[Hid,innerI,hD]
     go_wp2_with (go_at_call 28;refine (between_any _ _ _ _).mono ?_;rintro e w' ⟨rfl,rfl⟩)
     go_round
     case rel=>exact ⟨k+1,by omega,by go_num,by rw[HS.o,HI.o]⟩
     case measure=>simp[intOf];omega
   ·have HI:Hid (innerI (s[k].toNat:Int)=true):=by simp[Hid,innerI,hL]
    go_wp2_with (go_at_call 28;refine (between_any _ _ _ _).mono ?_;rintro e w' ⟨rfl,rfl⟩)
    go_round
    case rel=>exact ⟨k+1,by omega,by go_num,by rw[HS.o,HI.o]⟩
    case measure=>simp[intOf];omega
  ·have hke:k=s.size:=by omega
   have HY:Hid (nameB s=true):=HW.o.trans (wordB_yes s h1 h8 h0 HF.o (by rw[←hke];exact HA.o))
   clear hke;go_wp2_with fail;go_ret;exact ⟨by rw[HY.o];rfl,rfl⟩
end Go.Proofs.YtmggaclaoefdaabGreat

namespace Go.Proofs.YtmggaclaoefdaabGreat
open Go.RowKit
theorem ret_int {k:IntKind} {a b:Int} (h:a=b):Ending.returned (.int k a)=.returned (.int k b):=by rw[h]
def varE (v:Int) (nm:ByteArray) (len:Nat):Int:=if v<1 then 3 else if 12<v then 3 else if nm.toList= []then (if 0<len then 1 else 0)else 1
def partE (v:Int) (nm:ByteArray) (len:Nat):Int:=if¬v=0 then varE v nm len else if nameB nm=false then 1 else if 4<len then 2 else if nm.toList= [33]∧0<len then 1 else 0
set_option maxHeartbeats 400000 in
theorem variable_any (v:Int) (nm:ByteArray) (a:Option Addr) (len cap:Nat) (w:World):
 Calls Tryz.prog 168 #[.agg #[iV v,.string nm,.slice a len cap]] w fun e w'=>e=.returned (iV (varE v nm len))∧Below w.heap.size w w':=by
 go_enter Tryz.func168,Tryz.ntmps168
 go_wp2
 all_goals
  go_ret;refine ⟨ret_int ?_,(Below.refl _ _).alloc (Nat.le_refl _) _⟩;rw[varE]
  repeat (first|rw[if_pos (by first|assumption|omega)]|rw[if_neg (by first|assumption|omega)])
set_option maxHeartbeats 400000 in
theorem part_any (v:Int) (nm:ByteArray) (a:Option Addr) (len cap:Nat) (w:World) (hs:nm.size≤maxLen):
 Calls Tryz.prog 153 #[.agg #[iV v,.string nm,.slice a len cap]] w fun e w'=>e=.returned (iV (partE v nm len))∧Below w.heap.size w w':=by
 by_cases hv:v=0
 case neg=>
  have hvb:(v==0)=false:=beq_eq_false_iff_ne.2 hv;have H:Hid (partE v nm len=varE v nm len):=by rw[Hid,partE,if_pos hv]
  clear hv
  go_enter Tryz.func153,Tryz.ntmps153
  go_wp2_with (go_at_call 168;refine (variable_any _ _ _ _ _ _).mono ?_;rintro e w' ⟨rfl,hb⟩);go_ret;exact ⟨by rw[H.o];rfl,((Below.refl _ _).alloc (Nat.le_refl _) _).trans (hb.mono (by simp))⟩
 subst hv;cases hc:(nm.toList== [33])
 case true=>
  have hc':nm.toList= [33]:=beq_iff_eq.1 hc;have HN:Hid (nameB nm=true):=by rw[Hid,nameB,hc,Bool.true_or]
  have HC:Hid (nm.toList= [33]):=hc';clear hc'
  go_enter Tryz.func153,Tryz.ntmps153
  go_wp2_with fail
  all_goals
   go_ret;refine ⟨ret_int ?_,(Below.refl _ _).alloc (Nat.le_refl _) _⟩;rw[partE,if_neg (by simp),if_neg (by rw[HN.o];simp)]
   repeat (first|rw[if_pos (by first|omega|exact ⟨HC.o,by omega⟩)]|rw[if_neg (by first|omega| (intro h;omega))])
 case false=>
  have hc': ¬nm.toList= [33]:=beq_eq_false_iff_ne.1 hc;have HC:Hid (¬nm.toList= [33]):=hc';clear hc';cases hw:wordB nm
  ·have H:Hid (partE 0 nm len=1):=by rw[Hid,partE,if_neg (by simp),if_pos (by rw[nameB,hc,hw];rfl)]
   go_enter Tryz.func153,Tryz.ntmps153
   go_wp2_with (go_at_call 169;refine (word_any _ _ hs).mono ?_;rintro e w' ⟨rfl,rfl⟩);go_ret;exact ⟨by rw[H.o];rfl,(Below.refl _ _).alloc (Nat.le_refl _) _⟩
  ·have HN:Hid (nameB nm=true):=by rw[Hid,nameB,hw,Bool.or_true]
   go_enter Tryz.func153,Tryz.ntmps153
   go_wp2_with (go_at_call 169;refine (word_any _ _ hs).mono ?_;rintro e w' ⟨rfl,rfl⟩)
   all_goals
    go_ret;refine ⟨ret_int ?_,(Below.refl _ _).alloc (Nat.le_refl _) _⟩;rw[partE,if_neg (by simp),if_neg (by rw[HN.o];simp)]
    repeat (first|rw[if_pos (by omega)]|rw[if_neg (by first|omega|exact fun h=>HC.o h.1)])
def meansB (nm:ByteArray) (len:Nat):Bool:=(decide (len=0)&&(nm.toList== [33] ||nm.toList== [116,114,117,101] ||nm.toList== [102,97,105,108])) ||(decide (len=2)&&nm.toList== [101,113])
theorem five (l:List UInt8):
 ((l== [33])=true∧(l== [116,114,117,101])=false∧(l== [102,97,105,108])=false∧(l== [101,113])=false)∨
 ((l== [33])=false∧(l== [116,114,117,101])=true∧(l== [102,97,105,108])=false∧(l== [101,113])=false)∨
 ((l== [33])=false∧(l== [116,114,117,101])=false∧(l== [102,97,105,108])=true∧(l== [101,113])=false)∨
 ((l== [33])=false∧(l== [116,114,117,101])=false∧(l== [102,97,105,108])=false∧(l== [101,113])=true)∨
 ((l== [33])=false∧(l== [116,114,117,101])=false∧(l== [102,97,105,108])=false∧(l== [101,113])=false):=by
 by_cases h1:l= [33]
 ·subst h1;decide
 by_cases h2:l= [116,114,117,101]
 ·subst h2;decide
 by_cases h3:l= [102,97,105,108]
 ·subst h3;decide
 by_cases h4:l= [101,113]
 ·subst h4;decide
 simp[h1,h2,h3,h4]
theorem three (n:Nat):(((n:Int)==0)=true∧((n:Int)==2)=false∧Hid (n=0))∨(((n:Int)==0)=false∧((n:Int)==2)=true∧Hid (n=2))∨(((n:Int)==0)=false∧((n:Int)==2)=false∧Hid (n≠0∧n≠2)):=by
 by_cases h0:n=0
 ·subst h0;exact Or.inl ⟨rfl,rfl,rfl⟩
 by_cases h2:n=2
 ·subst h2;exact Or.inr (Or.inl ⟨rfl,rfl,rfl⟩)
 ·exact Or.inr (Or.inr ⟨beq_eq_false_iff_ne.2 (by omega),beq_eq_false_iff_ne.2 (by omega),⟨h0,h2⟩⟩)
set_option maxHeartbeats 400000 in
theorem means_any (v:Int) (nm:ByteArray) (a:Option Addr) (len cap:Nat) (w:World):
 Calls Tryz.prog 99 #[.agg #[iV v,.string nm,.slice a len cap]] w fun e w'=>e=.returned (.bool (meansB nm len))∧Below w.heap.size w w':=by
 rcases five nm.toList with ⟨h1,h2,h3,h4⟩| ⟨h1,h2,h3,h4⟩| ⟨h1,h2,h3,h4⟩| ⟨h1,h2,h3,h4⟩| ⟨h1,h2,h3,h4⟩ <;>
 rcases three len with ⟨g1,g2,G⟩| ⟨g1,g2,G⟩| ⟨g1,g2,G⟩
 all_goals
  go_enter Tryz.func99,Tryz.ntmps99
  go_wp2
  go_ret;refine ⟨ret_bool ?_,(Below.refl _ _).alloc (Nat.le_refl _) _⟩;simp[meansB,h1,h2,h3,h4,Hid.o G]
set_option maxHeartbeats 400000 in
theorem isBuiltin_any (nm:ByteArray) (len:Nat) (w:World):
 Calls Tryz.prog 59 #[.string nm,iV len] w fun e w'=>e=.returned (.bool (meansB nm len))∧w'=w:=by
 rcases five nm.toList with ⟨h1,h2,h3,h4⟩| ⟨h1,h2,h3,h4⟩| ⟨h1,h2,h3,h4⟩| ⟨h1,h2,h3,h4⟩| ⟨h1,h2,h3,h4⟩ <;>
 rcases three len with ⟨g1,g2,G⟩| ⟨g1,g2,G⟩| ⟨g1,g2,G⟩
 all_goals
  go_enter Tryz.func59,Tryz.ntmps59
  go_wp2
  go_ret;refine ⟨ret_bool ?_,rfl⟩;simp[meansB,h1,h2,h3,h4,Hid.o G]
end Go.Proofs.YtmggaclaoefdaabGreat

namespace Go.Proofs.YtmggaclaoefdaabGreat
open Go.RowKit
inductive Tm where
 |nil
 |mk (v:Int) (nm:ByteArray) (a:Option Addr) (len cap:Nat) (f:Nat→Tm)
namespace Tm
def v:Tm→Int| .nil=>0| .mk v _ _ _ _ _=>v
def nm:Tm→ByteArray| .nil=>⟨#[]⟩| .mk _ nm _ _ _ _=>nm
def a:Tm→Option Addr| .nil=>none| .mk _ _ a _ _ _=>a
def len:Tm→Nat| .nil=>0| .mk _ _ _ len _ _=>len
def cap:Tm→Nat| .nil=>0| .mk _ _ _ _ cap _=>cap
def f:Tm→Nat→Tm| .nil=>fun _=> .nil| .mk _ _ _ _ _ f=>f
def val (T:Tm):Value:=.agg #[iV T.v,.string T.nm,.slice T.a T.len T.cap]
end Tm
def RowAt (w:World) (a:Option Addr) (i:Nat) (T:Tm):Prop:=
 ∃b o,a=some ⟨b,o,none⟩∧w.cell? ⟨b,o+i*3,none⟩=some (iV T.v)∧w.cell? ⟨b,o+i*3+1,none⟩=some (.string T.nm)∧w.cell? ⟨b,o+i*3+2,none⟩=some (.slice T.a T.len T.cap)
def TIn (w:World):Tm→Prop
 | .nil=>False
 | .mk _ nm a len _ f=>nm.size≤maxLen∧len≤maxLen∧∀i,i<len→RowAt w a i (f i)∧TIn w (f i)
theorem TIn.name {w:World} {T:Tm} (h:TIn w T):T.nm.size≤maxLen:=by
 cases T with
 |nil=>exact False.elim h
 |mk=>exact h.1
theorem TIn.len {w:World} {T:Tm} (h:TIn w T):T.len≤maxLen:=by
 cases T with
 |nil=>exact False.elim h
 |mk=>exact h.2.1
theorem TIn.row {w:World} {T:Tm} (h:TIn w T) {i:Nat} (hi:i<T.len):RowAt w T.a i (T.f i):=by
 cases T with
 |nil=>exact False.elim h
 |mk=>exact (h.2.2 i hi).1
theorem TIn.kid {w:World} {T:Tm} (h:TIn w T) {i:Nat} (hi:i<T.len):TIn w (T.f i):=by
 cases T with
 |nil=>exact False.elim h
 |mk=>exact (h.2.2 i hi).2
theorem lt_of_cell {w:World} {p:Addr} {x:Value} (h:w.cell? p=some x):p.block<w.heap.size:=by
 unfold World.cell? at h
 cases hb:w.heap[p.block]? with
 |none=>rw[hb]at h;simp at h
 |some o=>exact (Array.getElem?_eq_some_iff.1 hb).1
theorem RowAt.below {w w':World} {a:Option Addr} {i:Nat} {T:Tm} (h:RowAt w a i T) (hb:Below w.heap.size w w'):RowAt w' a i T:=by
 obtain ⟨b,o,rfl,h0,h1,h2⟩:=h;exact ⟨b,o,rfl,(hb.cell (lt_of_cell h0)).trans h0,(hb.cell (lt_of_cell h1)).trans h1,(hb.cell (lt_of_cell h2)).trans h2⟩
theorem TIn.below {w w':World} {T:Tm} (h:TIn w T) (hb:Below w.heap.size w w'):TIn w' T:=by
 induction T with
 |nil=>exact False.elim h
 |mk v nm a len cap f ih=>exact ⟨h.1,h.2.1,fun i hi=>⟨(h.2.2 i hi).1.below hb,ih i (h.2.2 i hi).2⟩⟩
def sumTo (g:Nat→Nat):Nat→Nat
 |0=>0
 |k+1=>sumTo g k+g k
theorem sumTo_le (g:Nat→Nat) {j k:Nat} (h:j≤k):sumTo g j≤sumTo g k:=by
 induction k with
 |zero=>rw[Nat.le_zero.1 h];exact Nat.le_refl _
 |succ k ih=>
  by_cases hj:j=k+1
  ·rw[hj];exact Nat.le_refl _
  ·have:=ih (by omega);show _≤sumTo g k+g k;omega
def cnt:Tm→Nat
 | .nil=>1
 | .mk _ _ _ len _ f=>1+sumTo (fun i=>cnt (f i)) len
def kids (T:Tm):Nat:=sumTo (fun i=>cnt (T.f i)) T.len
theorem cnt_eq (T:Tm):cnt T=1+kids T:=by cases T <;> rfl
def roomV (n:Int) (t:Nat):Int:=if (t:Int)≤n then n-t else -1
set_option maxHeartbeats 400000 in
theorem room_any (T:Tm): ∀(n:Int) (w:World),TIn w T→0≤n→n≤60→
 Calls Tryz.prog 129 #[iV n,.slice T.a T.len T.cap] w fun e w'=>e=.returned (iV (roomV n (kids T)))∧Below w.heap.size w w':=by
 induction T with
 |nil=>intro n w hin;exact False.elim hin
 |mk v nm a len cap f ih=>
  intro n w hin hn0 hn60;have IH:Hid (∀i (n:Int) (w:World),TIn w (f i)→0≤n→n≤60→Calls Tryz.prog 129 #[iV n,.slice (f i).a (f i).len (f i).cap] w fun e w'=>e=.returned (iV (roomV n (kids (f i))))∧Below w.heap.size w w'):=ih
  have HIn:Hid (TIn w (.mk v nm a len cap f)):=hin;have hlen:len≤2 ^ 63-1:=TIn.len (T:=.mk v nm a len cap f) hin;clear ih hin
  show Calls Tryz.prog 129 #[iV n,.slice a len cap] w _
  go_enter Tryz.func129,Tryz.ntmps129
  go_wp2_with fail
  go_loopw [0,9] (fun n' i wr=>∃k:Nat,k≤len∧i=iV k∧(sumTo (fun i=>cnt (f i)) k:Int)≤n∧n'=iV (n-(sumTo (fun i=>cnt (f i)) k:Nat))∧Below w.heap.size w wr) (fun _ i _=>len-(intOf i).toNat)
  case atStart=>exact ⟨0,Nat.zero_le _,rfl,by simp[sumTo];omega,by simp[sumTo],Below.refl _ _⟩
  case round=>
   obtain ⟨k,hk,rfl,hs,rfl,hb⟩:=hrel;have HS:Hid (kids (.mk v nm a len cap f)=sumTo (fun i=>cnt (f i)) len):=rfl
   generalize hsk:sumTo (fun i=>cnt (f i)) k=sk at*
   have HK:Hid (sumTo (fun i=>cnt (f i)) k=sk):=hsk
   clear hsk
   by_cases hlt:k<len
   ·have hr:RowAt wr a k (f k):=(TIn.row (T:=.mk v nm a len cap f) HIn.o hlt).below hb
    obtain ⟨b,o,ha,c0,c1,c2⟩:=hr;have HT:Hid (TIn wr (f k)):=(TIn.kid (T:=.mk v nm a len cap f) HIn.o hlt).below hb;have HM:Hid (sumTo (fun i=>cnt (f i)) (k+1)≤sumTo (fun i=>cnt (f i)) len):=sumTo_le _ hlt
    have HE:Hid (sumTo (fun i=>cnt (f i)) (k+1)=sk+(1+kids (f k))):=by rw[Hid,sumTo,HK.o,cnt_eq]
    subst ha
    by_cases hz:n-(sk:Int)=0
    ·have hzb:(n-(sk:Int)==0)=true:=beq_iff_eq.2 hz
     have HR:Hid (roomV n (kids (.mk v nm (some ⟨b,o,none⟩) len cap f))= -1):=by
      rw[Hid,roomV,if_neg];rw[HS.o];have:=HM.o;have:=HE.o;omega
     clear hz;go_wp2_with fail;go_ret;exact ⟨by rw[HR.o];rfl,hb.trans (((Below.refl _ _).alloc (Nat.le_refl _) _).mono hb.size)⟩
    ·have hzb:(n-(sk:Int)==0)=false:=beq_eq_false_iff_ne.2 hz
     have hpos:sk+1≤n:=by omega
     clear hz;generalize hkk:kids (f k)=kk at*;have hsz:=hb.size
     by_cases hle:(kk:Int)≤n-sk-1
     ·have HV:Hid (roomV (n-sk-1) kk=n-sk-1-kk):=by rw[Hid,roomV,if_pos hle]
      go_wp2_with fail;refine (IH.o k (n-sk-1) _ (HT.o.below ((Below.refl _ _).alloc (Nat.le_refl _) _)) (by omega) (by omega)).mono ?_
      rintro e w1 ⟨rfl,hb1⟩;rw[hkk,HV.o];clear hkk;go_wp2_with fail;go_roundw
      case rel=>exact ⟨k+1,by omega,by go_num,by rw[HE.o];omega,by rw[HE.o];go_num,(hb.trans (((Below.refl _ _).alloc (Nat.le_refl _) _).mono hsz)).trans (hb1.mono (by simp;omega))⟩
      case measure=>simp[intOf];omega
     ·have HV:Hid (roomV (n-sk-1) kk= -1):=by rw[Hid,roomV,if_neg hle]
      have HR:Hid (roomV n (kids (.mk v nm (some ⟨b,o,none⟩) len cap f))= -1):=by
       rw[Hid,roomV,if_neg];rw[HS.o];have:=HM.o;have:=HE.o;omega
      go_wp2_with fail;refine (IH.o k (n-sk-1) _ (HT.o.below ((Below.refl _ _).alloc (Nat.le_refl _) _)) (by omega) (by omega)).mono ?_
      rintro e w1 ⟨rfl,hb1⟩;rw[hkk,HV.o];clear hkk;go_wp2_with fail;go_ret;exact ⟨by rw[HR.o];rfl,(hb.trans (((Below.refl _ _).alloc (Nat.le_refl _) _).mono hsz)).trans (hb1.mono (by simp;omega))⟩
   ·have hke:k=len:=by omega
    have HR:Hid (roomV n (kids (.mk v nm a len cap f))=n-sk):=by
     rw[Hid,HS.o,←hke,HK.o,roomV,if_pos hs]
    clear hke;go_wp2_with fail;go_ret;exact ⟨by rw[HR.o];rfl,hb⟩
end Go.Proofs.YtmggaclaoefdaabGreat

namespace Go.Proofs.YtmggaclaoefdaabGreat
open Go.RowKit
def sizeV (e:Int) (c:Nat):Int:=if (c:Int)≤e then c else e+1
set_option maxHeartbeats 400000 in
theorem sizeOf_any (T:Tm): ∀(e:Int) (w:World),TIn w T→0≤e→e≤60→
 Calls Tryz.prog 96 #[T.val,iV e] w fun r w'=>r=.returned (iV (sizeV e (cnt T)))∧Below w.heap.size w w':=by
 induction T with
 |nil=>intro e w hin;exact False.elim hin
 |mk v nm a len cap f ih=>
  intro e w hin hn0 hn60;have IH:Hid (∀i (e:Int) (w:World),TIn w (f i)→0≤e→e≤60→Calls Tryz.prog 96 #[(f i).val,iV e] w fun r w'=>r=.returned (iV (sizeV e (cnt (f i))))∧Below w.heap.size w w'):=ih
  have HIn:Hid (TIn w (.mk v nm a len cap f)):=hin;have hlen:len≤2 ^ 63-1:=TIn.len (T:=.mk v nm a len cap f) hin;clear ih hin
  show Calls Tryz.prog 96 #[.agg #[iV v,.string nm,.slice a len cap],iV e] w _
  go_enter Tryz.func96,Tryz.ntmps96
  go_wp2_with fail
  go_loopw [5,6] (fun n' i wr=>∃k:Nat,k≤len∧i=iV k∧n'=iV (sizeV e (1+sumTo (fun i=>cnt (f i)) k))∧Below (w.heap.size+1) (w.alloc (.cells #[iV v,.string nm,.slice a len cap] 67)) wr) (fun _ i _=>len-(intOf i).toNat)
  case atStart=>exact ⟨0,Nat.zero_le _,rfl,by simp[sumTo,sizeV];omega,Below.refl _ _⟩
  case round=>
   obtain ⟨k,hk,rfl,rfl,hb⟩:=hrel;have HC:Hid (cnt (.mk v nm a len cap f)=1+sumTo (fun i=>cnt (f i)) len):=rfl
   have hbw:Below w.heap.size w wr:=((Below.refl _ _).alloc (Nat.le_refl _) _).trans (hb.mono (by omega))
   have hbox:wr.cell? ⟨w.heap.size,2,none⟩=some (.slice a len cap):=(hb.cell (p:=⟨w.heap.size,2,none⟩) (by simp)).trans (by go_simp)
   have HB:Hid (Below (w.heap.size+1) (w.alloc (.cells #[iV v,.string nm,.slice a len cap] 67)) wr):=hb;have HBW:Hid (Below w.heap.size w wr):=hbw;have hsz:w.heap.size+1≤wr.heap.size:=by have:=hb.size;simpa using this
   generalize hsk:sumTo (fun i=>cnt (f i)) k=sk at*
   have HK:Hid (sumTo (fun i=>cnt (f i)) k=sk):=hsk
   clear hsk hb hbw
   by_cases hlt:k<len
   ·have HM:Hid (sumTo (fun i=>cnt (f i)) (k+1)≤sumTo (fun i=>cnt (f i)) len):=sumTo_le _ hlt
    have HE:Hid (sumTo (fun i=>cnt (f i)) (k+1)=sk+cnt (f k)):=by rw[Hid,sumTo,HK.o]
    by_cases hle:((1+sk:Nat):Int)≤e
    ·have hr:RowAt wr a k (f k):=(TIn.row (T:=.mk v nm a len cap f) HIn.o hlt).below HBW.o
     obtain ⟨b,o,ha,c0,c1,c2⟩:=hr;have HT:Hid (TIn wr (f k)):=(TIn.kid (T:=.mk v nm a len cap f) HIn.o hlt).below HBW.o;have hv:sizeV e (1+sk)=1+sk:=by rw[sizeV,if_pos hle];omega
     rw[hv];clear hv;subst ha;have hle':1+(sk:Int)≤e:=by omega
     have HV:Hid (1+(sk:Int)+sizeV (e-(1+sk)) (cnt (f k))=sizeV e (1+(sk+cnt (f k)))):=by
      unfold Hid sizeV;split <;> split <;> omega
     generalize hx:sizeV (e-(1+sk)) (cnt (f k))=x at*;have hx0:0≤x∧x≤61:=by rw[←hx];unfold sizeV;split <;> omega
     obtain ⟨hx1,hx2⟩:=hx0;have HX:Hid (sizeV (e-(1+sk)) (cnt (f k))=x):=hx;clear hx hle;go_wp2_with fail;refine (IH.o k (e-(1+sk)) _ HT.o (by omega) (by omega)).mono ?_
     rintro r w1 ⟨rfl,hb1⟩;rw[HX.o];go_wp2_with fail;go_roundw
     case rel=>exact ⟨k+1,by omega,by go_num,by rw[HE.o,←HV.o],HB.o.trans (hb1.mono hsz)⟩
     case measure=>simp[intOf];omega
    ·have hv:sizeV e (1+sk)=e+1:=by rw[sizeV,if_neg hle]
     rw[hv]
     have HR:Hid (sizeV e (cnt (.mk v nm a len cap f))=e+1):=by
      rw[Hid,HC.o,sizeV,if_neg];have:=HM.o;have:=HE.o;omega
     clear hv;go_wp2_with fail;go_ret;exact ⟨by rw[HR.o];rfl,HBW.o⟩
   ·have hke:k=len:=by omega
    have HR:Hid (sizeV e (cnt (.mk v nm a len cap f))=sizeV e (1+sk)):=by
     rw[Hid,HC.o,←hke,HK.o]
    clear hke;go_wp2_with fail
    all_goals
     go_ret;exact ⟨by rw[HR.o];rfl,HBW.o⟩
end Go.Proofs.YtmggaclaoefdaabGreat

namespace Go.Proofs.YtmggaclaoefdaabGreat
open Go.RowKit
def fst (g:Nat→Int):Nat→Int
 |0=>0
 |k+1=>if fst g k=0 then g k else fst g k
theorem fst_zero (g:Nat→Int) {j k:Nat} (h:j≤k) (hk:fst g k=0):fst g j=0:=by
 induction k with
 |zero=>rw[Nat.le_zero.1 h];rfl
 |succ k ih=>
  by_cases hj:j=k+1
  ·rw[hj];exact hk
  ·have:fst g k=0:=by
    by_cases h0:fst g k=0
    ·exact h0
    ·rw[fst,if_neg h0]at hk;exact absurd hk h0
   exact ih (by omega) this
theorem fst_stop (g:Nat→Int) {j k:Nat} (h:j<k) (h0:fst g j=0) (hg:g j≠0):fst g k=g j:=by
 induction k with
 |zero=>omega
 |succ k ih=>
  by_cases hj:j=k
  ·subst hj;rw[fst,if_pos h0]
  ·have e:=ih (by omega)
   rw[fst,if_neg (by rw[e];exact hg),e]
def err:Tm→Int
 | .nil=>if partE 0 ⟨#[]⟩ 0=0 then 0 else partE 0 ⟨#[]⟩ 0
 | .mk v nm _ len _ f=>if partE v nm len=0 then fst (fun i=>err (f i)) len else partE v nm len
def errs (T:Tm):Int:=fst (fun i=>err (T.f i)) T.len
theorem err_eq (T:Tm):err T=if partE T.v T.nm T.len=0 then errs T else partE T.v T.nm T.len:=by cases T <;> rfl
set_option maxHeartbeats 400000 in
theorem parts_any (T:Tm): ∀(w:World),TIn w T→
 Calls Tryz.prog 130 #[.slice T.a T.len T.cap] w fun e w'=>e=.returned (iV (errs T))∧Below w.heap.size w w':=by
 induction T with
 |nil=>intro w hin;exact False.elim hin
 |mk v nm a len cap f ih=>
  intro w hin;have IH:Hid (∀i (w:World),TIn w (f i)→Calls Tryz.prog 130 #[.slice (f i).a (f i).len (f i).cap] w fun e w'=>e=.returned (iV (errs (f i)))∧Below w.heap.size w w'):=ih
  have HIn:Hid (TIn w (.mk v nm a len cap f)):=hin;have hlen:len≤2 ^ 63-1:=TIn.len (T:=.mk v nm a len cap f) hin;have HS:Hid (errs (.mk v nm a len cap f)=fst (fun i=>err (f i)) len):=rfl
  clear ih hin
  show Calls Tryz.prog 130 #[.slice a len cap] w _
  go_enter Tryz.func130,Tryz.ntmps130
  go_wp2_with fail
  go_loopw [9] (fun i wr=>∃k:Nat,k≤len∧i=iV k∧fst (fun i=>err (f i)) k=0∧Below w.heap.size w wr) (fun i _=>len-(intOf i).toNat)
  case atStart=>exact ⟨0,Nat.zero_le _,rfl,rfl,Below.refl _ _⟩
  case round=>
   obtain ⟨k,hk,rfl,hs,hb⟩:=hrel;have HK:Hid (fst (fun i=>err (f i)) k=0):=hs
   have HB:Hid (Below w.heap.size w wr):=hb;have hsz:=hb.size;clear hs hb
   by_cases hlt:k<len
   ·have hr:RowAt wr a k (f k):=(TIn.row (T:=.mk v nm a len cap f) HIn.o hlt).below HB.o
    obtain ⟨b,o,ha,c0,c1,c2⟩:=hr;have HT:Hid (TIn wr (f k)):=(TIn.kid (T:=.mk v nm a len cap f) HIn.o hlt).below HB.o;have HE:=err_eq (f k);have HN:Hid (err (f k)≠0→errs (.mk v nm a len cap f)=err (f k)):=fun h=>by rw[HS.o];exact fst_stop _ hlt HK.o h
    have HZ:Hid (err (f k)=0→fst (fun i=>err (f i)) (k+1)=0):=fun h=>by rw[fst,if_pos HK.o];exact h
    have HE':Hid (err (f k)=if partE (f k).v (f k).nm (f k).len=0 then errs (f k)else partE (f k).v (f k).nm (f k).len):=HE
    clear HE;subst ha;go_wp2_with fail;refine (part_any _ _ _ _ _ _ HT.o.name).mono ?_;rintro e w1 ⟨rfl,hb1⟩
    have HB1:Hid (Below (wr.heap.size+1) (wr.alloc (.cells #[iV (f k).v,.string (f k).nm,.slice (f k).a (f k).len (f k).cap] 67)) w1):=by
     have:=hb1;rw[Hid];simpa using this
    clear hb1;have hsz1:wr.heap.size+1≤w1.heap.size:=by have:=HB1.o.size;simpa using this
    have HW1:Hid (Below wr.heap.size wr w1):=((Below.refl _ _).alloc (Nat.le_refl _) _).trans (HB1.o.mono (by omega))
    have hbox:w1.cell? ⟨wr.heap.size,2,none⟩=some (.slice (f k).a (f k).len (f k).cap):=(HB1.o.cell (p:=⟨wr.heap.size,2,none⟩) (by simp)).trans (by go_simp)
    by_cases hp:partE (f k).v (f k).nm (f k).len=0
    ·have HE2:Hid (err (f k)=errs (f k)):=by rw[Hid,HE'.o,if_pos hp]
     rw[hp];clear hp;go_wp2_with fail;refine (IH.o k _ (HT.o.below HW1.o)).mono ?_;rintro e w2 ⟨rfl,hb2⟩;have HW2:Hid (Below w.heap.size w w2):=(HB.o.trans (HW1.o.mono (by omega))).trans (hb2.mono (by omega))
     clear hb2
     by_cases hq:errs (f k)=0
     ·have HZ2:=HZ.o (HE2.o.trans hq)
      have HZ3:Hid (fst (fun i=>err (f i)) (k+1)=0):=HZ2
      rw[hq];clear hq HZ2;go_wp2_with fail;go_roundw
      case rel=>exact ⟨k+1,by omega,by go_num,HZ3.o,HW2.o⟩
      case measure=>simp[intOf];omega
     ·have hqb:(errs (f k)==0)=false:=beq_eq_false_iff_ne.2 hq
      have HR:Hid (errs (.mk v nm (some ⟨b,o,none⟩) len cap f)=errs (f k)):=(HN.o (by rw[HE2.o];exact hq)).trans HE2.o
      clear hq;go_wp2_with fail;go_ret;exact ⟨by rw[HR.o];rfl,HW2.o⟩
    ·have hpb:(partE (f k).v (f k).nm (f k).len==0)=false:=beq_eq_false_iff_ne.2 hp
     have HE2:Hid (err (f k)=partE (f k).v (f k).nm (f k).len):=by rw[Hid,HE'.o,if_neg hp]
     have HR:Hid (errs (.mk v nm (some ⟨b,o,none⟩) len cap f)=partE (f k).v (f k).nm (f k).len):=(HN.o (by rw[HE2.o];exact hp)).trans HE2.o
     clear hp;go_wp2_with fail;go_ret;exact ⟨by rw[HR.o];rfl,HB.o.trans (HW1.o.mono (by omega))⟩
   ·have hke:k=len:=by omega
    have HR:Hid (errs (.mk v nm a len cap f)=0):=by rw[Hid,HS.o,←hke,HK.o]
    clear hke;go_wp2_with fail;go_ret;exact ⟨by rw[HR.o];rfl,HB.o⟩
end Go.Proofs.YtmggaclaoefdaabGreat

namespace Go.Proofs.YtmggaclaoefdaabGreat
open Go.RowKit
def checkV (T:Tm):Int:=if cnt T≤60 then err T else 2
def one (b:Nat) (T:Tm):Tm:=.mk 0 ByteArray.empty (some ⟨b,0,none⟩) 1 1 (fun _=>T)
theorem kids_one (b:Nat) (T:Tm):kids (one b T)=cnt T:=by show 0+cnt T=_;omega
theorem errs_one (b:Nat) (T:Tm):errs (one b T)=err T:=rfl
theorem one_in {w:World} {T:Tm} {b:Nat} (hb:b=w.heap.size) (h:TIn w T):TIn (w.alloc (.cells #[iV T.v,.string T.nm,.slice T.a T.len T.cap] 67)) (one b T):=by
 subst hb;refine ⟨Nat.zero_le _,by unfold maxLen;omega,fun i hi=>?_⟩
 have hi0:i=0:=by omega
 subst hi0;exact ⟨⟨w.heap.size,0,rfl,by go_simp,by go_simp,by go_simp⟩,h.below ((Below.refl _ _).alloc (Nat.le_refl _) _)⟩
set_option maxHeartbeats 400000 in
theorem check_any (T:Tm) (w:World) (hin:TIn w T):
 Calls Tryz.prog 98 #[T.val] w fun e w'=>e=.returned (iV (checkV T))∧Below w.heap.size w w':=by
 have HIn:=hid hin;clear hin
 show Calls Tryz.prog 98 #[.agg #[iV T.v,.string T.nm,.slice T.a T.len T.cap]] w _
 have H1:Hid (TIn (w.alloc (.cells #[iV T.v,.string T.nm,.slice T.a T.len T.cap] 67)) T):=HIn.o.below ((Below.refl _ _).alloc (Nat.le_refl _) _);have H2:Hid (TIn ((w.alloc (.cells #[iV T.v,.string T.nm,.slice T.a T.len T.cap] 67)).alloc (.cells #[iV T.v,.string T.nm,.slice T.a T.len T.cap] 67)) (one (w.heap.size+1) T)):=one_in (by simp) H1.o
 by_cases hc:cnt T≤60
 ·have HR:Hid (checkV T=err T):=by rw[Hid,checkV,if_pos hc]
  have HV:Hid (roomV 60 (kids (one (w.heap.size+1) T))=60-cnt T):=by rw[Hid,kids_one,roomV,if_pos (by omega)]
  go_enter Tryz.func98,Tryz.ntmps98
  go_wp2_with fail;refine (room_any (one (w.heap.size+1) T) 60 _ H2.o (by omega) (by omega)).mono ?_
  rintro e w1 ⟨rfl,hb1⟩;rw[HV.o]
  have HB1:Hid (Below (w.heap.size+2) ((w.alloc (.cells #[iV T.v,.string T.nm,.slice T.a T.len T.cap] 67)).alloc (.cells #[iV T.v,.string T.nm,.slice T.a T.len T.cap] 67)) w1):=by
   have:=hb1;rw[Hid];simpa using this
  clear hb1;have hsz1:w.heap.size+2≤w1.heap.size:=by have:=HB1.o.size;simpa using this
  have hc0:w1.cell? ⟨w.heap.size,0,none⟩=some (iV T.v):=(HB1.o.cell (p:=⟨w.heap.size,0,none⟩) (by simp)).trans (by go_simp)
  have hc1:w1.cell? ⟨w.heap.size,1,none⟩=some (.string T.nm):=(HB1.o.cell (p:=⟨w.heap.size,1,none⟩) (by simp)).trans (by go_simp)
  have hc2:w1.cell? ⟨w.heap.size,2,none⟩=some (.slice T.a T.len T.cap):=(HB1.o.cell (p:=⟨w.heap.size,2,none⟩) (by simp)).trans (by go_simp)
  have HW1:Hid (Below w.heap.size w w1):=(((Below.refl _ _).alloc (Nat.le_refl _) _).alloc (by simp) _).trans (HB1.o.mono (by omega))
  have H3:Hid (TIn (w1.alloc (.cells #[iV T.v,.string T.nm,.slice T.a T.len T.cap] 67)) (one w1.heap.size T)):=one_in rfl (HIn.o.below HW1.o);go_wp2_with fail;refine (parts_any (one w1.heap.size T) _ H3.o).mono ?_;rintro e w2 ⟨rfl,hb2⟩;rw[errs_one];go_wp2_with fail;go_ret;exact ⟨by rw[HR.o];rfl,(HW1.o.trans (((Below.refl _ _).alloc (Nat.le_refl _) _).mono (by omega))).trans (hb2.mono (by simp;omega))⟩
 ·have HR:Hid (checkV T=2):=by rw[Hid,checkV,if_neg hc]
  have HV:Hid (roomV 60 (kids (one (w.heap.size+1) T))= -1):=by rw[Hid,kids_one,roomV,if_neg (by omega)]
  go_enter Tryz.func98,Tryz.ntmps98
  go_wp2_with fail;refine (room_any (one (w.heap.size+1) T) 60 _ H2.o (by omega) (by omega)).mono ?_
  rintro e w1 ⟨rfl,hb1⟩;rw[HV.o]
  have HB1:Hid (Below (w.heap.size+2) ((w.alloc (.cells #[iV T.v,.string T.nm,.slice T.a T.len T.cap] 67)).alloc (.cells #[iV T.v,.string T.nm,.slice T.a T.len T.cap] 67)) w1):=by
   have:=hb1;rw[Hid];simpa using this
  clear hb1;go_wp2_with fail;go_ret;exact ⟨by rw[HR.o];rfl,(((Below.refl _ _).alloc (Nat.le_refl _) _).alloc (by simp) _).trans (HB1.o.mono (by omega))⟩
end Go.Proofs.YtmggaclaoefdaabGreat
