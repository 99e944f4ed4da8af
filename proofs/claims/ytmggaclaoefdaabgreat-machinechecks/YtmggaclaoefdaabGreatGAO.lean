/- Part of the proof. Part of the proof. Part of the proof. Part of the proof. Part of the proof. Part of the proof. -/
import Derived.Test.YtmggaclaoefdaabGreatSq0
import Derived.Test.YtmggaclaoefdaabGreatHp3
import Derived.Test.YtmggaclaoefdaabGreatGAC
import Derived.Test.YtmggaclaoefdaabGreatGAI
import Derived.Test.YtmggaclaoefdaabGreatGAK
namespace Go.Proofs.YtmggaclaoefdaabGreat
open Go.RowKit
def kidsB (h:Nat→Cl) (i m:Nat):Bool:=allTo (fun j=>(h (i+1+j)).k==1) m
def cellE (h:Nat→Cl) (len i:Nat):Int:=
 if (h i).k=1 then (if btw (h i).n 0 ((len:Int)-1)=true then (if (h i).nm.toList= []then 0 else 1)else 5)
 else if (h i).k=2 then (if nameB (h i).nm=true∧btw (h i).n 0 4=true∧¬((h i).nm.toList= [33]∧0<(h i).n)then (if (len:Int)-1<(i:Int)+(h i).n then 5 else if kidsB h i (h i).n.toNat=true then 0 else 1)else 1)
 else 1
def firstE (h:Nat→Cl) (len:Nat):Nat→Int
 |0=>0
 |k+1=>if firstE h len k≠0 then firstE h len k else cellE h len k
theorem firstE_stop {h:Nat→Cl} {len i:Nat} (h0:firstE h len i=0) (h1:cellE h len i≠0): ∀k,i<k→firstE h len k=cellE h len i:=by
 intro k
 induction k with
 |zero=>intro hk;omega
 |succ k ih=>
  intro hk
  show (if firstE h len k≠0 then firstE h len k else cellE h len k)=_
  by_cases e:k=i
  ·subst e;rw[if_neg (by simpa using h0)]
  ·have:=ih (by omega)
   rw[if_pos (by rw[this];exact h1),this]
theorem firstE_zero {h:Nat→Cl} {len:Nat}: ∀k,firstE h len k=0→∀i,i<k→cellE h len i=0:=by
 intro k
 induction k with
 |zero=>intro _ i hi;omega
 |succ k ih=>
  intro h0 i hi
  have h1:firstE h len k=0:=by
   by_cases e:firstE h len k=0
   ·exact e
   ·have:firstE h len (k+1)=firstE h len k:=if_pos e
    rw[this]at h0;exact h0
  by_cases e:i=k
  ·subst e
   have:firstE h len (i+1)=cellE h len i:=if_neg (by simpa using h1)
   rw[this]at h0;exact h0
  ·exact ih h1 i (by omega)
def ChkR (h:Nat→Cl) (len:Nat) (e:Int):Prop:=
 (400000<len∧e=2)∨(len≤400000∧firstE h len len≠0∧e=firstE h len len)∨(len≤400000∧firstE h len len=0∧((Acy len (leads h)∧e=0)∨(¬Acy len (leads h)∧e=4)))
theorem ChkR.same {h:Nat→Cl} {len:Nat} {e e':Int} (H:ChkR h len e) (H':ChkR h len e'):e=e':=by
 rcases H with ⟨a,b⟩| ⟨a,b,c⟩| ⟨a,b,c⟩ <;> rcases H' with ⟨a',b'⟩| ⟨a',b',c'⟩| ⟨a',b',c'⟩ <;> first|omega|skip
 rcases c with ⟨c,d⟩| ⟨c,d⟩ <;> rcases c' with ⟨c',d'⟩| ⟨c',d'⟩
 ·omega
 ·exact absurd c c'
 ·exact absurd c' c
 ·omega
theorem btw_iff {n l m:Int}:btw n l m=true↔l≤n∧n≤m:=by unfold btw;simp
theorem cells_ok {h:Nat→Cl} {len:Nat} (hl:len≤400000) (h0:firstE h len len=0):HOk h len:=by
 have hz:=firstE_zero len h0
 have hcase: ∀i,i<len→((h i).k=1∧0≤(h i).n∧(h i).n≤(len:Int)-1)∨((h i).k=2∧0≤(h i).n∧(h i).n≤4∧(i:Int)+(h i).n≤(len:Int)-1):=fun i hi=>by
  have h1:=hz i hi;unfold cellE at h1
  by_cases hk:(h i).k=1
  ·rw[if_pos hk]at h1
   by_cases hb:btw (h i).n 0 ((len:Int)-1)=true
   ·have:=btw_iff.1 hb;exact .inl ⟨hk,this.1,this.2⟩
   ·rw[if_neg hb]at h1;omega
  ·rw[if_neg hk]at h1
   by_cases hk2:(h i).k=2
   ·rw[if_pos hk2]at h1
    split at h1
    ·rename_i hc
     have:=btw_iff.1 hc.2.1
     split at h1
     ·omega
     ·exact .inr ⟨hk2,this.1,this.2,by omega⟩
    ·omega
   ·rw[if_neg hk2]at h1;omega
 refine ⟨fun i hi=>?_,fun i hi hk=>?_,fun i hi y hy=>?_,hl⟩
 ·rcases hcase i hi with h|h <;> omega
 ·rcases hcase i hi with h|h <;> omega
 ·unfold leads at hy
  rcases hcase i hi with ⟨hk,h1,h2⟩| ⟨hk,h1,h2,h3⟩
  ·rw[if_pos hk]at hy
   split at hy
   ·cases hy
   ·rw[List.mem_singleton]at hy;omega
  ·rw[if_neg (by omega)]at hy
   obtain ⟨j,hj,rfl⟩:=List.mem_map.1 hy;have:=List.mem_range.1 hj;omega
set_option maxRecDepth 100000 in
set_option maxHeartbeats 8000000 in
theorem checkHeap_any {a:Option Addr} {len cap:Nat} {h:Nat→Cl} (w:World) (hh:HIn w a len h):
 Calls Tryz.prog 38 #[.slice a len cap] w fun e w'=>∃c:Int,e=.returned (iV c)∧ChkR h len c∧Below w.heap.size w w':=by
 have HH:Hid (∀W,Below w.heap.size w W→HIn W a len h):=fun W hW=>hh.below hW
 have hlb:len≤2 ^ 63-1:=hh.big;clear hh
 by_cases hfew:len≤400000
 case neg=>
  have hgt:decide ((len:Int)>400000)=true:=decide_eq_true (by omega)
  go_enter Tryz.func38,Tryz.ntmps38
  go_wp2_with fail;go_ret;exact ⟨2,rfl,.inl ⟨by omega,rfl⟩,Below.refl _ _⟩
 have hgt:decide ((len:Int)>400000)=false:=decide_eq_false (by omega)
 go_enter Tryz.func38,Tryz.ntmps38
 go_wp2_with fail
 go_loopw [3] (fun x wr=>∃i:Nat,i≤len∧x=iV i∧firstE h len i=0∧Below w.heap.size w wr) (fun x _=>len-(intOf x).toNat)
 case atStart=>exact ⟨0,Nat.zero_le _,rfl,rfl,Below.refl _ _⟩
 case round=>
  obtain ⟨i,hil,rfl,hF,hB⟩:=hrel;have HF:Hid (firstE h len i=0):=hF;have HB:Hid (Below w.heap.size w wr):=hB;clear hF hB
  by_cases hlt:i<len
  case neg=>
   obtain rfl:i=len:=by omega
   have HSt:Hid (Calls Tryz.prog 73 #[.slice a i cap] wr fun e w'=>∃ok:Bool,e=.returned (.bool ok)∧(ok=true↔Acy i (leads h))∧Below wr.heap.size wr w'):=straight_any wr (HH.o _ HB.o) (cells_ok hfew HF.o)
   go_wp2_with fail;refine HSt.o.mono ?_;rintro e w1 ⟨ok,rfl,hok,hb1⟩;have HB1:Hid (Below w.heap.size w w1):=below_after HB.o hb1;have HOk2:Hid (ok=true↔Acy i (leads h)):=hok;clear hb1 hok
   cases ok with
   |true=>
    go_wp2_with fail;go_ret;exact ⟨0,rfl,.inr (.inr ⟨hfew,HF.o,.inl ⟨HOk2.o.1 (by simp),rfl⟩⟩),HB1.o⟩
   |false=>
    go_wp2_with fail;go_ret;exact ⟨4,rfl,.inr (.inr ⟨hfew,HF.o,.inr ⟨fun ha=>absurd (HOk2.o.2 ha) (by simp),rfl⟩⟩),HB1.o⟩
  have hltI:(i:Int)<(len:Int):=by omega
  have hHr:=HH.o _ HB.o;obtain ⟨b,o,ha,c0,c1,c2⟩:=hHr.row i hlt;have HA:Hid (a=some ⟨b,o,none⟩):=ha;rw[ha];have hnm:=hHr.nm i hlt;have HBx:Hid (Below w.heap.size w (wr.alloc (.cells #[iV (h i).k,iV (h i).n,.string (h i).nm] 81))):=below_alloc HB.o _
  have HStop:Hid (∀c:Int,cellE h len i=c→c≠0→ChkR h len c):=fun c h1 h2=> .inr (.inl (by
   have:=firstE_stop HF.o (by rw[h1];exact h2) len hlt
   rw[this];exact ⟨hfew,by rw[h1];exact h2,h1.symm⟩))
  have HNext:Hid (cellE h len i=0→firstE h len (i+1)=0):=fun h1=>by
   show (if firstE h len i≠0 then _ else cellE h len i)=0
   rw[if_neg (by simpa using HF.o)]
   exact h1
  clear hHr ha
  by_cases hk1:(h i).k=1
  ·have hk1b:((h i).k==1)=true:=beq_iff_eq.2 hk1
   have hlw:IntKind.i64.wrap ((len:Int)-1)=(len:Int)-1:=by simp[IntKind.wrap,IntKind.bits,IntKind.signed];omega
   have HE:Hid (cellE h len i=(if btw (h i).n 0 ((len:Int)-1)=true then (if (h i).nm.toList= []then 0 else 1)else 5)):=by unfold cellE;rw[Hid,if_pos hk1]
   clear hk1;go_wp2_with fail;refine (between_any _ _ _ _).mono ?_;rintro e w1 ⟨rfl,rfl⟩
   cases hb:btw (h i).n 0 ((len:Int)-1)with
   |false=>
    have HC:Hid (ChkR h len 5):=HStop.o 5 (by rw[HE.o,hb];rfl) (by decide)
    clear hb;go_wp2_with fail;go_ret;exact ⟨5,rfl,HC.o,HBx.o⟩
   |true=>
    by_cases hn:(h i).nm.toList= []
    ·have HC:Hid (firstE h len (i+1)=0):=HNext.o (by rw[HE.o,if_pos hb,if_pos hn])
     have hnb:((h i).nm.toList== [])=true:=beq_iff_eq.2 hn;have hnb2:((h i).nm.toList != [])=false:=by rw[hn];rfl
     clear hb;go_wp2_with fail;go_roundw
     case rel=>exact ⟨i+1,by omega,by go_num,HC.o,HBx.o⟩
     case measure=>simp[intOf];omega
    ·have HC:Hid (ChkR h len 1):=HStop.o 1 (by rw[HE.o,if_pos hb,if_neg hn]) (by decide)
     have hnb:((h i).nm.toList== [])=false:=beq_eq_false_iff_ne.2 hn;have hnb2:((h i).nm.toList != [])=true:=bne_iff_ne.2 hn;clear hb;go_wp2_with fail;go_ret;exact ⟨1,rfl,HC.o,HBx.o⟩
  have hk1b:((h i).k==1)=false:=beq_eq_false_iff_ne.2 hk1
  by_cases hk2:(h i).k=2
  case neg=>
   have hk2b:((h i).k==2)=false:=beq_eq_false_iff_ne.2 hk2;have HC:Hid (ChkR h len 1):=HStop.o 1 (by unfold cellE;rw[if_neg hk1,if_neg hk2]) (by decide)
   clear hk1 hk2;go_wp2_with fail;go_ret;exact ⟨1,rfl,HC.o,HBx.o⟩
  have hk2b:((h i).k==2)=true:=beq_iff_eq.2 hk2;have HE:Hid (cellE h len i=(if nameB (h i).nm=true∧btw (h i).n 0 4=true∧¬((h i).nm.toList= [33]∧0<(h i).n)then (if (len:Int)-1<(i:Int)+(h i).n then 5 else if kidsB h i (h i).n.toNat=true then 0 else 1)else 1)):=by unfold cellE;rw[Hid,if_neg hk1,if_pos hk2]
  clear hk1 hk2;go_wp2_with fail;refine (isName_any _ _ hnm).mono ?_;rintro e w1 ⟨rfl,rfl⟩
  cases hb:nameB (h i).nm with
  |false=>
   have HC:Hid (ChkR h len 1):=HStop.o 1 (by rw[HE.o,if_neg (by rw[hb];simp)]) (by decide)
   clear hb;go_wp2_with fail;go_ret;exact ⟨1,rfl,HC.o,HBx.o⟩
  |true=>
   go_wp2_with fail;refine (between_any _ _ _ _).mono ?_;rintro e w1 ⟨rfl,rfl⟩
   cases hb4:btw (h i).n 0 4 with
   |false=>
    have HC:Hid (ChkR h len 1):=HStop.o 1 (by rw[HE.o,if_neg (by rw[hb4];simp)]) (by decide)
    clear hb hb4;go_wp2_with fail;go_ret;exact ⟨1,rfl,HC.o,HBx.o⟩
   |true=>
    have hn04:=btw_iff.1 hb4;have hn0:=hn04.1;have hn4:=hn04.2;clear hn04
    by_cases hcut:(h i).nm.toList= [33]∧0<(h i).n
    ·have HC:Hid (ChkR h len 1):=HStop.o 1 (by rw[HE.o,if_neg (fun hc=>hc.2.2 hcut)]) (by decide)
     have e1:((h i).nm.toList== [33])=true:=beq_iff_eq.2 hcut.1;have e2:decide ((h i).n>0)=true:=decide_eq_true hcut.2;have e3:(0:Int)<(h i).n:=hcut.2;clear hb hb4 hcut;go_wp2_with fail;go_ret;exact ⟨1,rfl,HC.o,HBx.o⟩
    have HE2:Hid (cellE h len i=(if (len:Int)-1<(i:Int)+(h i).n then 5 else if kidsB h i (h i).n.toNat=true then 0 else 1)):=by rw[Hid,HE.o,if_pos ⟨hb,hb4,hcut⟩]
    obtain ⟨n,hnn⟩: ∃n:Nat,(h i).n=n:=⟨(h i).n.toNat,by omega⟩
    have hcn:((h i).nm.toList== [33])=false∨((h i).nm.toList== [33])=true∧n=0:=by
     by_cases e:(h i).nm.toList= [33]
     ·exact .inr ⟨beq_iff_eq.2 e,by
       by_cases h0:0<(h i).n
       ·exact absurd ⟨e,h0⟩ hcut
       ·omega⟩
     ·exact .inl (beq_eq_false_iff_ne.2 e)
    have HE3:Hid (cellE h len i=(if (len:Int)-1<(i:Int)+(n:Int)then 5 else if kidsB h i n=true then 0 else 1)):=by
     have:=HE2.o;rw[hnn]at this;exact this
    rw[hnn]at c1 HBx;simp only[hnn];have hn4':n≤4:=by omega
    have hw1:IntKind.i64.wrap ((i:Int)+(n:Int))=(i:Int)+(n:Int):=by simp[IntKind.wrap,IntKind.bits,IntKind.signed];omega
    have hw2:IntKind.i64.wrap ((len:Int)-1)=(len:Int)-1:=by simp[IntKind.wrap,IntKind.bits,IntKind.signed];omega
    have HXb:Hid ((wr.alloc (.cells #[iV (h i).k,iV (n:Int),.string (h i).nm] 81)).heap[wr.heap.size]?=some (.cells #[iV (h i).k,iV (n:Int),.string (h i).nm] 81)):=heap_alloc_new _ _;clear hb hb4 hcut HE HE2 hn0 hn4 hnn
    by_cases hend:(len:Int)-1<(i:Int)+(n:Int)
    ·have e1:((h i).nm.toList== [33])=false:=by
      rcases hcn with e| ⟨_,e⟩
      ·exact e
      ·omega
     have HC:Hid (ChkR h len 5):=HStop.o 5 (by rw[HE3.o,if_pos hend]) (by decide)
     have hendb:decide ((i:Int)+(n:Int)>(len:Int)-1)=true:=decide_eq_true hend;clear hcn;go_wp2_with fail;go_ret;exact ⟨5,rfl,HC.o,HBx.o⟩
    have HE4:Hid (cellE h len i=if kidsB h i n=true then 0 else 1):=by rw[Hid,HE3.o,if_neg hend]
    have hendb:decide ((i:Int)+(n:Int)>(len:Int)-1)=false:=decide_eq_false (by omega)
    have HRw:Hid (∀j,j<n→CRow (wr.alloc (.cells #[iV (h i).k,iV (n:Int),.string (h i).nm] 81)) (some ⟨b,o,none⟩) (i+1+j) (h (i+1+j))):=fun j hj=>by
     have:=(HH.o _ HBx.o).row (i+1+j) (by omega)
     rw[HA.o]at this;exact this
    have x1:(wr.alloc (.cells #[iV (h i).k,iV (n:Int),.string (h i).nm] 81)).cell? ⟨wr.heap.size,1,none⟩=some (iV (n:Int)):=(block_cells HXb.o).2.1
    rcases hcn with e1| ⟨e1,e2⟩
    case inr=>
     have HC:Hid (firstE h len (i+1)=0):=HNext.o (by rw[HE4.o,e2];rfl)
     rw[e2]at HBx x1 hendb hw1 ⊢;clear e2 HE4 HE3 HRw HXb hend hn4';go_wp2_with fail;generalize hW:wr.alloc (.cells #[iV (h i).k,iV ((0:Nat):Int),.string (h i).nm] 81)=W at*;clear hW
     go_loopw [5] (fun x wx=>x=iV 1∧wx=W) (fun _ _=>0)
     case atStart=>exact ⟨rfl,rfl⟩
     case round=>
      obtain ⟨rfl,rfl⟩:=hrel;go_wp2_with fail;go_roundw
      case rel=>exact ⟨i+1,by omega,by go_num,HC.o,HBx.o⟩
      case measure=>simp[intOf];omega
    case inl=>
     go_wp2_with fail;generalize hW:wr.alloc (.cells #[iV (h i).k,iV (n:Int),.string (h i).nm] 81)=W at*;clear hW
     go_loopw [5] (fun x wx=>∃j:Nat,j≤n∧x=iV ((j:Int)+1)∧kidsB h i j=true∧wx=W) (fun x _=>n+1-(intOf x).toNat)
     case atStart=>exact ⟨0,Nat.zero_le _,rfl,rfl,rfl⟩
     case round=>
      obtain ⟨j,hjn,rfl,hkb,rfl⟩:=hrel;have HKb:Hid (kidsB h i j=true):=hkb;clear hkb
      by_cases hj:j<n
      case neg=>
       obtain rfl:j=n:=by omega
       have hle:decide ((j:Int)+1≤(j:Int))=false:=decide_eq_false (by omega)
       have HC:Hid (firstE h len (i+1)=0):=HNext.o (by rw[HE4.o,if_pos HKb.o])
       go_wp2_with fail;go_roundw
       case rel=>exact ⟨i+1,by omega,by go_num,HC.o,HBx.o⟩
       case measure=>simp[intOf];omega
      have hle:decide ((j:Int)+1≤(n:Int))=true:=decide_eq_true (by omega)
      have hle2:(j:Int)+1≤(n:Int):=by omega
      have hw3:IntKind.i64.wrap ((i:Int)+((j:Int)+1))=((i+1+j:Nat):Int):=by simp[IntKind.wrap,IntKind.bits,IntKind.signed];omega
      obtain ⟨b',o',e',d0,d1,d2⟩:=HRw.o j hj;cases e';have hix:((i+1+j:Nat):Int)<(len:Int):=by omega
      have HS1:Hid (kidsB h i (j+1)=(kidsB h i j&&((h (i+1+j)).k==1))):=rfl
      by_cases hkk:(h (i+1+j)).k=1
      ·have hkb2:((h (i+1+j)).k !=1)=false:=by rw[hkk];rfl
       have HN1:Hid (kidsB h i (j+1)=true):=by rw[Hid,HS1.o,HKb.o,hkk];rfl
       clear hkk;go_wp2_with fail;go_roundw
       case rel=>exact ⟨j+1,by omega,by go_num,HN1.o,by first|rfl|trivial⟩
       case measure=>simp[intOf];omega
      ·have hkb2:((h (i+1+j)).k !=1)=true:=bne_iff_ne.2 hkk
       have HC:Hid (ChkR h len 1):=HStop.o 1 (by
        rw[HE4.o,if_neg];intro hall;have:=allTo_le (show j+1≤n from hj) hall
        have h2:((h (i+1+j)).k==1)=true:=by
         have h3:kidsB h i (j+1)=true:=this;rw[HS1.o,Bool.and_eq_true]at h3;exact h3.2
        exact hkk (beq_iff_eq.1 h2)) (by decide)
       clear hkk;go_wp2_with fail;go_ret;exact ⟨1,rfl,HC.o,HBx.o⟩
end Go.Proofs.YtmggaclaoefdaabGreat

namespace Go.Proofs.YtmggaclaoefdaabGreat
open Go.RowKit
def noneB (len:Nat) (n:Int):Bool:=decide (n<0) ||decide (n≥(len:Int))
theorem none_any (a:Option Addr) (len cap:Nat) (n:Int) (w:World):
 Calls Tryz.prog 154 #[.slice a len cap,iV n] w fun e w'=>e=.returned (.bool (noneB len n))∧w'=w:=by
 by_cases h0:n<0
 ·have h0b:=decide_eq_true h0
  have HR:Hid (noneB len n=true):=by rw[Hid];unfold noneB;rw[h0b];rfl
  clear h0
  go_enter Tryz.func154,Tryz.ntmps154
  go_wp2_with fail;go_ret;exact ⟨by rw[HR.o];rfl,rfl⟩
 ·have h0b:=decide_eq_false h0
  have HR:Hid (noneB len n=decide (n≥(len:Int))):=by rw[Hid];unfold noneB;rw[h0b];rfl
  clear h0
  go_enter Tryz.func154,Tryz.ntmps154
  go_wp2_with fail;go_ret;exact ⟨by rw[HR.o];rfl,rfl⟩
def refV (len:Nat) (n:Int) (nm:ByteArray):Int:=if noneB len n=true then 5 else if nm.toList= []then 0 else 1
theorem ref_any (a:Option Addr) (len cap:Nat) (k n:Int) (nm:ByteArray) (w:World):
 Calls Tryz.prog 131 #[.slice a len cap,.agg #[iV k,iV n,.string nm]] w fun e w'=>e=.returned (iV (refV len n nm))∧Below w.heap.size w w':=by
 have HNo:Hid (∀W,Calls Tryz.prog 154 #[.slice a len cap,iV n] W fun e w'=>e=.returned (.bool (noneB len n))∧w'=W):=fun W=>none_any a len cap n W
 go_enter Tryz.func131,Tryz.ntmps131
 go_wp2_with fail;refine (HNo.o _).mono ?_;rintro e w1 ⟨rfl,h1⟩;rw[h1];clear h1 w1
 cases hb:noneB len n with
 |true=>
  have HR:Hid (refV len n nm=5):=by rw[Hid];unfold refV;rw[if_pos hb]
  clear hb;go_wp2_with fail;go_ret;exact ⟨by rw[HR.o];rfl,(Below.refl _ _).alloc (Nat.le_refl _) _⟩
 |false=>
  by_cases h0:nm.toList= []
  ·have HR:Hid (refV len n nm=0):=by rw[Hid];unfold refV;rw[if_neg (by rw[hb];simp),if_pos h0]
   clear hb;go_wp2_with fail;go_ret;exact ⟨by rw[HR.o];rfl,(Below.refl _ _).alloc (Nat.le_refl _) _⟩
  ·have hie:(!nm.toList.isEmpty)=true:=by cases hx:nm.toList with
    |nil=>exact absurd hx h0
    |cons=>rfl
   have HR:Hid (refV len n nm=1):=by rw[Hid];unfold refV;rw[if_neg (by rw[hb];simp),if_neg h0]
   clear hb;go_wp2_with fail;go_ret;exact ⟨by rw[HR.o];rfl,(Below.refl _ _).alloc (Nat.le_refl _) _⟩
def nmT (nm:ByteArray):Tm:=.mk 0 nm none 0 0 (fun _=> .nil)
theorem nmT_in {w:World} {nm:ByteArray} (h:nm.size≤maxLen):TIn w (nmT nm):=⟨h,Nat.zero_le _,fun i hi=>absurd hi (Nat.not_lt_zero i)⟩
theorem nmT_check (nm:ByteArray):checkV (nmT nm)=if nameB nm=true then 0 else 1:=by
 have hc:cnt (nmT nm)=1:=rfl;have he:err (nmT nm)=if partE 0 nm 0=0 then 0 else partE 0 nm 0:=rfl
 have hp:partE 0 nm 0=if nameB nm=true then 0 else 1:=by
  unfold partE;rw[if_neg (by simp)]
  cases nameB nm <;> simp
 unfold checkV;rw[hc,if_pos (by decide),he,hp]
 cases nameB nm <;> simp
def namedB (n:Int) (nm:ByteArray):Bool:=decide (0≤n)&&(decide (n≤if (nm.toList== [33])=true then 0 else 4)&&nameB nm)
theorem named_any (k n:Int) (nm:ByteArray) (w:World) (hs:nm.size≤maxLen):
 Calls Tryz.prog 155 #[.agg #[iV k,iV n,.string nm]] w fun e w'=>e=.returned (.bool (namedB n nm))∧Below w.heap.size w w':=by
 have HCk:Hid (∀W,Calls Tryz.prog 98 #[.agg #[iV 0,.string nm,.slice none 0 0]] W fun e w'=>e=.returned (iV (if nameB nm=true then 0 else 1))∧Below W.heap.size W w'):=fun W=>by
  have:=check_any (nmT nm) W (nmT_in hs);rw[nmT_check]at this;exact this
 have HBa:Hid (Below w.heap.size w (w.alloc (.cells #[iV k,iV n,.string nm] 81))):=(Below.refl _ _).alloc (Nat.le_refl _) _;clear hs
 cases hc:(nm.toList== [33])with
 |true=>
  have hmm:(if (nm.toList== [33])=true then (0:Int)else 4)=0:=by rw[hc];simp
  by_cases h0:0≤n
  case neg=>
   have h0b:=decide_eq_false (by omega)
   have HR:Hid (namedB n nm=false):=by rw[Hid];unfold namedB;rw[decide_eq_false h0];rfl
   clear h0 hmm
   go_enter Tryz.func155,Tryz.ntmps155
   go_wp2_with fail;go_ret;exact ⟨by rw[HR.o];rfl,HBa.o⟩
  have h0b:=decide_eq_true (by omega)
  by_cases h1:n≤0
  case neg=>
   have h1b:=decide_eq_false h1;have HR:Hid (namedB n nm=false):=by rw[Hid];unfold namedB;rw[hmm,h1b];simp
   clear h0 h1 hmm
   go_enter Tryz.func155,Tryz.ntmps155
   go_wp2_with fail;go_ret;exact ⟨by rw[HR.o];rfl,HBa.o⟩
  have h1b:=decide_eq_true h1;have HR:Hid (namedB n nm=nameB nm):=by rw[Hid];unfold namedB;rw[hmm,h1b,decide_eq_true h0];simp
  clear h0 h1 hmm
  go_enter Tryz.func155,Tryz.ntmps155
  go_wp2_with fail;refine (HCk.o _).mono ?_;rintro e w2 ⟨rfl,hb2⟩;have HB2:=hid (HBa.o.trans (hb2.mono HBa.o.size));clear hb2 HCk
  cases hn:nameB nm with
  |true=>
   have HN:=hid hn;clear hn;go_wp2_with fail;go_ret;exact ⟨by rw[HR.o,HN.o];rfl,HB2.o⟩
  |false=>
   have HN:=hid hn;clear hn;go_wp2_with fail;go_ret;exact ⟨by rw[HR.o,HN.o];rfl,HB2.o⟩
 |false=>
  have hmm:(if (nm.toList== [33])=true then (0:Int)else 4)=4:=by rw[hc];simp
  by_cases h0:0≤n
  case neg=>
   have h0b:=decide_eq_false (by omega)
   have HR:Hid (namedB n nm=false):=by rw[Hid];unfold namedB;rw[decide_eq_false h0];rfl
   clear h0 hmm
   go_enter Tryz.func155,Tryz.ntmps155
   go_wp2_with fail;go_ret;exact ⟨by rw[HR.o];rfl,HBa.o⟩
  have h0b:=decide_eq_true (by omega)
  by_cases h1:n≤4
  case neg=>
   have h1b:=decide_eq_false h1;have HR:Hid (namedB n nm=false):=by rw[Hid];unfold namedB;rw[hmm,h1b];simp
   clear h0 h1 hmm
   go_enter Tryz.func155,Tryz.ntmps155
   go_wp2_with fail;go_ret;exact ⟨by rw[HR.o];rfl,HBa.o⟩
  have h1b:=decide_eq_true h1;have HR:Hid (namedB n nm=nameB nm):=by rw[Hid];unfold namedB;rw[hmm,h1b,decide_eq_true h0];simp
  clear h0 h1 hmm
  go_enter Tryz.func155,Tryz.ntmps155
  go_wp2_with fail;refine (HCk.o _).mono ?_;rintro e w2 ⟨rfl,hb2⟩;have HB2:=hid (HBa.o.trans (hb2.mono HBa.o.size));clear hb2 HCk
  cases hn:nameB nm with
  |true=>
   have HN:=hid hn;clear hn;go_wp2_with fail;go_ret;exact ⟨by rw[HR.o,HN.o];rfl,HB2.o⟩
  |false=>
   have HN:=hid hn;clear hn;go_wp2_with fail;go_ret;exact ⟨by rw[HR.o,HN.o];rfl,HB2.o⟩
end Go.Proofs.YtmggaclaoefdaabGreat

namespace Go.Proofs.YtmggaclaoefdaabGreat
open Go.RowKit
theorem can_nm (T:Tm):(can T).nm=T.nm:=by rw[can_eq];rfl
theorem can_len (T:Tm):(can T).len=T.len:=by rw[can_eq];rfl
def cs (σ:Sg):Sg:=fun v=>(σ v).map can
def vsT:Tm→List Int
 | .nil=> []
 | .mk v _ _ len _ f=>if v=0 then ((List.range len).map fun i=>vsT (f i)).flatten else [v]
theorem vsT_can (T:Tm):vsT (can T)=vsT T:=by
 induction T with
 |nil=>rfl
 |mk v nm a len cap f ih=>
  show (if v=0 then ((List.range len).map fun i=>vsT (if i<len then can (f i)else .nil)).flatten else [v])=(if v=0 then ((List.range len).map fun i=>vsT (f i)).flatten else [v])
  have e:((List.range len).map fun i=>vsT (if i<len then can (f i)else .nil))=(List.range len).map fun i=>vsT (f i):=by
   apply List.map_congr_left
   intro i hi;rw[if_pos (List.mem_range.1 hi)];exact ih i
  rw[e]
def addV (s:List Int) (l:List Int):List Int:=l.foldl (fun s v=>if v∈s then s else s++ [v]) s
theorem addV_nil (s:List Int):addV s []=s:=rfl
theorem addV_append (s l m:List Int):addV s (l++m)=addV (addV s l) m:=by unfold addV;rw[List.foldl_append]
theorem addV_one (s:List Int) (v:Int):addV s [v]=if v∈s then s else s++ [v]:=rfl
def num (s:List Int) (v:Int):Int:=(s.idxOf v:Int)+1
theorem addV_pre (l:List Int): ∀s:List Int,s <+:addV s l:=by
 induction l with
 |nil=>intro s;exact List.prefix_refl s
 |cons v l ih=>
  intro s
  show s <+:addV (if v∈s then s else s++ [v]) l
  refine List.IsPrefix.trans ?_ (ih _)
  split
  ·exact List.prefix_refl s
  ·exact List.prefix_append s [v]
theorem addV_mem (l:List Int): ∀(s:List Int) (v:Int),v∈l→v∈addV s l:=by
 induction l with
 |nil=>intro s v h;simp at h
 |cons x l ih=>
  intro s v h
  rcases List.mem_cons.1 h with rfl|h
  ·show v∈addV (if v∈s then s else s++ [v]) l
   refine (addV_pre l _).subset ?_
   split
   ·assumption
   ·exact List.mem_append.2 (.inr (by simp))
  ·exact ih _ v h
theorem num_pre {s s':List Int} (h:s <+:s') {v:Int} (hv:v∈s):num s' v=num s v:=by
 obtain ⟨t,rfl⟩:=h;unfold num;rw[List.idxOf_append,if_pos hv]
end Go.Proofs.YtmggaclaoefdaabGreat

namespace Go.Proofs.YtmggaclaoefdaabGreat
open Go.RowKit
abbrev Gl:=Tm × Nat
structure Chc where
 gl:List Gl
 k:Nat
 σ:Sg
structure PS where
 gl:List Gl
 ch:List Chc
 σ:Sg
 last:Int
 ans:List (List Tm)
 fin:Nat
 st:Nat
abbrev Cls:=List (Tm × List Tm)
def isT (t:Tm) (nm:ByteArray) (n:Nat):Bool:=(t.nm.toList==nm.toList)&&decide (t.len=n)
def fitP (P:Cls) (t:Tm) (i:Nat):Option Nat:=(List.range P.length).find? fun j=>decide (i≤j)&&isT (P.getD j (.nil,[])).1 t.nm t.len
def ownV (last:Int):Int→Tm:=fun v=>vT (last+v)
def tryP (P:Cls) (gs:List Gl) (t:Tm):Nat→Nat→PS→Nat→PS × Bool
 |0,_,X,_=>(X,false)
 |f+1,i,X,L=>match fitP P t i with
  |none=>(X,false)
  |some j=>match meetF (L+1) X.σ L [(ap (ownV X.last) (P.getD j (.nil,[])).1,t)]with
   | .over=>({ X with last:=X.last+12,fin:=3},false)
   | .no L'=>tryP P gs t f (j+1) { X with last:=X.last+12} L'
   | .yes _ σ'=>({ X with last:=X.last+12,σ:=σ',gl:=((P.getD j (.nil,[])).2.map fun b=>(ap (ownV X.last) b,X.ch.length))++gs.tail,ch:=match fitP P t (j+1)with
      |none=>X.ch
      |some k=>X.ch++ [⟨gs,k,X.σ⟩]},true)
def hdT (σ:Sg) (gs:List Gl):Tm:=wha σ (gs.headD (.nil,0)).1
def backP (P:Cls):Nat→PS→PS
 |0,X=>X
 |f+1,X=>if X.fin≠0 then X else match X.ch.getLast? with
  |none=> { X with fin:=1}
  |some c=>match tryP P c.gl (hdT c.σ c.gl) (P.length+1) c.k { X with ch:=X.ch.dropLast,σ:=c.σ} 4000 with
   | (Y,true)=>Y
   | (Y,false)=>backP P f Y
def bk (P:Cls) (X:PS):PS:=backP P (X.ch.length+1) X
def nCut:ByteArray:=⟨#[33]⟩
def nTrue:ByteArray:=⟨#[116,114,117,101]⟩
def nFail:ByteArray:=⟨#[102,97,105,108]⟩
def nEq:ByteArray:=⟨#[101,113]⟩
def stepP (P:Cls) (X:PS):PS:=
 let t:=hdT X.σ X.gl
 let Y:PS:= { X with gl:=X.gl.tail}
 if t.v≠0 then { Y with fin:=4}
 else if isT t nCut 0 then { Y with ch:=X.ch.take (X.gl.headD (.nil,0)).2}
 else if isT t nTrue 0 then Y
 else if isT t nFail 0 then bk P Y
 else if isT t nEq 2 then match meetF 4001 X.σ 4000 [(t.f 0,t.f 1)]with
  | .over=> { Y with fin:=3}
  | .no _=>bk P Y
  | .yes _ σ'=> { Y with σ:=σ'}
 else match tryP P X.gl t (P.length+1) 0 Y 4000 with
  | (Z,true)=>Z
  | (Z,false)=>bk P Z
def foundP (σ:Sg) (n:Nat):List Tm:=
 let l:=(List.range n).map fun i:Nat=>ex σ 200 (vT ((i:Int)+1))
 l.map fun T=>can (ap (nmOf (num (addV [] (l.map vsT).flatten))) T)
def varsN (n:Nat):List Tm:=(List.range n).map fun i:Nat=>vT ((i:Int)+1)
def answerP (P:Cls) (n:Nat) (X:PS):PS:=match roomF X.σ 200 (varsN n)with
 |none=> { X with fin:=3}
 |some _=>if X.ans.length+1=40 then { X with ans:=X.ans++ [foundP X.σ n],fin:=1} else bk P { X with ans:=X.ans++ [foundP X.σ n]}
def runP (P:Cls) (n limit:Nat):Nat→PS→PS
 |0,X=>X
 |f+1,X=>if X.fin≠0 then X else match X.gl with
  | []=>runP P n limit f (answerP P n X)
  |_::_=>if X.st=limit then { X with fin:=2} else runP P n limit f (stepP P { X with st:=X.st+1})
end Go.Proofs.YtmggaclaoefdaabGreat

namespace Go.Proofs.YtmggaclaoefdaabGreat
open Go.RowKit
structure Bw (M:Nat→Prop) (B:Nat) (w w':World):Prop where
 os:w'.os=w.os
 tape:w'.tape=w.tape
 output:w'.output=w.output
 size:w.heap.size≤w'.heap.size
 block: ∀k,k<B→¬M k→w'.heap[k]?=w.heap[k]?
theorem Bw.ofBelow {M:Nat→Prop} {B:Nat} {w w':World} (h:Below B w w'):Bw M B w w':=⟨h.os,h.tape,h.output,h.size,fun k hk _=>h.block k hk⟩
theorem Bw.refl (M:Nat→Prop) (B:Nat) (w:World):Bw M B w w:=Bw.ofBelow (Below.refl _ _)
theorem Bw.trans {M:Nat→Prop} {B:Nat} {a b c:World} (h:Bw M B a b) (k:Bw M B b c):Bw M B a c:=
 ⟨k.os.trans h.os,k.tape.trans h.tape,k.output.trans h.output,Nat.le_trans h.size k.size,fun i hi hm=>(k.block i hi hm).trans (h.block i hi hm)⟩
theorem Bw.mono {M:Nat→Prop} {B B':Nat} {w w':World} (h:Bw M B w w') (hB:B'≤B):Bw M B' w w':=⟨h.os,h.tape,h.output,h.size,fun k hk hm=>h.block k (Nat.lt_of_lt_of_le hk hB) hm⟩
theorem Bw.drew {M:Nat→Prop} {B:Nat} {a w:World} (h:Bw M B a w):Bw M B a w.drew:=⟨h.os,h.tape,h.output,h.size,h.block⟩
theorem Bw.wide {M M':Nat→Prop} {B:Nat} {w w':World} (h:Bw M B w w') (hM: ∀k,k<B→M k→M' k):Bw M' B w w':=⟨h.os,h.tape,h.output,h.size,fun k hk hm=>h.block k hk (fun e=>hm (hM k hk e))⟩
theorem Bw.cell {M:Nat→Prop} {B:Nat} {w w':World} (h:Bw M B w w') {p:Addr} (hp:p.block<B) (hm: ¬M p.block):w'.cell? p=w.cell? p:=World.cell?_of_block (w:=w) (h.block p.block hp hm)
theorem Bw.frozen {M:Nat→Prop} {B:Nat} {w w':World} (h:Bw M B w w') {p:Addr} (hp:p.block<B) (hm: ¬M p.block):w'.frozen? p=w.frozen? p:=World.frozen?_of_block (w:=w) (h.block p.block hp hm)
theorem Bw.grown {M:Nat→Prop} {B:Nat} {a w w':World} {row:Option Nat} (h:Bw M B a w) (hg:w.grownBy w' row) (hB:B≤w.heap.size) (hr: ∀k,row=some k→B≤k∨M k):Bw M B a w':=
 ⟨hg.os.trans h.os,hg.tape.trans h.tape,hg.output.trans h.output,Nat.le_trans h.size hg.size,fun k hk hm=>(hg.block k (by omega) (fun e=>by rcases hr k e.symm with h|h;(·omega);(·exact hm h))).trans (h.block k hk hm)⟩
def NM (M:Nat→Prop):Tm→Prop
 | .nil=>True
 | .mk _ _ a len _ f=>(0<len→∃b o,a=some ⟨b,o,none⟩∧¬M b)∧∀i,i<len→NM M (f i)
theorem NM.kid {M:Nat→Prop} {T:Tm} (h:NM M T) {i:Nat} (hi:i<T.len):NM M (T.f i):=by
 cases T with
 |nil=>exact absurd hi (Nat.not_lt_zero i)
 |mk=>exact h.2 i hi
theorem NM.root {M:Nat→Prop} {T:Tm} (h:NM M T) (h0:0<T.len): ∃b o,T.a=some ⟨b,o,none⟩∧¬M b:=by
 cases T with
 |nil=>exact absurd h0 (Nat.lt_irrefl 0)
 |mk=>exact h.1 h0
theorem NM.nb {M:Nat→Prop} {T:Tm} (h:NM M T) {k:Nat} (hk:M k):NB k T:=by
 induction T with
 |nil=>trivial
 |mk v nm a len cap f ih=>exact ⟨fun h0=>let ⟨b,o,e,hb⟩:=h.1 h0;⟨b,o,e,fun e=>hb (e▸hk)⟩,fun i hi=>ih i (h.2 i hi)⟩
theorem NM.anti {M M':Nat→Prop} {w:World} {T:Tm} (h:NM M T) (hT:TIn w T) (hM: ∀k,k<w.heap.size→M' k→M k):NM M' T:=by
 induction T with
 |nil=>trivial
 |mk v nm a len cap f ih=>
  refine ⟨fun h0=>?_,fun i hi=>ih i (h.2 i hi) (hT.2.2 i hi).2⟩
  obtain ⟨b,o,e,hb⟩:=h.1 h0;refine ⟨b,o,e,fun e'=>hb (hM b ?_ e')⟩
  obtain ⟨b',o',e1,c0,_⟩:=(hT.2.2 0 h0).1;rw[e]at e1;cases e1;exact lt_of_cell c0
theorem NM.old {M:Nat→Prop} {w:World} {T:Tm} (hT:TIn w T) (hM: ∀k,M k→w.heap.size≤k):NM M T:=by
 induction T with
 |nil=>trivial
 |mk v nm a len cap f ih=>
  refine ⟨fun h0=>?_,fun i hi=>ih i (hT.2.2 i hi).2⟩
  obtain ⟨b',o',e1,c0,_⟩:=(hT.2.2 0 h0).1;exact ⟨b',o',e1,fun h=>by have h1:b'<w.heap.size:=lt_of_cell c0;have:=hM b' h;omega⟩
theorem Above.nm {M:Nat→Prop} {lo:Nat} {T:Tm} (h:Above lo T) (hM: ∀k,M k→k<lo):NM M T:=by
 induction T with
 |nil=>trivial
 |mk v nm a len cap f ih=>exact ⟨fun h0=>let ⟨b,o,e,hb⟩:=h.1 h0;⟨b,o,e,fun e'=>by have:=hM b e';omega⟩,fun i hi=>ih i (h.2 i hi)⟩
theorem TIn.bw {M:Nat→Prop} {B:Nat} {w w':World} {T:Tm} (h:TIn w T) (hb:Bw M B w w') (hB:w.heap.size≤B) (hm:NM M T):TIn w' T:=by
 induction T with
 |nil=>exact h
 |mk v nm a len cap f ih=>
  refine ⟨h.1,h.2.1,fun i hi=>⟨?_,ih i (h.2.2 i hi).2 (hm.2 i hi)⟩⟩
  obtain ⟨b,o,e,c0,c1,c2⟩:=(h.2.2 i hi).1;obtain ⟨b',o',e',hb'⟩:=hm.1 (by omega)
  rw[e]at e';cases e';have hl:b<w.heap.size:=lt_of_cell c0;have hx:w'.heap[b]?=w.heap[b]?:=hb.block b (by omega) hb'
  exact ⟨b,o,e,(World.cell?_of_block hx).trans c0,(World.cell?_of_block hx).trans c1,(World.cell?_of_block hx).trans c2⟩
theorem fin3b {M:Nat→Prop} {w W:World} {r:Nat} {x y z:Value} (hr:w.heap.size≤r) (hX:W.heap[r]?=some (.cells #[x,y,z] 67)) (hB:Bw M w.heap.size w W) (a c d:Value):
 ∃W',((W.setCell ⟨r,0,none⟩ a).setCell ⟨r,1,none⟩ c).setCell ⟨r,2,none⟩ d=W'∧W'.cell? ⟨r,0,none⟩=some a∧W'.cell? ⟨r,1,none⟩=some c∧W'.cell? ⟨r,2,none⟩=some d∧Bw M w.heap.size w W'∧W.grownBy W' (some r):=by
 have h3:W.grownBy (((W.setCell ⟨r,0,none⟩ a).setCell ⟨r,1,none⟩ c).setCell ⟨r,2,none⟩ d) (some r):=G.trans (G.trans (grown_set r 0 a) (grown_set r 1 c)) (grown_set r 2 d);have hc:=set3 (a:=a) (b:=c) (c:=d) hX;exact ⟨_,rfl,by simp[World.cell?,hc],by simp[World.cell?,hc],by simp[World.cell?,hc],hB.grown h3 hB.size (fun k hk=>by have:=Option.some.inj hk;exact .inl (by omega)),h3⟩
theorem Sim.refl (T:Tm):Sim T T:=by
 induction T with
 |nil=>exact ⟨rfl,rfl,rfl⟩
 |mk v nm a len cap f ih=>exact ⟨rfl,rfl,rfl,fun i _=>ih i⟩
structure Tell where
 S:Type
 I:S→World→Prop
 nx:S→Int→S
 le:S→S→Prop
 O:S→Int→Tm
 M:Nat→Prop
 B:Nat
def tl (t:Tell) (s:t.S) (l:List Int):t.S:=l.foldl t.nx s
end Go.Proofs.YtmggaclaoefdaabGreat

namespace Go.Proofs.YtmggaclaoefdaabGreat
open Go.RowKit
theorem fn1_any (c:Cl) (w:World):Calls Tryz.prog 157 #[.agg #[iV c.k,iV c.n,.string c.nm]] w fun e w'=>e=.returned (.bool (c.k !=1))∧Below w.heap.size w w':=by
 go_enter Tryz.func157,Tryz.ntmps157
 go_wp2_with fail;go_ret;exact ⟨rfl,(Below.refl _ _).alloc (Nat.le_refl _) _⟩
theorem Tryz.info81q:(Tryz.prog.info? 81).map (fun i=>(i.zero,i.size,i.bytes))=some (some (.agg #[iV 0,iV 0,.string ⟨#[]⟩]),3,32):=by kernel_rfl
theorem to_runH (a:Option Addr) (ln cp k:Nat) (h:k≤ln) (hc:ln≤cp) (W:World):(Instr.slice 25 (.slice a ln cp) none (some (iV k)) none).run Tryz.prog W=.ok (.slice a k cp) W:=by
 obtain ⟨i0,hi,hz0,hz1,hz2⟩:=info_parts Tryz.info81q;have h':(k:Int)≤(cp:Int):=by omega
 cases a with
 |none=>simp[Instr.slice,run_underlying Tryz.underlying25,Instr.sliceBounds,run_sliceBound,sizeOf,typeInfo,hi,h',Addr.add]
 |some ad=>simp[Instr.slice,run_underlying Tryz.underlying25,Instr.sliceBounds,run_sliceBound,sizeOf,typeInfo,hi,h',Addr.add]
set_option maxRecDepth 100000 in
theorem idxF_any {a:Option Addr} {m cap:Nat} {h:Nat→Cl} (w:World) (hh: ∀i,i<m→CRow w a i (h i)) (hm:m≤2 ^ 63-1):
 Calls Tryz.prog 170 #[.slice a m cap,.func (.func 157) #[] #[]] w fun e w'=>∃r:Int,e=.returned (iV r)∧Below w.heap.size w w'∧((r= -1∧∀j,j<m→(h j).k=1)∨(0≤r∧∃j,j<m∧(h j).k≠1)):=by
 have HH:Hid (∀W,Below w.heap.size w W→∀i,i<m→CRow W a i (h i)):=fun W hW i hi=>(hh i hi).below hW
 clear hh
 go_enter Tryz.func170,Tryz.ntmps170
 go_wp2_with fail
 go_loopw [8] (fun x wr=>∃i:Nat,i≤m∧x=iV i∧(∀j,j<i→(h j).k=1)∧Below w.heap.size w wr) (fun x _=>m-(intOf x).toNat)
 case atStart=>exact ⟨0,Nat.zero_le _,rfl,fun j hj=>absurd hj (Nat.not_lt_zero j),Below.refl _ _⟩
 case round=>
  obtain ⟨i,hi,rfl,hk,hb⟩:=hrel;have HK:=hid hk;have HB:=hid hb;clear hk hb
  by_cases hil:i<m
  case neg=>
   have hiI: ¬((i:Int)<(m:Int)):=by omega
   obtain rfl:i=m:=by omega
   go_wp2_with fail;go_ret;exact ⟨-1,rfl,HB.o,.inl ⟨rfl,HK.o⟩⟩
  have hiI:(i:Int)<(m:Int):=by omega
  obtain ⟨b,o,rfl,c0,c1,c2⟩:=HH.o wr HB.o i hil;have HF:=hid (fn1_any (h i) wr);go_wp2_with fail;refine HF.o.mono ?_;rintro e w1 ⟨rfl,hb1⟩;have HB1:=hid (HB.o.trans (hb1.mono HB.o.size));clear hb1 HF c0 c1 c2
  by_cases hk1:(h i).k=1
  ·have hkb:((h i).k !=1)=false:=by rw[hk1];rfl
   have HK1:Hid (∀j,j<i+1→(h j).k=1):=fun j hj=>by
    by_cases e:j<i
    ·exact HK.o j e
    ·obtain rfl:j=i:=by omega
     exact hk1
   rw[hkb];clear hk1 hkb;go_wp2_with fail;go_roundw
   case rel=>exact ⟨i+1,by omega,by go_num,HK1.o,HB1.o⟩
   case measure=>simp[intOf];omega
  ·have hkb:=bne_iff_ne.2 hk1
   have HN:Hid ((h i).k≠1):=hk1;rw[hkb];clear hk1 hkb;go_wp2_with fail;go_ret;exact ⟨i,rfl,HB1.o,.inr ⟨by omega,i,hil,HN.o⟩⟩
theorem contF_any {a:Option Addr} {m cap:Nat} {h:Nat→Cl} (w:World) (hh: ∀i,i<m→CRow w a i (h i)) (hm:m≤2 ^ 63-1):
 Calls Tryz.prog 156 #[.slice a m cap,.func (.func 157) #[] #[]] w fun e w'=>e=.returned (.bool (!allTo (fun j=>(h j).k==1) m))∧Below w.heap.size w w':=by
 have HI:Hid (Calls Tryz.prog 170 #[.slice a m cap,.func (.func 157) #[] #[]] w fun e w'=>∃r:Int,e=.returned (iV r)∧Below w.heap.size w w'∧((r= -1∧∀j,j<m→(h j).k=1)∨(0≤r∧∃j,j<m∧(h j).k≠1))):=idxF_any w hh hm
 clear hh hm
 go_enter Tryz.func156,Tryz.ntmps156
 go_wp2_with fail;refine HI.o.mono ?_;rintro e w1 ⟨r,rfl,hb,hr⟩;have HB:Hid (Below w.heap.size w w1):=hb
 have HR:Hid (decide (r≥0)=!allTo (fun j=>(h j).k==1) m):=by
  rw[Hid]
  rcases hr with ⟨rfl,h1⟩| ⟨h0,j,hj,h1⟩
  ·rw[allTo_iff.2 (fun j hj=>beq_iff_eq.2 (h1 j hj))];rfl
  ·have e1:allTo (fun j=>(h j).k==1) m=false:=by
    cases e:allTo (fun j=>(h j).k==1) m with
    |false=>rfl
    |true=>exact absurd (beq_iff_eq.1 (allTo_iff.1 e j hj)) h1
   rw[e1,decide_eq_true (show r≥0 from h0)];rfl
 clear hb hr HI;go_wp2_with fail;go_ret;exact ⟨by rw[←HR.o];rfl,HB.o⟩
def fnV (len:Nat) (n:Int) (nm:ByteArray) (h:Nat→Cl):Int:=if namedB n nm=true then (if n>(len:Int)then 5 else if allTo (fun j=>(h j).k==1) n.toNat=true then 0 else 1)else 1
set_option maxRecDepth 100000 in
theorem hfn_any {a:Option Addr} {len cap:Nat} {h:Nat→Cl} (k n:Int) (nm:ByteArray) (w:World) (hh:HIn w a len h) (hcap:len≤cap) (hs:nm.size≤maxLen):
 Calls Tryz.prog 132 #[.agg #[iV k,iV n,.string nm],.slice a len cap] w fun e w'=>e=.returned (iV (fnV len n nm h))∧Below w.heap.size w w':=by
 have HNa:Hid (∀W,Calls Tryz.prog 155 #[.agg #[iV k,iV n,.string nm]] W fun e w'=>e=.returned (.bool (namedB n nm))∧Below W.heap.size W w'):=fun W=>named_any k n nm W hs
 have HH:Hid (∀W,Below w.heap.size w W→HIn W a len h):=fun W hW=>hh.below hW
 have hlb:len≤2 ^ 63-1:=hh.big;have HBa:Hid (Below w.heap.size w (w.alloc (.cells #[iV k,iV n,.string nm] 81))):=(Below.refl _ _).alloc (Nat.le_refl _) _;have HX:Hid ((w.alloc (.cells #[iV k,iV n,.string nm] 81)).heap[w.heap.size]?=some (.cells #[iV k,iV n,.string nm] 81)):=heap_alloc_new _ _;clear hh hs
 go_enter Tryz.func132,Tryz.ntmps132
 go_wp2_with fail;generalize w.alloc (.cells #[iV k,iV n,.string nm] 81)=wa at*;refine (HNa.o _).mono ?_;rintro e w1 ⟨rfl,hb1⟩;have hX1:w1.heap[w.heap.size]?=some (.cells #[iV k,iV n,.string nm] 81):=(hb1.block _ (Array.getElem?_eq_some_iff.1 HX.o).1).trans HX.o;have HB1:Hid (Below w.heap.size w w1):=HBa.o.trans (hb1.mono HBa.o.size);obtain ⟨x0,x1,x2,_,_,_⟩:=block_cells hX1;clear hb1 hX1
 cases hn:namedB n nm with
 |false=>
  have HR:Hid (fnV len n nm h=1):=by rw[Hid];unfold fnV;rw[if_neg (by rw[hn];simp)]
  clear hn;go_wp2_with fail;go_ret;exact ⟨by rw[HR.o];rfl,HB1.o⟩
 |true=>
  have HN:Hid (namedB n nm=true):=hn
  have h0:0≤n:=by
   unfold namedB at hn;simp at hn;exact hn.1
  clear hn
  by_cases hg:n>(len:Int)
  case pos=>
   have hgb:decide (n>(len:Int))=true:=decide_eq_true hg;have HR:Hid (fnV len n nm h=5):=by rw[Hid];unfold fnV;rw[if_pos HN.o,if_pos hg]
   clear hg;go_wp2_with fail;go_ret;exact ⟨by rw[HR.o];rfl,HB1.o⟩
  have hgb:decide (n>(len:Int))=false:=decide_eq_false hg;obtain ⟨m,rfl⟩: ∃m:Nat,n=m:=⟨n.toNat,by omega⟩
  have hto:=to_runH a len cap m (by omega) hcap
  have HCo:Hid (∀W,Below w.heap.size w W→Calls Tryz.prog 156 #[.slice a m cap,.func (.func 157) #[] #[]] W fun e w'=>e=.returned (.bool (!allTo (fun j=>(h j).k==1) m))∧Below W.heap.size W w'):=fun W hW=>contF_any W (fun i hi=>(HH.o W hW).row i (by omega)) (by omega)
  have HR:Hid (fnV len m nm h=if allTo (fun j=>(h j).k==1) m=true then 0 else 1):=by
   rw[Hid];unfold fnV;rw[if_pos HN.o,if_neg hg];rfl
  go_wp2_with fail;refine (HCo.o _ HB1.o).mono ?_;rintro e w2 ⟨rfl,hb2⟩;have HB2:=hid (HB1.o.trans (hb2.mono HB1.o.size));clear hb2 HCo hg hgb x0 x1 x2
  cases hall:allTo (fun j=>(h j).k==1) m with
  |true=>
   have HA:=hid hall;rw[show (!true)=false from rfl]
   clear hall;go_wp2_with fail;go_ret;exact ⟨by rw[HR.o,if_pos HA.o];rfl,HB2.o⟩
  |false=>
   have HA:=hid hall;rw[show (!false)=true from rfl]
   clear hall;go_wp2_with fail;go_ret;exact ⟨by rw[HR.o,if_neg (by rw[HA.o];simp)];rfl,HB2.o⟩
end Go.Proofs.YtmggaclaoefdaabGreat
