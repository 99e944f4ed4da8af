/- Part of the proof. Part of the proof. Part of the proof. Part of the proof. -/
import Derived.Test.YtmggaclaoefdaabGreatSq0
import Derived.Test.YtmggaclaoefdaabGreatGBN
import Derived.Test.YtmggaclaoefdaabGreatGAR
import Derived.Laws.EntriesVeiled
namespace Go.Proofs.YtmggaclaoefdaabGreat
open Go.RowKit Go.Shelf
set_option linter.unusedVariables false
set_option linter.unusedSimpArgs false
attribute [local go_sem] Oper.semAt_some
structure Gi where
 at_:Int
 cut:Int
 nx:Int
structure Ci where
 goal:Int
 cl:Int
 hp:Int
 tr:Int
 gs:Int
structure Mi where
 ha:Option Addr
 hl:Nat
 hc:Nat
 h:Nat→Cl
 ga:Option Addr
 gl:Nat
 gc:Nat
 g:Nat→Gi
 first:Int
 ca:Option Addr
 cl:Nat
 cc:Nat
 c:Nat→Ci
 ta:Option Addr
 tl:Nat
 tc:Nat
 t:Nat→Int
 qa:Option Addr
 ql:Nat
 qc:Nat
 q:Nat→Int
 st:Int
 fin:Int
 aa:Option Addr
 al:Nat
 ac:Nat
def Mi.cells (m:Mi):Array Value:= #[.slice m.ha m.hl m.hc,.slice m.ga m.gl m.gc,iV m.first,.slice m.ca m.cl m.cc,.slice m.ta m.tl m.tc,.slice m.qa m.ql m.qc,iV m.st,iV m.fin,.slice m.aa m.al m.ac]
def GRow (w:World) (a:Option Addr) (i:Nat) (g:Gi):Prop:=∃b o,a=some ⟨b,o,none⟩∧w.cell? ⟨b,o+i*3,none⟩=some (iV g.at_)∧w.cell? ⟨b,o+i*3+1,none⟩=some (iV g.cut)∧w.cell? ⟨b,o+i*3+2,none⟩=some (iV g.nx)
def KRow (w:World) (a:Option Addr) (i:Nat) (c:Ci):Prop:=∃b o,a=some ⟨b,o,none⟩∧w.cell? ⟨b,o+i*5,none⟩=some (iV c.goal)∧w.cell? ⟨b,o+i*5+1,none⟩=some (iV c.cl)∧w.cell? ⟨b,o+i*5+2,none⟩=some (iV c.hp)∧w.cell? ⟨b,o+i*5+3,none⟩=some (iV c.tr)∧w.cell? ⟨b,o+i*5+4,none⟩=some (iV c.gs)
def IRow (w:World) (a:Option Addr) (i:Nat) (x:Int):Prop:=∃b o,a=some ⟨b,o,none⟩∧w.cell? ⟨b,o+i,none⟩=some (iV x)
theorem GRow.below {w w':World} {a:Option Addr} {i:Nat} {g:Gi} (h:GRow w a i g) (hB:Below w.heap.size w w'):GRow w' a i g:=by
 obtain ⟨b,o,e,c0,c1,c2⟩:=h;exact ⟨b,o,e,(hB.cell (p:=⟨b,o+i*3,none⟩) (lt_of_cell c0)).trans c0,(hB.cell (p:=⟨b,o+i*3+1,none⟩) (lt_of_cell c1)).trans c1,(hB.cell (p:=⟨b,o+i*3+2,none⟩) (lt_of_cell c2)).trans c2⟩
theorem KRow.below {w w':World} {a:Option Addr} {i:Nat} {g:Ci} (h:KRow w a i g) (hB:Below w.heap.size w w'):KRow w' a i g:=by
 obtain ⟨b,o,e,c0,c1,c2,c3,c4⟩:=h;exact ⟨b,o,e,(hB.cell (p:=⟨b,o+i*5,none⟩) (lt_of_cell c0)).trans c0,(hB.cell (p:=⟨b,o+i*5+1,none⟩) (lt_of_cell c1)).trans c1,(hB.cell (p:=⟨b,o+i*5+2,none⟩) (lt_of_cell c2)).trans c2,(hB.cell (p:=⟨b,o+i*5+3,none⟩) (lt_of_cell c3)).trans c3,(hB.cell (p:=⟨b,o+i*5+4,none⟩) (lt_of_cell c4)).trans c4⟩
theorem IRow.below {w w':World} {a:Option Addr} {i:Nat} {x:Int} (h:IRow w a i x) (hB:Below w.heap.size w w'):IRow w' a i x:=by
 obtain ⟨b,o,e,c0⟩:=h;exact ⟨b,o,e,(hB.cell (p:=⟨b,o+i,none⟩) (lt_of_cell c0)).trans c0⟩
structure MIn (w:World) (m:Mi):Prop where
 h:HIn w m.ha m.hl m.h
 hc:m.hl≤m.hc
 g: ∀i,i<m.gl→GRow w m.ga i (m.g i)
 c: ∀i,i<m.cl→KRow w m.ca i (m.c i)
 t: ∀i,i<m.tl→IRow w m.ta i (m.t i)
 q: ∀i,i<m.ql→IRow w m.qa i (m.q i)
 big:m.gl≤17592186043904∧m.cl≤17592186043904∧m.tl≤17592186043904∧m.ql≤17592186043904
theorem MIn.below {w w':World} {m:Mi} (h:MIn w m) (hB:Below w.heap.size w w'):MIn w' m:=⟨h.h.below hB,h.hc,fun i hi=>(h.g i hi).below hB,fun i hi=>(h.c i hi).below hB,fun i hi=>(h.t i hi).below hB,fun i hi=>(h.q i hi).below hB,h.big⟩
theorem Mi.get {W:World} {k:Nat} {m:Mi} {t:TypeId} (h:W.heap[k]?=some (.cells m.cells t)):(W.cell? ⟨k,0,none⟩=some (.slice m.ha m.hl m.hc)∧W.cell? ⟨k,1,none⟩=some (.slice m.ga m.gl m.gc)∧W.cell? ⟨k,2,none⟩=some (iV m.first)∧W.cell? ⟨k,3,none⟩=some (.slice m.ca m.cl m.cc)∧W.cell? ⟨k,4,none⟩=some (.slice m.ta m.tl m.tc))∧(W.cell? ⟨k,5,none⟩=some (.slice m.qa m.ql m.qc)∧W.cell? ⟨k,6,none⟩=some (iV m.st)∧W.cell? ⟨k,7,none⟩=some (iV m.fin)∧W.cell? ⟨k,8,none⟩=some (.slice m.aa m.al m.ac))∧∀i,W.frozen? ⟨k,i,none⟩=false:=by
 refine ⟨⟨?_,?_,?_,?_,?_⟩,⟨?_,?_,?_,?_⟩,fun i=>?_⟩ <;> simp[World.cell?,World.frozen?,h,Mi.cells]
theorem parts1_any {m:Mi} {mb:Nat} (x:Int) (w:World) (hb:w.heap[mb]?=some (.cells m.cells 31)):
 Calls Tryz.prog 63 #[iV x,.pointer (some ⟨mb,0,none⟩)] w fun e w'=>e=.returned (.bool (noneB m.hl x))∧Below w.heap.size w w':=by
 obtain ⟨⟨c0,_⟩,_⟩:=Mi.get hb;clear hb
 by_cases h1:x<0
 ·have HR:Hid (noneB m.hl x=true):=by rw[Hid];unfold noneB;simp[h1]
  go_enter Tryz.func63,Tryz.ntmps63
  go_wp2_with fail;go_ret;exact ⟨by rw[HR.o];rfl,Below.refl _ _⟩
 ·by_cases h2:x≥(m.hl:Int)
  ·have HR:Hid (noneB m.hl x=true):=by rw[Hid];unfold noneB;simp[h2]
   go_enter Tryz.func63,Tryz.ntmps63
   go_wp2_with fail;go_ret;exact ⟨by rw[HR.o];rfl,Below.refl _ _⟩
  ·have HR:Hid (noneB m.hl x=false):=by rw[Hid];unfold noneB;simp;omega
   go_enter Tryz.func63,Tryz.ntmps63
   go_wp2_with fail;go_ret;exact ⟨by rw[HR.o];rfl,Below.refl _ _⟩
theorem parts2_any {m:Mi} {mb nb:Nat} (g:Gi) (w:World) (hb:w.heap[mb]?=some (.cells m.cells 31)) (hn:w.heap[nb]?=some (.cells #[.func (.func 63) #[] #[.pointer (some ⟨mb,0,none⟩)]] 110)):
 Calls Tryz.prog 65 #[.agg #[iV g.at_,iV g.cut,iV g.nx],.pointer (some ⟨nb,0,none⟩)] w fun e w'=>e=.returned (.bool (noneB m.hl g.at_))∧Below w.heap.size w w':=by
 have HBa:Hid (Below w.heap.size w (w.alloc (.cells #[iV g.at_,iV g.cut,iV g.nx] 76))):=(Below.refl _ _).alloc (Nat.le_refl _) _;have hnl:nb<w.heap.size:=(Array.getElem?_eq_some_iff.1 hn).1;have hml:mb<w.heap.size:=(Array.getElem?_eq_some_iff.1 hb).1
 have n0:(w.alloc (.cells #[iV g.at_,iV g.cut,iV g.nx] 76)).cell? ⟨nb,0,none⟩=some (.func (.func 63) #[] #[.pointer (some ⟨mb,0,none⟩)]):=by
  have h1:=(HBa.o.block nb hnl).trans hn;generalize w.alloc (.cells #[iV g.at_,iV g.cut,iV g.nx] 76)=W at*;simp[World.cell?,h1]
 obtain ⟨a0,_⟩:=block_cells (heap_alloc_new w (.cells #[iV g.at_,iV g.cut,iV g.nx] 76));have HC:=hid (parts1_any g.at_ _ ((HBa.o.block mb hml).trans hb));clear hb hn
 go_enter Tryz.func65,Tryz.ntmps65
 go_wp2_with fail;generalize w.alloc (.cells #[iV g.at_,iV g.cut,iV g.nx] 76)=wa at*;refine HC.o.mono ?_;rintro e w1 ⟨rfl,hb1⟩;have HB1:=hid (HBa.o.trans (hb1.mono HBa.o.size));clear hb1 HC;go_wp2_with fail;go_ret;exact ⟨rfl,HB1.o⟩
set_option maxRecDepth 100000 in
set_option maxHeartbeats 2000000 in
theorem idxG_any {a:Option Addr} {n cap mb nb:Nat} {m:Mi} (g:Nat→Gi) (w:World) (hh: ∀W,Below w.heap.size w W→∀i,i<n→GRow W a i (g i)) (hb:w.heap[mb]?=some (.cells m.cells 31)) (hn:w.heap[nb]?=some (.cells #[.func (.func 63) #[] #[.pointer (some ⟨mb,0,none⟩)]] 110)) (hm:n≤2 ^ 63-1):
 Calls Tryz.prog 102 #[.slice a n cap,.func (.func 65) #[] #[.pointer (some ⟨nb,0,none⟩)]] w fun e w'=>∃r:Int,e=.returned (iV r)∧Below w.heap.size w w'∧((r= -1∧∀j,j<n→noneB m.hl (g j).at_=false)∨(0≤r∧∃j,j<n∧noneB m.hl (g j).at_=true)):=by
 have HH:=hid hh;have HMB:Hid (∀W,Below w.heap.size w W→W.heap[mb]?=some (.cells m.cells 31)∧W.heap[nb]?=some (.cells #[.func (.func 63) #[] #[.pointer (some ⟨mb,0,none⟩)]] 110)):=fun W hW=>⟨(hW.block _ (Array.getElem?_eq_some_iff.1 hb).1).trans hb,(hW.block _ (Array.getElem?_eq_some_iff.1 hn).1).trans hn⟩
 clear hh hb hn
 go_enter Tryz.func102,Tryz.ntmps102
 go_wp2_with fail
 go_loopw [8] (fun x wr=>∃i:Nat,i≤n∧x=iV i∧(∀j,j<i→noneB m.hl (g j).at_=false)∧Below w.heap.size w wr) (fun x _=>n-(intOf x).toNat)
 case atStart=>exact ⟨0,Nat.zero_le _,rfl,fun j hj=>absurd hj (Nat.not_lt_zero j),Below.refl _ _⟩
 case round=>
  obtain ⟨i,hi,rfl,hk,hb⟩:=hrel;have HK:=hid hk;have HB:=hid hb;clear hk hb
  by_cases hil:i<n
  case neg=>
   have hiI: ¬((i:Int)<(n:Int)):=by omega
   obtain rfl:i=n:=by omega
   go_wp2_with fail;go_ret;exact ⟨-1,rfl,HB.o,.inl ⟨rfl,HK.o⟩⟩
  have hiI:(i:Int)<(n:Int):=by omega
  obtain ⟨b,o,rfl,c0,c1,c2⟩:=HH.o wr HB.o i hil;have HF:=hid (parts2_any (g i) wr (HMB.o wr HB.o).1 (HMB.o wr HB.o).2);go_wp2_with fail;refine HF.o.mono ?_;rintro e w1 ⟨rfl,hb1⟩;have HB1:=hid (HB.o.trans (hb1.mono HB.o.size));clear hb1 HF c0 c1 c2
  cases hv:noneB m.hl (g i).at_ with
  |false=>
   have HK1:Hid (∀j,j<i+1→noneB m.hl (g j).at_=false):=fun j hj=>by
    by_cases e:j<i
    ·exact HK.o j e
    ·obtain rfl:j=i:=by omega
     exact hv
   clear hv;go_wp2_with fail;go_roundw
   case rel=>exact ⟨i+1,by omega,by go_num,HK1.o,HB1.o⟩
   case measure=>simp[intOf];omega
  |true=>
   have HN:=hid hv;clear hv;go_wp2_with fail;go_ret;exact ⟨i,rfl,HB1.o,.inr ⟨by omega,i,hil,HN.o⟩⟩
theorem contG_any {a:Option Addr} {n cap mb nb:Nat} {m:Mi} (g:Nat→Gi) (w:World) (hh: ∀W,Below w.heap.size w W→∀i,i<n→GRow W a i (g i)) (hb:w.heap[mb]?=some (.cells m.cells 31)) (hn:w.heap[nb]?=some (.cells #[.func (.func 63) #[] #[.pointer (some ⟨mb,0,none⟩)]] 110)) (hm:n≤2 ^ 63-1):
 Calls Tryz.prog 64 #[.slice a n cap,.func (.func 65) #[] #[.pointer (some ⟨nb,0,none⟩)]] w fun e w'=>e=.returned (.bool (!allTo (fun j=>!noneB m.hl (g j).at_) n))∧Below w.heap.size w w':=by
 have HI:=idxG_any (cap:=cap) g w hh hb hn hm;have HI':=hid HI;clear hh hm HI hb hn
 go_enter Tryz.func64,Tryz.ntmps64
 go_wp2_with fail;refine HI'.o.mono ?_;rintro e w1 ⟨r,rfl,hb,hr⟩;have HB:=hid hb
 have HR:Hid (decide (r≥0)=!allTo (fun j=>!noneB m.hl (g j).at_) n):=by
  rw[Hid]
  rcases hr with ⟨rfl,h1⟩| ⟨h0,j,hj,h1⟩
  ·rw[allTo_iff.2 (fun j hj=>by rw[h1 j hj];rfl)];rfl
  ·have e1:allTo (fun j=>!noneB m.hl (g j).at_) n=false:=by
    cases e:allTo (fun j=>!noneB m.hl (g j).at_) n with
    |false=>rfl
    |true=>have:=allTo_iff.1 e j hj;rw[h1]at this;cases this
   rw[e1,decide_eq_true (show r≥0 from h0)];rfl
 clear hb hr HI';go_wp2_with fail;go_ret;exact ⟨by rw[←HR.o];rfl,HB.o⟩
set_option maxRecDepth 100000 in
set_option maxHeartbeats 2000000 in
theorem idxI_any {a:Option Addr} {n cap mb:Nat} {m:Mi} (g:Nat→Int) (w:World) (hh: ∀W,Below w.heap.size w W→∀i,i<n→IRow W a i (g i)) (hb:w.heap[mb]?=some (.cells m.cells 31)) (hm:n≤2 ^ 63-1):
 Calls Tryz.prog 103 #[.slice a n cap,.func (.func 63) #[] #[.pointer (some ⟨mb,0,none⟩)]] w fun e w'=>∃r:Int,e=.returned (iV r)∧Below w.heap.size w w'∧((r= -1∧∀j,j<n→noneB m.hl (g j)=false)∨(0≤r∧∃j,j<n∧noneB m.hl (g j)=true)):=by
 have HH:=hid hh;have HMB:Hid (∀W,Below w.heap.size w W→W.heap[mb]?=some (.cells m.cells 31)):=fun W hW=>(hW.block _ (Array.getElem?_eq_some_iff.1 hb).1).trans hb
 clear hh hb
 go_enter Tryz.func103,Tryz.ntmps103
 go_wp2_with fail
 go_loopw [8] (fun x wr=>∃i:Nat,i≤n∧x=iV i∧(∀j,j<i→noneB m.hl (g j)=false)∧Below w.heap.size w wr) (fun x _=>n-(intOf x).toNat)
 case atStart=>exact ⟨0,Nat.zero_le _,rfl,fun j hj=>absurd hj (Nat.not_lt_zero j),Below.refl _ _⟩
 case round=>
  obtain ⟨i,hi,rfl,hk,hb⟩:=hrel;have HK:=hid hk;have HB:=hid hb;clear hk hb
  by_cases hil:i<n
  case neg=>
   have hiI: ¬((i:Int)<(n:Int)):=by omega
   obtain rfl:i=n:=by omega
   go_wp2_with fail;go_ret;exact ⟨-1,rfl,HB.o,.inl ⟨rfl,HK.o⟩⟩
  have hiI:(i:Int)<(n:Int):=by omega
  obtain ⟨b,o,rfl,c0⟩:=HH.o wr HB.o i hil;have HF:=hid (parts1_any (g i) wr (HMB.o wr HB.o));go_wp2_with fail;refine HF.o.mono ?_;rintro e w1 ⟨rfl,hb1⟩;have HB1:=hid (HB.o.trans (hb1.mono HB.o.size));clear hb1 HF c0
  cases hv:noneB m.hl (g i)with
  |false=>
   have HK1:Hid (∀j,j<i+1→noneB m.hl (g j)=false):=fun j hj=>by
    by_cases e:j<i
    ·exact HK.o j e
    ·obtain rfl:j=i:=by omega
     exact hv
   clear hv;go_wp2_with fail;go_roundw
   case rel=>exact ⟨i+1,by omega,by go_num,HK1.o,HB1.o⟩
   case measure=>simp[intOf];omega
  |true=>
   have HN:=hid hv;clear hv;go_wp2_with fail;go_ret;exact ⟨i,rfl,HB1.o,.inr ⟨by omega,i,hil,HN.o⟩⟩
theorem contI_any {a:Option Addr} {n cap mb:Nat} {m:Mi} (g:Nat→Int) (w:World) (hh: ∀W,Below w.heap.size w W→∀i,i<n→IRow W a i (g i)) (hb:w.heap[mb]?=some (.cells m.cells 31)) (hm:n≤2 ^ 63-1):
 Calls Tryz.prog 66 #[.slice a n cap,.func (.func 63) #[] #[.pointer (some ⟨mb,0,none⟩)]] w fun e w'=>e=.returned (.bool (!allTo (fun j=>!noneB m.hl (g j)) n))∧Below w.heap.size w w':=by
 have HI:=idxI_any (cap:=cap) g w hh hb hm;have HI':=hid HI;clear hh hm HI hb
 go_enter Tryz.func66,Tryz.ntmps66
 go_wp2_with fail;refine HI'.o.mono ?_;rintro e w1 ⟨r,rfl,hb,hr⟩;have HB:=hid hb
 have HR:Hid (decide (r≥0)=!allTo (fun j=>!noneB m.hl (g j)) n):=by
  rw[Hid]
  rcases hr with ⟨rfl,h1⟩| ⟨h0,j,hj,h1⟩
  ·rw[allTo_iff.2 (fun j hj=>by rw[h1 j hj];rfl)];rfl
  ·have e1:allTo (fun j=>!noneB m.hl (g j)) n=false:=by
    cases e:allTo (fun j=>!noneB m.hl (g j)) n with
    |false=>rfl
    |true=>have:=allTo_iff.1 e j hj;rw[h1]at this;cases this
   rw[e1,decide_eq_true (show r≥0 from h0)];rfl
 clear hb hr HI';go_wp2_with fail;go_ret;exact ⟨by rw[←HR.o];rfl,HB.o⟩
end Go.Proofs.YtmggaclaoefdaabGreat

namespace Go.Proofs.YtmggaclaoefdaabGreat
open Go.RowKit Go.Shelf
set_option linter.unusedVariables false
set_option linter.unusedSimpArgs false
attribute [local go_sem] Oper.semAt_some
def thereB (m:Mi):Bool:=allTo (fun j=>!noneB m.hl (m.g j).at_) m.gl&&(allTo (fun j=>!noneB m.hl (m.t j)) m.tl&&allTo (fun j=>!noneB m.hl (m.q j)) m.ql)
def PtsR (m:Mi) (c:Int):Prop:=(c≠0∧ChkR m.h m.hl c)∨(ChkR m.h m.hl 0∧(((m.gl>5000∨m.ql>12)∧c=2)∨(¬(m.gl>5000∨m.ql>12)∧((thereB m=false∧c=5)∨(thereB m=true∧c=0)))))
theorem PtsR.same {m:Mi} {c c':Int} (H:PtsR m c) (H':PtsR m c'):c=c':=by
 rcases H with ⟨h1,h2⟩| ⟨h1,h2⟩
 ·rcases H' with ⟨k1,k2⟩| ⟨k1,k2⟩
  ·exact h2.same k2
  ·exact absurd (h2.same k1) h1
 ·rcases H' with ⟨k1,k2⟩| ⟨k1,k2⟩
  ·exact absurd (k2.same h1) k1
  ·rcases h2 with ⟨a,b⟩| ⟨a,b⟩ <;> rcases k2 with ⟨a',b'⟩| ⟨a',b'⟩
   ·omega
   ·exact absurd a a'
   ·exact absurd a' a
   ·rcases b with ⟨b1,b2⟩| ⟨b1,b2⟩ <;> rcases b' with ⟨d1,d2⟩| ⟨d1,d2⟩
    ·omega
    ·rw[b1]at d1;cases d1
    ·rw[b1]at d1;cases d1
    ·omega
set_option maxRecDepth 100000 in
set_option maxHeartbeats 4000000 in
theorem mparts_any {m:Mi} (w:World) (hm:MIn w m):
 Calls Tryz.prog 33 #[.agg m.cells] w fun e w'=>∃c:Int,e=.returned (iV c)∧PtsR m c∧Below w.heap.size w w':=by
 have HX:Hid ((w.alloc (.cells m.cells 31)).heap[w.heap.size]?=some (.cells m.cells 31)):=heap_alloc_new _ _;have HBa:Hid (Below w.heap.size w (w.alloc (.cells m.cells 31))):=(Below.refl _ _).alloc (Nat.le_refl _) _;have HM:Hid (∀W,Below w.heap.size w W→MIn W m):=fun W hW=>hm.below hW
 obtain ⟨hbg,hbc,hbt,hbq⟩:=hm.big;have hsz:(w.alloc (.cells m.cells 31)).heap.size=w.heap.size+1:=by simp
 clear hm
 go_enter Tryz.func33,Tryz.ntmps33
 rw[show Value.agg m.cells=.agg #[.slice m.ha m.hl m.hc,.slice m.ga m.gl m.gc,iV m.first,.slice m.ca m.cl m.cc,.slice m.ta m.tl m.tc,.slice m.qa m.ql m.qc,iV m.st,iV m.fin,.slice m.aa m.al m.ac]from rfl]
 have HCh:=hid (hcheck_any _ (HM.o _ HBa.o).h (HM.o _ HBa.o).hc);obtain ⟨⟨x0,_⟩,_⟩:=Mi.get HX.o;have hW:w.alloc (.cells #[.slice m.ha m.hl m.hc,.slice m.ga m.gl m.gc,iV m.first,.slice m.ca m.cl m.cc,.slice m.ta m.tl m.tc,.slice m.qa m.ql m.qc,iV m.st,iV m.fin,.slice m.aa m.al m.ac] 31)=w.alloc (.cells m.cells 31):=rfl;generalize w.alloc (.cells m.cells 31)=wa at*;go_wp2_with fail;clear x0 hW;refine HCh.o.mono ?_;rintro e w1 ⟨c,rfl,hc,hb1⟩;have HB1:=hid (HBa.o.trans (hb1.mono HBa.o.size));have HX1:=hid ((hb1.block _ (by omega)).trans HX.o)
 have hs1:w.heap.size<w1.heap.size:=(Array.getElem?_eq_some_iff.1 HX1.o).1;have HC:=hid hc;clear hc hb1 HCh
 by_cases hc0:c=0
 case neg=>
  have hcb:=bne_iff_ne.2 hc0;have HN:=hid hc0;clear hc0;go_wp2_with fail;go_ret;exact ⟨c,rfl,.inl ⟨HN.o,HC.o⟩,HB1.o⟩
 subst hc0;obtain ⟨⟨_,x1,_,_,_⟩,⟨x5,_⟩,_⟩:=Mi.get HX1.o
 by_cases h1:(m.gl:Int)>5000
 case pos=>
  have HP:Hid (m.gl>5000∨m.ql>12):=.inl (by omega)
  go_wp2_with fail;go_ret;exact ⟨2,rfl,.inr ⟨HC.o,.inl ⟨HP.o,rfl⟩⟩,HB1.o⟩
 by_cases h2:(m.ql:Int)>12
 case pos=>
  have HP:Hid (m.gl>5000∨m.ql>12):=.inr (by omega)
  go_wp2_with fail;go_ret;exact ⟨2,rfl,.inr ⟨HC.o,.inl ⟨HP.o,rfl⟩⟩,HB1.o⟩
 have HN:Hid (¬(m.gl>5000∨m.ql>12)):=by rw[Hid];omega
 have hmf: ∀(fn:Fn) (first cap:Array Value) (w:World),(Instr.makeFunc fn first cap).run Tryz.prog w=.ok (.func fn first cap) w:=fun _ _ _ _=>rfl
 have HB2:Hid (Below w.heap.size w (w1.alloc (.cells #[.func (.func 63) #[] #[.pointer (some ⟨w.heap.size,0,none⟩)]] 110))):=HB1.o.trans (((Below.refl _ _).alloc (Nat.le_refl _) _).mono HB1.o.size);have HN2:Hid ((w1.alloc (.cells #[.func (.func 63) #[] #[.pointer (some ⟨w.heap.size,0,none⟩)]] 110)).heap[w1.heap.size]?=some (.cells #[.func (.func 63) #[] #[.pointer (some ⟨w.heap.size,0,none⟩)]] 110)):=heap_alloc_new _ _;have HX2:Hid ((w1.alloc (.cells #[.func (.func 63) #[] #[.pointer (some ⟨w.heap.size,0,none⟩)]] 110)).heap[w.heap.size]?=some (.cells m.cells 31)):=(heapOld _ _ hs1).trans HX1.o;obtain ⟨⟨_,y1,_,_,_⟩,_⟩:=Mi.get HX2.o;have hs2:w1.heap.size<(w1.alloc (.cells #[.func (.func 63) #[] #[.pointer (some ⟨w.heap.size,0,none⟩)]] 110)).heap.size:=(Array.getElem?_eq_some_iff.1 HN2.o).1;have HG:Hid (Calls Tryz.prog 64 #[.slice m.ga m.gl m.gc,.func (.func 65) #[] #[.pointer (some ⟨w1.heap.size,0,none⟩)]] (w1.alloc (.cells #[.func (.func 63) #[] #[.pointer (some ⟨w.heap.size,0,none⟩)]] 110)) fun e w'=>e=.returned (.bool (!allTo (fun j=>!noneB m.hl (m.g j).at_) m.gl))∧Below (w1.alloc (.cells #[.func (.func 63) #[] #[.pointer (some ⟨w.heap.size,0,none⟩)]] 110)).heap.size (w1.alloc (.cells #[.func (.func 63) #[] #[.pointer (some ⟨w.heap.size,0,none⟩)]] 110)) w'):=contG_any m.g _ (fun W hW i hi=>(HM.o W (HB2.o.trans (hW.mono HB2.o.size))).g i hi) HX2.o HN2.o (by omega)
 go_wp2_with fail;generalize w1.alloc (.cells #[.func (.func 63) #[] #[.pointer (some ⟨w.heap.size,0,none⟩)]] 110)=w2 at*;refine HG.o.mono ?_;rintro e w3 ⟨rfl,hb3⟩;have HB3:=hid (HB2.o.trans (hb3.mono HB2.o.size));have HX3:=hid ((hb3.block _ (by omega)).trans HX2.o)
 have HN3:=hid ((hb3.block _ (by omega)).trans HN2.o)
 have hs3:=hb3.size;clear hb3 HG y1 x1 x5
 cases hg:allTo (fun j=>!noneB m.hl (m.g j).at_) m.gl with
 |false=>
  have HT:Hid (thereB m=false):=by rw[Hid];unfold thereB;rw[hg];rfl
  rw[show (!false)=true from rfl]
  clear hg;go_wp2_with fail;go_ret;exact ⟨5,rfl,.inr ⟨HC.o,.inr ⟨HN.o,.inl ⟨HT.o,rfl⟩⟩⟩,HB3.o⟩
 |true=>
  have Hg:=hid hg;rw[show (!true)=false from rfl]
  clear hg;obtain ⟨⟨_,_,_,_,z4⟩,⟨z5,_⟩,_⟩:=Mi.get HX3.o;have zn:w3.cell? ⟨w1.heap.size,0,none⟩=some (.func (.func 63) #[] #[.pointer (some ⟨w.heap.size,0,none⟩)]):=by simp[World.cell?,HN3.o]
  have HT3:Hid (∀W,Below w3.heap.size w3 W→Calls Tryz.prog 66 #[.slice m.ta m.tl m.tc,.func (.func 63) #[] #[.pointer (some ⟨w.heap.size,0,none⟩)]] W fun e w'=>e=.returned (.bool (!allTo (fun j=>!noneB m.hl (m.t j)) m.tl))∧Below W.heap.size W w'):=fun W hW=>contI_any m.t _ (fun W' hW' i hi=>(HM.o W' (HB3.o.trans ((hW.trans (hW'.mono hW.size)).mono HB3.o.size))).t i hi) ((hW.block _ (by omega)).trans HX3.o) (by omega)
  have HQ3:Hid (∀W,Below w3.heap.size w3 W→Calls Tryz.prog 66 #[.slice m.qa m.ql m.qc,.func (.func 63) #[] #[.pointer (some ⟨w.heap.size,0,none⟩)]] W fun e w'=>e=.returned (.bool (!allTo (fun j=>!noneB m.hl (m.q j)) m.ql))∧Below W.heap.size W w'):=fun W hW=>contI_any m.q _ (fun W' hW' i hi=>(HM.o W' (HB3.o.trans ((hW.trans (hW'.mono hW.size)).mono HB3.o.size))).q i hi) ((hW.block _ (by omega)).trans HX3.o) (by omega)
  cases ht:allTo (fun j=>!noneB m.hl (m.t j)) m.tl with
  |false=>
   have HT:Hid (thereB m=false):=by rw[Hid];unfold thereB;rw[Hg.o,ht];rfl
   rw[ht]at HT3;clear ht;go_wp2_with fail;refine (HT3.o _ (Below.refl _ _)).mono ?_;rintro e w4 ⟨rfl,hb4⟩;have HB4:=hid (HB3.o.trans (hb4.mono HB3.o.size));clear hb4;go_wp2_with fail;go_ret;exact ⟨5,rfl,.inr ⟨HC.o,.inr ⟨HN.o,.inl ⟨HT.o,rfl⟩⟩⟩,HB4.o⟩
  |true=>
   have Ht:=hid ht;rw[ht]at HT3;clear ht;go_wp2_with fail;refine (HT3.o _ (Below.refl _ _)).mono ?_;rintro e w4 ⟨rfl,hb4⟩;have HB4:=hid (HB3.o.trans (hb4.mono HB3.o.size));have HB34:=hid hb4;have u5:=(hb4.cell (p:=⟨w.heap.size,5,none⟩) (lt_of_cell z5)).trans z5;have un:=(hb4.cell (p:=⟨w1.heap.size,0,none⟩) (lt_of_cell zn)).trans zn;clear hb4 z4 z5 zn
   cases hq:allTo (fun j=>!noneB m.hl (m.q j)) m.ql with
   |false=>
    have HT:Hid (thereB m=false):=by rw[Hid];unfold thereB;rw[Hg.o,Ht.o,hq];rfl
    rw[hq]at HQ3;clear hq;go_wp2_with fail;refine (HQ3.o _ HB34.o).mono ?_;rintro e w5 ⟨rfl,hb5⟩;have HB5:=hid (HB4.o.trans (hb5.mono HB4.o.size));clear hb5;go_wp2_with fail;go_ret;exact ⟨5,rfl,.inr ⟨HC.o,.inr ⟨HN.o,.inl ⟨HT.o,rfl⟩⟩⟩,HB5.o⟩
   |true=>
    have HT:Hid (thereB m=true):=by rw[Hid];unfold thereB;rw[Hg.o,Ht.o,hq];rfl
    rw[hq]at HQ3;clear hq;go_wp2_with fail;refine (HQ3.o _ HB34.o).mono ?_;rintro e w5 ⟨rfl,hb5⟩;have HB5:=hid (HB4.o.trans (hb5.mono HB4.o.size));clear hb5;go_wp2_with fail;go_ret;exact ⟨0,rfl,.inr ⟨HC.o,.inr ⟨HN.o,.inr ⟨HT.o,rfl⟩⟩⟩,HB5.o⟩
end Go.Proofs.YtmggaclaoefdaabGreat

namespace Go.Proofs.YtmggaclaoefdaabGreat
open Go.RowKit Go.Shelf
set_option linter.unusedVariables false
set_option linter.unusedSimpArgs false
attribute [local go_sem] Oper.semAt_some
def OrdG (m:Mi) (n:Nat):Prop:=∀i,i<n→0≤(m.g i).nx∧(m.g i).nx≤i∧0≤(m.g i).cut
def OrdP (m:Mi):Prop:=OrdG m m.gl∧0≤m.first∧m.first≤m.gl
theorem within_at {n a b:Int} {r:Bool} (h:r=(decide (a≤n)&&decide (n≤b))) (W:World):Calls Tryz.prog 37 #[iV n,iV a,iV b] W fun e w'=>e=.returned (.bool r)∧w'=W:=by
 subst h;exact mwithin_any n a b W
set_option maxRecDepth 100000 in
set_option maxHeartbeats 4000000 in
theorem ordered_any {m:Mi} (w:World) (hm:MIn w m):
 Calls Tryz.prog 34 #[.agg m.cells] w fun e w'=>∃b:Bool,e=.returned (.bool b)∧(b=true↔OrdP m)∧Below w.heap.size w w':=by
 have HX:Hid ((w.alloc (.cells m.cells 31)).heap[w.heap.size]?=some (.cells m.cells 31)):=heap_alloc_new _ _;have HBa:Hid (Below w.heap.size w (w.alloc (.cells m.cells 31))):=(Below.refl _ _).alloc (Nat.le_refl _) _;have HM:Hid (∀W,Below w.heap.size w W→MIn W m):=fun W hW=>hm.below hW
 obtain ⟨hbg,hbc,hbt,hbq⟩:=hm.big;have hsz:(w.alloc (.cells m.cells 31)).heap.size=w.heap.size+1:=by simp
 clear hm
 go_enter Tryz.func34,Tryz.ntmps34
 rw[show Value.agg m.cells=.agg #[.slice m.ha m.hl m.hc,.slice m.ga m.gl m.gc,iV m.first,.slice m.ca m.cl m.cc,.slice m.ta m.tl m.tc,.slice m.qa m.ql m.qc,iV m.st,iV m.fin,.slice m.aa m.al m.ac]from rfl]
 obtain ⟨⟨_,x1,_⟩,_⟩:=Mi.get HX.o;have hW:w.alloc (.cells #[.slice m.ha m.hl m.hc,.slice m.ga m.gl m.gc,iV m.first,.slice m.ca m.cl m.cc,.slice m.ta m.tl m.tc,.slice m.qa m.ql m.qc,iV m.st,iV m.fin,.slice m.aa m.al m.ac] 31)=w.alloc (.cells m.cells 31):=rfl;generalize w.alloc (.cells m.cells 31)=wa at*;go_wp2_with fail;clear x1 hW
 go_loopw [8] (fun x wr=>∃i:Nat,i≤m.gl∧x=iV i∧OrdG m i∧Below wa.heap.size wa wr) (fun x _=>m.gl-(intOf x).toNat)
 case atStart=>exact ⟨0,Nat.zero_le _,rfl,fun j hj=>absurd hj (Nat.not_lt_zero j),Below.refl _ _⟩
 case round=>
  obtain ⟨i,hi,rfl,hk,hb⟩:=hrel;have HK:=hid hk;have HB:=hid hb;have HB0:=hid (HBa.o.trans (hb.mono HBa.o.size));have HXr:=hid ((hb.block _ (by omega)).trans HX.o)
  clear hk hb
  by_cases hil:i<m.gl
  case neg=>
   have hiI: ¬((i:Int)<(m.gl:Int)):=by omega
   obtain rfl:i=m.gl:=by omega
   obtain ⟨⟨_,y1,y2,_⟩,_⟩:=Mi.get HXr.o;have HWi:Hid (∀W,Calls Tryz.prog 37 #[iV m.first,iV 0,iV (m.gl:Int)] W fun e w'=>e=.returned (.bool (decide (0≤m.first)&&decide (m.first≤(m.gl:Int))))∧w'=W):=fun W=>within_at rfl W
   go_wp2_with fail;refine (HWi.o _).mono ?_;rintro e w1 ⟨rfl,rfl⟩;go_wp2_with fail;go_ret;refine ⟨_,rfl,?_,HB0.o⟩;have:=HK.o;unfold OrdP;simp[this]
  have hiI:(i:Int)<(m.gl:Int):=by omega
  obtain ⟨b,o,hga,c0,c1,c2⟩:=(HM.o wr HB0.o).g i hil;rw[hga];have HBg:Hid (Below wa.heap.size wa (wr.alloc (.cells #[iV (m.g i).at_,iV (m.g i).cut,iV (m.g i).nx] 76))):=HB.o.trans (((Below.refl _ _).alloc (Nat.le_refl _) _).mono HB.o.size);obtain ⟨a0,a1,a2,_⟩:=block_cells (heap_alloc_new wr (.cells #[iV (m.g i).at_,iV (m.g i).cut,iV (m.g i).nx] 76))
  by_cases hn:0≤(m.g i).nx∧(m.g i).nx≤i
  case neg=>
   have HWi:Hid (∀W,Calls Tryz.prog 37 #[iV (m.g i).nx,iV 0,iV (i:Int)] W fun e w'=>e=.returned (.bool false)∧w'=W):=fun W=>within_at (by simp;omega) W
   have HN:Hid (¬OrdP m):=fun h=>hn ⟨(h.1 i hil).1,(h.1 i hil).2.1⟩
   clear hn;go_wp2_with fail;refine (HWi.o _).mono ?_;rintro e w1 ⟨rfl,rfl⟩;go_wp2_with fail;go_ret;exact ⟨false,rfl,⟨fun h=>absurd h (by decide),fun h=>absurd h HN.o⟩,HBa.o.trans (HBg.o.mono HBa.o.size)⟩
  have HWi:Hid (∀W,Calls Tryz.prog 37 #[iV (m.g i).nx,iV 0,iV (i:Int)] W fun e w'=>e=.returned (.bool true)∧w'=W):=fun W=>within_at (by simp;omega) W
  by_cases hcu:(m.g i).cut<0
  case pos=>
   have HN:Hid (¬OrdP m):=fun h=>by have:=(h.1 i hil).2.2;omega
   clear hn;go_wp2_with fail;refine (HWi.o _).mono ?_;rintro e w1 ⟨rfl,rfl⟩;go_wp2_with fail;go_ret;exact ⟨false,rfl,⟨fun h=>absurd h (by decide),fun h=>absurd h HN.o⟩,HBa.o.trans (HBg.o.mono HBa.o.size)⟩
  have HK1:Hid (OrdG m (i+1)):=fun j hj=>by
   by_cases e:j<i
   ·exact HK.o j e
   ·obtain rfl:j=i:=by omega
    exact ⟨hn.1,hn.2,by omega⟩
  clear hn;go_wp2_with fail;refine (HWi.o _).mono ?_;rintro e w1 ⟨rfl,rfl⟩;go_wp2_with fail;go_roundw
  case rel=>exact ⟨i+1,by omega,by go_num,HK1.o,HBg.o⟩
  case measure=>simp[intOf];omega
end Go.Proofs.YtmggaclaoefdaabGreat

namespace Go.Proofs.YtmggaclaoefdaabGreat
open Go.RowKit Go.Shelf
set_option linter.unusedVariables false
set_option linter.unusedSimpArgs false
attribute [local go_sem] Oper.semAt_some
def Ci.cells (c:Ci):Array Value:= #[iV c.goal,iV c.cl,iV c.hp,iV c.tr,iV c.gs]
def ciZ:Ci:=⟨0,0,0,0,0⟩
def prevC (m:Mi):Nat→Ci|0=>ciZ|k+1=>m.c k
theorem Ci.get {W:World} {k:Nat} {c:Ci} {t:TypeId} (h:W.heap[k]?=some (.cells c.cells t)):(W.cell? ⟨k,0,none⟩=some (iV c.goal)∧W.cell? ⟨k,1,none⟩=some (iV c.cl)∧W.cell? ⟨k,2,none⟩=some (iV c.hp)∧W.cell? ⟨k,3,none⟩=some (iV c.tr)∧W.cell? ⟨k,4,none⟩=some (iV c.gs))∧∀i,W.frozen? ⟨k,i,none⟩=false:=by
 refine ⟨⟨?_,?_,?_,?_,?_⟩,fun i=>?_⟩ <;> simp[World.cell?,World.frozen?,h,Ci.cells]
def set5 (W:World) (k:Nat) (c:Ci):World:=((((W.setCell ⟨k,0,none⟩ (iV c.goal)).setCell ⟨k,1,none⟩ (iV c.cl)).setCell ⟨k,2,none⟩ (iV c.hp)).setCell ⟨k,3,none⟩ (iV c.tr)).setCell ⟨k,4,none⟩ (iV c.gs)
theorem set5_blk {W:World} {k:Nat} {r0 r:Ci} {t:TypeId} (h:W.heap[k]?=some (.cells r0.cells t)):(set5 W k r).heap[k]?=some (.cells r.cells t)∧W.grownBy (set5 W k r) (some k):=by
 refine ⟨?_,?_⟩
 ·unfold set5
  simp only[World.setCell,Array.getElem?_modify];simp[h,Ci.cells]
 ·exact G.trans (G.trans (G.trans (G.trans (grown_set k 0 _) (grown_set k 1 _)) (grown_set k 2 _)) (grown_set k 3 _)) (grown_set k 4 _)
def BR (p:Prop) (w:World) (e:Ending) (w':World):Prop:=∃b:Bool,e=.returned (.bool b)∧(b=true↔p)∧Below w.heap.size w w'
structure GrwC (m:Mi) (n:Int) (k:Nat):Prop where
 h:(prevC m k).hp≤(m.c k).hp∧(m.c k).hp≤m.hl
 t:(prevC m k).tr≤(m.c k).tr∧(m.c k).tr≤m.tl
 g:(prevC m k).gs≤(m.c k).gs∧(m.c k).gs≤m.gl
 a:1≤(m.c k).goal∧(m.c k).goal≤(m.c k).gs
 c:0≤(m.c k).cl∧(m.c k).cl≤n
def GrwP (m:Mi) (n:Int):Prop:=∀k,k<m.cl→GrwC m n k
set_option maxRecDepth 100000 in
set_option maxHeartbeats 4000000 in
theorem grown_any {m:Mi} (n:Int) (w:World) (hm:MIn w m):
 Calls Tryz.prog 35 #[.agg m.cells,iV n] w (BR (GrwP m n) w):=by
 have HX:Hid ((w.alloc (.cells m.cells 31)).heap[w.heap.size]?=some (.cells m.cells 31)):=heap_alloc_new _ _;have HBa:Hid (Below w.heap.size w (w.alloc (.cells m.cells 31))):=(Below.refl _ _).alloc (Nat.le_refl _) _;have HM:Hid (∀W,Below w.heap.size w W→MIn W m):=fun W hW=>hm.below hW
 obtain ⟨hbg,hbc,hbt,hbq⟩:=hm.big;have hsz:w.heap.size<(w.alloc (.cells m.cells 31)).heap.size:=(Array.getElem?_eq_some_iff.1 HX.o).1;clear hm
 go_enter Tryz.func35,Tryz.ntmps35
 rw[show Value.agg m.cells=.agg #[.slice m.ha m.hl m.hc,.slice m.ga m.gl m.gc,iV m.first,.slice m.ca m.cl m.cc,.slice m.ta m.tl m.tc,.slice m.qa m.ql m.qc,iV m.st,iV m.fin,.slice m.aa m.al m.ac]from rfl]
 have hW:w.alloc (.cells #[.slice m.ha m.hl m.hc,.slice m.ga m.gl m.gc,iV m.first,.slice m.ca m.cl m.cc,.slice m.ta m.tl m.tc,.slice m.qa m.ql m.qc,iV m.st,iV m.fin,.slice m.aa m.al m.ac] 31)=w.alloc (.cells m.cells 31):=rfl;generalize w.alloc (.cells m.cells 31)=wa at*;have HL:Hid ((wa.alloc (.cells ciZ.cells 78)).heap[wa.heap.size]?=some (.cells ciZ.cells 78)):=heap_alloc_new _ _;have HBb:Hid (Below wa.heap.size wa (wa.alloc (.cells ciZ.cells 78))):=(Below.refl _ _).alloc (Nat.le_refl _) _;have hW2:wa.alloc (.cells #[iV 0,iV 0,iV 0,iV 0,iV 0] 78)=wa.alloc (.cells ciZ.cells 78):=rfl;generalize wa.alloc (.cells ciZ.cells 78)=wb at*;have HXb:=hid ((HBb.o.block _ (by omega)).trans HX.o)
 have HBw:=hid (HBa.o.trans (HBb.o.mono HBa.o.size));have hsb:wa.heap.size<wb.heap.size:=(Array.getElem?_eq_some_iff.1 HL.o).1;obtain ⟨⟨_,_,_,x3,_⟩,_⟩:=Mi.get HXb.o;go_wp2_with fail;clear x3 hW hW2
 go_loopw [11] (fun x wr=>∃i:Nat,i≤m.cl∧x=iV i∧(∀k,k<i→GrwC m n k)∧Below w.heap.size w wr∧wb.heap.size≤wr.heap.size∧wr.heap[w.heap.size]?=some (.cells m.cells 31)∧wr.heap[wa.heap.size]?=some (.cells (prevC m i).cells 78)) (fun x _=>m.cl-(intOf x).toNat)
 case atStart=>exact ⟨0,Nat.zero_le _,rfl,fun j hj=>absurd hj (Nat.not_lt_zero j),HBw.o,Nat.le_refl _,HXb.o,HL.o⟩
 case round=>
  obtain ⟨i,hi,rfl,hk,hb,hsr,hx,hl⟩:=hrel;have HK:=hid hk;have HB:=hid hb;have HXr:=hid hx;have HLr:=hid hl;clear hk hb hx hl
  by_cases hil:i<m.cl
  case neg=>
   have hiI: ¬((i:Int)<(m.cl:Int)):=by omega
   obtain rfl:i=m.cl:=by omega
   go_wp2_with fail;go_ret;exact ⟨true,rfl,⟨fun _=>HK.o,fun _=>rfl⟩,HB.o⟩
  have hiI:(i:Int)<(m.cl:Int):=by omega
  obtain ⟨b,o,hga,c0,c1,c2,c3,c4⟩:=(HM.o wr HB.o).c i hil;rw[hga];have HG:Hid ((wr.alloc (.cells (m.c i).cells 78)).heap[wr.heap.size]?=some (.cells (m.c i).cells 78)):=heap_alloc_new _ _;have HBg:Hid (Below wr.heap.size wr (wr.alloc (.cells (m.c i).cells 78))):=(Below.refl _ _).alloc (Nat.le_refl _) _;have hWg:wr.alloc (.cells #[iV (m.c i).goal,iV (m.c i).cl,iV (m.c i).hp,iV (m.c i).tr,iV (m.c i).gs] 78)=wr.alloc (.cells (m.c i).cells 78):=rfl;generalize wr.alloc (.cells (m.c i).cells 78)=wg at*;have HXg:=hid ((HBg.o.block _ (by omega)).trans HXr.o)
  have HLg:=hid ((HBg.o.block _ (by omega)).trans HLr.o)
  have HBh:=hid (HB.o.trans (HBg.o.mono HB.o.size));have hsg:=HBg.o.size;obtain ⟨⟨x0,x1,_,_,x4⟩,_⟩:=Mi.get HXg.o;obtain ⟨⟨g0,g1,g2,g3,g4⟩,_⟩:=Ci.get HG.o;obtain ⟨⟨l0,l1,l2,l3,l4⟩,lf⟩:=Ci.get HLg.o;have lf0:=lf 0;have lf1:=lf 1;have lf2:=lf 2;have lf3:=lf 3;have lf4:=lf 4;clear lf
  by_cases h0:(prevC m i).hp≤(m.c i).hp∧(m.c i).hp≤(m.hl:Int)
  case neg=>
   have HW0:Hid (∀W,Calls Tryz.prog 37 #[iV (m.c i).hp,iV (prevC m i).hp,iV (m.hl:Int)] W fun e w'=>e=.returned (.bool false)∧w'=W):=fun W=>within_at (by simp;omega) W
   have HN:Hid (¬GrwP m n):=fun h=>h0 (h i hil).h
   clear h0;go_wp2_with fail;refine (HW0.o _).mono ?_;rintro e w1 ⟨rfl,hw⟩;have hw':=hw.symm;clear hw;subst hw';go_wp2_with fail;go_ret;exact ⟨false,rfl,⟨fun h=>absurd h (by decide),fun h=>absurd h HN.o⟩,HBh.o⟩
  have HW0:Hid (∀W,Calls Tryz.prog 37 #[iV (m.c i).hp,iV (prevC m i).hp,iV (m.hl:Int)] W fun e w'=>e=.returned (.bool true)∧w'=W):=fun W=>within_at (by simp;omega) W
  have HH0:=hid h0;clear h0
  by_cases h1:(prevC m i).tr≤(m.c i).tr∧(m.c i).tr≤(m.tl:Int)
  case neg=>
   have HW1:Hid (∀W,Calls Tryz.prog 37 #[iV (m.c i).tr,iV (prevC m i).tr,iV (m.tl:Int)] W fun e w'=>e=.returned (.bool false)∧w'=W):=fun W=>within_at (by simp;omega) W
   have HN:Hid (¬GrwP m n):=fun h=>h1 (h i hil).t
   clear h1;go_wp2_with fail;refine (HW0.o _).mono ?_;rintro e w1 ⟨rfl,hw⟩;have hw':=hw.symm;clear hw;subst hw';go_wp2_with fail;refine (HW1.o _).mono ?_;rintro e w1 ⟨rfl,hw⟩;have hw':=hw.symm;clear hw;subst hw';go_wp2_with fail;go_ret;exact ⟨false,rfl,⟨fun h=>absurd h (by decide),fun h=>absurd h HN.o⟩,HBh.o⟩
  have HW1:Hid (∀W,Calls Tryz.prog 37 #[iV (m.c i).tr,iV (prevC m i).tr,iV (m.tl:Int)] W fun e w'=>e=.returned (.bool true)∧w'=W):=fun W=>within_at (by simp;omega) W
  have HH1:=hid h1;clear h1
  by_cases h2:(prevC m i).gs≤(m.c i).gs∧(m.c i).gs≤(m.gl:Int)
  case neg=>
   have HW2:Hid (∀W,Calls Tryz.prog 37 #[iV (m.c i).gs,iV (prevC m i).gs,iV (m.gl:Int)] W fun e w'=>e=.returned (.bool false)∧w'=W):=fun W=>within_at (by simp;omega) W
   have HN:Hid (¬GrwP m n):=fun h=>h2 (h i hil).g
   clear h2;go_wp2_with fail;refine (HW0.o _).mono ?_;rintro e w1 ⟨rfl,hw⟩;have hw':=hw.symm;clear hw;subst hw';go_wp2_with fail;refine (HW1.o _).mono ?_;rintro e w1 ⟨rfl,hw⟩;have hw':=hw.symm;clear hw;subst hw';go_wp2_with fail;refine (HW2.o _).mono ?_;rintro e w1 ⟨rfl,hw⟩;have hw':=hw.symm;clear hw;subst hw';go_wp2_with fail;go_ret;exact ⟨false,rfl,⟨fun h=>absurd h (by decide),fun h=>absurd h HN.o⟩,HBh.o⟩
  have HW2:Hid (∀W,Calls Tryz.prog 37 #[iV (m.c i).gs,iV (prevC m i).gs,iV (m.gl:Int)] W fun e w'=>e=.returned (.bool true)∧w'=W):=fun W=>within_at (by simp;omega) W
  have HH2:=hid h2;clear h2
  by_cases h3:1≤(m.c i).goal∧(m.c i).goal≤(m.c i).gs
  case neg=>
   have HW3:Hid (∀W,Calls Tryz.prog 37 #[iV (m.c i).goal,iV 1,iV (m.c i).gs] W fun e w'=>e=.returned (.bool false)∧w'=W):=fun W=>within_at (by simp;omega) W
   have HN:Hid (¬GrwP m n):=fun h=>h3 (h i hil).a
   clear h3;go_wp2_with fail;refine (HW0.o _).mono ?_;rintro e w1 ⟨rfl,hw⟩;have hw':=hw.symm;clear hw;subst hw';go_wp2_with fail;refine (HW1.o _).mono ?_;rintro e w1 ⟨rfl,hw⟩;have hw':=hw.symm;clear hw;subst hw';go_wp2_with fail;refine (HW2.o _).mono ?_;rintro e w1 ⟨rfl,hw⟩;have hw':=hw.symm;clear hw;subst hw';go_wp2_with fail;refine (HW3.o _).mono ?_;rintro e w1 ⟨rfl,hw⟩;have hw':=hw.symm;clear hw;subst hw';go_wp2_with fail;go_ret;exact ⟨false,rfl,⟨fun h=>absurd h (by decide),fun h=>absurd h HN.o⟩,HBh.o⟩
  have HW3:Hid (∀W,Calls Tryz.prog 37 #[iV (m.c i).goal,iV 1,iV (m.c i).gs] W fun e w'=>e=.returned (.bool true)∧w'=W):=fun W=>within_at (by simp;omega) W
  have HH3:=hid h3;clear h3
  by_cases h4:0≤(m.c i).cl∧(m.c i).cl≤n
  case neg=>
   have HW4:Hid (∀W,Calls Tryz.prog 37 #[iV (m.c i).cl,iV 0,iV n] W fun e w'=>e=.returned (.bool false)∧w'=W):=fun W=>within_at (by simp;omega) W
   have HN:Hid (¬GrwP m n):=fun h=>h4 (h i hil).c
   clear h4;go_wp2_with fail;refine (HW0.o _).mono ?_;rintro e w1 ⟨rfl,hw⟩;have hw':=hw.symm;clear hw;subst hw';go_wp2_with fail;refine (HW1.o _).mono ?_;rintro e w1 ⟨rfl,hw⟩;have hw':=hw.symm;clear hw;subst hw';go_wp2_with fail;refine (HW2.o _).mono ?_;rintro e w1 ⟨rfl,hw⟩;have hw':=hw.symm;clear hw;subst hw';go_wp2_with fail;refine (HW3.o _).mono ?_;rintro e w1 ⟨rfl,hw⟩;have hw':=hw.symm;clear hw;subst hw';go_wp2_with fail;refine (HW4.o _).mono ?_;rintro e w1 ⟨rfl,hw⟩;have hw':=hw.symm;clear hw;subst hw';go_wp2_with fail;go_ret;exact ⟨false,rfl,⟨fun h=>absurd h (by decide),fun h=>absurd h HN.o⟩,HBh.o⟩
  have HW4:Hid (∀W,Calls Tryz.prog 37 #[iV (m.c i).cl,iV 0,iV n] W fun e w'=>e=.returned (.bool true)∧w'=W):=fun W=>within_at (by simp;omega) W
  have HH4:=hid h4;clear h4
  have HK1:Hid (∀k,k<i+1→GrwC m n k):=fun j hj=>by
   by_cases e:j<i
   ·exact HK.o j e
   ·obtain rfl:j=i:=by omega
    exact ⟨HH0.o,HH1.o,HH2.o,HH3.o,HH4.o⟩
  go_wp2_with fail;refine (HW0.o _).mono ?_;rintro e w1 ⟨rfl,hw⟩;have hw':=hw.symm;clear hw;subst hw';go_wp2_with fail;refine (HW1.o _).mono ?_;rintro e w1 ⟨rfl,hw⟩;have hw':=hw.symm;clear hw;subst hw';go_wp2_with fail;refine (HW2.o _).mono ?_;rintro e w1 ⟨rfl,hw⟩;have hw':=hw.symm;clear hw;subst hw';go_wp2_with fail;refine (HW3.o _).mono ?_;rintro e w1 ⟨rfl,hw⟩;have hw':=hw.symm;clear hw;subst hw';go_wp2_with fail;refine (HW4.o _).mono ?_;rintro e w1 ⟨rfl,hw⟩;have hw':=hw.symm;clear hw;subst hw';obtain ⟨hW1,hW2⟩:=set5_blk (r:=m.c i) HLg.o;have hf0:(set5 wg wa.heap.size (m.c i)).heap[w.heap.size]?=some (.cells m.cells 31):=(hW2.block _ (by omega) (fun e=>by have:=Option.some.inj e;omega)).trans HXg.o
  have hB':Below w.heap.size w (set5 wg wa.heap.size (m.c i)):=HBh.o.grown hW2 HBh.o.size (fun k e=>by have:=Option.some.inj e;omega)
  have hs':wg.heap.size≤(set5 wg wa.heap.size (m.c i)).heap.size:=by simp[set5]
  go_wp2_with fail;go_roundw
  case rel=>exact ⟨i+1,by omega,by go_num,HK1.o,hB',Nat.le_trans (show wb.heap.size≤wg.heap.size by omega) hs',hf0,hW1⟩
  case measure=>simp[intOf];omega
end Go.Proofs.YtmggaclaoefdaabGreat
