/- Part of the proof. Part of the proof. Part of the proof. Part of the proof. -/
import Derived.Test.YtmggaclaoefdaabGreatSq0
import Derived.Deep.RegionHeld3
import Derived.Test.YtmggaclaoefdaabGreatGAZ
import Derived.Test.YtmggaclaoefdaabGreatGAX
import Derived.Test.YtmggaclaoefdaabGreatGAS
import Derived.Test.YtmggaclaoefdaabGreatGAR
import Derived.Test.YtmggaclaoefdaabGreatGAC
import Derived.Test.YtmggaclaoefdaabGreatGAI
namespace Go.Proofs.YtmggaclaoefdaabGreat
open Go.RowKit
set_option linter.unusedVariables false
set_option linter.unusedSimpArgs false
attribute [local go_sem] Oper.semAt_some
theorem eqC (x y:Cl) (w:World):(binOp .eql 81 (.agg #[iV x.k,iV x.n,.string x.nm]) (.agg #[iV y.k,iV y.n,.string y.nm])).run Tryz.prog w=.ok (.bool (sameC x y)) w:=by
 rw[run_eql_struct];unfold sameC
 by_cases h1:x.k=y.k <;> by_cases h2:x.n=y.n <;> by_cases h3:x.nm.toList=y.nm.toList
 all_goals simp[go_sem,Tryz.underlying81,Tryz.underlying3,Tryz.underlying9,h1,h2,h3]
theorem eqG (x y:Cl) (w:World) (p q:Operand):(eqGuard .eql 81 p q (.agg #[iV x.k,iV x.n,.string x.nm]) (.agg #[iV y.k,iV y.n,.string y.nm])).run Tryz.prog w=.ok () w:=run_eqGuard_agg _ _ _ _ _ _ _ (by kernel_rfl)
theorem mfn_any (nm:ByteArray) (n:Int) (w:World):Calls Tryz.prog 110 #[.string nm,iV n] w fun e w'=>e=.returned (.agg #[iV 2,iV n,.string nm])∧Below w.heap.size w w':=by
 go_enter Tryz.func110,Tryz.ntmps110
 go_wp2_with fail;exact bodyPost_ret (v:=.agg #[iV 2,iV n,.string nm]) (by simp[results,Tryz.results110,go_sem]) rfl ⟨rfl,(Below.refl _ _).alloc (Nat.le_refl _) _⟩
set_option maxRecDepth 100000 in
set_option maxHeartbeats 2000000 in
theorem fit1_any {H B:Tm} {c:Cl} {bx:Nat} (w:World) (hc:w.heap[bx]?=some (.cells #[iV c.k,iV c.n,.string c.nm] 81)):
 Calls Tryz.prog 162 #[.agg #[iV H.v,.string H.nm,.slice H.a H.len H.cap,.slice B.a B.len B.cap],.pointer (some ⟨bx,0,none⟩)] w fun e w'=>e=.returned (.bool (sameC ⟨2,H.len,H.nm⟩ c))∧Below w.heap.size w w':=by
 have HBa:Hid (Below w.heap.size w (w.alloc (.cells #[iV H.v,.string H.nm,.slice H.a H.len H.cap,.slice B.a B.len B.cap] 107))):=(Below.refl _ _).alloc (Nat.le_refl _) _;have HXa:Hid ((w.alloc (.cells #[iV H.v,.string H.nm,.slice H.a H.len H.cap,.slice B.a B.len B.cap] 107)).heap[w.heap.size]?=some (.cells #[iV H.v,.string H.nm,.slice H.a H.len H.cap,.slice B.a B.len B.cap] 107)):=heap_alloc_new _ _;have hsa:(w.alloc (.cells #[iV H.v,.string H.nm,.slice H.a H.len H.cap,.slice B.a B.len B.cap] 107)).heap.size=w.heap.size+1:=by simp
 have hbl:bx<w.heap.size:=(Array.getElem?_eq_some_iff.1 hc).1;have hE:=eqC ⟨2,H.len,H.nm⟩ c;have hEG:=eqG ⟨2,H.len,H.nm⟩ c;simp only at hE hEG;generalize hwa:w.alloc (.cells #[iV H.v,.string H.nm,.slice H.a H.len H.cap,.slice B.a B.len B.cap] 107)=wa at*
 have HKp:Hid (∀W,Below wa.heap.size wa W→(W.cell? ⟨w.heap.size,1,none⟩=some (.string H.nm)∧W.cell? ⟨w.heap.size,2,none⟩=some (.slice H.a H.len H.cap))∧W.cell? ⟨bx,0,none⟩=some (iV c.k)∧W.cell? ⟨bx,1,none⟩=some (iV c.n)∧W.cell? ⟨bx,2,none⟩=some (.string c.nm)):=fun W hW=>by
  have h1:=(hW.block w.heap.size (by omega)).trans HXa.o
  have h2:=(hW.block bx (by omega)).trans ((HBa.o.block bx hbl).trans hc)
  exact ⟨⟨by simp[World.cell?,h1],by simp[World.cell?,h1]⟩,(block_cells h2).1,(block_cells h2).2.1,(block_cells h2).2.2.1⟩
 obtain ⟨⟨x1,x2⟩,y0,y1,y2⟩:=HKp.o wa (Below.refl _ _);have HB0:Hid (Below wa.heap.size wa wa):=Below.refl _ _;clear hc
 go_enter Tryz.func162,Tryz.ntmps162
 go_wp2_with fail
 go_region_held3 (fun W=>(W.cell? ⟨w.heap.size,1,none⟩=some (.string H.nm)∧W.cell? ⟨w.heap.size,2,none⟩=some (.slice H.a H.len H.cap))∧W.cell? ⟨bx,0,none⟩=some (iV c.k)∧W.cell? ⟨bx,1,none⟩=some (iV c.n)∧W.cell? ⟨bx,2,none⟩=some (.string c.nm)) ((refine HKp.o _ ?_;repeat (first|exact HB0.o|refine Below.drew ?_))) (first
  | (go_at_call 110
     refine (mfn_any _ _ _).mono ?_;rintro e wk ⟨rfl,hb⟩;replace HB0:Hid (Below wa.heap.size wa wk):=Below.trans (by repeat (first|exact HB0.o|refine Below.drew ?_)) (hb.mono HB0.o.size)
     clear hb))
 all_goals
  go_wp2_with fail;go_ret;exact ⟨rfl,below_after2 HBa.o (by repeat (first|exact HB0.o|refine Below.drew ?_))⟩
set_option maxRecDepth 100000 in
set_option maxHeartbeats 2000000 in
theorem idxP_any {a:Option Addr} {m cap bx:Nat} {c:Cl} {hd bd:Nat→Tm} (w:World) (hR: ∀i,i<m→ClAt w a i (hd i) (bd i)) (hc:w.heap[bx]?=some (.cells #[iV c.k,iV c.n,.string c.nm] 81)) (hm:m≤1000000):
 Calls Tryz.prog 161 #[.slice a m cap,.func (.func 162) #[] #[.pointer (some ⟨bx,0,none⟩)]] w fun e w'=>Below w.heap.size w w'∧((e=.returned (iV (-1))∧∀j,j<m→sameC ⟨2,(hd j).len,(hd j).nm⟩ c=false)∨∃j,j<m∧e=.returned (iV (j:Int))∧sameC ⟨2,(hd j).len,(hd j).nm⟩ c=true∧∀k,k<j→sameC ⟨2,(hd k).len,(hd k).nm⟩ c=false):=by
 have HR:Hid (∀W,Below w.heap.size w W→∀i,i<m→ClAt W a i (hd i) (bd i)):=fun W hW i hi=>(hR i hi).below hW
 have hbl:bx<w.heap.size:=(Array.getElem?_eq_some_iff.1 hc).1;have HC:Hid (∀W,Below w.heap.size w W→W.heap[bx]?=some (.cells #[iV c.k,iV c.n,.string c.nm] 81)):=fun W hW=>(hW.block bx hbl).trans hc
 clear hR hc
 go_enter Tryz.func161,Tryz.ntmps161
 go_wp2_with fail
 go_loopw [8] (fun x wr=>∃i:Nat,i≤m∧x=iV i∧(∀j,j<i→sameC ⟨2,(hd j).len,(hd j).nm⟩ c=false)∧Below w.heap.size w wr) (fun x _=>m-(intOf x).toNat)
 case atStart=>exact ⟨0,Nat.zero_le _,rfl,fun j hj=>absurd hj (Nat.not_lt_zero j),Below.refl _ _⟩
 case round=>
  obtain ⟨i,hi,rfl,hk,hb⟩:=hrel;have HK:=hid hk;have HB:=hid hb;clear hk hb
  by_cases hlt:i<m
  case neg=>
   have hI: ¬((i:Int)<(m:Int)):=by omega
   go_wp2_with fail;go_ret;exact ⟨HB.o,.inl ⟨rfl,fun j hj=>HK.o j (by omega)⟩⟩
  have hI:(i:Int)<(m:Int):=by omega
  obtain ⟨b,o,ha,c0,c1,c2,c3⟩:=HR.o wr HB.o i hlt;subst ha;have HF:Hid (Calls Tryz.prog 162 #[.agg #[iV (hd i).v,.string (hd i).nm,.slice (hd i).a (hd i).len (hd i).cap,.slice (bd i).a (bd i).len (bd i).cap],.pointer (some ⟨bx,0,none⟩)] wr fun e w'=>e=.returned (.bool (sameC ⟨2,(hd i).len,(hd i).nm⟩ c))∧Below wr.heap.size wr w'):=fit1_any wr (HC.o wr HB.o)
  go_wp2_with fail;refine HF.o.mono ?_;rintro e w1 ⟨rfl,hb1⟩;have HB1:=hid (below_after2 HB.o hb1);clear hb1 c0 c1 c2 c3
  cases hs:sameC ⟨2,(hd i).len,(hd i).nm⟩ c with
  |true=>
   have HS:=hid hs;clear hs;go_wp2_with fail;go_ret;exact ⟨HB1.o,.inr ⟨i,hlt,rfl,HS.o,HK.o⟩⟩
  |false=>
   have HS:=hid hs;clear hs;go_wp2_with fail;go_roundw
   case rel=>exact ⟨i+1,by omega,by go_num,fun j hj=>by by_cases e:j=i;(·rw[e];exact HS.o);(·exact HK.o j (by omega)),HB1.o⟩
   case measure=>simp[intOf];omega
end Go.Proofs.YtmggaclaoefdaabGreat

namespace Go.Proofs.YtmggaclaoefdaabGreat
open Go.RowKit
set_option linter.unusedVariables false
set_option linter.unusedSimpArgs false
attribute [local go_sem] Oper.semAt_some
theorem sameC_isT (H T:Tm):sameC ⟨2,H.len,H.nm⟩ ⟨2,T.len,T.nm⟩=isT H T.nm T.len:=by
 unfold sameC isT
 by_cases h1:H.len=T.len <;> by_cases h2:H.nm.toList=T.nm.toList <;> simp[h1,h2] <;> omega
set_option maxRecDepth 100000 in
set_option maxHeartbeats 2000000 in
theorem mfit_any {s:Nat} {r:Rn} (T:Tm) (i:Nat) (w:World) (hr:RBk w s r) (hP:PIn w r.P) (hc:r.P.len≤r.P.cap) (hm:r.P.len≤1000) (hi:i≤r.P.len):
 Calls Tryz.prog 138 #[.pointer (some ⟨s,0,none⟩),.agg #[iV 2,iV (T.len:Int),.string T.nm],iV i] w fun e w'=>e=.returned (iV (fitI (fitP (cls r.P) T i)))∧Below w.heap.size w w':=by
 have hs:=hr.lt;have HBx:Hid (Below w.heap.size w (w.alloc (.cells #[iV 2,iV (T.len:Int),.string T.nm] 81))):=(Below.refl _ _).alloc (Nat.le_refl _) _;have HX0:Hid ((w.alloc (.cells #[iV 2,iV (T.len:Int),.string T.nm] 81)).heap[w.heap.size]?=some (.cells #[iV 2,iV (T.len:Int),.string T.nm] 81)):=heap_alloc_new w _;obtain ⟨_,⟨_,_,_,c9,_⟩,_⟩:=(hr.kept (HBx.o.block s hs)).get;obtain ⟨a',hsl,hao⟩:=pfrom r.P.a r.P.len r.P.cap i hi hc
 have HRow:Hid (∀W,Below w.heap.size w W→∀j,j<r.P.len-i→ClAt W a' j (r.P.hd (i+j)) (r.P.bd (i+j))):=fun W hW j hj=>by
  obtain ⟨b,o,ha,c0,c1,c2,c3⟩:=((hP.below hW).2 (i+j) (by omega)).1
  refine ⟨b,o+i*4,hao b o ha (by omega),?_⟩
  rw[show o+(i+j)*4=o+i*4+j*4 from by rw[Nat.add_mul];omega]at c0 c1 c2 c3
  exact ⟨c0,c1,c2,c3⟩
 have HNo:Hid ((∀j,j<r.P.len-i→sameC ⟨2,((r.P.hd (i+j)).len:Int),(r.P.hd (i+j)).nm⟩ ⟨2,(T.len:Int),T.nm⟩=false)→fitP (cls r.P) T i=none):=fun h=>fit_none fun k h1 h2=>by
  have:=h (k-i) (by omega)
  rw[sameC_isT,show i+(k-i)=k from by omega]at this
  exact this
 have HYes:Hid (∀j,j<r.P.len-i→sameC ⟨2,((r.P.hd (i+j)).len:Int),(r.P.hd (i+j)).nm⟩ ⟨2,(T.len:Int),T.nm⟩=true→(∀k,k<j→sameC ⟨2,((r.P.hd (i+k)).len:Int),(r.P.hd (i+k)).nm⟩ ⟨2,(T.len:Int),T.nm⟩=false)→fitP (cls r.P) T i=some (i+j)):=fun j hj h1 h2=>fit_some (by omega) (by omega) (by rw[←sameC_isT];exact h1) fun k h3 h4=>by
  have:=h2 (k-i) (by omega)
  rw[sameC_isT,show i+(k-i)=k from by omega]at this
  exact this
 generalize hcell:w.alloc (.cells #[iV 2,iV (T.len:Int),.string T.nm] 81)=wa at*
 have HIx:Hid (∀cp,Calls Tryz.prog 161 #[.slice a' (r.P.len-i) cp,.func (.func 162) #[] #[.pointer (some ⟨w.heap.size,0,none⟩)]] wa fun e w'=>Below wa.heap.size wa w'∧((e=.returned (iV (-1))∧fitP (cls r.P) T i=none)∨∃j,j<r.P.len-i∧e=.returned (iV (j:Int))∧fitP (cls r.P) T i=some (i+j))):=fun cp=>
  (idxP_any (c:=⟨2,(T.len:Int),T.nm⟩) (hd:=fun j=>r.P.hd (i+j)) (bd:=fun j=>r.P.bd (i+j)) wa (HRow.o wa HBx.o) HX0.o (by omega)).mono (by
    rintro e w' ⟨hb,⟨he,hn⟩| ⟨j,hj,he,hy,hn⟩⟩
    ·exact ⟨hb,.inl ⟨he,HNo.o hn⟩⟩
    ·exact ⟨hb,.inr ⟨j,hj,he,HYes.o j hj hy hn⟩⟩)
 clear hr hP hao HRow HNo HYes HX0;generalize hfp:fitP (cls r.P) T i=fp at*;clear hfp
 go_enter Tryz.func138,Tryz.ntmps138
 go_wp2_with fail;refine (HIx.o _).mono ?_;rintro e w1 ⟨hb1,⟨rfl,hn⟩| ⟨j,hj,rfl,hn⟩⟩
 ·have HB1:=hid (below_after2 HBx.o hb1)
  subst hn;clear hb1 c9;go_wp2_with fail;go_ret;exact ⟨rfl,HB1.o⟩
 ·have HB1:=hid (below_after2 HBx.o hb1)
  subst hn;have hwr:IntKind.i64.wrap ((i:Int)+(j:Int))=(i:Int)+(j:Int):=by simp[IntKind.wrap,IntKind.bits,IntKind.signed];omega
  clear hb1 c9;go_wp2_with fail;go_ret;exact ⟨by show _=Ending.returned (iV ((i+j:Nat):Int));rw[Int.natCast_add];rfl,HB1.o⟩
end Go.Proofs.YtmggaclaoefdaabGreat

namespace Go.Proofs.YtmggaclaoefdaabGreat
open Go.RowKit Go.Shelf
set_option linter.unusedVariables false
set_option linter.unusedSimpArgs false
attribute [local go_sem] Oper.semAt_some
def Kd (B b:Nat) (W W':World):Prop:=W.heap.size≤W'.heap.size∧W'.heap[B]?=W.heap[B]?∧W'.heap[b]?=W.heap[b]?
theorem Kd.t {B b:Nat} {A C D:World} (h:Kd B b A C) (k:Kd B b C D):Kd B b A D:=⟨Nat.le_trans h.1 k.1,k.2.1.trans h.2.1,k.2.2.trans h.2.2⟩
theorem Kd.b {B b:Nat} {w:World} (hB:B<w.heap.size) (hb:b<w.heap.size) (W:World) (l:Nat) (o o':Obj) (hl:w.heap.size≤l) (_:W.heap[l]?=some o) (_:o.isCells=false) (_:o.isWalk=false):Kd B b W (W.putObj l o'):=
 ⟨by simp[World.putObj],World.putObj_heap_other (by omega),World.putObj_heap_other (by omega)⟩
def bwL (n:Nat):List Nat:=(List.range n).reverse
theorem bwL_len (n:Nat):(bwL n).length=n:=by simp[bwL]
theorem bwL_get {n k:Nat} (h:k<(bwL n).length):(bwL n)[k]=n-1-k:=by simp[bwL]
def encT (f:Nat→Tm) (i:Nat):Array Value:= #[iV (i:Int),.agg #[iV (f i).v,.string (f i).nm,.slice (f i).a (f i).len (f i).cap]]
set_option maxRecDepth 100000 in
set_option maxHeartbeats 4000000 in
theorem bw1_in {len:Nat} {f:Nat→Tm} (n:Nat) (l B b:Nat) (sa:Option Addr) (cp:Nat) (J Jx:List (Cx len)→World→Prop) (xs:List (Cx len)) (hxs:vals xs=bwL len)
 (W:World) (hlb:len≤1000000)
 (hY: ∀pre x W,J pre W→pre.length<len→YieldAt Fence.wide (n-1) Tryz.prog l (encT f x.1) W fun e W'=>
   (e=.returned (.bool true)∧J (pre++ [x]) W'∧Kd B b W W')∨(e=.returned (.bool false)∧Jx (pre++ [x]) W'))
 (hB:W.heap[B]?=some (.cells #[.slice sa len cp] 24)) (hs: ∀k,k<len→RowAt W sa k (f k)) (hb: ∀bb o,sa=some ⟨bb,o,none⟩→0<len→bb=b) (hJ0:J [] W):
 CallsIn Fence.wide n Tryz.prog 128 #[.func (.yield l) #[] #[],.pointer (some ⟨B,0,none⟩)] W fun e W'=>(∃v,e=.returned v)∧
  ((∃ys,vals ys=bwL len∧J ys W')∨(∃pre,vals pre <+:bwL len∧Jx pre W')):=by
 have hb0:=cell_of_block hB
 have HY:Hid (∀pre x W,J pre W→pre.length<len→YieldAt Fence.wide (n-1) Tryz.prog l (encT f x.1) W fun e W'=>
  (e=.returned (.bool true)∧J (pre++ [x]) W'∧Kd B b W W')∨(e=.returned (.bool false)∧Jx (pre++ [x]) W')):=hY
 have HS:=hid hs;have HBb:=hid hb;have HJ0:=hid hJ0;have HBx:=hid hB;have HXs:=hid hxs
 have hxl:xs.length=len:=by
  have h1:=congrArg List.length hxs;rw[bwL_len]at h1;have h2:(vals xs).length=xs.length:=by simp[vals]
  omega
 have hw1:IntKind.i64.wrap ((len:Int)-1)=(len:Int)-1:=by simp[IntKind.wrap,IntKind.bits,IntKind.signed];omega
 clear hY hs hJ0 hB hb hxs;refine callsIn_of_wp Tryz.func128 rfl trivial ?_ rfl;simp only[Tryz.ntmps128,List.size_toArray,List.length_cons,List.length_nil,Nat.reduceAdd,Nat.reduceSub,Array.replicate_succ,Array.replicate_zero,List.push_toArray,List.append_toArray,List.nil_append,List.cons_append]
 gi_wp2
 gi_loopw [3] (fun p wr=>∃(k:Nat) (jj:Int),k≤len∧jj=(len:Int)-1-(k:Int)∧p=iV jj∧J (xs.take k) wr∧wr.heap[B]?=W.heap[B]?∧wr.heap[b]?=W.heap[b]?) (fun p _=>(intOf p+1).toNat)
 case atStart=>exact ⟨0,(len:Int)-1,Nat.zero_le _,by simp,rfl,HJ0.o,rfl,rfl⟩
 case round=>
  obtain ⟨k,jj,hkm,hjj,rfl,hJk,hBk,hbk⟩:=hrel;clear hb0 hw1;have HJk:=hid hJk;have HBk:=hid hBk;have Hbk:=hid hbk;have HJJ:=hid hjj;clear hJk hBk hbk
  by_cases hlt:k<len
  case neg=>
   have hke: ¬(0:Int)≤jj:=by omega
   clear hjj
   gi_wp2
   go_end0
   exact ⟨⟨_,rfl⟩,.inl ⟨xs,HXs.o,by have:=HJk.o;rw[List.take_of_length_le (by omega)]at this;exact this⟩⟩
  ·obtain ⟨i,rfl⟩: ∃i:Nat,jj=i:=⟨jj.toNat,by omega⟩
   have hil:i<len:=by omega
   have HI:Hid (i=len-1-k):=by rw[Hid];omega
   clear hjj;obtain ⟨b',o,rfl,c0,c1,c2⟩:=HS.o i hil;obtain rfl:b'=b:=HBb.o b' o rfl (by omega)
   have d0:=(World.cell?_of_block (w:=W) (w':=wr) (a:=⟨b',o+i*3,none⟩) Hbk.o).trans c0;have d1:=(World.cell?_of_block (w:=W) (w':=wr) (a:=⟨b',o+i*3+1,none⟩) Hbk.o).trans c1;have d2:=(World.cell?_of_block (w:=W) (w':=wr) (a:=⟨b',o+i*3+2,none⟩) Hbk.o).trans c2;have e0:=cell_of_block (HBk.o.trans HBx.o);have hkx:k<xs.length:=by omega
   obtain ⟨fn,tmps,assign,body,hy,hR⟩:=HY.o (xs.take k) xs[k] wr HJk.o (by rw[List.length_take];omega)
   have hxv:xs[k].1=i:=by
    have h1:(vals xs)[k]'(by rw[HXs.o,bwL_len];exact hlt)=i:=by
     simp only[HXs.o];rw[bwL_get,HI.o]
    simpa[vals]using h1
   rw[hxv,encT]at hy;have Hxk:=hid (List.take_succ_eq_append_getElem hkx);generalize xs[k]=x at*;have hI0:(0:Int)≤(i:Int):=by omega
   have hiI:(i:Int)<(len:Int):=by omega
   have hw1:IntKind.i64.wrap ((i:Int)-1)=(i:Int)-1:=by simp[IntKind.wrap,IntKind.bits,IntKind.signed];omega
   clear c0 c1 c2 hxv
   gi_wp2
   refine ⟨fun h=>(by cases h),?_⟩
   refine hR.mono ?_;rintro e W3 (⟨rfl,hJ3,hk3⟩| ⟨rfl,hJx3⟩)
   ·have HJ3:=hid hJ3
    have HK3:=hid hk3;clear hJ3 hk3 d0 d1 d2 e0
    gi_wp2
    go_roundw
    case rel=>exact ⟨k+1,_,by omega,by have:=HJJ.o;omega,rfl,by rw[Hxk.o];exact HJ3.o,HK3.o.2.1.trans HBk.o,HK3.o.2.2.trans Hbk.o⟩
    case measure=>simp[intOf]
   ·gi_wp2
    refine bodyPost_ret (results_none rfl _ _ _) rfl ?_;refine ⟨⟨_,rfl⟩,.inr ⟨xs.take k++ [x],?_,hJx3⟩⟩;rw[←Hxk.o,←HXs.o];unfold vals;rw[List.map_take];exact List.take_prefix _ _
def SeqB (lb:Array Value) (f:Nat→Tm) (len B b:Nat) (w:World):Prop:=∀n,SeqStopsK Fence.wide n Tryz.prog 128 lb (fun x:Cx len=>encT f x.1) (Kd B b) (fun ys=>vals ys=bwL len) (fun pre=>vals pre <+:bwL len) len w
theorem bw_seq {len:Nat} {f:Nat→Tm} (B b:Nat) (sa:Option Addr) (cp:Nat) (hlb:len≤1000000) (w:World) (hB:w.heap[B]?=some (.cells #[.slice sa len cp] 24)) (hs: ∀k,k<len→RowAt w sa k (f k)) (hb: ∀bb o,sa=some ⟨bb,o,none⟩→0<len→bb=b):SeqB #[.pointer (some ⟨B,0,none⟩)] f len B b w:=fun n l J Jx W hW hJ hJx hY h0=>by
 obtain ⟨xs,hxs⟩:=vals_ex (p:=fun x=>x<len) (bwL len) (fun x hx=>by simpa[bwL]using hx)
 exact bw1_in n l B b sa cp J Jx xs hxs W hlb (fun pre x W hj hl=>hY pre x W hj hl) ((hW.block _ (Array.getElem?_eq_some_iff.1 hB).1).trans hB) (fun k hk=>(hs k hk).below hW) hb h0
set_option maxHeartbeats 1000000 in
theorem bw_any (sa:Option Addr) (n cp:Nat) (w:World):
 Calls Tryz.prog 95 #[.slice sa n cp] w fun e w'=>e=.returned (.func (.func 128) #[] #[.pointer (some ⟨w.heap.size,0,none⟩)])∧w'=w.alloc (.cells #[.slice sa n cp] 24):=by
 go_enter Tryz.func95,Tryz.ntmps95
 go_wp2_with fail;go_ret;exact ⟨rfl,rfl⟩
end Go.Proofs.YtmggaclaoefdaabGreat

namespace Go.Proofs.YtmggaclaoefdaabGreat
open Go.RowKit
set_option linter.unusedVariables false
set_option linter.unusedSimpArgs false
theorem err_kids {v:Int} {nm:ByteArray} {a:Option Addr} {len cap:Nat} {f:Nat→Tm} (h:err (.mk v nm a len cap f)=0):partE v nm len=0∧∀i,i<len→err (f i)=0:=by
 have hp:partE v nm len=0:=by
  by_cases hp:partE v nm len=0
  ·exact hp
  ·rw[err,if_neg hp]at h;exact h
 rw[err,if_pos hp]at h;refine ⟨hp,fun i hi=>?_⟩
 have h0:=fst_zero (fun i=>err (f i)) (Nat.le_of_lt hi) h
 have h1:=fst_zero (fun i=>err (f i)) (show i+1≤len from hi) h
 rw[fst,if_pos h0]at h1;exact h1
theorem partE_fn {nm:ByteArray} {len:Nat} (h:partE 0 nm len=0):nameB nm=true∧len≤4∧¬(nm.toList= [33]∧0<len):=by
 unfold partE at h;rw[if_neg (by simp)]at h
 by_cases h1:nameB nm=false
 ·rw[if_pos h1]at h;omega
 ·rw[if_neg h1]at h
  by_cases h2:4<len
  ·rw[if_pos h2]at h;omega
  ·rw[if_neg h2]at h
   by_cases h3:nm.toList= [33]∧0<len
   ·rw[if_pos h3]at h;omega
   ·exact ⟨by simpa using h1,by omega,h3⟩
theorem nameB_size {nm:ByteArray} (h:nameB nm=true):nm.size≤8:=by
 unfold nameB at h
 rcases Bool.or_eq_true _ _▸h with h|h
 ·have h1:nm.toList= [33]:=by simpa using h
  have:nm.toList.length=nm.size:=by rw[ByteArray.toList_eq];rfl
  rw[h1]at this;simp at this;omega
 ·unfold wordB at h
  simp only[Bool.and_eq_true,decide_eq_true_eq]at h;exact h.1.1.2
theorem hOf_set' {l:List Cl} {i:Nat} {c:Cl} (hi:i<l.length) (j:Nat):hOf (l.set i c) j=if j=i then c else hOf l j:=by
 unfold hOf;rw[List.getD_eq_getElem?_getD,List.getD_eq_getElem?_getD,List.getElem?_set]
 by_cases h:i=j
 ·subst h;simp[hi]
 ·rw[if_neg h,if_neg (fun e=>h e.symm)]
theorem hOf_app {l r:List Cl} (j:Nat):hOf (l++r) j=if j<l.length then hOf l j else hOf r (j-l.length):=by
 unfold hOf;rw[List.getD_eq_getElem?_getD,List.getD_eq_getElem?_getD,List.getD_eq_getElem?_getD,List.getElem?_append]
 by_cases h:j<l.length
 ·rw[if_pos h,if_pos h]
 ·rw[if_neg h,if_neg h]
theorem hOf_mapU {h:Nat→Cl} {len i:Nat} (hi:i<len):hOf ((List.range len).map h) i=h i:=by
 unfold hOf;simp[hi]
def Bd (h:Nat→Cl) (σ:Int→Option Int) (lo hi:Nat):Tm→Nat→Prop
 | .nil,_=>False
 | .mk v nm _ len _ f,c=>(v≠0→σ v=some (c:Int))∧(v=0→lo≤c∧c+1+len≤hi∧h c=⟨2,len,nm⟩∧∀j,j<len→∃d:Nat,h (c+1+j)=frC d∧d≠c+1+j∧Bd h σ lo hi (f j) d)
theorem Bd.mono {h h':Nat→Cl} {σ σ':Int→Option Int} {lo lo' hi hi':Nat} (hag: ∀i,lo≤i→i<hi→h' i=h i) (hσ: ∀v c,σ v=some c→σ' v=some c) (hlo:lo'≤lo) (hhi:hi≤hi') (T:Tm): ∀c,Bd h σ lo hi T c→Bd h' σ' lo' hi' T c:=by
 induction T with
 |nil=>intro c H;exact H
 |mk v nm a len cap f ih=>
  intro c H;refine ⟨fun hv=>hσ _ _ (H.1 hv),fun hv=>?_⟩
  obtain ⟨h1,h2,h3,h4⟩:=H.2 hv;refine ⟨by omega,by omega,(hag c h1 (by omega)).trans h3,fun j hj=>?_⟩
  obtain ⟨d,e1,e2,e3⟩:=h4 j hj;exact ⟨d,(hag _ (by omega) (by omega)).trans e1,e2,ih j d e3⟩
def CO (L0:Nat) (p:HSt) (x:Nat):Prop:=(∃y:Nat,hOf p.1 x=frC y∧y<p.1.length∧(y=x∨y<L0∨x<y∨∃v,p.2 v=some (y:Int)))∨(∃(n:Nat) (nm:ByteArray),hOf p.1 x=⟨2,n,nm⟩∧n≤4∧nameB nm=true∧¬(nm.toList= [33]∧0<n)∧x+n<p.1.length∧∀j,j<n→(hOf p.1 (x+1+j)).k=1)
structure PutI (L0:Nat) (p:HSt):Prop where
 var: ∀v c,p.2 v=some c→∃y:Nat,c=y∧y<p.1.length∧(L0≤y→hOf p.1 y=frC y)
 cel: ∀x,L0≤x→x<p.1.length→CO L0 p x
 low:L0≤p.1.length
structure PutO (L0:Nat) (p:HSt) (T:Tm) (q:HSt × Int):Prop where
 inv:PutI L0 q.1
 len:p.1.length≤q.1.1.length
 old: ∀i,i<p.1.length→hOf q.1.1 i=hOf p.1 i
 up: ∀v c,p.2 v=some c→q.1.2 v=some c
 new: ∀v c,q.1.2 v=some c→p.2 v=some c∨(p.1.length:Int)≤c
 at_: ∃t:Nat,q.2=t∧t<q.1.1.length∧Bd (hOf q.1.1) q.1.2 p.1.length q.1.1.length T t
theorem putV_po {L0:Nat} {v:Int} {nm:ByteArray} {a:Option Addr} {len cap:Nat} {f:Nat→Tm} (hv:v≠0) {p:HSt} (I:PutI L0 p):PutO L0 p (.mk v nm a len cap f) (putV v p):=by
 unfold putV
 cases hσ:p.2 v with
 |some c=>
  obtain ⟨y,rfl,hy,_⟩:=I.var v c hσ;exact ⟨I,Nat.le_refl _,fun _ _=>rfl,fun _ _ h=>h,fun _ _ h=> .inl h,y,rfl,hy,fun _=>hσ,fun h=>absurd h hv⟩
 |none=>
  have hlow:=I.low;have hL:(p.1++ [frC p.1.length]).length=p.1.length+1:=by simp
  have hO: ∀i,i<p.1.length→hOf (p.1++ [frC p.1.length]) i=hOf p.1 i:=fun i hi=>by rw[hOf_app,if_pos hi]
  have hN:hOf (p.1++ [frC p.1.length]) p.1.length=frC p.1.length:=by rw[hOf_app,if_neg (by omega),Nat.sub_self];rfl
  have hu: ∀u c,p.2 u=some c→updI p.2 v p.1.length u=some c:=fun u c h=>by
   unfold updI;rw[if_neg (fun e=>by rw[e,hσ]at h;cases h)]
   exact h
  have hn: ∀u c,updI p.2 v p.1.length u=some c→p.2 u=some c∨c=(p.1.length:Int):=fun u c h=>by
   unfold updI at h
   by_cases e:u=v
   ·rw[if_pos e]at h;exact .inr (Option.some.inj h).symm
   ·rw[if_neg e]at h;exact .inl h
  refine ⟨⟨?_,?_,?_⟩,?_,hO,hu,?_,p.1.length,rfl,?_,fun _=>?_,fun h=>absurd h hv⟩
  ·intro u c h
   rcases hn u c h with h|h
   ·obtain ⟨y,e,hy,h9⟩:=I.var u c h
    exact ⟨y,e,by show y<(p.1++ [frC p.1.length]).length;omega,fun h8=>(hO y hy).trans (h9 h8)⟩
   ·exact ⟨p.1.length,h,by show _<(p.1++ [frC p.1.length]).length;omega,fun _=>hN⟩
  ·intro x hx hx'
   have hx2:x<p.1.length+1:=by rw[←hL];exact hx'
   by_cases hxl:x<p.1.length
   ·rcases I.cel x hx hxl with ⟨y,h1,h2,h3⟩| ⟨n,m,h1,h2,h3,h4,h5,h6⟩
    ·refine .inl ⟨y,(hO x hxl).trans h1,by show y<(p.1++ [frC p.1.length]).length;omega,?_⟩
     rcases h3 with h3|h3|h3| ⟨u,h3⟩
     ·exact .inl h3
     ·exact .inr (.inl h3)
     ·exact .inr (.inr (.inl h3))
     ·exact .inr (.inr (.inr ⟨u,hu _ _ h3⟩))
    ·exact .inr ⟨n,m,(hO x hxl).trans h1,h2,h3,h4,by show _<(p.1++ [frC p.1.length]).length;omega,fun j hj=>by show (hOf (p.1++ [frC p.1.length]) _).k=1;rw[hO _ (by omega)];exact h6 j hj⟩
   ·obtain rfl:x=p.1.length:=by omega
    exact .inl ⟨p.1.length,hN,by show _<(p.1++ [frC p.1.length]).length;omega,.inl rfl⟩
  ·show L0≤(p.1++ [frC p.1.length]).length;omega
  ·show p.1.length≤(p.1++ [frC p.1.length]).length;omega
  ·intro u c h
   rcases hn u c h with h|h
   ·exact .inl h
   ·exact .inr (by omega)
  ·show p.1.length<(p.1++ [frC p.1.length]).length;omega
  ·show updI p.2 v p.1.length v=_
   unfold updI;rw[if_pos rfl]
structure PutL (L0:Nat) (p:HSt) (nm:ByteArray) (len:Nat) (f:Nat→Tm) (k:Nat) (s:HSt):Prop where
 inv:PutI L0 s
 big:p.1.length+1+len≤s.1.length
 old: ∀i,i<p.1.length→hOf s.1 i=hOf p.1 i
 fn:hOf s.1 p.1.length=⟨2,len,nm⟩
 fr: ∀j,k≤j→j<len→hOf s.1 (p.1.length+1+j)=frC (p.1.length+1+j:Nat)
 done: ∀j,j<k→∃d:Nat,hOf s.1 (p.1.length+1+j)=frC d∧d≠p.1.length+1+j∧Bd (hOf s.1) s.2 (p.1.length+1+len) s.1.length (f j) d
 up: ∀v c,p.2 v=some c→s.2 v=some c
 new: ∀v c,s.2 v=some c→p.2 v=some c∨((p.1.length+1+len:Nat):Int)≤c
theorem frs_get {at' k j:Nat} (hj:j<k):hOf (frs at' k) j=frC (at'+1+j:Nat):=by
 unfold hOf frs;simp[hj]
theorem pl_begin {L0:Nat} {p:HSt} {nm:ByteArray} {len:Nat} {f:Nat→Tm} (I:PutI L0 p) (hp:nameB nm=true∧len≤4∧¬(nm.toList= [33]∧0<len)):PutL L0 p nm len f 0 (p.1++(⟨2,len,nm⟩::frs p.1.length len),p.2):=by
 have hlow:=I.low;have hL:(p.1++((⟨2,len,nm⟩:Cl)::frs p.1.length len)).length=p.1.length+1+len:=by simp[frs];omega
 have hO: ∀i,i<p.1.length→hOf (p.1++((⟨2,len,nm⟩:Cl)::frs p.1.length len)) i=hOf p.1 i:=fun i hi=>by rw[hOf_app,if_pos hi]
 have hF:hOf (p.1++((⟨2,len,nm⟩:Cl)::frs p.1.length len)) p.1.length=⟨2,len,nm⟩:=by rw[hOf_app,if_neg (by omega),Nat.sub_self];rfl
 have hR: ∀j,j<len→hOf (p.1++((⟨2,len,nm⟩:Cl)::frs p.1.length len)) (p.1.length+1+j)=frC (p.1.length+1+j:Nat):=fun j hj=>by
  rw[hOf_app,if_neg (by omega),show p.1.length+1+j-p.1.length=j+1 from by omega]
  exact frs_get hj
 refine ⟨⟨?_,?_,?_⟩,?_,hO,hF,fun j _ hj=>hR j hj,fun j hj=>absurd hj (Nat.not_lt_zero j),fun _ _ h=>h,fun _ _ h=> .inl h⟩
 ·intro v c h
  obtain ⟨y,e,hy,h9⟩:=I.var v c h;exact ⟨y,e,by show y<(p.1++((⟨2,len,nm⟩:Cl)::frs p.1.length len)).length;omega,fun h8=>(hO y hy).trans (h9 h8)⟩
 ·intro x hx hx'
  have hx2:x<p.1.length+1+len:=by rw[←hL];exact hx'
  by_cases hxl:x<p.1.length
  ·rcases I.cel x hx hxl with ⟨y,h1,h2,h3⟩| ⟨n,m,h1,h2,h3,h4,h5,h6⟩
   ·exact .inl ⟨y,(hO x hxl).trans h1,by show y<(p.1++((⟨2,len,nm⟩:Cl)::frs p.1.length len)).length;omega,h3⟩
   ·exact .inr ⟨n,m,(hO x hxl).trans h1,h2,h3,h4,by show _<(p.1++((⟨2,len,nm⟩:Cl)::frs p.1.length len)).length;omega,fun j hj=>by show (hOf (p.1++((⟨2,len,nm⟩:Cl)::frs p.1.length len)) _).k=1;rw[hO _ (by omega)];exact h6 j hj⟩
  ·by_cases hxe:x=p.1.length
   ·subst hxe
    exact .inr ⟨len,nm,hF,hp.2.1,hp.1,hp.2.2,by show _<(p.1++((⟨2,len,nm⟩:Cl)::frs p.1.length len)).length;omega,fun j hj=>by show (hOf (p.1++((⟨2,len,nm⟩:Cl)::frs p.1.length len)) _).k=1;rw[hR j hj];rfl⟩
   ·obtain ⟨j,rfl⟩: ∃j,x=p.1.length+1+j:=⟨x-p.1.length-1,by omega⟩
    exact .inl ⟨p.1.length+1+j,hR j (by omega),hx',.inl rfl⟩
 ·show L0≤(p.1++((⟨2,len,nm⟩:Cl)::frs p.1.length len)).length;omega
 ·show _≤(p.1++((⟨2,len,nm⟩:Cl)::frs p.1.length len)).length;omega
theorem pl_step {L0:Nat} {p:HSt} {nm:ByteArray} {len:Nat} {f:Nat→Tm} {k:Nat} {s:HSt} (I:PutI L0 p) (H:PutL L0 p nm len f k s) (hk:k<len) {q:HSt × Int} (Q:PutO L0 s (f k) q):
 PutL L0 p nm len f (k+1) (q.1.1.set (p.1.length+1+k) (setN (hOf q.1.1 (p.1.length+1+k)) q.2),q.1.2):=by
 have hlow:=I.low;have hbig:=H.big;have hql:=Q.len;obtain ⟨t,ht,htl,hB⟩:=Q.at_;have hpos:p.1.length+1+k<q.1.1.length:=by omega
 have hcell:=(Q.old _ (by omega)).trans (H.fr k (Nat.le_refl _) hk)
 have hset:setN (hOf q.1.1 (p.1.length+1+k)) q.2=frC t:=by rw[hcell,ht];rfl
 rw[hset];have hS: ∀j,hOf (q.1.1.set (p.1.length+1+k) (frC t)) j=if j=p.1.length+1+k then frC t else hOf q.1.1 j:=hOf_set' hpos
 have hSn: ∀j,j≠p.1.length+1+k→hOf (q.1.1.set (p.1.length+1+k) (frC t)) j=hOf q.1.1 j:=fun j hj=>by rw[hS,if_neg hj]
 have hL:(q.1.1.set (p.1.length+1+k) (frC t)).length=q.1.1.length:=by simp
 have hvar: ∀v c,q.1.2 v=some c→∃y:Nat,c=y∧y<q.1.1.length∧(y<p.1.length∨p.1.length+1+len≤y):=fun v c h=>by
  obtain ⟨y,e,hy,_⟩:=Q.inv.var v c h;refine ⟨y,e,hy,?_⟩
  rcases Q.new v c h with h1|h1
  ·rcases H.new v c h1 with h2|h2
   ·obtain ⟨y',e',hy',_⟩:=I.var v c h2
    exact .inl (by omega)
   ·exact .inr (by omega)
  ·exact .inr (by omega)
 have hkind:(∃v,q.1.2 v=some (t:Int))∨s.1.length≤t:=by
  generalize f k=T at hB
  cases T with
  |nil=>exact hB.elim
  |mk v _ _ _ _ _=>
   by_cases hv:v=0
   ·exact .inr (hB.2 hv).1
   ·exact .inl ⟨v,hB.1 hv⟩
 have htne:t≠p.1.length+1+k:=by
  rcases hkind with ⟨v,h⟩|h
  ·obtain ⟨y,e,_,h2⟩:=hvar v _ h
   omega
  ·omega
 refine ⟨⟨?_,?_,?_⟩,?_,?_,?_,?_,?_,fun v c h=>Q.up _ _ (H.up _ _ h),?_⟩
 ·intro v c h
  obtain ⟨y,e,hy,h2⟩:=hvar v c h;obtain ⟨y',e',_,h3⟩:=Q.inv.var v c h;obtain rfl:y=y':=by omega
  exact ⟨y,e,by show y<(q.1.1.set _ _).length;omega,fun h8=>(hSn y (by omega)).trans (h3 h8)⟩
 ·intro x hx hx'
  have hx2:x<q.1.1.length:=by rw[←hL];exact hx'
  by_cases hxe:x=p.1.length+1+k
  ·refine .inl ⟨t,(hS x).trans (if_pos hxe),by show t<(q.1.1.set _ _).length;omega,?_⟩
   rcases hkind with h|h
   ·exact .inr (.inr (.inr h))
   ·exact .inr (.inr (.inl (by omega)))
  ·rcases Q.inv.cel x hx hx2 with ⟨y,h1,h2,h3⟩| ⟨n,m,h1,h2,h3,h4,h5,h6⟩
   ·exact .inl ⟨y,(hSn x hxe).trans h1,by show y<(q.1.1.set _ _).length;omega,h3⟩
   ·refine .inr ⟨n,m,(hSn x hxe).trans h1,h2,h3,h4,by show _<(q.1.1.set _ _).length;omega,fun j hj=>?_⟩
    show (hOf (q.1.1.set _ _) _).k=1
    rw[hS]
    split
    ·rfl
    ·exact h6 j hj
 ·show L0≤(q.1.1.set _ _).length
  have:=Q.inv.low;omega
 ·show _≤(q.1.1.set _ _).length;omega
 ·intro i hi
  exact (hSn i (by omega)).trans ((Q.old i (by omega)).trans (H.old i hi))
 ·exact (hSn _ (by omega)).trans ((Q.old _ (by omega)).trans H.fn)
 ·intro j h1 h2
  exact (hSn _ (by omega)).trans ((Q.old _ (by omega)).trans (H.fr j (by omega) h2))
 ·intro j hj
  by_cases hjk:j=k
  ·subst hjk
   refine ⟨t,(hS _).trans (if_pos rfl),htne,?_⟩;exact Bd.mono (fun i h1 _=>hSn i (by omega)) (fun _ _ h=>h) (by omega) (by show _≤(q.1.1.set _ _).length;omega) _ _ hB
  ·obtain ⟨d,e1,e2,e3⟩:=H.done j (by omega)
   refine ⟨d,(hSn _ (by omega)).trans ((Q.old _ (by omega)).trans e1),e2,?_⟩
   exact Bd.mono (fun i h1 h2=>(hSn i (by omega)).trans (Q.old i h2)) Q.up (Nat.le_refl _) (by show _≤(q.1.1.set _ _).length;omega) _ _ e3
 ·intro v c h
  rcases Q.new v c h with h1|h1
  ·exact H.new v c h1
  ·exact .inr (by omega)
theorem putT_po {L0:Nat} (T:Tm) (hT:err T=0): ∀p:HSt,PutI L0 p→PutO L0 p T (putT T p):=by
 induction T with
 |nil=>exact absurd hT (by decide+kernel)
 |mk v nm a len cap f ih=>
  intro p I;obtain ⟨hp,hk⟩:=err_kids hT;unfold putT
  by_cases hv:v=0
  ·subst hv
   rw[if_neg (by simp)]
   have hq:=partE_fn hp
   have hK: ∀k,k≤len→PutL L0 p nm len f k (putK (fun i=>putT (f i)) p.1.length k (p.1++(⟨2,len,nm⟩::frs p.1.length len),p.2)):=by
    intro k
    induction k with
    |zero=>intro _;exact pl_begin I hq
    |succ k ik=>
     intro hk';have h1:=ik (by omega)
     exact pl_step I h1 (by omega) (ih k (hk k (by omega)) _ h1.inv)
   have H:=hK len (Nat.le_refl _);generalize putK (fun i=>putT (f i)) p.1.length len (p.1++(⟨2,len,nm⟩::frs p.1.length len),p.2)=s at H
   have hbig:=H.big;refine ⟨H.inv,by show p.1.length≤s.1.length;omega,H.old,H.up,fun v c h=>?_,p.1.length,rfl,by show p.1.length<s.1.length;omega,fun h=>absurd rfl h,fun _=>⟨Nat.le_refl _,H.big,H.fn,fun j hj=>?_⟩⟩
   ·rcases H.new v c h with h1|h1
    ·exact .inl h1
    ·exact .inr (by omega)
   ·obtain ⟨d,e1,e2,e3⟩:=H.done j hj
    exact ⟨d,e1,e2,Bd.mono (fun i _ _=>rfl) (fun _ _ h=>h) (by omega) (Nat.le_refl _) _ _ e3⟩
  ·rw[if_pos hv]
   exact putV_po hv I
theorem sumTo_mem (g:Nat→Nat) {j k:Nat} (h:j<k):g j≤sumTo g k:=by
 have h1:sumTo g (j+1)=sumTo g j+g j:=rfl;have h2:=sumTo_le g (show j+1≤k from h)
 omega
theorem leads_frC {h:Nat→Cl} {x y:Nat} (e:h x=frC y):leads h x=if y=x then []else [y]:=by
 unfold leads;rw[e]
 show (if (1:Int)=1 then (if ((y:Int))=x then []else [((y:Int)).toNat])else _)=_
 rw[if_pos rfl]
 by_cases hyx:y=x
 ·rw[if_pos (by omega),if_pos hyx]
 ·rw[if_neg (by omega),if_neg hyx]
  rfl
theorem leads_fnC {h:Nat→Cl} {x n:Nat} {nm:ByteArray} (e:h x=⟨2,n,nm⟩):leads h x=(List.range n).map fun j=>x+1+j:=by
 unfold leads;rw[e]
 show (if (2:Int)=1 then _ else _)=_
 rw[if_neg (by omega)]
 rfl
open Classical in
theorem PutI.acy {L0:Nat} {p:HSt} (I:PutI L0 p) {h:Nat→Cl} (H0:HG h L0) (hold: ∀i,i<L0→hOf p.1 i=h i):Acy p.1.length (leads (hOf p.1)):=by
 obtain ⟨r,hr⟩:=H0.acy;have hM: ∀x,x<L0→r x≤sumTo r L0:=fun x hx=>sumTo_mem r hx
 generalize sumTo r L0=M at hM;refine ⟨fun x=>if x<L0 then r x else if hOf p.1 x=frC x then M+1 else M+2+(p.1.length-x),fun x hx y hy=>?_⟩
 by_cases hxl:x<L0
 ·have e:leads (hOf p.1) x=leads h x:=by unfold leads;rw[hold x hxl]
  rw[e]at hy;have hyl:=H0.ok.inn x hxl y hy;have:=hr x hxl y hy;simp only[if_pos hxl,if_pos hyl];exact this
 ·have bound: ∀y,y<p.1.length→(y<L0∨x<y∨hOf p.1 y=frC y)→(if y<L0 then r y else if hOf p.1 y=frC y then M+1 else M+2+(p.1.length-y))<M+2+(p.1.length-x):=by
   intro y hyn h
   by_cases h1:y<L0
   ·rw[if_pos h1]
    have:=hM y h1;omega
   ·rw[if_neg h1]
    split
    ·omega
    ·rcases h with h|h|h
     ·omega
     ·omega
     ·contradiction
  rcases I.cel x (by omega) hx with ⟨z,h1,h2,h3⟩| ⟨n,nm,h1,h2,h3,h4,h5,h6⟩
  ·rw[leads_frC h1]at hy
   by_cases hzx:z=x
   ·rw[if_pos hzx]at hy;cases hy
   ·rw[if_neg hzx]at hy
    obtain rfl:y=z:=by simpa using hy
    have hnx: ¬hOf p.1 x=frC x:=fun e=>by
     rw[h1]at e;have:=congrArg Cl.n e;have:((y:Int))=(x:Int):=this;omega
    simp only[if_neg hxl,if_neg hnx];refine bound y h2 ?_
    rcases h3 with h3|h3|h3| ⟨v,h3⟩
    ·exact absurd h3 hzx
    ·exact .inl h3
    ·exact .inr (.inl h3)
    ·obtain ⟨y',e,hy',h9⟩:=I.var v _ h3
     obtain rfl:y=y':=by omega
     by_cases h8:y<L0
     ·exact .inl h8
     ·exact .inr (.inr (h9 (by omega)))
  ·rw[leads_fnC h1]at hy
   obtain ⟨j,hj,rfl⟩:=List.mem_map.1 hy;have hj':=List.mem_range.1 hj
   have hnx: ¬hOf p.1 x=frC x:=fun e=>by
    rw[h1]at e;have:(2:Int)=1:=congrArg Cl.k e;omega
   simp only[if_neg hxl,if_neg hnx];exact bound (x+1+j) (by omega) (.inr (.inl (by omega)))
theorem PutI.hg {L0:Nat} {p:HSt} (I:PutI L0 p) {h:Nat→Cl} (H0:HG h L0) (hold: ∀i,i<L0→hOf p.1 i=h i) (hl:p.1.length≤400000):HG (hOf p.1) p.1.length:=by
 have hlow:=I.low;have one: ∀y:Nat,(frC (y:Int)).k=1∧(frC (y:Int)).n=y∧(frC (y:Int)).nm=⟨#[]⟩:=fun y=>⟨rfl,rfl,rfl⟩
 refine ⟨⟨?_,?_,?_,hl⟩,I.acy H0 hold,?_,?_,?_,?_⟩
 ·intro i hi
  by_cases hil:i<L0
  ·rw[hold i hil];exact H0.ok.n0 i hil
  ·rcases I.cel i (by omega) hi with ⟨y,h1,_⟩| ⟨n,nm,h1,_⟩
   ·rw[h1];show (0:Int)≤(y:Int);omega
   ·rw[h1];show (0:Int)≤(n:Int);omega
 ·intro i hi hk
  by_cases hil:i<L0
  ·rw[hold i hil]at hk ⊢;exact H0.ok.n4 i hil hk
  ·rcases I.cel i (by omega) hi with ⟨y,h1,_⟩| ⟨n,nm,h1,h2,_⟩
   ·rw[h1]at hk;exact absurd rfl hk
   ·rw[h1];show (n:Int)≤4;omega
 ·intro i hi y hy
  by_cases hil:i<L0
  ·have e:leads (hOf p.1) i=leads h i:=by unfold leads;rw[hold i hil]
   rw[e]at hy;have:=H0.ok.inn i hil y hy;omega
  ·rcases I.cel i (by omega) hi with ⟨z,h1,h2,_⟩| ⟨n,nm,h1,h2,_,_,h5,_⟩
   ·rw[leads_frC h1]at hy
    split at hy
    ·cases hy
    ·obtain rfl:y=z:=by simpa using hy
     exact h2
   ·rw[leads_fnC h1]at hy
    obtain ⟨j,hj,rfl⟩:=List.mem_map.1 hy;have hj':=List.mem_range.1 hj;omega
 ·intro i hi
  by_cases hil:i<L0
  ·rw[hold i hil];exact H0.kind i hil
  ·rcases I.cel i (by omega) hi with ⟨y,h1,_⟩| ⟨n,nm,h1,h2,_⟩
   ·rw[h1];exact .inl rfl
   ·rw[h1];exact .inr rfl
 ·intro i hi hk j hj
  by_cases hil:i<L0
  ·rw[hold i hil]at hk hj
   obtain ⟨h1,h2⟩:=H0.kids i hil hk j hj;exact ⟨by omega,by rw[hold _ h1];exact h2⟩
  ·rcases I.cel i (by omega) hi with ⟨y,h1,_⟩| ⟨n,nm,h1,h2,_,_,h5,h6⟩
   ·rw[h1]at hk
    have:(1:Int)=2:=hk;omega
   ·rw[h1]at hj
    have hj':(j:Int)<(n:Int):=hj;exact ⟨by omega,h6 j (by omega)⟩
 ·intro i hi hk
  by_cases hil:i<L0
  ·rw[hold i hil]at hk ⊢;exact H0.nmr i hil hk
  ·rcases I.cel i (by omega) hi with ⟨y,h1,_⟩| ⟨n,nm,h1,h2,_⟩
   ·rw[h1];exact (show ByteArray.toList ⟨#[]⟩= []by decide+kernel)
   ·rw[h1]at hk
    have:(2:Int)=1:=hk;omega
 ·intro i hi hk
  by_cases hil:i<L0
  ·rw[hold i hil]at hk ⊢;exact H0.nmf i hil hk
  ·rcases I.cel i (by omega) hi with ⟨y,h1,_⟩| ⟨n,nm,h1,h2,h3,h4,_⟩
   ·rw[h1]at hk
    have:(1:Int)=2:=hk;omega
   ·rw[h1]
    exact ⟨h3,fun⟨e1,e2⟩=>h4 ⟨e1,by have:(0:Int)<(n:Int):=e2;omega⟩⟩
theorem HG.cell0 {h:Nat→Cl} {len i:Nat} (H:HG h len) (hi:i<len):cellE h len i=0:=by
 unfold cellE
 by_cases h1:(h i).k=1
 ·rw[if_pos h1]
  have h0:=H.ok.n0 i hi
  have hb:btw (h i).n 0 ((len:Int)-1)=true:=btw_iff.2 ⟨h0,by
   by_cases hn:(h i).n=i
   ·omega
   ·obtain ⟨j,r,hj⟩:=H.ref hi h1 hn
    have:=r.2.1;omega⟩
  rw[if_pos hb,if_pos (H.nmr i hi h1)]
 ·have h2:(h i).k=2:=(H.kind i hi).resolve_left h1
  rw[if_neg h1,if_pos h2,if_pos ⟨(H.nmf i hi h2).1,btw_iff.2 ⟨H.ok.n0 i hi,H.ok.n4 i hi h1⟩,(H.nmf i hi h2).2⟩];have h0:=H.ok.n0 i hi
  have hle: ¬((len:Int)-1<(i:Int)+(h i).n):=by
   by_cases hz:(h i).n=0
   ·omega
   ·obtain ⟨m,hm⟩: ∃m:Nat,(h i).n=(m:Int)+1:=⟨((h i).n-1).toNat,by omega⟩
    have:=(H.kids i hi h2 m (by omega)).1
    omega
  rw[if_neg hle,if_pos]
  exact allTo_iff.2 fun j hj=>by
   have:=(H.kids i hi h2 j (by omega)).2
   simpa using this
theorem HG.chk {h:Nat→Cl} {len:Nat} (H:HG h len):ChkR h len 0:=by
 refine .inr (.inr ⟨H.ok.few,?_,.inl ⟨H.acy,rfl⟩⟩)
 have: ∀k,k≤len→firstE h len k=0:=by
  intro k
  induction k with
  |zero=>intro _;rfl
  |succ k ih=>
   intro hk;rw[firstE,if_neg (by simpa using ih (by omega))]
   exact H.cell0 (by omega)
 exact this len (Nat.le_refl _)
end Go.Proofs.YtmggaclaoefdaabGreat
