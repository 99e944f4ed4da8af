/- Part of the proof. Part of the proof. Part of the proof. Part of the proof. Part of the proof. -/
import Derived.Test.YtmggaclaoefdaabGreatSq0
import Derived.BigQuiet
import Derived.Laws.Shifts
import Derived.Laws.ShiftsVar
import Derived.Laws.ShiftsVarLaws
import Derived.Test.YtmggaclaoefdaabGreatGBO
import Derived.Shelf.Bits.Mul64
import Derived.Deep.RegionLaw
import Derived.Laws.CopyRow
import Derived.Laws.CopyOwn
namespace Go.Proofs.YtmggaclaoefdaabGreat
open Go.RowKit Go.Shelf
set_option linter.unusedVariables false
set_option linter.unusedSimpArgs false
attribute [local go_sem] Oper.semAt_some
theorem lost11_any {m:Mi} {mb ab:Nat} {at_:Int} (i:Nat) (w:World) (hi:i<m.cl) (hk:KRow w m.ca i (m.c i)) (hb:w.heap[mb]?=some (.cells m.cells 31)) (hab:w.cell? ⟨ab,0,none⟩=some (iV at_)):
 Calls Tryz.prog 69 #[iV (i:Int),.pointer (some ⟨mb,0,none⟩),.pointer (some ⟨ab,0,none⟩)] w fun e w'=>e=.returned (.bool (decide ((m.c i).hp>at_)))∧Below w.heap.size w w':=by
 obtain ⟨⟨_,_,_,x3,_⟩,_⟩:=Mi.get hb;obtain ⟨b,o,hga,c0,c1,c2,c3,c4⟩:=hk;rw[hga]at x3;have hiI:(i:Int)<(m.cl:Int):=by omega
 have HB:Hid (∀n,Below w.heap.size w (w.drewN n)):=fun n=>below_dn (Below.refl _ _) n
 clear hb hga c0 c1 c3 c4
 go_enter Tryz.func69,Tryz.ntmps69
 go_wp2_with fail
 go_quiet (fail)
 go_wp2_with fail;go_ret;exact ⟨by first|rfl|simp,HB.o _⟩
set_option maxRecDepth 100000 in
set_option maxHeartbeats 2000000 in
theorem srch_any {m:Mi} {mb ab:Nat} {at_:Int} (w:World) (hm:MIn w m) (hb:w.heap[mb]?=some (.cells m.cells 31)) (hab:w.cell? ⟨ab,0,none⟩=some (iV at_)):
 Calls Tryz.prog 68 #[iV (m.cl:Int),.func (.func 69) #[] #[.pointer (some ⟨mb,0,none⟩),.pointer (some ⟨ab,0,none⟩)]] w fun e w'=>∃r:Nat,e=.returned (iV (r:Int))∧r≤m.cl∧(0<r→(m.c (r-1)).hp≤at_)∧(r<m.cl→at_<(m.c r).hp)∧Below w.heap.size w w':=by
 have HM:Hid (∀W,Below w.heap.size w W→MIn W m):=fun W hW=>hm.below hW
 obtain ⟨hbg,hbc,hbt,hbq⟩:=hm.big;have HX:Hid (∀W,Below w.heap.size w W→W.heap[mb]?=some (.cells m.cells 31)∧W.cell? ⟨ab,0,none⟩=some (iV at_)):=fun W hW=>⟨(hW.block _ (Array.getElem?_eq_some_iff.1 hb).1).trans hb,(hW.cell (p:=⟨ab,0,none⟩) (lt_of_cell hab)).trans hab⟩
 clear hm hb hab
 go_enter Tryz.func68,Tryz.ntmps68
 go_wp2_with fail
 go_loopw [5,6] (fun x y wr=>∃lo hi:Nat,x=iV (lo:Int)∧y=iV (hi:Int)∧lo≤hi∧hi≤m.cl∧(0<lo→(m.c (lo-1)).hp≤at_)∧(hi<m.cl→at_<(m.c hi).hp)∧Below w.heap.size w wr) (fun x y _=>(intOf y).toNat-(intOf x).toNat)
 case atStart=>exact ⟨0,m.cl,rfl,rfl,Nat.zero_le _,Nat.le_refl _,fun h=>absurd h (Nat.lt_irrefl 0),fun h=>absurd h (Nat.lt_irrefl _),Below.refl _ _⟩
 case round=>
  obtain ⟨lo,hi,rfl,rfl,hlh,hhc,h1,h2,hbr⟩:=hrel;have H1:=hid h1;have H2:=hid h2;have HB:=hid hbr;clear h1 h2 hbr
  by_cases hlt:lo<hi
  case neg=>
   have hiI: ¬((lo:Int)<(hi:Int)):=by omega
   obtain rfl:lo=hi:=by omega
   go_wp2_with fail;go_ret;exact ⟨lo,rfl,hhc,H1.o,H2.o,HB.o⟩
  have hiI:(lo:Int)<(hi:Int):=by omega
  obtain ⟨md,hmd⟩: ∃md:Nat,md=(lo+hi) / 2:=⟨_,rfl⟩;have hmI:((lo:Int)+(hi:Int)) / 2=(md:Int):=by omega
  have hml:lo≤md:=by omega
  have hmh:md<hi:=by omega
  have HC:=hid (lost11_any md wr (by omega) ((HM.o wr HB.o).c md (by omega)) (HX.o wr HB.o).1 (HX.o wr HB.o).2)
  have HmI:=hid hmI;have HmlI:Hid (lo≤md∧md<hi∧lo≤hi∧hi≤m.cl):=⟨hml,hmh,hlh,hhc⟩;have hloI:(lo:Int)≤17592186043904:=by omega
  have hhiI:(hi:Int)≤17592186043904:=by omega
  clear hmd hmI hml hmh hlh hhc hlt hbg hbc hbt hbq;go_wp2_with fail;rw[HmI.o];obtain ⟨hml,hmh,hlh,hhc⟩:=HmlI.o;refine HC.o.mono ?_;rintro e w1 ⟨rfl,hb1⟩;have HB1:=hid (HB.o.trans (hb1.mono HB.o.size));clear hb1 HC
  by_cases hp:(m.c md).hp>at_
  case pos=>
   have HP:Hid (md<m.cl→at_<(m.c md).hp):=fun _=>hp
   rw[decide_eq_true hp];clear hp;go_wp2_with fail;go_roundw
   case rel=>exact ⟨lo,md,rfl,rfl,hml,by omega,H1.o,HP.o,HB1.o⟩
   case measure=>simp[intOf];omega
  have HP:Hid (0<md+1→(m.c (md+1-1)).hp≤at_):=fun _=>by rw[Nat.add_sub_cancel];omega
  rw[decide_eq_false hp];clear hp;go_wp2_with fail;go_roundw
  case rel=>exact ⟨md+1,hi,by go_num,rfl,by omega,hhc,HP.o,H2.o,HB1.o⟩
  case measure=>simp[intOf];omega
def LackR (m:Mi) (at_:Int) (c:Ci):Prop:=(∃r,r<m.cl∧c=m.c r∧(m.c r).hp≤at_∧(r+1<m.cl→at_<(m.c (r+1)).hp))∨(c=ciZ∧(0<m.cl→at_<(m.c 0).hp))
set_option maxRecDepth 100000 in
set_option maxHeartbeats 2000000 in
theorem lost1_any {m:Mi} {mb:Nat} (at_:Int) (w:World) (hm:MIn w m) (hb:w.heap[mb]?=some (.cells m.cells 31)):
 Calls Tryz.prog 67 #[iV at_,.pointer (some ⟨mb,0,none⟩)] w fun e w'=>∃c:Ci,e=.returned (.agg c.cells)∧LackR m at_ c∧Below w.heap.size w w':=by
 have hsw:mb<w.heap.size:=(Array.getElem?_eq_some_iff.1 hb).1;have HM:Hid (∀W,Below w.heap.size w W→MIn W m∧W.heap[mb]?=some (.cells m.cells 31)):=fun W hW=>⟨hm.below hW,(hW.block _ hsw).trans hb⟩
 obtain ⟨hbg,hbc,hbt,hbq⟩:=hm.big;clear hm hb;have HA:Hid ((w.alloc (.cells #[iV at_] 3)).heap[w.heap.size]?=some (.cells #[iV at_] 3)):=heap_alloc_new _ _;have HBa:Hid (Below w.heap.size w (w.alloc (.cells #[iV at_] 3))):=(Below.refl _ _).alloc (Nat.le_refl _) _
 go_enter Tryz.func67,Tryz.ntmps67
 have hW:w.alloc (.cells #[iV at_] 3)=w.alloc (.cells #[iV at_] 3):=rfl;generalize hwa:w.alloc (.cells #[iV at_] 3)=wa at*;have hsa:w.heap.size<wa.heap.size:=(Array.getElem?_eq_some_iff.1 HA.o).1;have HL:Hid ((wa.alloc (.cells ciZ.cells 78)).heap[wa.heap.size]?=some (.cells ciZ.cells 78)):=heap_alloc_new _ _;have HBb:Hid (Below wa.heap.size wa (wa.alloc (.cells ciZ.cells 78))):=(Below.refl _ _).alloc (Nat.le_refl _) _;have hW2:wa.alloc (.cells #[iV 0,iV 0,iV 0,iV 0,iV 0] 78)=wa.alloc (.cells ciZ.cells 78):=rfl;generalize wa.alloc (.cells ciZ.cells 78)=wb at*;have HBw:=hid (HBa.o.trans (HBb.o.mono HBa.o.size));have hsb:wa.heap.size<wb.heap.size:=(Array.getElem?_eq_some_iff.1 HL.o).1;have HAb:=hid ((HBb.o.block _ hsa).trans HA.o);have HS:Hid (Calls Tryz.prog 68 #[iV (m.cl:Int),.func (.func 69) #[] #[.pointer (some ⟨mb,0,none⟩),.pointer (some ⟨w.heap.size,0,none⟩)]] wb fun e w'=>∃r:Nat,e=.returned (iV (r:Int))∧r≤m.cl∧(0<r→(m.c (r-1)).hp≤at_)∧(r<m.cl→at_<(m.c r).hp)∧Below wb.heap.size wb w'):=srch_any wb (HM.o wb HBw.o).1 (HM.o wb HBw.o).2 (by have:=HAb.o;simp[World.cell?,this])
 obtain ⟨⟨_,_,_,x3,_⟩,_⟩:=Mi.get (HM.o wb HBw.o).2;have hmf: ∀(fn:Fn) (first cap:Array Value) (w:World),(Instr.makeFunc fn first cap).run Tryz.prog w=.ok (.func fn first cap) w:=fun _ _ _ _=>rfl
 go_wp2_with fail;clear hW hW2 hwa x3;refine HS.o.mono ?_;rintro e w1 ⟨r,rfl,hr,h1,h2,hb1⟩;have HB1:=hid (HBw.o.trans (hb1.mono HBw.o.size));have HL1:=hid ((hb1.block _ hsb).trans HL.o);obtain ⟨⟨z0,z1,z2,z3,z4⟩,zf⟩:=Ci.get HL1.o;have zf0:=zf 0;have zf1:=zf 1;have zf2:=zf 2;have zf3:=zf 3;have zf4:=zf 4;clear HS hb1 zf
 have HFin:Hid (∀c:Ci,LackR m at_ c→Below w.heap.size w (set5 w1 wa.heap.size c)∧(set5 w1 wa.heap.size c).heap[wa.heap.size]?=some (.cells c.cells 78)):=fun c hc=>by
  obtain ⟨hW1,hW2⟩:=set5_blk (r:=c) HL1.o;exact ⟨HB1.o.grown hW2 HB1.o.size (fun k e=>by have:=Option.some.inj e;omega),hW1⟩
 by_cases hr0:r=0
 case pos=>
  subst hr0;have HLk:Hid (LackR m at_ ciZ):=.inr ⟨rfl,h2⟩;clear h1 h2;go_wp2_with fail;obtain ⟨hB',hW'⟩:=HFin.o ciZ HLk.o;obtain ⟨⟨g0,g1,g2,g3,g4⟩,_⟩:=Ci.get hW'
  show bodyPost _ _ _ _ _ (set5 w1 wa.heap.size ciZ)
  generalize set5 w1 wa.heap.size ciZ=W' at*;refine bodyPost_ret (v:=.agg ciZ.cells) ?_ rfl ⟨ciZ,rfl,HLk.o,hB'⟩;simp[results,Tryz.results67,go_sem,g0,g1,g2,g3,g4,Ci.cells]
 obtain ⟨k,rfl⟩: ∃k,r=k+1:=⟨r-1,by omega⟩
 have HLk:Hid (LackR m at_ (m.c k)):=.inl ⟨k,by omega,rfl,by have:=h1 (by omega);rw[Nat.add_sub_cancel]at this;exact this,h2⟩
 obtain ⟨⟨_,_,_,y3,_⟩,_⟩:=Mi.get (HM.o w1 HB1.o).2;obtain ⟨b,o,hga,c0,c1,c2,c3,c4⟩:=(HM.o w1 HB1.o).1.c k (by omega)
 rw[hga]at y3;have hrb:(((k+1:Nat):Int)==0)=false:=by rw[beq_eq_false_iff_ne];omega
 have hk1:((k+1:Nat):Int)-1=(k:Int):=by omega
 have hkI:(k:Int)<(m.cl:Int):=by omega
 clear h1 h2;go_wp2_with fail;obtain ⟨hB',hW'⟩:=HFin.o (m.c k) HLk.o;obtain ⟨⟨g0,g1,g2,g3,g4⟩,_⟩:=Ci.get hW'
 show bodyPost _ _ _ _ _ (set5 w1 wa.heap.size (m.c k))
 generalize set5 w1 wa.heap.size (m.c k)=W' at*;refine bodyPost_ret (v:=.agg (m.c k).cells) ?_ rfl ⟨m.c k,rfl,HLk.o,hB'⟩;simp[results,Tryz.results67,go_sem,g0,g1,g2,g3,g4,Ci.cells]
end Go.Proofs.YtmggaclaoefdaabGreat

namespace Go.Proofs.YtmggaclaoefdaabGreat
open Go.RowKit Go.Shelf
set_option linter.unusedVariables false
set_option linter.unusedSimpArgs false
attribute [local go_sem] Oper.semAt_some
set_option maxHeartbeats 1000000 in
theorem mul64_one (y:Nat) (hy:y<4294967296) (w:World):
 Calls Tryz.prog 159 #[.int .u64 1,.int .u64 y] w fun e w'=>e=.returned (.tuple #[.int .u64 0,.int .u64 y])∧w'=w:=by
 have hm:bits .and .u64 (y:Int) 4294967295=(y:Int):=by rw[Mul64.maskN y (by omega),Nat.mod_eq_of_lt hy]
 have h1:bits .and .u64 1 4294967295=1:=by decide
 have h0:bits .and .u64 0 4294967295=0:=by decide
 have hd:(y:Int) / 4294967296=0:=by omega
 have hw:=Mul64.wrapN y (by omega)
 have hw0:IntKind.wrap .u64 0=0:=by decide
 go_enter Tryz.func159,Tryz.ntmps159
 go_wp2
 go_ret2
 exact ⟨rfl,rfl⟩
theorem mul_one (y:Nat) (hy:y<4294967296) (w:World):
 Calls Tryz.prog 133 #[.int .u64 1,.int .u64 y] w fun e w'=>e=.returned (.tuple #[.int .u64 0,.int .u64 y])∧w'=w:=by
 have c64:=mul64_one y hy w
 go_enter Tryz.func133,Tryz.ntmps133
 go_wp2_with (go_at_call 159;refine c64.mono ?_;rintro e w' ⟨rfl,hw⟩;rw[hw])
 go_ret2
 exact ⟨rfl,rfl⟩
def furI (c:Cl) (at_:Int):Int:=if c.k=2 then at_+c.n else c.n
theorem furthest_any (c:Cl) (at_:Int) (w:World) (h:c.k=2→ -9223372036854775808≤at_+c.n∧at_+c.n<9223372036854775808):
 Calls Tryz.prog 71 #[.agg #[iV c.k,iV c.n,.string c.nm],iV at_] w fun e w'=>e=.returned (iV (furI c at_))∧Below w.heap.size w w':=by
 have HBa:Hid (Below w.heap.size w (w.alloc (.cells #[iV c.k,iV c.n,.string c.nm] 81))):=(Below.refl _ _).alloc (Nat.le_refl _) _;obtain ⟨a0,a1,a2,_⟩:=block_cells (heap_alloc_new w (.cells #[iV c.k,iV c.n,.string c.nm] 81))
 go_enter Tryz.func71,Tryz.ntmps71
 by_cases hk:c.k=2
 ·have hkb:=beq_iff_eq.2 hk
  have HE:Hid (furI c at_=at_+c.n):=if_pos hk;obtain ⟨h1,h2⟩:=h hk;clear hk h;go_wp2_with fail;go_ret;exact ⟨by rw[HE.o];go_num,HBa.o⟩
 ·have hkb:=beq_eq_false_iff_ne.2 hk
  have HE:Hid (furI c at_=c.n):=if_neg hk;clear hk h;go_wp2_with fail;go_ret;exact ⟨by rw[HE.o];rfl,HBa.o⟩
end Go.Proofs.YtmggaclaoefdaabGreat

namespace Go.Proofs.YtmggaclaoefdaabGreat
open Go.RowKit Go.Shelf
set_option linter.unusedVariables false
set_option linter.unusedSimpArgs false
attribute [local go_sem] Oper.semAt_some
def repL (n k:Nat):List Value:=List.replicate k (iV (-1))++List.replicate (n-k) (iV 0)
theorem repL_length {n k:Nat} (h:k≤n):(repL n k).length=n:=by simp[repL];omega
theorem repL_step {n k c:Nat} (h:k+c≤n):(repL n k).take k++List.replicate c (iV (-1))++(repL n k).drop (k+c)=repL n (k+c):=by
 have h1:(repL n k).take k=List.replicate k (iV (-1)):=by
  unfold repL;rw[List.take_append_of_le_length (by simp),List.take_of_length_le (by simp)]
 have h2:(repL n k).drop (k+c)=List.replicate (n-(k+c)) (iV 0):=by
  unfold repL;rw[List.drop_append];simp;omega
 rw[h1,h2,List.replicate_append_replicate]
 rfl
theorem repL_all (n:Nat):repL n n=List.replicate n (iV (-1)):=by simp[repL]
theorem repL_none (n:Nat):repL n 0=List.replicate n (iV 0):=by simp[repL]
theorem repL_get {n k j:Nat} (h:j<k):(repL n k)[j]?=some (iV (-1)):=by
 unfold repL;rw[List.getElem?_append_left (by simpa using h)]
 simp[h]
theorem step_copy {P:Program} {ops:Array Oper} {o:Oper} {a:Act} {w:World} {K:Act→World→Prop} {Q:Exit→Act→World→Prop} {E:Prop}
 (hg:o.guard=none) (s x:Operand) (t:TypeId) (hop:o.op=Op.call { callee:=Callee.builtin Builtin.copy,args:= #[s,x],argTypes:= #[t,t]})
 (v u v':Value) (w':World) (hs:a.eval s=v) (hx:a.eval x=u) (hr:(Builtin.copy_ #[t,t] o.type #[v,u]).run P w=.ok v' w') (hK:K (a.put o.dst v') w'):
 if Region.wanted o (yielded ops a.tmps)=true then Oper.wp P o a w K Q else E:=by
 have hw:Region.wanted o (yielded ops a.tmps)=true:=by simp[Region.wanted,hg]
 rw[if_pos hw];unfold Oper.wp;simp[execOp,hop,resolve,invoke,builtin,hs,hx,hr,Result.andThen];exact hK
theorem copy_rep {W:World} {g n k l c:Nat} {a:Addr} {sc:Nat} (hk:k+c≤n) (hl:c=Nat.min l (n-k)) (hg:W.heap[g]?=some (.cells (repL n k).toArray 3)) (hs: ∀j,j<c→W.cell? (a.add j)=some (iV (-1))):
 (Builtin.copy_ #[28,28] 3 #[.slice (some ⟨g,k,none⟩) (n-k) (n-k),.slice (some a) l sc]).run Tryz.prog W=.ok (goInt c) (W.setRow g (repL n (k+c)).toArray):=by
 obtain ⟨j0,hj,hj0,hj1,hj2⟩:=info_parts Tryz.info3
 have:=run_copy_row (P:=Tryz.prog) W 28 28 3 3 g k (n-k) (n-k) a l sc (repL n k).toArray 3 (List.replicate c (iV (-1))) Tryz.underlying28 (by rw[hj];simp[hj1]) hg (by simp[hl]) (fun j v hv=>by
  rw[List.getElem?_replicate]at hv
  by_cases e:j<c
  ·rw[if_pos e]at hv
   rw[hs j e,←hv]
  ·rw[if_neg e]at hv;cases hv) (by simp[repL_length (Nat.le_trans (Nat.le_add_right k c) hk)];omega) (by intro v hv;rw[(List.mem_replicate.1 hv).2];rfl)
 rw[this];simp only[List.length_replicate];rw[repL_step hk]
set_option maxRecDepth 100000 in
set_option maxHeartbeats 4000000 in
theorem repeat_any (n b:Nat) (hn:n≤400000) (w:World) (hb:w.cell? ⟨b,0,none⟩=some (iV (-1))):
 Calls Tryz.prog 104 #[.slice (some ⟨b,0,none⟩) 1 1,iV (n:Int)] w fun e w'=>∃g,e=.returned (.slice (some ⟨g,0,none⟩) n n)∧w.heap.size≤g∧w'.heap[g]?=some (.cells (repL n n).toArray 3)∧Below w.heap.size w w':=by
 have HMu:Hid (∀W,Calls Tryz.prog 133 #[.int .u64 1,.int .u64 n] W fun e w'=>e=.returned (.tuple #[.int .u64 0,.int .u64 n])∧w'=W):=fun W=>mul_one n (by omega) W
 have HBb:=hid hb;obtain ⟨j0,hj,hj0,hj1,hj2⟩:=info_parts Tryz.info3;clear hb
 go_enter Tryz.func104,Tryz.ntmps104
 go_wp2_with fail;refine (HMu.o _).mono ?_;rintro e w0 ⟨rfl,hw⟩;have hw':=hw.symm;clear hw;subst hw';go_wp2_with (at_make;refine wpList_make_full _ rfl _ _ 28 rfl w.heap.size 3 j0 (iV 0) 1 Tryz.underlying28 hj hj0 hj1 _ _ _ _ n rfl rfl rfl rfl (by rw[hj2];omega) (by unfold maxLen;omega) (Nat.le_refl _) ?_;intro w1 ho1 hg1;rw[made1 _ rfl]at ho1;have HO1:Hid (w1.ownsRow w.heap.size 3 1 (.slice (some ⟨w.heap.size,0,none⟩) n n) n ((List.range n).map fun _:Nat=>iV 0)):=ho1;have HB1:Hid (Below w.heap.size w w1):=⟨hg1.os,hg1.tape,hg1.output,hg1.size,fun k hk=>hg1.block k hk (by simp)⟩;clear ho1 hg1)
 have HG1:Hid (w1.heap[w.heap.size]?=some (.cells (repL n 0).toArray 3)):=by
  rw[Hid]
  rcases HO1.o.2 with ⟨h',_⟩| ⟨g',cap',cur,h',_,hg',_,_,hsz,htk⟩
  ·cases h'
  ·cases h'
   rw[hg',repL_none]
   have e1:cur.toList=List.replicate n (iV 0):=by
    rw[List.take_of_length_le (by simp[hsz])]at htk
    rw[htk,List.map_const'];simp
   rw[←e1]
 have hgs:w.heap.size<w1.heap.size:=(Array.getElem?_eq_some_iff.1 HG1.o).1;have hb1:=(HB1.o.cell (p:=⟨b,0,none⟩) (lt_of_cell HBb.o)).trans HBb.o;obtain ⟨c,hc⟩: ∃c,c=Nat.min 1 n:=⟨_,rfl⟩;have hcn:c≤n:=by rw[hc];exact Nat.min_le_right _ _
 have hc0:0<n→0<c:=fun h=>by rw[hc];exact Nat.le_min.2 ⟨Nat.le_refl _,h⟩
 have hcp:(Builtin.copy_ #[28,28] 3 #[.slice (some ⟨w.heap.size,0,none⟩) n n,.slice (some ⟨b,0,none⟩) 1 1]).run Tryz.prog w1=.ok (iV (c:Int)) (w1.setRow w.heap.size (repL n c).toArray):=by
  have:=copy_rep (W:=w1) (g:=w.heap.size) (n:=n) (k:=0) (l:=1) (c:=c) (a:=⟨b,0,none⟩) (sc:=1) (by omega) hc HG1.o (fun j hj=>by
   have h9:c≤1:=by rw[hc];exact Nat.min_le_left _ _
   have e0:j=0:=by omega
   subst e0;exact hb1)
  rw[Nat.sub_zero,Nat.zero_add]at this;exact this
 have HG2:Hid ((w1.setRow w.heap.size (repL n c).toArray).heap[w.heap.size]?=some (.cells (repL n c).toArray 3)):=setRow_heap w1 _ _ _ _ _ HG1.o;have HB2:Hid (Below w.heap.size w (w1.setRow w.heap.size (repL n c).toArray)):=below_setRow HB1.o (Nat.le_refl _) _;have HC:=hid hc0;clear hc hc0 hb1;go_wp2_with fail;rw[hcp];generalize w1.setRow w.heap.size (repL n c).toArray=w2 at*;clear hcp;go_wp2_with fail
 go_loopw [8] (fun x wr=>∃k:Nat,k≤n∧x=iV (k:Int)∧(0<n→0<k)∧wr.heap[w.heap.size]?=some (.cells (repL n k).toArray 3)∧Below w.heap.size w wr) (fun x _=>n-(intOf x).toNat)
 case atStart=>exact ⟨c,hcn,rfl,HC.o,HG2.o,HB2.o⟩
 case round=>
  obtain ⟨k,hk,rfl,hk0,hg,hb⟩:=hrel;have HGr:=hid hg;have HBr:=hid hb;clear hg hb
  by_cases hlt:k<n
  case neg=>
   have hI: ¬((k:Int)<(n:Int)):=by omega
   obtain rfl:k=n:=by omega
   go_wp2_with fail;go_ret;exact ⟨w.heap.size,rfl,Nat.le_refl _,HGr.o,HBr.o⟩
  have hI:(k:Int)<(n:Int):=by omega
  have hkp:0<k:=hk0 (by omega)
  obtain ⟨d,hd⟩: ∃d,d=Nat.min k (n-k):=⟨_,rfl⟩;have hd1:d≤n-k:=by rw[hd];exact Nat.min_le_right _ _
  have hd2:d≤k:=by rw[hd];exact Nat.min_le_left _ _
  have hd0:0<d:=by rw[hd];exact Nat.le_min.2 ⟨hkp,by omega⟩
  have HCp:Hid (∀W,W.heap=wr.heap→(Builtin.copy_ #[28,28] 3 #[.slice (some ⟨w.heap.size,k,none⟩) (n-k) (n-k),.slice (some ⟨w.heap.size,0,none⟩) k n]).run Tryz.prog W=.ok (iV (d:Int)) (W.setRow w.heap.size (repL n (k+d)).toArray)):=fun W hW=>by
   have hgW:W.heap[w.heap.size]?=some (.cells (repL n k).toArray 3):=by rw[hW];exact HGr.o
   refine copy_rep (W:=W) (g:=w.heap.size) (n:=n) (k:=k) (l:=k) (c:=d) (a:=⟨w.heap.size,0,none⟩) (sc:=n) (by omega) hd hgW (fun j hj=>?_)
   have hadd:(⟨w.heap.size,0,none⟩:Addr).add j=⟨w.heap.size,j,none⟩:=by unfold Addr.add;split <;> simp_all
   rw[hadd];have:=repL_get (n:=n) (show j<k by omega)
   simp[World.cell?,hgW,this]
  have HFin:Hid (∀W,Below wr.heap.size wr W→W.heap=wr.heap→(W.setRow w.heap.size (repL n (k+d)).toArray).heap[w.heap.size]?=some (.cells (repL n (k+d)).toArray 3)∧Below w.heap.size w (W.setRow w.heap.size (repL n (k+d)).toArray)):=fun W hB hW=>⟨setRow_heap W _ _ _ _ _ (by rw[hW];exact HGr.o),below_setRow (HBr.o.trans (hB.mono HBr.o.size)) (Nat.le_refl _) _⟩
  have hnk: ¬n=k:=by omega
  have HWr:Hid (IntKind.i64.wrap ((k:Int)+(d:Int))=((k+d:Nat):Int)):=by rw[Hid];simp[IntKind.wrap,IntKind.bits,IntKind.signed];omega
  clear hd;go_wp2_with fail
  go_region_law (refine step_copy rfl (.tmp 41) (.tmp 44) 28 rfl _ _ _ _ (by simp[Act.eval,Act.put,hnk]) (by simp[Act.eval,Act.put,hnk]) (HCp.o _ rfl) ?_)
  all_goals
   go_wp2_with fail;refine ⟨?_,?measure⟩
   ·(repeat apply Exists.intro)
    exact ⟨⟨k+d,by omega,by rw[←HWr.o],fun _=>by omega,(HFin.o wr.drew (Below.drew (Below.refl _ _)) rfl).1,(HFin.o wr.drew (Below.drew (Below.refl _ _)) rfl).2⟩,rfl⟩
   case measure=>
    show n-(IntKind.i64.wrap ((k:Int)+(d:Int))).toNat<n-((k:Int)).toNat
    rw[HWr.o];omega
end Go.Proofs.YtmggaclaoefdaabGreat

namespace Go.Proofs.YtmggaclaoefdaabGreat
open Go.RowKit Go.Shelf
set_option linter.unusedVariables false
set_option linter.unusedSimpArgs false
attribute [local go_sem] Oper.semAt_some
def lastI (m:Mi):Nat→Nat→Int
 |0,_=> -1
 |k+1,j=>if m.t k=(j:Int)then (k:Int)else lastI m k j
def lbL (m:Mi) (k:Nat):List Value:=(List.range m.hl).map fun j=>iV (lastI m k j)
theorem lbL_zero (m:Mi):lbL m 0=repL m.hl m.hl:=by
 rw[repL_all];unfold lbL;rw[show (fun j:Nat=>iV (lastI m 0 j))=fun _:Nat=>iV (-1)from rfl,List.map_const']
 simp
theorem lbL_set {m:Mi} {k t:Nat} (ht:m.t k=(t:Int)):(lbL m k).set t (iV (k:Int))=lbL m (k+1):=by
 apply List.ext_getElem?
 intro j;rw[List.getElem?_set];unfold lbL
 by_cases e:t=j
 ·subst e
  by_cases hl:t<m.hl
  ·simp[hl,lastI,ht]
  ·simp[hl]
 ·rw[if_neg e]
  by_cases hl:j<m.hl
  ·simp[hl,lastI,ht,show¬((t:Int)=(j:Int))from by omega]
  ·simp[hl]
theorem lbL_get {m:Mi} {k j:Nat} (h:j<m.hl):(lbL m k)[j]?=some (iV (lastI m k j)):=by simp[lbL,h]
set_option maxRecDepth 100000 in
set_option maxHeartbeats 4000000 in
theorem lastBound_any {m:Mi} (w:World) (hm:MIn w m) (hl:m.hl≤400000) (ht: ∀i,i<m.tl→0≤m.t i∧m.t i<m.hl):
 Calls Tryz.prog 70 #[.agg m.cells] w fun e w'=>∃g,e=.returned (.slice (some ⟨g,0,none⟩) m.hl m.hl)∧w.heap.size≤g∧w'.heap[g]?=some (.cells (lbL m m.tl).toArray 3)∧Below w.heap.size w w':=by
 have HX:Hid ((w.alloc (.cells m.cells 31)).heap[w.heap.size]?=some (.cells m.cells 31)):=heap_alloc_new _ _;have HBa:Hid (Below w.heap.size w (w.alloc (.cells m.cells 31))):=(Below.refl _ _).alloc (Nat.le_refl _) _;have HM:Hid (∀W,Below w.heap.size w W→MIn W m):=fun W hW=>hm.below hW
 have HT:=hid ht;obtain ⟨hbg,hbc,hbt,hbq⟩:=hm.big;have hsz:w.heap.size<(w.alloc (.cells m.cells 31)).heap.size:=(Array.getElem?_eq_some_iff.1 HX.o).1;clear hm ht
 go_enter Tryz.func70,Tryz.ntmps70
 rw[show Value.agg m.cells=.agg #[.slice m.ha m.hl m.hc,.slice m.ga m.gl m.gc,iV m.first,.slice m.ca m.cl m.cc,.slice m.ta m.tl m.tc,.slice m.qa m.ql m.qc,iV m.st,iV m.fin,.slice m.aa m.al m.ac]from rfl]
 have hW:w.alloc (.cells #[.slice m.ha m.hl m.hc,.slice m.ga m.gl m.gc,iV m.first,.slice m.ca m.cl m.cc,.slice m.ta m.tl m.tc,.slice m.qa m.ql m.qc,iV m.st,iV m.fin,.slice m.aa m.al m.ac] 31)=w.alloc (.cells m.cells 31):=rfl;generalize w.alloc (.cells m.cells 31)=wa at*;have HL:Hid ((wa.alloc (.cells #[iV (-1)] 3)).heap[wa.heap.size]?=some (.cells #[iV (-1)] 3)):=heap_alloc_new _ _;have HBb:Hid (Below wa.heap.size wa (wa.alloc (.cells #[iV (-1)] 3))):=(Below.refl _ _).alloc (Nat.le_refl _) _;have hW2:wa.alloc (.cells #[iV (-1)] 3)=wa.alloc (.cells #[iV (-1)] 3):=rfl;generalize hwb:wa.alloc (.cells #[iV (-1)] 3)=wb at*;have HXb:=hid ((HBb.o.block _ (by omega)).trans HX.o)
 have HBw:=hid (HBa.o.trans (HBb.o.mono HBa.o.size));have hsb:wa.heap.size<wb.heap.size:=(Array.getElem?_eq_some_iff.1 HL.o).1;have HR:Hid (Calls Tryz.prog 104 #[.slice (some ⟨wa.heap.size,0,none⟩) 1 1,iV (m.hl:Int)] wb fun e w'=>∃g,e=.returned (.slice (some ⟨g,0,none⟩) m.hl m.hl)∧wb.heap.size≤g∧w'.heap[g]?=some (.cells (repL m.hl m.hl).toArray 3)∧Below wb.heap.size wb w'):=repeat_any m.hl wa.heap.size hl wb (by have:=HL.o;simp[World.cell?,this])
 obtain ⟨⟨x0,_,_,_,_⟩,_⟩:=Mi.get HXb.o;go_wp2_with fail;clear hW hW2 hwb x0;refine HR.o.mono ?_;rintro e w1 ⟨g,rfl,hgs,hg1,hb1⟩;have HB1:=hid (HBw.o.trans (hb1.mono HBw.o.size));have HX1:=hid ((hb1.block _ (by omega)).trans HXb.o)
 have HG1:Hid (w1.heap[g]?=some (.cells (lbL m 0).toArray 3)):=by rw[Hid,lbL_zero];exact hg1
 obtain ⟨⟨_,_,_,_,x4⟩,_⟩:=Mi.get HX1.o;clear hg1 hb1 HR;go_wp2_with fail;clear x4
 go_loopw [14] (fun x wr=>∃k:Nat,k≤m.tl∧x=iV (k:Int)∧wr.heap[g]?=some (.cells (lbL m k).toArray 3)∧Below w.heap.size w wr) (fun x _=>m.tl-(intOf x).toNat)
 case atStart=>exact ⟨0,Nat.zero_le _,rfl,HG1.o,HB1.o⟩
 case round=>
  obtain ⟨k,hk,rfl,hg,hb⟩:=hrel;have HGr:=hid hg;have HBr:=hid hb;clear hg hb
  by_cases hlt:k<m.tl
  case neg=>
   have hI: ¬((k:Int)<(m.tl:Int)):=by omega
   obtain rfl:k=m.tl:=by omega
   go_wp2_with fail;go_ret;exact ⟨g,rfl,by omega,HGr.o,HBr.o⟩
  have hI:(k:Int)<(m.tl:Int):=by omega
  obtain ⟨b,o,hta,c0⟩:=(HM.o wr HBr.o).t k hlt;obtain ⟨h1,h2⟩:=HT.o k hlt;obtain ⟨t,ht⟩: ∃t:Nat,m.t k=(t:Int):=⟨(m.t k).toNat,by omega⟩
  rw[hta];rw[ht]at c0;have htI:(t:Int)<(m.hl:Int):=by omega
  have hcl:wr.cell? ⟨g,t,none⟩=some (iV (lastI m k t)):=by
   have:=lbL_get (m:=m) (k:=k) (j:=t) (by omega)
   simp[World.cell?,HGr.o,this]
  have hfr:wr.frozen? ⟨g,t,none⟩=false:=by simp[World.frozen?,HGr.o]
  have HFin:Hid ((wr.setCell ⟨g,t,none⟩ (iV (k:Int))).heap[g]?=some (.cells (lbL m (k+1)).toArray 3)∧Below w.heap.size w (wr.setCell ⟨g,t,none⟩ (iV (k:Int)))):=by
   refine ⟨?_,HBr.o.grown (grown_set g t _) HBr.o.size (fun q e=>by have:=Option.some.inj e;omega)⟩
   simp only[World.setCell,Array.getElem?_modify];simp only[HGr.o];rw[←lbL_set ht];simp
  clear h1 h2;go_wp2_with fail;go_roundw
  case rel=>exact ⟨k+1,by omega,by go_num,HFin.o.1,HFin.o.2⟩
  case measure=>simp[intOf];omega
end Go.Proofs.YtmggaclaoefdaabGreat

namespace Go.Proofs.YtmggaclaoefdaabGreat
open Go.RowKit Go.Shelf
set_option linter.unusedVariables false
set_option linter.unusedSimpArgs false
attribute [local go_sem] Oper.semAt_some
def LG (m:Mi) (i:Nat):Prop:=∃k,k<m.cl∧(m.c k).hp≤(m.g i).at_∧(i:Int)<(m.c k).gs
def LT (m:Mi) (i:Nat):Prop:=∃k,k<m.cl∧(m.c k).hp≤m.t i∧(i:Int)<(m.c k).tr
def LQ (m:Mi) (i:Nat):Prop:=∃k,k<m.cl∧(m.c k).hp≤m.q i
def LH (m:Mi) (j:Nat):Prop:=∃k,k<m.cl∧(m.c k).hp≤furI (m.h j) j∧(j:Int)<(m.c k).hp∧lastI m m.tl j<(m.c k).tr
def LostP (m:Mi):Prop:=(∃i,i<m.gl∧LG m i)∨(∃i,i<m.tl∧LT m i)∨(∃i,i<m.ql∧LQ m i)∨(∃j,j<m.hl∧LH m j)
theorem GrwP.up {m:Mi} {n:Int} (h:GrwP m n): ∀{j k:Nat},j≤k→k<m.cl→(m.c j).hp≤(m.c k).hp∧(m.c j).tr≤(m.c k).tr∧(m.c j).gs≤(m.c k).gs:=by
 intro j k
 induction k with
 |zero=>intro hj _;obtain rfl:j=0:=by omega
        omega
 |succ k ih=>
  intro hj hk
  by_cases e:j=k+1
  ·subst e;omega
  ·have h1:=ih (by omega) (by omega)
   have h2:=(h (k+1) hk);have a:=h2.h.1;have b:=h2.t.1;have c:=h2.g.1;simp only[prevC]at a b c;omega
theorem LackR.of {m:Mi} {n at_:Int} {c:Ci} (h:LackR m at_ c) (hg:GrwP m n):(c=ciZ∧∀k,k<m.cl→at_<(m.c k).hp)∨∃r,r<m.cl∧c=m.c r∧(m.c r).hp≤at_∧∀k,k<m.cl→(m.c k).hp≤at_→k≤r:=by
 rcases h with ⟨r,h1,h2,h3,h4⟩| ⟨h1,h2⟩
 ·refine .inr ⟨r,h1,h2,h3,fun k hk hle=>?_⟩
  by_cases e:k≤r
  ·exact e
  ·have:=h4 (by omega)
   have:=(hg.up (show r+1≤k by omega) hk).1
   omega
 ·refine .inl ⟨h1,fun k hk=>?_⟩
  have:=h2 (by omega)
  have:=(hg.up (Nat.zero_le k) hk).1;omega
theorem lack_g {m:Mi} {n at_:Int} {c:Ci} (h:LackR m at_ c) (hg:GrwP m n) (i:Nat):(i:Int)<c.gs↔∃k,k<m.cl∧(m.c k).hp≤at_∧(i:Int)<(m.c k).gs:=by
 rcases h.of hg with ⟨rfl,h1⟩| ⟨r,hr,rfl,h1,h2⟩
 ·refine ⟨fun e=>by simp only[ciZ]at e;omega,fun⟨k,hk,hle,_⟩=>by have:=h1 k hk;omega⟩
 ·refine ⟨fun e=>⟨r,hr,h1,e⟩,fun⟨k,hk,hle,e⟩=>?_⟩
  have:=(hg.up (h2 k hk hle) hr).2.2;omega
theorem lack_t {m:Mi} {n at_:Int} {c:Ci} (h:LackR m at_ c) (hg:GrwP m n) (i:Nat):(i:Int)<c.tr↔∃k,k<m.cl∧(m.c k).hp≤at_∧(i:Int)<(m.c k).tr:=by
 rcases h.of hg with ⟨rfl,h1⟩| ⟨r,hr,rfl,h1,h2⟩
 ·refine ⟨fun e=>by simp only[ciZ]at e;omega,fun⟨k,hk,hle,_⟩=>by have:=h1 k hk;omega⟩
 ·refine ⟨fun e=>⟨r,hr,h1,e⟩,fun⟨k,hk,hle,e⟩=>?_⟩
  have:=(hg.up (h2 k hk hle) hr).2.1;omega
theorem lack_h {m:Mi} {n at_ l:Int} {c:Ci} (h:LackR m at_ c) (hg:GrwP m n) (j:Nat):((j:Int)<c.hp∧l<c.tr)↔∃k,k<m.cl∧(m.c k).hp≤at_∧(j:Int)<(m.c k).hp∧l<(m.c k).tr:=by
 rcases h.of hg with ⟨rfl,h1⟩| ⟨r,hr,rfl,h1,h2⟩
 ·refine ⟨fun e=>by simp only[ciZ]at e;omega,fun⟨k,hk,hle,_⟩=>by have:=h1 k hk;omega⟩
 ·refine ⟨fun e=>⟨r,hr,h1,e⟩,fun⟨k,hk,hle,e⟩=>?_⟩
  have:=hg.up (h2 k hk hle) hr;omega
theorem lq_iff {m:Mi} {n:Int} (hg:GrwP m n) (i:Nat):LQ m i↔0<m.cl∧(m.c 0).hp≤m.q i:=by
 refine ⟨fun ⟨k,hk,h⟩=>⟨by omega,?_⟩,fun⟨h0,h⟩=>⟨0,h0,h⟩⟩
 have:=(hg.up (Nat.zero_le k) hk).1;omega
set_option maxRecDepth 100000 in
set_option maxHeartbeats 8000000 in
theorem lost_any {m:Mi} {n:Int} (w:World) (hm:MIn w m) (hl:m.hl≤400000) (ht: ∀i,i<m.tl→0≤m.t i∧m.t i<m.hl) (hg:GrwP m n) (hf: ∀i,i<m.hl→(m.h i).k=2→0≤(m.h i).n∧(m.h i).n≤400000):
 Calls Tryz.prog 36 #[.agg m.cells] w (BR (LostP m) w):=by
 have HX:Hid ((w.alloc (.cells m.cells 31)).heap[w.heap.size]?=some (.cells m.cells 31)):=heap_alloc_new _ _;have HBa:Hid (Below w.heap.size w (w.alloc (.cells m.cells 31))):=(Below.refl _ _).alloc (Nat.le_refl _) _;have HM:Hid (∀W,Below w.heap.size w W→MIn W m):=fun W hW=>hm.below hW
 have HT:=hid ht;have HGw:=hid hg;have HF:=hid hf;obtain ⟨hbg,hbc,hbt,hbq⟩:=hm.big;have hsz:w.heap.size<(w.alloc (.cells m.cells 31)).heap.size:=(Array.getElem?_eq_some_iff.1 HX.o).1;clear hm ht hg hf
 go_enter Tryz.func36,Tryz.ntmps36
 rw[show Value.agg m.cells=.agg #[.slice m.ha m.hl m.hc,.slice m.ga m.gl m.gc,iV m.first,.slice m.ca m.cl m.cc,.slice m.ta m.tl m.tc,.slice m.qa m.ql m.qc,iV m.st,iV m.fin,.slice m.aa m.al m.ac]from rfl]
 have hW:w.alloc (.cells #[.slice m.ha m.hl m.hc,.slice m.ga m.gl m.gc,iV m.first,.slice m.ca m.cl m.cc,.slice m.ta m.tl m.tc,.slice m.qa m.ql m.qc,iV m.st,iV m.fin,.slice m.aa m.al m.ac] 31)=w.alloc (.cells m.cells 31):=rfl;generalize w.alloc (.cells m.cells 31)=wa at*;have HXX:Hid (∀W,Below wa.heap.size wa W→W.heap[w.heap.size]?=some (.cells m.cells 31)∧MIn W m∧Below w.heap.size w W):=fun W hW=>⟨(hW.block _ hsz).trans HX.o,HM.o W (HBa.o.trans (hW.mono HBa.o.size)),HBa.o.trans (hW.mono HBa.o.size)⟩
 have HLa:Hid (∀(at_:Int) (W:World),Below wa.heap.size wa W→Calls Tryz.prog 67 #[iV at_,.pointer (some ⟨w.heap.size,0,none⟩)] W fun e w'=>∃c:Ci,e=.returned (.agg c.cells)∧LackR m at_ c∧Below W.heap.size W w'):=fun at_ W hW=>lost1_any at_ W (HXX.o W hW).2.1 (HXX.o W hW).1
 obtain ⟨⟨_,x1,_,_,_⟩,_⟩:=Mi.get HX.o;have hmf: ∀(fn:Fn) (first cap:Array Value) (w:World),(Instr.makeFunc fn first cap).run Tryz.prog w=.ok (.func fn first cap) w:=fun _ _ _ _=>rfl
 go_wp2_with fail;clear hW x1
 go_loopw [18] (fun x wr=>∃i:Nat,i≤m.gl∧x=iV (i:Int)∧(∀j,j<i→¬LG m j)∧Below wa.heap.size wa wr) (fun x _=>m.gl-(intOf x).toNat)
 case atStart=>exact ⟨0,Nat.zero_le _,rfl,fun j hj=>absurd hj (Nat.not_lt_zero j),Below.refl _ _⟩
 obtain ⟨i,hi,rfl,hk,hb⟩:=hrel;have HK1:=hid hk;have HB:=hid hb;clear hk hb
 by_cases hil:i<m.gl
 case pos=>
  have hiI:(i:Int)<(m.gl:Int):=by omega
  obtain ⟨b,o,hga,c0,c1,c2⟩:=(HXX.o wr HB.o).2.1.g i hil;rw[hga];have HBg:Hid (Below wa.heap.size wa (wr.alloc (.cells #[iV (m.g i).at_,iV (m.g i).cut,iV (m.g i).nx] 76))):=HB.o.trans (((Below.refl _ _).alloc (Nat.le_refl _) _).mono HB.o.size);obtain ⟨a0,a1,a2,_⟩:=block_cells (heap_alloc_new wr (.cells #[iV (m.g i).at_,iV (m.g i).cut,iV (m.g i).nx] 76));go_wp2_with fail;refine (HLa.o (m.g i).at_ _ HBg.o).mono ?_;rintro e w1 ⟨c,rfl,hlk,hb1⟩;have HB1:=hid (HBg.o.trans (hb1.mono HBg.o.size));have HLk:=hid (lack_g hlk HGw.o i);rw[show Value.agg c.cells=.agg #[iV c.goal,iV c.cl,iV c.hp,iV c.tr,iV c.gs]from rfl]
  clear hlk hb1 c0 c1 c2 a0 a1 a2
  have hfl: ∀W,Sem.run Tryz.prog (Instr.field 78 (.agg #[iV c.goal,iV c.cl,iV c.hp,iV c.tr,iV c.gs]) 4) W=.ok (iV c.gs) W:=fun W=>by
   simp[Instr.field,asAgg,go_sem,Tryz.underlying78]
  by_cases hc:(i:Int)<c.gs
  case pos=>
   have HN:=hid (HLk.o.1 hc);go_wp2_with fail;go_ret;exact ⟨true,rfl,⟨fun _=> .inl ⟨i,hil,HN.o⟩,fun _=>rfl⟩,(HXX.o _ HB1.o).2.2⟩
  have HK2:Hid (∀j,j<i+1→¬LG m j):=fun j hj=>by
   by_cases e:j<i
   ·exact HK1.o j e
   ·obtain rfl:j=i:=by omega
    exact fun h=>hc (HLk.o.2 h)
  go_wp2_with fail;go_roundw
  case rel=>exact ⟨i+1,by omega,by go_num,HK2.o,HB1.o⟩
  case measure=>simp[intOf];omega
 have hiI: ¬((i:Int)<(m.gl:Int)):=by omega
 obtain rfl:i=m.gl:=by omega
 obtain ⟨⟨_,_,_,_,x4⟩,_⟩:=Mi.get (HXX.o wr HB.o).1;go_wp2_with fail;clear x4 hil hiI
 go_loopw [34] (fun x wr=>∃i:Nat,i≤m.tl∧x=iV (i:Int)∧(∀j,j<i→¬LT m j)∧Below wa.heap.size wa wr) (fun x _=>m.tl-(intOf x).toNat)
 case atStart=>exact ⟨0,Nat.zero_le _,rfl,fun j hj=>absurd hj (Nat.not_lt_zero j),HB.o⟩
 clear HB;obtain ⟨i,hi,rfl,hk,hb⟩:=hrel;have HK2:=hid hk;have HB:=hid hb;clear hk hb
 by_cases hil:i<m.tl
 case pos=>
  have hiI:(i:Int)<(m.tl:Int):=by omega
  obtain ⟨b,o,hga,c0⟩:=(HXX.o wr HB.o).2.1.t i hil;rw[hga];go_wp2_with fail;refine (HLa.o (m.t i) _ HB.o).mono ?_;rintro e w1 ⟨c,rfl,hlk,hb1⟩;have HB1:=hid (HB.o.trans (hb1.mono HB.o.size));have HLk:=hid (lack_t hlk HGw.o i);rw[show Value.agg c.cells=.agg #[iV c.goal,iV c.cl,iV c.hp,iV c.tr,iV c.gs]from rfl]
  clear hlk hb1 c0
  have hfl: ∀W,Sem.run Tryz.prog (Instr.field 78 (.agg #[iV c.goal,iV c.cl,iV c.hp,iV c.tr,iV c.gs]) 3) W=.ok (iV c.tr) W:=fun W=>by
   simp[Instr.field,asAgg,go_sem,Tryz.underlying78]
  by_cases hc:(i:Int)<c.tr
  case pos=>
   have HN:=hid (HLk.o.1 hc);go_wp2_with fail;go_ret;exact ⟨true,rfl,⟨fun _=> .inr (.inl ⟨i,hil,HN.o⟩),fun _=>rfl⟩,(HXX.o _ HB1.o).2.2⟩
  have HK3:Hid (∀j,j<i+1→¬LT m j):=fun j hj=>by
   by_cases e:j<i
   ·exact HK2.o j e
   ·obtain rfl:j=i:=by omega
    exact fun h=>hc (HLk.o.2 h)
  go_wp2_with fail;go_roundw
  case rel=>exact ⟨i+1,by omega,by go_num,HK3.o,HB1.o⟩
  case measure=>simp[intOf];omega
 have hiI: ¬((i:Int)<(m.tl:Int)):=by omega
 obtain rfl:i=m.tl:=by omega
 obtain ⟨_,⟨x5,_⟩,_⟩:=Mi.get (HXX.o wr HB.o).1;go_wp2_with fail;clear x5 hil hiI
 go_loopw [49] (fun x wr=>∃i:Nat,i≤m.ql∧x=iV (i:Int)∧(∀j,j<i→¬LQ m j)∧Below wa.heap.size wa wr) (fun x _=>m.ql-(intOf x).toNat)
 case atStart=>exact ⟨0,Nat.zero_le _,rfl,fun j hj=>absurd hj (Nat.not_lt_zero j),HB.o⟩
 clear HB;obtain ⟨i,hi,rfl,hk,hb⟩:=hrel;have HK3:=hid hk;have HB:=hid hb;clear hk hb
 by_cases hil:i<m.ql
 case pos=>
  have hiI:(i:Int)<(m.ql:Int):=by omega
  obtain ⟨b,o,hga,c0⟩:=(HXX.o wr HB.o).2.1.q i hil;rw[hga];have HLk:=hid (lq_iff HGw.o i);obtain ⟨⟨_,_,_,x3,_⟩,_⟩:=Mi.get (HXX.o wr HB.o).1
  by_cases h0:m.cl=0
  case pos=>
   have hI0: ¬((m.cl:Int)>0):=by omega
   have HK4:Hid (∀j,j<i+1→¬LQ m j):=fun j hj=>by
    by_cases e:j<i
    ·exact HK3.o j e
    ·obtain rfl:j=i:=by omega
     exact fun h=>by have:=(HLk.o.1 h).1;omega
   go_wp2_with fail;go_roundw
   case rel=>exact ⟨i+1,by omega,by go_num,HK4.o,HB.o⟩
   case measure=>simp[intOf];omega
  have hI0:(m.cl:Int)>0:=by omega
  obtain ⟨b',o',hca,k0,k1,k2,k3,k4⟩:=(HXX.o wr HB.o).2.1.c 0 (by omega)
  rw[hca]at x3
  by_cases hq:m.q i≥(m.c 0).hp
  case pos=>
   have HN:=hid (HLk.o.2 ⟨by omega,hq⟩)
   go_wp2_with fail;go_ret;exact ⟨true,rfl,⟨fun _=> .inr (.inr (.inl ⟨i,hil,HN.o⟩)),fun _=>rfl⟩,(HXX.o _ HB.o).2.2⟩
  have HK4:Hid (∀j,j<i+1→¬LQ m j):=fun j hj=>by
   by_cases e:j<i
   ·exact HK3.o j e
   ·obtain rfl:j=i:=by omega
    exact fun h=>hq (HLk.o.1 h).2
  go_wp2_with fail;refine ⟨?_,?measure⟩
  ·first
   |exact ⟨i+1,by omega,by go_num,HK4.o,HB.o⟩
   | ((repeat apply Exists.intro);exact ⟨⟨i+1,by omega,by go_num,HK4.o,HB.o⟩,rfl,rfl,rfl⟩)
  case measure=>simp[intOf];omega
 have hiI: ¬((i:Int)<(m.ql:Int)):=by omega
 obtain rfl:i=m.ql:=by omega
 obtain ⟨⟨y0,y1,y2,y3,y4⟩,⟨y5,y6,y7,y8⟩,_⟩:=Mi.get (HXX.o wr HB.o).1;have HLB:=hid (lastBound_any wr (HXX.o wr HB.o).2.1 hl HT.o);go_wp2_with fail;clear y0 y1 y2 y3 y4 y5 y6 y7 y8 hil hiI;refine HLB.o.mono ?_;rintro e w5 ⟨g,rfl,hgs,hg5,hb5⟩;have HB5:=hid (HB.o.trans (hb5.mono HB.o.size));have HG5:=hid hg5;have hs5:g<w5.heap.size:=(Array.getElem?_eq_some_iff.1 hg5).1;obtain ⟨⟨y0,_⟩,_⟩:=Mi.get (HXX.o w5 HB5.o).1;clear hg5 hb5 HLB HB;go_wp2_with fail;clear y0
 go_loopw [72] (fun x wr=>∃i:Nat,i≤m.hl∧x=iV (i:Int)∧(∀j,j<i→¬LH m j)∧Below wa.heap.size wa wr∧Below w5.heap.size w5 wr) (fun x _=>m.hl-(intOf x).toNat)
 case atStart=>exact ⟨0,Nat.zero_le _,rfl,fun j hj=>absurd hj (Nat.not_lt_zero j),HB5.o,Below.refl _ _⟩
 obtain ⟨i,hi,rfl,hk,hb,hb'⟩:=hrel;have HK4:=hid hk;have HB:=hid hb;have HBx:=hid hb';clear hk hb hb'
 by_cases hil:i<m.hl
 case neg=>
  have hiI: ¬((i:Int)<(m.hl:Int)):=by omega
  obtain rfl:i=m.hl:=by omega
  go_wp2_with fail;go_ret;refine ⟨false,rfl,⟨fun h=>(by cases h),fun h=>?_⟩,(HXX.o _ HB.o).2.2⟩
  exfalso
  rcases h with ⟨j,hj,h⟩| ⟨j,hj,h⟩| ⟨j,hj,h⟩| ⟨j,hj,h⟩
  ·exact HK1.o j hj h
  ·exact HK2.o j hj h
  ·exact HK3.o j hj h
  ·exact HK4.o j hj h
 have hiI:(i:Int)<(m.hl:Int):=by omega
 obtain ⟨b,o,hha,c0,c1,c2⟩:=(HXX.o wr HB.o).2.1.h.row i hil;rw[hha];have HCn:Hid ((wr.alloc (.cells #[iV (m.h i).k,iV (m.h i).n,.string (m.h i).nm] 81)).heap[wr.heap.size]?=some (.cells #[iV (m.h i).k,iV (m.h i).n,.string (m.h i).nm] 81)):=heap_alloc_new _ _;have HBc:Hid (Below wr.heap.size wr (wr.alloc (.cells #[iV (m.h i).k,iV (m.h i).n,.string (m.h i).nm] 81))):=(Below.refl _ _).alloc (Nat.le_refl _) _;have hWc:wr.alloc (.cells #[iV (m.h i).k,iV (m.h i).n,.string (m.h i).nm] 81)=wr.alloc (.cells #[iV (m.h i).k,iV (m.h i).n,.string (m.h i).nm] 81):=rfl;generalize hwc:wr.alloc (.cells #[iV (m.h i).k,iV (m.h i).n,.string (m.h i).nm] 81)=wc at*;obtain ⟨a0,a1,a2,_⟩:=block_cells HCn.o;have HBc1:=hid (HB.o.trans (HBc.o.mono HB.o.size));have HFu:Hid (Calls Tryz.prog 71 #[.agg #[iV (m.h i).k,iV (m.h i).n,.string (m.h i).nm],iV (i:Int)] wc fun e w'=>e=.returned (iV (furI (m.h i) i))∧Below wc.heap.size wc w'):=furthest_any (m.h i) i wc (fun h=>by have:=HF.o i hil h;omega)
 go_wp2_with fail;clear hWc hwc c0 c1 c2 a0 a1 a2;refine HFu.o.mono ?_;rintro e w6 ⟨rfl,hb6⟩;have HB6:=hid (HBc1.o.trans (hb6.mono HBc1.o.size));have HBx6:=hid (HBx.o.trans ((HBc.o.trans (hb6.mono HBc.o.size)).mono HBx.o.size));clear hb6 HFu;go_wp2_with fail;refine (HLa.o (furI (m.h i) i) _ HB6.o).mono ?_;rintro e w7 ⟨c,rfl,hlk,hb7⟩;have HB7:=hid (HB6.o.trans (hb7.mono HB6.o.size));have HBx7:=hid (HBx6.o.trans (hb7.mono HBx6.o.size));have HLk:Hid (((i:Int)<c.hp∧lastI m m.tl i<c.tr)↔LH m i):=lack_h hlk HGw.o i;rw[show Value.agg c.cells=.agg #[iV c.goal,iV c.cl,iV c.hp,iV c.tr,iV c.gs]from rfl]
 clear hlk hb7;have HCx:Hid ((w7.alloc (.cells c.cells 78)).heap[w7.heap.size]?=some (.cells c.cells 78)):=heap_alloc_new _ _;have HBe:Hid (Below w7.heap.size w7 (w7.alloc (.cells c.cells 78))):=(Below.refl _ _).alloc (Nat.le_refl _) _;have hW8:w7.alloc (.cells #[iV c.goal,iV c.cl,iV c.hp,iV c.tr,iV c.gs] 78)=w7.alloc (.cells c.cells 78):=rfl;generalize w7.alloc (.cells c.cells 78)=w8 at*;have HB8:=hid (HB7.o.trans (HBe.o.mono HB7.o.size));have HBx8:=hid (HBx7.o.trans (HBe.o.mono HBx7.o.size));have HG8:=hid ((HBx8.o.block _ hs5).trans HG5.o)
 have hbd:w8.cell? ⟨g,i,none⟩=some (iV (lastI m m.tl i)):=by
  have:=lbL_get (m:=m) (k:=m.tl) (j:=i) hil;simp[World.cell?,HG8.o,this]
 obtain ⟨⟨z0,z1,z2,z3,z4⟩,_⟩:=Ci.get HCx.o;go_wp2_with fail;clear hW8
 by_cases hc1:(i:Int)<c.hp
 case neg=>
  have hd:=decide_eq_false hc1
  have HK5:Hid (∀j,j<i+1→¬LH m j):=fun j hj=>by
   by_cases e:j<i
   ·exact HK4.o j e
   ·obtain rfl:j=i:=by omega
    exact fun h=>hc1 (HLk.o.2 h).1
  go_quiet (fail)
  have HB9:Hid (Below wa.heap.size wa (w8.drewN nq)∧Below w5.heap.size w5 (w8.drewN nq)):=⟨below_dn HB8.o nq,below_dn HBx8.o nq⟩;go_wp2_with fail;go_roundw
  case rel=>exact ⟨i+1,by omega,by go_num,HK5.o,HB9.o.1,HB9.o.2⟩
  case measure=>simp[intOf];omega
 have hd:=decide_eq_true hc1
 by_cases hc2:lastI m m.tl i<c.tr
 case neg=>
  have hd2:=decide_eq_false hc2
  have HK5:Hid (∀j,j<i+1→¬LH m j):=fun j hj=>by
   by_cases e:j<i
   ·exact HK4.o j e
   ·obtain rfl:j=i:=by omega
    exact fun h=>hc2 (HLk.o.2 h).2
  go_quiet (fail)
  have HB9:Hid (Below wa.heap.size wa (w8.drewN nq)∧Below w5.heap.size w5 (w8.drewN nq)):=⟨below_dn HB8.o nq,below_dn HBx8.o nq⟩;go_wp2_with fail;go_roundw
  case rel=>exact ⟨i+1,by omega,by go_num,HK5.o,HB9.o.1,HB9.o.2⟩
  case measure=>simp[intOf];omega
 have hd2:=decide_eq_true hc2;have HN:=hid (HLk.o.1 ⟨hc1,hc2⟩)
 go_quiet (fail)
 have HB9:=hid (below_dn HB8.o nq);go_wp2_with fail;go_ret;exact ⟨true,rfl,⟨fun _=> .inr (.inr (.inr ⟨i,hil,HN.o⟩)),fun _=>rfl⟩,(HXX.o _ HB9.o).2.2⟩
end Go.Proofs.YtmggaclaoefdaabGreat
