/- Part of the proof. -/
import Derived.Test.YtmggaclaoefdaabGreatSq0
import Derived.Test.YtmggaclaoefdaabGreatGBS
import Derived.Test.YtmggaclaoefdaabGreatCp6
namespace Go.Proofs.YtmggaclaoefdaabGreat
open Go.RowKit Go.Shelf
set_option linter.unusedVariables false
set_option linter.unusedSimpArgs false
attribute [local go_sem] Oper.semAt_some
theorem flatF_length (F:Nat→List Value) (s:Nat) (hF: ∀i,(F i).length=s) (n:Nat):((List.range n).flatMap F).length=n*s:=by
 induction n with
 |zero=>simp
 |succ n ih=>rw[List.range_succ,List.flatMap_append,List.length_append,ih];simp[hF,Nat.succ_mul]
theorem flatF_get (F:Nat→List Value) (s:Nat) (hF: ∀i,(F i).length=s) (n i r:Nat) (hi:i<n) (hr:r<s):((List.range n).flatMap F)[i*s+r]?=(F i)[r]?:=by
 induction n with
 |zero=>exact absurd hi (Nat.not_lt_zero _)
 |succ n ih=>
  rw[List.range_succ,List.flatMap_append,List.getElem?_append,flatF_length F s hF n]
  by_cases h:i<n
  ·have hlt:i*s+r<n*s:=by
    have:(i+1)*s≤n*s:=Nat.mul_le_mul_right s h;rw[Nat.succ_mul]at this;omega
   rw[if_pos hlt];exact ih h
  ·obtain rfl:i=n:=by omega
   rw[if_neg (by omega),show i*s+r-i*s=r by omega]
   simp
theorem flatF_news {W:World} {a:Option Addr} (F:Nat→List Value) (s n:Nat) (hs:0<s) (hF: ∀i,(F i).length=s) (h: ∀i,i<n→∃b o,a=some ⟨b,o,none⟩∧∀r,r<s→W.cell? ⟨b,o+i*s+r,none⟩=(F i)[r]?): ∀ad,a=some ad→∀j u,((List.range n).flatMap F)[j]?=some u→W.cell? (ad.add j)=some u:=by
 rintro ad rfl j u hu;have hj:j<n*s:=by have:=(List.getElem?_eq_some_iff.1 hu).1;rwa [flatF_length F s hF n]at this
 have hi:j / s<n:=Nat.div_lt_of_lt_mul (by rwa [Nat.mul_comm])
 have hr:j % s<s:=Nat.mod_lt _ hs;have e:j / s*s+j % s=j:=by rw[Nat.mul_comm];exact Nat.div_add_mod j s
 obtain ⟨b,o,e',hc⟩:=h _ hi;cases e';rw[Addr.add_lit];have h1:=hc _ hr;have h2:=flatF_get F s hF n (j / s) (j % s) hi hr;rw[e]at h2;rw[Nat.add_assoc,e,←h2,hu]at h1;exact h1
theorem flatF_none {W:World} {a:Option Addr} (F:Nat→List Value) (s n:Nat) (h: ∀i,i<n→∃b o,a=some ⟨b,o,none⟩∧∀r,r<s→W.cell? ⟨b,o+i*s+r,none⟩=(F i)[r]?):a=none→n=0:=by
 rintro rfl
 cases n with
 |zero=>rfl
 |succ n=>obtain ⟨b,o,e,_⟩:=h 0 (Nat.succ_pos _);cases e
def cellF (h:Nat→Cl) (i:Nat):List Value:= [iV (h i).k,iV (h i).n,.string (h i).nm]
def cellL (h:Nat→Cl) (n:Nat):List Value:=(List.range n).flatMap (cellF h)
def goalF (g:Nat→Gi) (i:Nat):List Value:= [iV (g i).at_,iV (g i).cut,iV (g i).nx]
def goalL (g:Nat→Gi) (n:Nat):List Value:=(List.range n).flatMap (goalF g)
def chF (c:Nat→Ci) (i:Nat):List Value:= [iV (c i).goal,iV (c i).cl,iV (c i).hp,iV (c i).tr,iV (c i).gs]
def chL (c:Nat→Ci) (n:Nat):List Value:=(List.range n).flatMap (chF c)
theorem cellL_flat (h:Nat→Cl) (n:Nat):cellL h n=flatC ((List.range n).map h):=by
 unfold cellL flatC;rw[List.flatMap_map]
 rfl
theorem cellL_length (h:Nat→Cl) (n:Nat):(cellL h n).length=n*3:=flatF_length (cellF h) 3 (fun _=>rfl) n
theorem goalL_length (g:Nat→Gi) (n:Nat):(goalL g n).length=n*3:=flatF_length (goalF g) 3 (fun _=>rfl) n
theorem chL_length (c:Nat→Ci) (n:Nat):(chL c n).length=n*5:=flatF_length (chF c) 5 (fun _=>rfl) n
theorem cellL_one (h:Nat→Cl) (n:Nat): ∀u∈cellL h n,u.oneCell'=true:=fun u hu=>by
 obtain ⟨i,_,hi⟩:=List.mem_flatMap.1 hu;simp only[cellF,List.mem_cons,List.not_mem_nil,or_false]at hi
 rcases hi with rfl|rfl|rfl <;> rfl
theorem goalL_one (g:Nat→Gi) (n:Nat): ∀u∈goalL g n,u.oneCell'=true:=fun u hu=>by
 obtain ⟨i,_,hi⟩:=List.mem_flatMap.1 hu;simp only[goalF,List.mem_cons,List.not_mem_nil,or_false]at hi
 rcases hi with rfl|rfl|rfl <;> rfl
theorem chL_one (c:Nat→Ci) (n:Nat): ∀u∈chL c n,u.oneCell'=true:=fun u hu=>by
 obtain ⟨i,_,hi⟩:=List.mem_flatMap.1 hu;simp only[chF,List.mem_cons,List.not_mem_nil,or_false]at hi
 rcases hi with rfl|rfl|rfl|rfl|rfl <;> rfl
theorem cell_rows {W:World} {a:Option Addr} {n:Nat} {h:Nat→Cl} (H: ∀i,i<n→CRow W a i (h i)): ∀i,i<n→∃b o,a=some ⟨b,o,none⟩∧∀r,r<3→W.cell? ⟨b,o+i*3+r,none⟩=(cellF h i)[r]?:=fun i hi=>by
 obtain ⟨b,o,e,c0,c1,c2⟩:=H i hi;refine ⟨b,o,e,fun r hr=>?_⟩
 rcases r with _|_|_|r
 ·exact c0
 ·exact c1
 ·exact c2
 ·omega
theorem goal_rows {W:World} {a:Option Addr} {n:Nat} {g:Nat→Gi} (H: ∀i,i<n→GRow W a i (g i)): ∀i,i<n→∃b o,a=some ⟨b,o,none⟩∧∀r,r<3→W.cell? ⟨b,o+i*3+r,none⟩=(goalF g i)[r]?:=fun i hi=>by
 obtain ⟨b,o,e,c0,c1,c2⟩:=H i hi;refine ⟨b,o,e,fun r hr=>?_⟩
 rcases r with _|_|_|r
 ·exact c0
 ·exact c1
 ·exact c2
 ·omega
theorem ch_rows {W:World} {a:Option Addr} {n:Nat} {c:Nat→Ci} (H: ∀i,i<n→KRow W a i (c i)): ∀i,i<n→∃b o,a=some ⟨b,o,none⟩∧∀r,r<5→W.cell? ⟨b,o+i*5+r,none⟩=(chF c i)[r]?:=fun i hi=>by
 obtain ⟨b,o,e,c0,c1,c2,c3,c4⟩:=H i hi;refine ⟨b,o,e,fun r hr=>?_⟩
 rcases r with _|_|_|_|_|r
 ·exact c0
 ·exact c1
 ·exact c2
 ·exact c3
 ·exact c4
 ·omega
theorem grow_set {W Wa Wb:World} {B i g0:Nat} {v:Value} (hB:Below W.heap.size W Wa) (hg:Wa.grownBy Wb (some g0)) (h0:W.heap.size≤g0):W.grownBy (Wb.setCell ⟨B,i,none⟩ v) (some B):=by
 have h1:Below W.heap.size W Wb:=hB.grown hg hB.size (fun k e=>by have:=Option.some.inj e;omega)
 exact G.trans (grown_of_below h1 (some B)) (grown_set B i v)
theorem grown3 {A B C D:World} {b:Nat} {row:Option Nat} (h1:A.grownBy B (some b)) (h2:Below B.heap.size B C) (h3:C.grownBy D row) (h4: ∀q,row=some q→A.heap.size≤q):A.grownBy D (some b):=
 ⟨h3.os.trans (h2.os.trans h1.os),h3.tape.trans (h2.tape.trans h1.tape),h3.output.trans (h2.output.trans h1.output),Nat.le_trans h1.size (Nat.le_trans h2.size h3.size),fun k hk hn=>(h3.block k (by have:=h1.size;have:=h2.size;omega) (fun e=>by have:=h4 k e.symm;omega)).trans ((h2.block k (by have:=h1.size;omega)).trans (h1.block k hk hn))⟩
def miZ:Mi:=⟨none,0,0,fun _=>⟨0,0,ByteArray.empty⟩,none,0,0,fun _=>⟨0,0,0⟩,0,none,0,0,fun _=>ciZ,none,0,0,fun _=>0,none,0,0,fun _=>0,0,0,none,0,0⟩
def set9m (W:World) (k:Nat) (m:Mi):World:=((((((((W.setCell ⟨k,0,none⟩ (.slice m.ha m.hl m.hc)).setCell ⟨k,1,none⟩ (.slice m.ga m.gl m.gc)).setCell ⟨k,2,none⟩ (iV m.first)).setCell ⟨k,3,none⟩ (.slice m.ca m.cl m.cc)).setCell ⟨k,4,none⟩ (.slice m.ta m.tl m.tc)).setCell ⟨k,5,none⟩ (.slice m.qa m.ql m.qc)).setCell ⟨k,6,none⟩ (iV m.st)).setCell ⟨k,7,none⟩ (iV m.fin)).setCell ⟨k,8,none⟩ (.slice m.aa m.al m.ac)
theorem set9m_blk {W:World} {k:Nat} {m0 m:Mi} {t:TypeId} (h:W.heap[k]?=some (.cells m0.cells t)):(set9m W k m).heap[k]?=some (.cells m.cells t)∧W.grownBy (set9m W k m) (some k):=by
 refine ⟨?_,?_⟩
 ·unfold set9m
  simp only[World.setCell,Array.getElem?_modify];simp[h,Mi.cells]
 ·exact G.trans (G.trans (G.trans (G.trans (G.trans (G.trans (G.trans (G.trans (grown_set k 0 _) (grown_set k 1 _)) (grown_set k 2 _)) (grown_set k 3 _)) (grown_set k 4 _)) (grown_set k 5 _)) (grown_set k 6 _)) (grown_set k 7 _)) (grown_set k 8 _)
theorem setM0 {W:World} {k:Nat} {m:Mi} {t:TypeId} (a:Option Addr) (l c:Nat) (h:W.heap[k]?=some (.cells m.cells t)):(W.setCell ⟨k,0,none⟩ (.slice a l c)).heap[k]?=some (.cells ({ m with ha:=a,hl:=l,hc:=c}:Mi).cells t):=by
 simp only[World.setCell,Array.getElem?_modify];simp[h,Mi.cells]
theorem setM1 {W:World} {k:Nat} {m:Mi} {t:TypeId} (a:Option Addr) (l c:Nat) (h:W.heap[k]?=some (.cells m.cells t)):(W.setCell ⟨k,1,none⟩ (.slice a l c)).heap[k]?=some (.cells ({ m with ga:=a,gl:=l,gc:=c}:Mi).cells t):=by
 simp only[World.setCell,Array.getElem?_modify];simp[h,Mi.cells]
theorem setM3 {W:World} {k:Nat} {m:Mi} {t:TypeId} (a:Option Addr) (l c:Nat) (h:W.heap[k]?=some (.cells m.cells t)):(W.setCell ⟨k,3,none⟩ (.slice a l c)).heap[k]?=some (.cells ({ m with ca:=a,cl:=l,cc:=c}:Mi).cells t):=by
 simp only[World.setCell,Array.getElem?_modify];simp[h,Mi.cells]
theorem setM4 {W:World} {k:Nat} {m:Mi} {t:TypeId} (a:Option Addr) (l c:Nat) (h:W.heap[k]?=some (.cells m.cells t)):(W.setCell ⟨k,4,none⟩ (.slice a l c)).heap[k]?=some (.cells ({ m with ta:=a,tl:=l,tc:=c}:Mi).cells t):=by
 simp only[World.setCell,Array.getElem?_modify];simp[h,Mi.cells]
theorem setM5 {W:World} {k:Nat} {m:Mi} {t:TypeId} (a:Option Addr) (l c:Nat) (h:W.heap[k]?=some (.cells m.cells t)):(W.setCell ⟨k,5,none⟩ (.slice a l c)).heap[k]?=some (.cells ({ m with qa:=a,ql:=l,qc:=c}:Mi).cells t):=by
 simp only[World.setCell,Array.getElem?_modify];simp[h,Mi.cells]
theorem setM8 {W:World} {k:Nat} {m:Mi} {t:TypeId} (a:Option Addr) (l c:Nat) (h:W.heap[k]?=some (.cells m.cells t)):(W.setCell ⟨k,8,none⟩ (.slice a l c)).heap[k]?=some (.cells ({ m with aa:=a,al:=l,ac:=c}:Mi).cells t):=by
 simp only[World.setCell,Array.getElem?_modify];simp[h,Mi.cells]
def xM (m:Mi) (gh ch gg cg gk ck gt ct gq cq:Nat):Mi:= { m with ha:=some ⟨gh,0,none⟩,hc:=ch,ga:=some ⟨gg,0,none⟩,gc:=cg,ca:=some ⟨gk,0,none⟩,cc:=ck,ta:=some ⟨gt,0,none⟩,tc:=ct,qa:=some ⟨gq,0,none⟩,qc:=cq}
structure CpR (m:Mi) (lo:Nat) (W:World) (gh ch gg cg gk ck gt ct gq cq:Nat):Prop where
 h:W.ownsRow lo 81 3 (.slice (some ⟨gh,0,none⟩) m.hl ch) m.hl (flatC ((List.range m.hl).map m.h))
 g:W.ownsRow lo 76 3 (.slice (some ⟨gg,0,none⟩) m.gl cg) m.gl (goalL m.g m.gl)
 k:W.ownsRow lo 78 5 (.slice (some ⟨gk,0,none⟩) m.cl ck) m.cl (chL m.c m.cl)
 t:W.ownsRow lo 3 1 (.slice (some ⟨gt,0,none⟩) m.tl ct) m.tl (intL m.t m.tl)
 q:W.ownsRow lo 3 1 (.slice (some ⟨gq,0,none⟩) m.ql cq) m.ql (intL m.q m.ql)
theorem CpR.kept {m:Mi} {lo:Nat} {W W':World} {gh ch gg cg gk ck gt ct gq cq:Nat} (h:CpR m lo W gh ch gg cg gk ck gt ct gq cq) {B:Nat} (hg:W.grownBy W' (some B)) (hB:B<lo):CpR m lo W' gh ch gg cg gk ck gt ct gq cq:=
 ⟨h.h.kept hg (.inr (fun e=>by have:=(h.h.lt gh rfl).1;have:gh=B:=Option.some.inj e;omega)),h.g.kept hg (.inr (fun e=>by have:=(h.g.lt gg rfl).1;have:gg=B:=Option.some.inj e;omega)),h.k.kept hg (.inr (fun e=>by have:=(h.k.lt gk rfl).1;have:gk=B:=Option.some.inj e;omega)),h.t.kept hg (.inr (fun e=>by have:=(h.t.lt gt rfl).1;have:gt=B:=Option.some.inj e;omega)),h.q.kept hg (.inr (fun e=>by have:=(h.q.lt gq rfl).1;have:gq=B:=Option.some.inj e;omega))⟩
def CpO (m:Mi) (w:World) (e:Ending) (w':World):Prop:=∃(gh ch gg cg gk ck gt ct gq cq:Nat) (a8:Option Addr) (l8 c8:Nat),e=.returned (.agg ({ xM m gh ch gg cg gk ck gt ct gq cq with aa:=a8,al:=l8,ac:=c8}:Mi).cells)∧Below w.heap.size w w'∧CpR m w.heap.size w' gh ch gg cg gk ck gt ct gq cq
section
set_option maxRecDepth 100000 in
set_option maxHeartbeats 8000000 in
theorem copyMachine_any {m:Mi} {an:List Tm} (w:World) (hm:MIn w m) (hl4:m.hl≤400000) (hg5:m.gl≤5000) (hq12:m.ql≤12) (hck:m.cl*40≤140737488351232) (hal:m.al=an.length) (haa:AR w m.aa an) (han:an.length*24≤140737488351232) (hS: ∀A∈an,SmT A):
 Calls Tryz.prog 40 #[.agg m.cells] w (CpO m w):=by
 obtain ⟨hbg,hbc,hbt,hbq⟩:=hm.big;have HM:Hid (∀W,Below w.heap.size w W→MIn W m):=fun W hW=>hm.below hW
 have HAn:Hid (∀W,Below w.heap.size w W→AR W m.aa an):=fun W hW=>haa.below hW
 have HS:Hid (∀A∈an,SmT A):=hS;have HAl:Hid (m.al=an.length):=hal;clear hal;obtain ⟨c0,hc0,cz0,cz1,cz2⟩:=info_parts infoCpCell;obtain ⟨d0,hd0,dz0,dz1,dz2⟩:=info_parts infoCpGoal;obtain ⟨k0,hk0,kz0,kz1,kz2⟩:=info_parts infoCpChoice;obtain ⟨i0,hi0,iz0,iz1,iz2⟩:=info_parts infoCpInt;obtain ⟨wa,hWa⟩: ∃W,w.alloc (.cells #[.slice m.ha m.hl m.hc,.slice m.ga m.gl m.gc,iV m.first,.slice m.ca m.cl m.cc,.slice m.ta m.tl m.tc,.slice m.qa m.ql m.qc,iV m.st,iV m.fin,.slice m.aa m.al m.ac] 31)=W:=⟨_,rfl⟩;have ka0:wa.heap[w.heap.size]?=some (.cells m.cells 31):=by rw[←hWa];exact heap_alloc_new _ _
 have ba0:Below w.heap.size w wa:=by rw[←hWa];exact (Below.refl _ _).alloc (Nat.le_refl _) _
 have sa:wa.heap.size=w.heap.size+1:=by rw[←hWa];simp
 obtain ⟨wb,hWb⟩: ∃W,wa.alloc (.cells #[.slice none 0 0,.slice none 0 0,iV 0,.slice none 0 0,.slice none 0 0,.slice none 0 0,iV 0,iV 0,.slice none 0 0] 31)=W:=⟨_,rfl⟩;have kb1:wb.heap[wa.heap.size]?=some (.cells miZ.cells 31):=by rw[←hWb];exact heap_alloc_new _ _
 have bb0:Below wa.heap.size wa wb:=by rw[←hWb];exact (Below.refl _ _).alloc (Nat.le_refl _) _
 have sb:wb.heap.size=w.heap.size+2:=by rw[←hWb];simp[sa]
 have kb0:wb.heap[w.heap.size]?=some (.cells m.cells 31):=(bb0.block _ (by omega)).trans ka0
 obtain ⟨W0,hW0⟩: ∃W,wb.alloc (.cells #[.slice m.ha m.hl m.hc,.slice m.ga m.gl m.gc,iV m.first,.slice m.ca m.cl m.cc,.slice m.ta m.tl m.tc,.slice m.qa m.ql m.qc,iV m.st,iV m.fin,.slice m.aa m.al m.ac] 31)=W:=⟨_,rfl⟩;have bc0:Below wb.heap.size wb W0:=by rw[←hW0];exact (Below.refl _ _).alloc (Nat.le_refl _) _
 have s0':W0.heap.size=w.heap.size+3:=by rw[←hW0];simp[sb]
 have hl1:w.heap.size<wa.heap.size:=by omega
 have hl2:wa.heap.size<wb.heap.size:=by omega
 have s0:wb.heap.size<W0.heap.size:=by omega
 have s00:W0.heap.size≤W0.heap.size:=Nat.le_refl _;have HB0:Hid (Below w.heap.size w W0):=ba0.trans ((bb0.trans (bc0.mono bb0.size)).mono ba0.size);have HK0:Hid (W0.heap[w.heap.size]?=some (.cells m.cells 31)):=(bc0.block _ (by omega)).trans kb0
 have HZ0:Hid (W0.heap[wa.heap.size]?=some (.cells miZ.cells 31)):=(bc0.block _ (by omega)).trans kb1
 have HX0:Hid (W0.heap[wb.heap.size]?=some (.cells m.cells 31)):=by rw[Hid,←hW0];exact heap_alloc_new _ _
 have HG0:Hid (W0.grownBy W0 (some wb.heap.size)):=⟨rfl,rfl,rfl,Nat.le_refl _,fun _ _ _=>rfl⟩
 obtain ⟨⟨u0,u1,u2,u3,u4⟩,⟨u5,u6,u7,u8⟩,uf⟩:=Mi.get kb0;obtain ⟨Wa0,hWa0⟩: ∃W,W0.alloc (.cells #[] 81)=W:=⟨_,rfl⟩;have HOw0:Hid (Wa0.ownsRow W0.heap.size 81 3 (.slice (some ⟨W0.heap.size,0,none⟩) 0 0) 0 []):=by rw[←hWa0];exact World.ownsRow_lit _ #[] 0 (Nat.le_refl _) (by unfold maxLen;omega) rfl
 have HBl0:Hid (Below W0.heap.size W0 Wa0):=by rw[←hWa0];exact (Below.refl _ _).alloc (Nat.le_refl _) _
 have sa0:W0.heap.size+1≤Wa0.heap.size:=by rw[←hWa0];simp
 have HBm0:Hid (Below w.heap.size w Wa0):=HB0.o.trans (HBl0.o.mono HB0.o.size);have HKa0:Hid (Wa0.heap[w.heap.size]?=some (.cells m.cells 31)):=(HBl0.o.block _ (by omega)).trans HK0.o
 have q0:Wa0.cell? ⟨w.heap.size,0,none⟩=some (.slice m.ha m.hl m.hc):=(Mi.get HKa0.o).1.1;have HNw0:Hid (∀ad,m.ha=some ad→∀j u,(cellL m.h m.hl)[j]?=some u→Wa0.cell? (ad.add j)=some u):=flatF_news (cellF m.h) 3 m.hl (by decide) (fun _=>rfl) (cell_rows (HM.o _ (HBm0.o)).h.row)
 have HNn0:Hid (m.ha=none→m.hl=0):=flatF_none (cellF m.h) 3 m.hl (cell_rows (HM.o _ (HBm0.o)).h.row);clear ka0 ba0 sa kb1 bb0 sb kb0 bc0 hm haa hS uf s0'
 go_enter Tryz.func40,Tryz.ntmps40
 rw[show Value.agg m.cells=.agg #[.slice m.ha m.hl m.hc,.slice m.ga m.gl m.gc,iV m.first,.slice m.ca m.cl m.cc,.slice m.ta m.tl m.tc,.slice m.qa m.ql m.qc,iV m.st,iV m.fin,.slice m.aa m.al m.ac]from rfl]
 go_wp2_with (first
  | (at_builtin
     refine wpList_appG rfl (.tmp 8) (.tmp 10) 25 rfl W0.heap.size 81 c0 (.agg #[iV 0,iV 0,.string ByteArray.empty]) 3 32 Tryz.underlying25 hc0 cz0 cz1 cz2 rfl (by decide) W0.heap.size 0 0 [] rfl HOw0.o m.ha m.hl m.hc (cellL m.h m.hl) rfl (cellL_length _ _) HNn0.o HNw0.o (cellL_one _ _) (by unfold maxLen;omega) (by omega) (by omega) m.hl (cellL m.h m.hl) (Nat.zero_add _) (List.nil_append _) ?_
     intro gh ch Wb0 ho0 hg0 hat0;have hgs0:W0.grownBy (Wb0.setCell ⟨wb.heap.size,0,none⟩ (.slice (some ⟨gh,0,none⟩) m.hl ch)) (some wb.heap.size):=grow_set HBl0.o hg0 (Nat.le_refl _);have hBb0:Below W0.heap.size W0 Wb0:=HBl0.o.grown hg0 HBl0.o.size (fun k e=>by have:=Option.some.inj e;omega)
     have hkb0:Wb0.heap[wb.heap.size]?=some (.cells m.cells 31):=(hBb0.block _ (by omega)).trans HX0.o
     obtain ⟨⟨v0,v1,v2,v3,v4⟩,⟨v5,v6,v7,v8⟩,vf⟩:=Mi.get hkb0;have vf0:=vf 0;clear vf;obtain ⟨W1,hW1⟩: ∃W,Wb0.setCell ⟨wb.heap.size,0,none⟩ (.slice (some ⟨gh,0,none⟩) m.hl ch)=W:=⟨_,rfl⟩
     have HX1:Hid (W1.heap[wb.heap.size]?=some (.cells ({ m with ha:=some ⟨gh,0,none⟩,hl:=m.hl,hc:=ch}:Mi).cells 31)):=by rw[Hid,←hW1];exact setM0 _ _ _ hkb0
     have HGr0:Hid (W0.grownBy W1 (some wb.heap.size)):=by rw[Hid,←hW1];exact hgs0
     have s1:W0.heap.size≤W1.heap.size:=by have:=HGr0.o.size;omega
     have HB1:Hid (Below w.heap.size w W1):=HB0.o.grown HGr0.o HB0.o.size (fun k e=>by have:=Option.some.inj e;omega)
     have HK1:Hid (W1.heap[w.heap.size]?=some (.cells m.cells 31)):=(HGr0.o.block _ (by omega) (fun e=>by have:=Option.some.inj e;omega)).trans HK0.o
     have HZ1:Hid (W1.heap[wa.heap.size]?=some (.cells miZ.cells 31)):=(HGr0.o.block _ (by omega) (fun e=>by have:=Option.some.inj e;omega)).trans HZ0.o
     have HR0_1:Hid (W1.ownsRow W0.heap.size 81 3 (.slice (some ⟨gh,0,none⟩) m.hl ch) m.hl (cellL m.h m.hl)):=by
      rw[Hid,←hW1];exact (ownsRow_mono ho0 (by omega)).kept (grown_set _ _ _) (.inr (fun e=>by have:=(ho0.lt gh rfl).1;have:gh=wb.heap.size:=Option.some.inj e;omega))
     clear ho0 hg0 hat0 hgs0 hBb0;obtain ⟨Wa1,hWa1⟩: ∃W,W1.alloc (.cells #[] 76)=W:=⟨_,rfl⟩;have HOw1:Hid (Wa1.ownsRow W1.heap.size 76 3 (.slice (some ⟨W1.heap.size,0,none⟩) 0 0) 0 []):=by rw[←hWa1];exact World.ownsRow_lit _ #[] 0 (Nat.le_refl _) (by unfold maxLen;omega) rfl
     have HBl1:Hid (Below W1.heap.size W1 Wa1):=by rw[←hWa1];exact (Below.refl _ _).alloc (Nat.le_refl _) _
     have sa1:W1.heap.size+1≤Wa1.heap.size:=by rw[←hWa1];simp
     have HBm1:Hid (Below w.heap.size w Wa1):=HB1.o.trans (HBl1.o.mono HB1.o.size);have HKa1:Hid (Wa1.heap[w.heap.size]?=some (.cells m.cells 31)):=(HBl1.o.block _ (by omega)).trans HK1.o
     have q1:Wa1.cell? ⟨w.heap.size,1,none⟩=some (.slice m.ga m.gl m.gc):=(Mi.get HKa1.o).1.2.1;have HNw1:Hid (∀ad,m.ga=some ad→∀j u,(goalL m.g m.gl)[j]?=some u→Wa1.cell? (ad.add j)=some u):=flatF_news (goalF m.g) 3 m.gl (by decide) (fun _=>rfl) (goal_rows (HM.o _ (HBm1.o)).g)
     have HNn1:Hid (m.ga=none→m.gl=0):=flatF_none (goalF m.g) 3 m.gl (goal_rows (HM.o _ (HBm1.o)).g)
     skip)
  | (at_builtin
     refine wpList_appG rfl (.tmp 13) (.tmp 15) 26 rfl W1.heap.size 76 d0 (.agg #[iV 0,iV 0,iV 0]) 3 24 Tryz.underlying26 hd0 dz0 dz1 dz2 rfl (by decide) W1.heap.size 0 0 [] rfl HOw1.o m.ga m.gl m.gc (goalL m.g m.gl) rfl (goalL_length _ _) HNn1.o HNw1.o (goalL_one _ _) (by unfold maxLen;omega) (by omega) (by omega) m.gl (goalL m.g m.gl) (Nat.zero_add _) (List.nil_append _) ?_
     intro gg cg Wb1 ho1 hg1 hat1;have hgs1:W1.grownBy (Wb1.setCell ⟨wb.heap.size,1,none⟩ (.slice (some ⟨gg,0,none⟩) m.gl cg)) (some wb.heap.size):=grow_set HBl1.o hg1 (Nat.le_refl _);have hBb1:Below W1.heap.size W1 Wb1:=HBl1.o.grown hg1 HBl1.o.size (fun k e=>by have:=Option.some.inj e;omega)
     have hkb1:Wb1.heap[wb.heap.size]?=some (.cells ({ m with ha:=some ⟨gh,0,none⟩,hl:=m.hl,hc:=ch}:Mi).cells 31):=(hBb1.block _ (by omega)).trans HX1.o
     obtain ⟨⟨v0,v1,v2,v3,v4⟩,⟨v5,v6,v7,v8⟩,vf⟩:=Mi.get hkb1;have vf1:=vf 1;clear vf;obtain ⟨W2,hW2⟩: ∃W,Wb1.setCell ⟨wb.heap.size,1,none⟩ (.slice (some ⟨gg,0,none⟩) m.gl cg)=W:=⟨_,rfl⟩
     have HX2:Hid (W2.heap[wb.heap.size]?=some (.cells ({ ({ m with ha:=some ⟨gh,0,none⟩,hl:=m.hl,hc:=ch}:Mi)with ga:=some ⟨gg,0,none⟩,gl:=m.gl,gc:=cg}:Mi).cells 31)):=by rw[Hid,←hW2];exact setM1 _ _ _ hkb1
     have HGr1:Hid (W1.grownBy W2 (some wb.heap.size)):=by rw[Hid,←hW2];exact hgs1
     have s2:W0.heap.size≤W2.heap.size:=by have:=HGr1.o.size;omega
     have HB2:Hid (Below w.heap.size w W2):=HB1.o.grown HGr1.o HB1.o.size (fun k e=>by have:=Option.some.inj e;omega)
     have HK2:Hid (W2.heap[w.heap.size]?=some (.cells m.cells 31)):=(HGr1.o.block _ (by omega) (fun e=>by have:=Option.some.inj e;omega)).trans HK1.o
     have HZ2:Hid (W2.heap[wa.heap.size]?=some (.cells miZ.cells 31)):=(HGr1.o.block _ (by omega) (fun e=>by have:=Option.some.inj e;omega)).trans HZ1.o
     have HR1_2:Hid (W2.ownsRow W0.heap.size 76 3 (.slice (some ⟨gg,0,none⟩) m.gl cg) m.gl (goalL m.g m.gl)):=by
      rw[Hid,←hW2];exact (ownsRow_mono ho1 (by omega)).kept (grown_set _ _ _) (.inr (fun e=>by have:=(ho1.lt gg rfl).1;have:gg=wb.heap.size:=Option.some.inj e;omega))
     have HR0_2:Hid (W2.ownsRow W0.heap.size 81 3 (.slice (some ⟨gh,0,none⟩) m.hl ch) m.hl (cellL m.h m.hl)):=HR0_1.o.kept HGr1.o (.inr (fun e=>by have:=(HR0_1.o.lt gh rfl).1;have:gh=wb.heap.size:=Option.some.inj e;omega))
     clear ho1 hg1 hat1 hgs1 hBb1;obtain ⟨Wa2,hWa2⟩: ∃W,W2.alloc (.cells #[] 78)=W:=⟨_,rfl⟩;have HOw2:Hid (Wa2.ownsRow W2.heap.size 78 5 (.slice (some ⟨W2.heap.size,0,none⟩) 0 0) 0 []):=by rw[←hWa2];exact World.ownsRow_lit _ #[] 0 (Nat.le_refl _) (by unfold maxLen;omega) rfl
     have HBl2:Hid (Below W2.heap.size W2 Wa2):=by rw[←hWa2];exact (Below.refl _ _).alloc (Nat.le_refl _) _
     have sa2:W2.heap.size+1≤Wa2.heap.size:=by rw[←hWa2];simp
     have HBm2:Hid (Below w.heap.size w Wa2):=HB2.o.trans (HBl2.o.mono HB2.o.size);have HKa2:Hid (Wa2.heap[w.heap.size]?=some (.cells m.cells 31)):=(HBl2.o.block _ (by omega)).trans HK2.o
     have q2:Wa2.cell? ⟨w.heap.size,3,none⟩=some (.slice m.ca m.cl m.cc):=(Mi.get HKa2.o).1.2.2.2.1;have HNw2:Hid (∀ad,m.ca=some ad→∀j u,(chL m.c m.cl)[j]?=some u→Wa2.cell? (ad.add j)=some u):=flatF_news (chF m.c) 5 m.cl (by decide) (fun _=>rfl) (ch_rows (HM.o _ (HBm2.o)).c)
     have HNn2:Hid (m.ca=none→m.cl=0):=flatF_none (chF m.c) 5 m.cl (ch_rows (HM.o _ (HBm2.o)).c)
     skip)
  | (at_builtin
     refine wpList_appG rfl (.tmp 18) (.tmp 20) 27 rfl W2.heap.size 78 k0 (.agg #[iV 0,iV 0,iV 0,iV 0,iV 0]) 5 40 Tryz.underlying27 hk0 kz0 kz1 kz2 rfl (by decide) W2.heap.size 0 0 [] rfl HOw2.o m.ca m.cl m.cc (chL m.c m.cl) rfl (chL_length _ _) HNn2.o HNw2.o (chL_one _ _) (by unfold maxLen;omega) (by omega) (by omega) m.cl (chL m.c m.cl) (Nat.zero_add _) (List.nil_append _) ?_
     intro gk ck Wb2 ho2 hg2 hat2;have hgs2:W2.grownBy (Wb2.setCell ⟨wb.heap.size,3,none⟩ (.slice (some ⟨gk,0,none⟩) m.cl ck)) (some wb.heap.size):=grow_set HBl2.o hg2 (Nat.le_refl _);have hBb2:Below W2.heap.size W2 Wb2:=HBl2.o.grown hg2 HBl2.o.size (fun k e=>by have:=Option.some.inj e;omega)
     have hkb2:Wb2.heap[wb.heap.size]?=some (.cells ({ ({ m with ha:=some ⟨gh,0,none⟩,hl:=m.hl,hc:=ch}:Mi)with ga:=some ⟨gg,0,none⟩,gl:=m.gl,gc:=cg}:Mi).cells 31):=(hBb2.block _ (by omega)).trans HX2.o
     obtain ⟨⟨v0,v1,v2,v3,v4⟩,⟨v5,v6,v7,v8⟩,vf⟩:=Mi.get hkb2;have vf2:=vf 3;clear vf;obtain ⟨W3,hW3⟩: ∃W,Wb2.setCell ⟨wb.heap.size,3,none⟩ (.slice (some ⟨gk,0,none⟩) m.cl ck)=W:=⟨_,rfl⟩
     have HX3:Hid (W3.heap[wb.heap.size]?=some (.cells ({ ({ ({ m with ha:=some ⟨gh,0,none⟩,hl:=m.hl,hc:=ch}:Mi)with ga:=some ⟨gg,0,none⟩,gl:=m.gl,gc:=cg}:Mi)with ca:=some ⟨gk,0,none⟩,cl:=m.cl,cc:=ck}:Mi).cells 31)):=by rw[Hid,←hW3];exact setM3 _ _ _ hkb2
     have HGr2:Hid (W2.grownBy W3 (some wb.heap.size)):=by rw[Hid,←hW3];exact hgs2
     have s3:W0.heap.size≤W3.heap.size:=by have:=HGr2.o.size;omega
     have HB3:Hid (Below w.heap.size w W3):=HB2.o.grown HGr2.o HB2.o.size (fun k e=>by have:=Option.some.inj e;omega)
     have HK3:Hid (W3.heap[w.heap.size]?=some (.cells m.cells 31)):=(HGr2.o.block _ (by omega) (fun e=>by have:=Option.some.inj e;omega)).trans HK2.o
     have HZ3:Hid (W3.heap[wa.heap.size]?=some (.cells miZ.cells 31)):=(HGr2.o.block _ (by omega) (fun e=>by have:=Option.some.inj e;omega)).trans HZ2.o
     have HR2_3:Hid (W3.ownsRow W0.heap.size 78 5 (.slice (some ⟨gk,0,none⟩) m.cl ck) m.cl (chL m.c m.cl)):=by
      rw[Hid,←hW3];exact (ownsRow_mono ho2 (by omega)).kept (grown_set _ _ _) (.inr (fun e=>by have:=(ho2.lt gk rfl).1;have:gk=wb.heap.size:=Option.some.inj e;omega))
     have HR0_3:Hid (W3.ownsRow W0.heap.size 81 3 (.slice (some ⟨gh,0,none⟩) m.hl ch) m.hl (cellL m.h m.hl)):=HR0_2.o.kept HGr2.o (.inr (fun e=>by have:=(HR0_2.o.lt gh rfl).1;have:gh=wb.heap.size:=Option.some.inj e;omega))
     have HR1_3:Hid (W3.ownsRow W0.heap.size 76 3 (.slice (some ⟨gg,0,none⟩) m.gl cg) m.gl (goalL m.g m.gl)):=HR1_2.o.kept HGr2.o (.inr (fun e=>by have:=(HR1_2.o.lt gg rfl).1;have:gg=wb.heap.size:=Option.some.inj e;omega))
     clear ho2 hg2 hat2 hgs2 hBb2;obtain ⟨Wa3,hWa3⟩: ∃W,W3.alloc (.cells #[] 3)=W:=⟨_,rfl⟩;have HOw3:Hid (Wa3.ownsRow W3.heap.size 3 1 (.slice (some ⟨W3.heap.size,0,none⟩) 0 0) 0 []):=by rw[←hWa3];exact World.ownsRow_lit _ #[] 0 (Nat.le_refl _) (by unfold maxLen;omega) rfl
     have HBl3:Hid (Below W3.heap.size W3 Wa3):=by rw[←hWa3];exact (Below.refl _ _).alloc (Nat.le_refl _) _
     have sa3:W3.heap.size+1≤Wa3.heap.size:=by rw[←hWa3];simp
     have HBm3:Hid (Below w.heap.size w Wa3):=HB3.o.trans (HBl3.o.mono HB3.o.size);have HKa3:Hid (Wa3.heap[w.heap.size]?=some (.cells m.cells 31)):=(HBl3.o.block _ (by omega)).trans HK3.o
     have q3:Wa3.cell? ⟨w.heap.size,4,none⟩=some (.slice m.ta m.tl m.tc):=(Mi.get HKa3.o).1.2.2.2.2;have HNw3:Hid (∀ad,m.ta=some ad→∀j u,(intL m.t m.tl)[j]?=some u→Wa3.cell? (ad.add j)=some u):=irow_news (HM.o _ (HBm3.o)).t;have HNn3:Hid (m.ta=none→m.tl=0):=irow_none (HM.o _ (HBm3.o)).t
     skip)
  | (at_builtin
     refine wpList_appG rfl (.tmp 23) (.tmp 25) 28 rfl W3.heap.size 3 i0 (iV 0) 1 8 Tryz.underlying28 hi0 iz0 iz1 iz2 rfl (by decide) W3.heap.size 0 0 [] rfl HOw3.o m.ta m.tl m.tc (intL m.t m.tl) rfl (intL_length _ _) HNn3.o HNw3.o (intL_one _ _) (by unfold maxLen;omega) (by omega) (by omega) m.tl (intL m.t m.tl) (Nat.zero_add _) (List.nil_append _) ?_
     intro gt ct Wb3 ho3 hg3 hat3;have hgs3:W3.grownBy (Wb3.setCell ⟨wb.heap.size,4,none⟩ (.slice (some ⟨gt,0,none⟩) m.tl ct)) (some wb.heap.size):=grow_set HBl3.o hg3 (Nat.le_refl _);have hBb3:Below W3.heap.size W3 Wb3:=HBl3.o.grown hg3 HBl3.o.size (fun k e=>by have:=Option.some.inj e;omega)
     have hkb3:Wb3.heap[wb.heap.size]?=some (.cells ({ ({ ({ m with ha:=some ⟨gh,0,none⟩,hl:=m.hl,hc:=ch}:Mi)with ga:=some ⟨gg,0,none⟩,gl:=m.gl,gc:=cg}:Mi)with ca:=some ⟨gk,0,none⟩,cl:=m.cl,cc:=ck}:Mi).cells 31):=(hBb3.block _ (by omega)).trans HX3.o
     obtain ⟨⟨v0,v1,v2,v3,v4⟩,⟨v5,v6,v7,v8⟩,vf⟩:=Mi.get hkb3;have vf3:=vf 4;clear vf;obtain ⟨W4,hW4⟩: ∃W,Wb3.setCell ⟨wb.heap.size,4,none⟩ (.slice (some ⟨gt,0,none⟩) m.tl ct)=W:=⟨_,rfl⟩
     have HX4:Hid (W4.heap[wb.heap.size]?=some (.cells ({ ({ ({ ({ m with ha:=some ⟨gh,0,none⟩,hl:=m.hl,hc:=ch}:Mi)with ga:=some ⟨gg,0,none⟩,gl:=m.gl,gc:=cg}:Mi)with ca:=some ⟨gk,0,none⟩,cl:=m.cl,cc:=ck}:Mi)with ta:=some ⟨gt,0,none⟩,tl:=m.tl,tc:=ct}:Mi).cells 31)):=by rw[Hid,←hW4];exact setM4 _ _ _ hkb3
     have HGr3:Hid (W3.grownBy W4 (some wb.heap.size)):=by rw[Hid,←hW4];exact hgs3
     have s4:W0.heap.size≤W4.heap.size:=by have:=HGr3.o.size;omega
     have HB4:Hid (Below w.heap.size w W4):=HB3.o.grown HGr3.o HB3.o.size (fun k e=>by have:=Option.some.inj e;omega)
     have HK4:Hid (W4.heap[w.heap.size]?=some (.cells m.cells 31)):=(HGr3.o.block _ (by omega) (fun e=>by have:=Option.some.inj e;omega)).trans HK3.o
     have HZ4:Hid (W4.heap[wa.heap.size]?=some (.cells miZ.cells 31)):=(HGr3.o.block _ (by omega) (fun e=>by have:=Option.some.inj e;omega)).trans HZ3.o
     have HR3_4:Hid (W4.ownsRow W0.heap.size 3 1 (.slice (some ⟨gt,0,none⟩) m.tl ct) m.tl (intL m.t m.tl)):=by
      rw[Hid,←hW4];exact (ownsRow_mono ho3 (by omega)).kept (grown_set _ _ _) (.inr (fun e=>by have:=(ho3.lt gt rfl).1;have:gt=wb.heap.size:=Option.some.inj e;omega))
     have HR0_4:Hid (W4.ownsRow W0.heap.size 81 3 (.slice (some ⟨gh,0,none⟩) m.hl ch) m.hl (cellL m.h m.hl)):=HR0_3.o.kept HGr3.o (.inr (fun e=>by have:=(HR0_3.o.lt gh rfl).1;have:gh=wb.heap.size:=Option.some.inj e;omega))
     have HR1_4:Hid (W4.ownsRow W0.heap.size 76 3 (.slice (some ⟨gg,0,none⟩) m.gl cg) m.gl (goalL m.g m.gl)):=HR1_3.o.kept HGr3.o (.inr (fun e=>by have:=(HR1_3.o.lt gg rfl).1;have:gg=wb.heap.size:=Option.some.inj e;omega))
     have HR2_4:Hid (W4.ownsRow W0.heap.size 78 5 (.slice (some ⟨gk,0,none⟩) m.cl ck) m.cl (chL m.c m.cl)):=HR2_3.o.kept HGr3.o (.inr (fun e=>by have:=(HR2_3.o.lt gk rfl).1;have:gk=wb.heap.size:=Option.some.inj e;omega))
     clear ho3 hg3 hat3 hgs3 hBb3;obtain ⟨Wa4,hWa4⟩: ∃W,W4.alloc (.cells #[] 3)=W:=⟨_,rfl⟩;have HOw4:Hid (Wa4.ownsRow W4.heap.size 3 1 (.slice (some ⟨W4.heap.size,0,none⟩) 0 0) 0 []):=by rw[←hWa4];exact World.ownsRow_lit _ #[] 0 (Nat.le_refl _) (by unfold maxLen;omega) rfl
     have HBl4:Hid (Below W4.heap.size W4 Wa4):=by rw[←hWa4];exact (Below.refl _ _).alloc (Nat.le_refl _) _
     have sa4:W4.heap.size+1≤Wa4.heap.size:=by rw[←hWa4];simp
     have HBm4:Hid (Below w.heap.size w Wa4):=HB4.o.trans (HBl4.o.mono HB4.o.size);have HKa4:Hid (Wa4.heap[w.heap.size]?=some (.cells m.cells 31)):=(HBl4.o.block _ (by omega)).trans HK4.o
     have q4:Wa4.cell? ⟨w.heap.size,5,none⟩=some (.slice m.qa m.ql m.qc):=(Mi.get HKa4.o).2.1.1;have HNw4:Hid (∀ad,m.qa=some ad→∀j u,(intL m.q m.ql)[j]?=some u→Wa4.cell? (ad.add j)=some u):=irow_news (HM.o _ (HBm4.o)).q;have HNn4:Hid (m.qa=none→m.ql=0):=irow_none (HM.o _ (HBm4.o)).q
     skip)
  | (at_builtin
     refine wpList_appG rfl (.tmp 28) (.tmp 30) 28 rfl W4.heap.size 3 i0 (iV 0) 1 8 Tryz.underlying28 hi0 iz0 iz1 iz2 rfl (by decide) W4.heap.size 0 0 [] rfl HOw4.o m.qa m.ql m.qc (intL m.q m.ql) rfl (intL_length _ _) HNn4.o HNw4.o (intL_one _ _) (by unfold maxLen;omega) (by omega) (by omega) m.ql (intL m.q m.ql) (Nat.zero_add _) (List.nil_append _) ?_
     intro gq cq Wb4 ho4 hg4 hat4;have hgs4:W4.grownBy (Wb4.setCell ⟨wb.heap.size,5,none⟩ (.slice (some ⟨gq,0,none⟩) m.ql cq)) (some wb.heap.size):=grow_set HBl4.o hg4 (Nat.le_refl _);have hBb4:Below W4.heap.size W4 Wb4:=HBl4.o.grown hg4 HBl4.o.size (fun k e=>by have:=Option.some.inj e;omega)
     have hkb4:Wb4.heap[wb.heap.size]?=some (.cells ({ ({ ({ ({ m with ha:=some ⟨gh,0,none⟩,hl:=m.hl,hc:=ch}:Mi)with ga:=some ⟨gg,0,none⟩,gl:=m.gl,gc:=cg}:Mi)with ca:=some ⟨gk,0,none⟩,cl:=m.cl,cc:=ck}:Mi)with ta:=some ⟨gt,0,none⟩,tl:=m.tl,tc:=ct}:Mi).cells 31):=(hBb4.block _ (by omega)).trans HX4.o
     obtain ⟨⟨v0,v1,v2,v3,v4⟩,⟨v5,v6,v7,v8⟩,vf⟩:=Mi.get hkb4;have vf4:=vf 5;clear vf;obtain ⟨W5,hW5⟩: ∃W,Wb4.setCell ⟨wb.heap.size,5,none⟩ (.slice (some ⟨gq,0,none⟩) m.ql cq)=W:=⟨_,rfl⟩
     have HX5:Hid (W5.heap[wb.heap.size]?=some (.cells ({ ({ ({ ({ ({ m with ha:=some ⟨gh,0,none⟩,hl:=m.hl,hc:=ch}:Mi)with ga:=some ⟨gg,0,none⟩,gl:=m.gl,gc:=cg}:Mi)with ca:=some ⟨gk,0,none⟩,cl:=m.cl,cc:=ck}:Mi)with ta:=some ⟨gt,0,none⟩,tl:=m.tl,tc:=ct}:Mi)with qa:=some ⟨gq,0,none⟩,ql:=m.ql,qc:=cq}:Mi).cells 31)):=by rw[Hid,←hW5];exact setM5 _ _ _ hkb4
     have HGr4:Hid (W4.grownBy W5 (some wb.heap.size)):=by rw[Hid,←hW5];exact hgs4
     have s5:W0.heap.size≤W5.heap.size:=by have:=HGr4.o.size;omega
     have HB5:Hid (Below w.heap.size w W5):=HB4.o.grown HGr4.o HB4.o.size (fun k e=>by have:=Option.some.inj e;omega)
     have HK5:Hid (W5.heap[w.heap.size]?=some (.cells m.cells 31)):=(HGr4.o.block _ (by omega) (fun e=>by have:=Option.some.inj e;omega)).trans HK4.o
     have HZ5:Hid (W5.heap[wa.heap.size]?=some (.cells miZ.cells 31)):=(HGr4.o.block _ (by omega) (fun e=>by have:=Option.some.inj e;omega)).trans HZ4.o
     have HR4_5:Hid (W5.ownsRow W0.heap.size 3 1 (.slice (some ⟨gq,0,none⟩) m.ql cq) m.ql (intL m.q m.ql)):=by
      rw[Hid,←hW5];exact (ownsRow_mono ho4 (by omega)).kept (grown_set _ _ _) (.inr (fun e=>by have:=(ho4.lt gq rfl).1;have:gq=wb.heap.size:=Option.some.inj e;omega))
     have HR0_5:Hid (W5.ownsRow W0.heap.size 81 3 (.slice (some ⟨gh,0,none⟩) m.hl ch) m.hl (cellL m.h m.hl)):=HR0_4.o.kept HGr4.o (.inr (fun e=>by have:=(HR0_4.o.lt gh rfl).1;have:gh=wb.heap.size:=Option.some.inj e;omega))
     have HR1_5:Hid (W5.ownsRow W0.heap.size 76 3 (.slice (some ⟨gg,0,none⟩) m.gl cg) m.gl (goalL m.g m.gl)):=HR1_4.o.kept HGr4.o (.inr (fun e=>by have:=(HR1_4.o.lt gg rfl).1;have:gg=wb.heap.size:=Option.some.inj e;omega))
     have HR2_5:Hid (W5.ownsRow W0.heap.size 78 5 (.slice (some ⟨gk,0,none⟩) m.cl ck) m.cl (chL m.c m.cl)):=HR2_4.o.kept HGr4.o (.inr (fun e=>by have:=(HR2_4.o.lt gk rfl).1;have:gk=wb.heap.size:=Option.some.inj e;omega))
     have HR3_5:Hid (W5.ownsRow W0.heap.size 3 1 (.slice (some ⟨gt,0,none⟩) m.tl ct) m.tl (intL m.t m.tl)):=HR3_4.o.kept HGr4.o (.inr (fun e=>by have:=(HR3_4.o.lt gt rfl).1;have:gt=wb.heap.size:=Option.some.inj e;omega))
     clear ho4 hg4 hat4 hgs4 hBb4;obtain ⟨⟨y0,y1,y2,y3,y4⟩,⟨y5,y6,y7,y8⟩,yf⟩:=Mi.get HX5.o;have yf8:=yf 8;obtain ⟨W6,hW6⟩: ∃W,W5.setCell ⟨wb.heap.size,8,none⟩ (.slice none 0 0)=W:=⟨_,rfl⟩;have hg6:W5.grownBy W6 (some wb.heap.size):=by rw[←hW6];exact grown_set _ _ _
     have HX6:Hid (W6.heap[wb.heap.size]?=some (.cells ({ xM m gh ch gg cg gk ck gt ct gq cq with aa:=none,al:=0,ac:=0}:Mi).cells 31)):=by rw[Hid,←hW6];exact setM8 none 0 0 HX5.o
     have HFx:Hid (W0.heap.size≤W6.heap.size∧∀W,W6.grownBy W (some wb.heap.size)→Below w.heap.size w W∧W.heap[w.heap.size]?=some (.cells m.cells 31)∧W.heap[wa.heap.size]?=some (.cells miZ.cells 31)∧CpR m W0.heap.size W gh ch gg cg gk ck gt ct gq cq):=by
      refine ⟨by have:=hg6.size;omega,fun W hW=>?_⟩
      have h56:W5.grownBy W (some wb.heap.size):=G.trans hg6 hW;refine ⟨HB5.o.grown h56 HB5.o.size (fun k e=>by have:=Option.some.inj e;omega),(h56.block _ (by omega) (fun e=>by have:=Option.some.inj e;omega)).trans HK5.o,(h56.block _ (by omega) (fun e=>by have:=Option.some.inj e;omega)).trans HZ5.o,?_⟩
      exact CpR.kept (h:=⟨by rw[←cellL_flat];exact HR0_5.o,HR1_5.o,HR2_5.o,HR3_5.o,HR4_5.o⟩) h56 (by omega)
     clear yf hg6))
 clear hWa hWb hW0 hWa0 hW1 hWa1 hW2 hWa2 hW3 hWa3 hW4 hWa4 hW5 hW6 q0 q1 q2 q3 q4 y0 y1 y2 y3 y4 y5 y6 y7 y8 yf8 v0 v1 v2 v3 v4 v5 v6 v7 v8 u0 u1 u2 u3 u4 u5 u6 u7 u8 vf0 vf1 vf2 vf3 vf4;obtain ⟨t0,ht0,tz0,tz1,tz2⟩:=info_parts infoCpTerm;obtain ⟨e0,he0,ez0,ez1,ez2⟩:=info_parts infoCpAnswer
 go_loopw [4] (fun iv wr=>∃(i:Nat) (a8:Option Addr) (c8:Nat) (xs:List Value),i≤an.length∧iv=iV (i:Int)∧W6.grownBy wr (some wb.heap.size)∧wr.heap[wb.heap.size]?=some (.cells ({ xM m gh ch gg cg gk ck gt ct gq cq with aa:=a8,al:=i,ac:=c8}:Mi).cells 31)∧wr.ownsRow W6.heap.size 87 1 (.slice a8 i c8) i xs) (fun iv _=>an.length-(intOf iv).toNat)
 case atStart=>exact ⟨0,none,0,[],Nat.zero_le _,rfl,⟨rfl,rfl,rfl,Nat.le_refl _,fun _ _ _=>rfl⟩,HX6.o,World.ownsRow_nil _ _ _ _⟩
 case round=>
  obtain ⟨i,a8,c8,xs,hi,rfl,hG,hX,hR⟩:=hrel;have HG:Hid (W6.grownBy wr (some wb.heap.size)):=hG
  have HX:Hid (wr.heap[wb.heap.size]?=some (.cells ({ xM m gh ch gg cg gk ck gt ct gq cq with aa:=a8,al:=i,ac:=c8}:Mi).cells 31)):=hX
  have HR:Hid (wr.ownsRow W6.heap.size 87 1 (.slice a8 i c8) i xs):=hR;obtain ⟨hBw,hK,hZ,hC⟩:=HFx.o.2 wr hG;have HBw:Hid (Below w.heap.size w wr):=hBw;have HK:Hid (wr.heap[w.heap.size]?=some (.cells m.cells 31)):=hK;have HZ:Hid (wr.heap[wa.heap.size]?=some (.cells miZ.cells 31)):=hZ;have HCp:Hid (CpR m W0.heap.size wr gh ch gg cg gk ck gt ct gq cq):=hC;obtain ⟨_,⟨_,_,_,u8⟩,_⟩:=Mi.get hK;have hs6:W0.heap.size≤W6.heap.size:=HFx.o.1;have hsr:W6.heap.size≤wr.heap.size:=hG.size;clear hG hX hR hBw hK hZ hC
  by_cases hil:i<an.length
  case neg=>
   have hiI: ¬((i:Int)<(m.al:Int)):=by have:=HAl.o;omega
   obtain ⟨⟨x0,x1,x2,x3,x4⟩,⟨x5,x6,x7,x8⟩,_⟩:=Mi.get HX.o;obtain ⟨⟨z0,z1,z2,z3,z4⟩,⟨z5,z6,z7,z8⟩,zf⟩:=Mi.get HZ.o;have zf0:=zf 0;have zf1:=zf 1;have zf2:=zf 2;have zf3:=zf 3;have zf4:=zf 4;have zf5:=zf 5;have zf6:=zf 6;have zf7:=zf 7;have zf8:=zf 8;simp only[xM,miZ]at x0 x1 x2 x3 x4 x5 x6 x7 x8 z0 z1 z2 z3 z4 z5 z6 z7 z8;clear zf;go_wp2_with fail
   obtain ⟨hS1,hS2⟩:=set9m_blk (m:= { xM m gh ch gg cg gk ck gt ct gq cq with aa:=a8,al:=i,ac:=c8}) HZ.o
   obtain ⟨⟨g0,g1,g2,g3,g4⟩,⟨g5,g6,g7,g8⟩,_⟩:=Mi.get hS1
   have hB':Below w.heap.size w (set9m wr wa.heap.size { xM m gh ch gg cg gk ck gt ct gq cq with aa:=a8,al:=i,ac:=c8}):=HBw.o.grown hS2 HBw.o.size (fun k e=>by have:=Option.some.inj e;omega)
   have hC':CpR m w.heap.size (set9m wr wa.heap.size { xM m gh ch gg cg gk ck gt ct gq cq with aa:=a8,al:=i,ac:=c8}) gh ch gg cg gk ck gt ct gq cq:=by
    have h:=HCp.o.kept hS2 (by omega)
    exact ⟨ownsRow_mono h.h (by omega),ownsRow_mono h.g (by omega),ownsRow_mono h.k (by omega),ownsRow_mono h.t (by omega),ownsRow_mono h.q (by omega)⟩
   show bodyPost _ _ _ _ _ (set9m wr wa.heap.size { xM m gh ch gg cg gk ck gt ct gq cq with aa:=a8,al:=i,ac:=c8})
   generalize set9m wr wa.heap.size { xM m gh ch gg cg gk ck gt ct gq cq with aa:=a8,al:=i,ac:=c8} =W' at*
   refine bodyPost_ret (v:=.agg ({ xM m gh ch gg cg gk ck gt ct gq cq with aa:=a8,al:=i,ac:=c8}:Mi).cells) ?_ rfl ⟨gh,ch,gg,cg,gk,ck,gt,ct,gq,cq,a8,i,c8,rfl,hB',hC'⟩
   simp[results,Tryz.results40,go_sem,g0,g1,g2,g3,g4,g5,g6,g7,g8,Mi.cells]
  have hiI:(i:Int)<(m.al:Int):=by have:=HAl.o;omega
  obtain ⟨⟨b,o,haa,d0'⟩,hT⟩:=HAn.o wr HBw.o i hil;have HT:Hid (∀W,Below wr.heap.size wr W→TIn W an[i]):=fun W hW=>hT.below hW
  have HSm:Hid (SmT an[i]):=HS.o _ (List.getElem_mem _);clear hT;generalize an[i]=A at*;rw[haa]at u8;have HKe:Hid (∀W,Below wr.heap.size wr W→W.cell? ⟨w.heap.size,8,none⟩=some (.slice (some ⟨b,o,none⟩) m.al m.ac)∧W.cell? ⟨b,o+i,none⟩=some (.slice A.a A.len A.cap)):=fun W hW=>⟨(hW.cell (lt_of_cell u8)).trans u8,(hW.cell (lt_of_cell d0')).trans d0'⟩
  have hlA:A.len*48≤140737488351232:=HSm.o.len;clear haa;go_wp2_with fail;generalize wr=wo at*;clear u8 d0'
  go_loopw [5,6] (fun av kv wr=>∃(k:Nat) (x:Option Addr) (c:Nat) (ys:List Value),k≤A.len∧av=.slice x k c∧kv=iV (k:Int)∧wr.ownsRow wo.heap.size 67 3 (.slice x k c) k ys∧Below wo.heap.size wo wr) (fun _ kv _=>A.len-(intOf kv).toNat)
  case atStart=>exact ⟨0,none,0,[],Nat.zero_le _,rfl,rfl,World.ownsRow_nil _ _ _ _,Below.refl _ _⟩
  case round=>
   obtain ⟨k,x,c,ys,hk,rfl,rfl,hr,hb⟩:=hrel;have HRr:Hid (wr.ownsRow wo.heap.size 67 3 (.slice x k c) k ys):=hr;have HBr:Hid (Below wo.heap.size wo wr):=hb;obtain ⟨u8,d0'⟩:=HKe.o wr hb;have hsz:=hb.size;clear hr hb
   by_cases hkl:k<A.len
   case pos=>
    have hkI:(k:Int)<(A.len:Int):=by omega
    obtain ⟨b2,o2,hAa,r0,r1,r2⟩:=(HT.o wr HBr.o).row hkl;have HFr:Hid (Calls Tryz.prog 74 #[.agg #[iV (A.f k).v,.string (A.f k).nm,.slice (A.f k).a (A.f k).len (A.f k).cap],iV 0] wr (FwP wr)):=farw_all (A.f k) 0 wr ((HT.o wr HBr.o).kid hkl) (HSm.o.kid hkl);rw[hAa]at d0';clear hAa;go_wp2_with fail;refine HFr.o.mono ?_;rintro e w5 ⟨X,rfl,hb5,hX5,_⟩;rw[show X.val=.agg #[iV X.v,.string X.nm,.slice X.a X.len X.cap]from rfl]
    have HR5:Hid ((w5.alloc (.cells #[iV X.v,.string X.nm,.slice X.a X.len X.cap] 67)).ownsRow wo.heap.size 67 3 (.slice x k c) k ys):=(HRr.o.kept (grown_of_below hb5 none) (by cases x <;> simp[Value.ownBlock])).alloc _
    have HB5':Hid (Below wo.heap.size wo (w5.alloc (.cells #[iV X.v,.string X.nm,.slice X.a X.len X.cap] 67))):=(HBr.o.trans (hb5.mono HBr.o.size)).alloc (by have:=hb5.size;omega) _
    have hs5:wr.heap.size≤w5.heap.size:=hb5.size;clear hb5 hX5 HFr u8 d0' r0 r1 r2;go_wp2_with (at_builtin;refine wpList_append_own_at _ rfl (.tmp 51) (.tmp 61) 87 rfl wo.heap.size 67 t0 (.agg #[iV 0,.string ByteArray.empty,.slice none 0 0]) 3 48 Tryz.underlying87 ht0 tz0 tz1 tz2 rfl (by decide) (.slice x k c) k ys rfl HR5.o ⟨w5.heap.size,0,none⟩ 1 1 (flat [X]) rfl rfl (news1 w5 X) (flat_one _) (by unfold maxLen;omega) (by omega) (by simp;omega) ?_;intro v' w6 hown' hgrow hnil hat;obtain ⟨x',c',hv',_⟩:=row_nil hown';subst hv';have HR6:Hid (w6.ownsRow wo.heap.size 67 3 (.slice x' (k+1) c') (k+1) (ys++flat [X])):=hown';have HB6':Hid (Below wo.heap.size wo w6):=HB5'.o.grown hgrow HB5'.o.size (fun q hq=>(HR5.o.lt q hq).1);clear hown' hgrow hnil hat)
    go_roundw
    case rel=>exact ⟨k+1,x',c',_,by omega,rfl,by go_num,HR6.o,HB6'.o⟩
    case measure=>simp[intOf];omega
   have hkI: ¬((k:Int)<(A.len:Int)):=by omega
   have HXq:Hid (wr.heap[wb.heap.size]?=some (.cells ({ xM m gh ch gg cg gk ck gt ct gq cq with aa:=a8,al:=i,ac:=c8}:Mi).cells 31)):=(HBr.o.block _ (Array.getElem?_eq_some_iff.1 HX.o).1).trans HX.o
   obtain ⟨Wv,hWv⟩: ∃W,wr.alloc (.cells #[.slice x k c] 87)=W:=⟨_,rfl⟩;have hBv:Below wr.heap.size wr Wv:=by rw[←hWv];exact (Below.refl _ _).alloc (Nat.le_refl _) _
   have HBv:Hid (Below wo.heap.size wo Wv):=HBr.o.trans (hBv.mono HBr.o.size);have HRv:Hid (Wv.ownsRow W6.heap.size 87 1 (.slice a8 i c8) i xs):=HR.o.kept (grown_of_below HBv.o none) (by cases a8 <;> simp[Value.ownBlock])
   have HXv:Hid (Wv.heap[wb.heap.size]?=some (.cells ({ xM m gh ch gg cg gk ck gt ct gq cq with aa:=a8,al:=i,ac:=c8}:Mi).cells 31)):=(hBv.block _ (Array.getElem?_eq_some_iff.1 HXq.o).1).trans HXq.o
   have HNv:Hid (∀j u,[Value.slice x k c][j]?=some u→Wv.cell? ((⟨wr.heap.size,0,none⟩:Addr).add j)=some u):=by rw[Hid,←hWv];exact cell_one_new _ _ _
   have hsv:wo.heap.size≤Wv.heap.size:=HBv.o.size;obtain ⟨_,⟨_,_,_,w8⟩,_⟩:=Mi.get HXq.o;have w8':wr.cell? ⟨wb.heap.size,8,none⟩=some (.slice a8 i c8):=w8;clear w8 hBv
   go_wp2_with (at_builtin;refine wpList_append_own_at _ rfl (.tmp 64) (.tmp 66) 29 rfl W6.heap.size 87 e0 (.slice none 0 0) 1 24 Tryz.underlying29 he0 ez0 ez1 ez2 rfl (by decide) (.slice a8 i c8) i xs rfl HRv.o ⟨wr.heap.size,0,none⟩ 1 1 [.slice x k c] rfl rfl HNv.o (fun u hu=>by rw[List.mem_singleton.1 hu];rfl) (by unfold maxLen;omega) (by omega) (by omega) ?_;intro v' w6 hown' hgrow hnil hat;obtain ⟨x',c',hv',_⟩:=row_nil hown';subst hv';have HR6:Hid (w6.ownsRow W6.heap.size 87 1 (.slice x' (i+1) c') (i+1) (xs++ [.slice x k c])):=hown';have hx6:w6.heap[wb.heap.size]?=some (.cells ({ xM m gh ch gg cg gk ck gt ct gq cq with aa:=a8,al:=i,ac:=c8}:Mi).cells 31):=(hgrow.block _ (Array.getElem?_eq_some_iff.1 HXv.o).1 (fun e=>by have:=(HRv.o.lt _ e.symm).1;omega)).trans HXv.o;have HG6:Hid (W6.grownBy w6 (some wb.heap.size)):=grown3 HG.o HBv.o hgrow (fun q hq=>(HRv.o.lt q hq).1);obtain ⟨_,⟨_,_,_,w8⟩,wf⟩:=Mi.get hx6;have wf8:=wf 8;clear wf hown' hgrow hnil hat)
   have HXf:=setM8 x' (i+1) c' hx6;have hgs:=grown_set (W:=w6) wb.heap.size 8 (.slice x' (i+1) c');go_roundw
   case rel=>exact ⟨i+1,x',c',_,by omega,by go_num,G.trans HG6.o hgs,HXf,HR6.o.kept hgs (.inr (fun e=>by have:=(HR6.o.lt _ e).1;omega))⟩
   case measure=>simp[intOf];omega
end
end Go.Proofs.YtmggaclaoefdaabGreat
