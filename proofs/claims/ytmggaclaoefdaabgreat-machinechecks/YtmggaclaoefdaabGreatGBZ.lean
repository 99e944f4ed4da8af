/- Part of the proof. Part of the proof. Part of the proof. Part of the proof. Part of the proof. -/
import Derived.Test.YtmggaclaoefdaabGreatSq0
import Derived.Test.YtmggaclaoefdaabGreatCp7
import Derived.Test.YtmggaclaoefdaabGreatGBM
import Derived.Test.YtmggaclaoefdaabGreatGAK
namespace Go.Proofs.YtmggaclaoefdaabGreat
open Go.RowKit Go.Shelf
set_option linter.unusedVariables false
set_option linter.unusedSimpArgs false
def FinR (x:Int):Prop:=0≤x∧x≤4
theorem finR_if {c:Prop} [Decidable c] {x:Int} (h:FinR x):FinR (if c then 3 else x):=by
 by_cases hc:c
 ·rw[if_pos hc];exact ⟨by omega,by omega⟩
 ·rw[if_neg hc];exact h
theorem enter_fr {H B:Tm} {at' nx:Nat} {X:PM} (h:FinR X.fin):FinR (enterP H B at' nx X).1.fin:=by
 unfold enterP
 split
 ·exact ⟨by show (0:Int)≤3;omega,by show (3:Int)≤4;omega⟩
 ·split
  ·exact finR_if h
  ·split
   ·exact ⟨by show (0:Int)≤3;omega,by show (3:Int)≤4;omega⟩
   ·exact finR_if h
theorem try_fr {P:Pg} {t:Tm} {was:Chq} {at' nx:Nat}: ∀(f i:Nat) (X:PM),FinR X.fin→FinR (tryF P t was at' nx f i X).1.fin:=by
 intro f
 induction f with
 |zero=>intro i X h;exact h
 |succ f ih=>
  intro i X h;rw[tryF]
  split
  ·exact h
  ·rename_i j _
   split
   ·exact h
   ·have h1:=enter_fr (H:=P.hd j) (B:=P.bd j) (at':=at') (nx:=nx) h
    split
    ·rename_i Y hY
     rw[hY]at h1;simp only
     split
     ·exact h1
     ·exact h1
    ·rename_i Y hY
     rw[hY]at h1;exact ih _ _ h1
theorem back_fr {P:Pg}: ∀(f:Nat) (X:PM),FinR X.fin→FinR (backF P f X).fin:=by
 intro f
 induction f with
 |zero=>intro X h;exact h
 |succ f ih=>
  intro X h;rw[backF]
  split
  ·exact h
  ·split
   ·exact ⟨by show (0:Int)≤1;omega,by show (1:Int)≤4;omega⟩
   ·rename_i c _
    have h1:=try_fr (P:=P) (t:=nameT (hOf ({ undoP c { X with cs:=X.cs.dropLast} with left:=4000}:PM).h (atM { undoP c { X with cs:=X.cs.dropLast} with left:=4000}))) (was:=wasM { undoP c { X with cs:=X.cs.dropLast} with left:=4000}) (at':=atM { undoP c { X with cs:=X.cs.dropLast} with left:=4000}) (nx:=(goalM { undoP c { X with cs:=X.cs.dropLast} with left:=4000}).nx) (P.len+1) c.cl { undoP c { X with cs:=X.cs.dropLast} with left:=4000} h
    split
    ·rename_i Y hY
     have h2:FinR (tryM P c.cl { undoP c { X with cs:=X.cs.dropLast} with left:=4000}).1.fin:=h1
     rw[hY]at h2;exact h2
    ·rename_i Y hY
     have h2:FinR (tryM P c.cl { undoP c { X with cs:=X.cs.dropLast} with left:=4000}).1.fin:=h1
     rw[hY]at h2;exact ih _ h2
theorem take_fr {P:Pg} {X:PM} (h:FinR X.fin):FinR (takeM P X).fin:=by
 unfold takeM
 split
 ·exact ⟨by show (0:Int)≤4;omega,by show (4:Int)≤4;omega⟩
 ·split
  ·exact h
  ·split
   ·exact h
   ·split
    ·exact back_fr _ _ h
    ·split
     ·split
      ·exact finR_if h
      ·exact back_fr _ _ (finR_if h)
     ·have h1:FinR (tryM P 0 X).1.fin:=try_fr _ _ _ h
      split
      ·rename_i Y hY
       rw[hY]at h1;exact h1
      ·rename_i Y hY
       rw[hY]at h1;exact back_fr _ _ h1
def szL (L:List Tm):Nat:=(L.map cnt).sum
structure RnB (F:FM):Prop where
 fin:FinR F.m.fin
 an: ∀L∈F.an,szL L≤200
theorem read_sz {h:List Cl} {qs:List Nat} (H:HG (hOf h) h.length) (hq: ∀x∈qs,x<h.length):szL (readM h qs)=sumC (hOf h) h.length qs:=by
 unfold szL readM sumC;rw[List.map_map,List.map_map]
 congr 1
 apply List.map_congr_left
 intro x hx
 show cnt (ap _ (std (hOf h) h.length x))=cntA (hOf h) h.length x
 rw[cnt_ap (fun v=>by show cnt (can (vT _))=1;rw[cnt_ofcan];rfl) _ (std_okv H x (hq x hx))]
 rfl
theorem RnB.answer {P:Pg} {qs:List Nat} {F:FM} (B:RnB F) (hO:OkM P.len qs F.m):RnB (answerM P qs F):=by
 unfold answerM
 split
 ·exact ⟨⟨by show (0:Int)≤3;omega,by show (3:Int)≤4;omega⟩,B.an⟩
 ·rename_i h2
  have hsz:szL (readM F.m.h qs)≤200:=by rw[read_sz hO.s.hg hO.s.qu];omega
  have hall: ∀L∈F.an++ [readM F.m.h qs],szL L≤200:=fun L hL=>by
   rcases List.mem_append.1 hL with h|h
   ·exact B.an L h
   ·rw[List.mem_singleton.1 h];exact hsz
  split
  ·exact ⟨⟨by show (0:Int)≤1;omega,by show (1:Int)≤4;omega⟩,hall⟩
  ·exact ⟨back_fr _ _ B.fin,hall⟩
theorem RnB.settle {P:Pg} {n:Nat} {qs:List Nat} (hC:ClOk P): ∀(k:Nat) (F:FM),RnB F→RnI P n qs F→RnB (settleM P qs k F):=by
 intro k
 induction k with
 |zero=>intro F B _;exact B
 |succ k ih=>
  intro F B R;rw[settleM]
  by_cases hc:F.m.fin=0∧F.m.first=0
  ·rw[if_pos hc]
   exact ih _ (B.answer R.walk.1) (R.answer hC hc.1 hc.2).1
  ·rw[if_neg hc];exact B
theorem kids_sz (A:Tm):kids A=szL (ansC A):=by
 unfold szL ansC kidsL kids;rw[List.map_map,List.map_map,sumTo_list]
 congr 1
 apply List.map_congr_left
 intro i _
 show cnt (A.f i)=cnt (can (A.f i))
 rw[cnt_ofcan]
end Go.Proofs.YtmggaclaoefdaabGreat

namespace Go.Proofs.YtmggaclaoefdaabGreat
open Go.RowKit Go.Shelf
set_option linter.unusedVariables false
set_option linter.unusedSimpArgs false
theorem RnI.take {P:Pg} {n:Nat} {qs:List Nat} {F:FM} (hC:ClOk P) (R:RnI P n qs F) (h0:F.m.fin=0) (h1:F.m.first≠0) (hs:F.st<400):RnI P n qs { F with m:=takeM P { F.m with left:=4000},st:=F.st+1}:=by
 obtain ⟨Y,S⟩:=R.fs;have hf0:Y.fin=0:=by have:=S.m.fin;omega
 have hst:=S.st;obtain ⟨h2,_⟩:=step_sim hC S hf0 h1 (by omega)
 have hfl:=S.ok.fst
 have hO:OkM P.len qs { F.m with left:=4000}:=S.ok.same rfl rfl rfl S.ok.fst rfl
 have hT:=takeM_out (X:= { F.m with left:=4000}) (i:=F.m.first-1) hC hO (S.sz.gs5 S.s4) (by show F.m.first=_;omega) (by show F.m.first-1<F.m.gs.length;omega) h0 ⟨4000,rfl,Nat.le_refl _⟩
 have ht:(takeM P { F.m with left:=4000}).tr.length≤F.m.tr.length+8000:=hT.tr
 have hcs:(takeM P { F.m with left:=4000}).cs.length≤F.m.cs.length+1:=hT.cs
 have hR:=R.tr;have hR2:=R.cs
 exact ⟨⟨_,h2⟩,by
  show (takeM P { F.m with left:=4000}).tr.length≤8000*(F.st+1)+4000*F.an.length
  rw[Nat.mul_succ];generalize 4000*F.an.length=x at*;generalize 8000*F.st=y at*
  omega,by show (takeM P { F.m with left:=4000}).cs.length≤F.st+1;omega,R.an⟩
theorem RnB.step {P:Pg} {n:Nat} {qs:List Nat} {F:FM} (hC:ClOk P) (B:RnB F) (R:RnI P n qs F) (hs:F.m.fin=0→F.m.first≠0→F.st<400):RnB (stepM P qs F):=by
 unfold stepM
 by_cases hc:F.m.fin=0∧F.m.first≠0
 ·rw[if_pos hc]
  exact RnB.settle hC 41 _ ⟨take_fr (X:= { F.m with left:=4000}) B.fin,B.an⟩ (R.take hC hc.1 hc.2 (hs hc.1 hc.2))
 ·rw[if_neg hc]
  exact RnB.settle hC 41 _ B R
theorem start_rnb {Q:Tm} {n:Nat} (hf:(startX Q n).fin=0):RnB ⟨startX Q n,[],0⟩:=⟨by show FinR (startX Q n).fin;rw[hf];exact ⟨by omega,by omega⟩,fun L hL=>by cases hL⟩
theorem mStep_run {lo n:Nat} {r:Rn} {F:FM} {qs:List Nat} {an:List Tm} (P:Pg) (w:World) (hP:PIn w P) (hc:P.len≤P.cap) (hpv:progV P=0) (M:MC lo w r F qs an) (R:RnI P n qs F) (B:RnB F) (hq:qs.length≤12):
 Calls Tryz.prog 13 #[.slice P.a P.len P.cap,mV r] w (StpR P w F qs):=
 mStep_any P w hP hc hpv M R hq B.fin fun A hA=>by
  rw[kids_sz];have:=B.an (ansC A) (by rw[←M.ans];exact List.mem_map.2 ⟨A,hA,rfl⟩)
  omega
theorem mCheck_run {lo n:Nat} {r:Rn} {F:FM} {qs:List Nat} {an:List Tm} (P:Pg) (w:World) (hP:PIn w P) (hpv:progV P=0) (M:MC lo w r F qs an) (R:RnI P n qs F) (B:RnB F) (hq:qs.length≤12):
 Calls Tryz.prog 11 #[.slice P.a P.len P.cap,mV r] w fun e w'=>e=.returned (iV 0)∧Below w.heap.size w w':=by
 obtain ⟨hO,hg5,htr,hcs,hst4⟩:=R.walk;obtain ⟨m,em,hin,hof⟩:=M.mof hO.s.hg ⟨by omega,by omega,by omega,by omega⟩
 have hck:=mcheck_any P (m:=m) w hP hin (by have:=(progV_ok hpv).1;omega)
 rw[em]at hck;refine hck.mono ?_;rintro e w' ⟨c,rfl,hcr,hb⟩;have h0:CkR P m 0:=check_ok hpv hof hO hst4 hg5 hq B.fin;rw[hcr.same h0];exact ⟨rfl,hb⟩
end Go.Proofs.YtmggaclaoefdaabGreat

namespace Go.Proofs.YtmggaclaoefdaabGreat
open Go.RowKit
def biT (nm:ByteArray) (b:Nat) (T U:Tm):Tm:=.mk 0 nm (some ⟨b,0,none⟩) 2 2 (fun i=>if i=0 then T else U)
def sA:Tm:=leafT 0 ⟨#[97]⟩
def sV:Tm:=leafT 1 ⟨#[]⟩
def sB:Tm:=leafT 0 ⟨#[98]⟩
def smpP (b1 b3 b6 b7 b8:Nat):Pg:= { a:=some ⟨b8,0,none⟩,len:=2,cap:=2,hd:=fun i=>if i=0 then unT ⟨#[112]⟩ b1 sA else unT ⟨#[112]⟩ b3 sV,bd:=fun i=>if i=0 then leafT 0 ⟨#[]⟩else one b7 (biT ⟨#[101,113]⟩ b6 sV sB)}
theorem un_in {w:World} {b:Nat} {T:Tm} {nm:ByteArray} (hb:b=w.heap.size) (h:TIn w T) (hn:nm.size≤2):TIn (w.alloc (.cells #[iV T.v,.string T.nm,.slice T.a T.len T.cap] 67)) (unT nm b T):=
 (one_in hb h).rename (size2 _ hn)
theorem bi_in {w:World} {b:Nat} {T U:Tm} {nm:ByteArray} (hb:b=w.heap.size) (h:TIn w T) (h':TIn w U) (hn:nm.size≤2):TIn (w.alloc (.cells #[iV T.v,.string T.nm,.slice T.a T.len T.cap,iV U.v,.string U.nm,.slice U.a U.len U.cap] 67)) (biT nm b T U):=by
 subst hb;have hB:Below w.heap.size w (w.alloc (.cells #[iV T.v,.string T.nm,.slice T.a T.len T.cap,iV U.v,.string U.nm,.slice U.a U.len U.cap] 67)):=(Below.refl _ _).alloc (Nat.le_refl _) _;refine ⟨size2 _ hn,by unfold maxLen;omega,fun i hi=>?_⟩
 rcases (show i=0∨i=1 by omega)with rfl|rfl
 ·refine ⟨⟨w.heap.size,0,rfl,?_,?_,?_⟩,h.below hB⟩
  ·show World.cell? _ ⟨w.heap.size,0,none⟩=some (iV T.v);go_simp
  ·show World.cell? _ ⟨w.heap.size,1,none⟩=some (.string T.nm);go_simp
  ·show World.cell? _ ⟨w.heap.size,2,none⟩=some (.slice T.a T.len T.cap);go_simp
 ·refine ⟨⟨w.heap.size,0,rfl,?_,?_,?_⟩,h'.below hB⟩
  ·show World.cell? _ ⟨w.heap.size,3,none⟩=some (iV U.v);go_simp
  ·show World.cell? _ ⟨w.heap.size,4,none⟩=some (.string U.nm);go_simp
  ·show World.cell? _ ⟨w.heap.size,5,none⟩=some (.slice U.a U.len U.cap);go_simp
theorem smp_in {w:World} {b1 b3 b6 b7 b8:Nat} (hb:b8=w.heap.size) (h1:TIn w (unT ⟨#[112]⟩ b1 sA)) (h2:TIn w (unT ⟨#[112]⟩ b3 sV)) (h3:TIn w (one b7 (biT ⟨#[101,113]⟩ b6 sV sB))):
 PIn (w.alloc (.cells #[iV 0,.string ⟨#[112]⟩,.slice (some ⟨b1,0,none⟩) 1 1,.slice none 0 0,iV 0,.string ⟨#[112]⟩,.slice (some ⟨b3,0,none⟩) 1 1,.slice (some ⟨b7,0,none⟩) 1 1] 107)) (smpP b1 b3 b6 b7 b8):=by
 subst hb;have hB:Below w.heap.size w (w.alloc (.cells #[iV 0,.string ⟨#[112]⟩,.slice (some ⟨b1,0,none⟩) 1 1,.slice none 0 0,iV 0,.string ⟨#[112]⟩,.slice (some ⟨b3,0,none⟩) 1 1,.slice (some ⟨b7,0,none⟩) 1 1] 107)):=(Below.refl _ _).alloc (Nat.le_refl _) _;refine ⟨by show 2≤maxLen;unfold maxLen;omega,fun i hi=>?_⟩
 have hi2:i<2:=hi
 rcases (show i=0∨i=1 by omega)with rfl|rfl
 ·refine ⟨⟨w.heap.size,0,rfl,?_,?_,?_,?_⟩,h1.below hB,leaf_in _ _ _ (size2 _ (by decide))⟩
  ·show World.cell? _ ⟨w.heap.size,0,none⟩=some (iV 0);go_simp
  ·show World.cell? _ ⟨w.heap.size,1,none⟩=some (.string ⟨#[112]⟩);go_simp
  ·show World.cell? _ ⟨w.heap.size,2,none⟩=some (.slice (some ⟨b1,0,none⟩) 1 1);go_simp
  ·show World.cell? _ ⟨w.heap.size,3,none⟩=some (.slice none 0 0);go_simp
 ·refine ⟨⟨w.heap.size,0,rfl,?_,?_,?_,?_⟩,h2.below hB,h3.below hB⟩
  ·show World.cell? _ ⟨w.heap.size,4,none⟩=some (iV 0);go_simp
  ·show World.cell? _ ⟨w.heap.size,5,none⟩=some (.string ⟨#[112]⟩);go_simp
  ·show World.cell? _ ⟨w.heap.size,6,none⟩=some (.slice (some ⟨b3,0,none⟩) 1 1);go_simp
  ·show World.cell? _ ⟨w.heap.size,7,none⟩=some (.slice (some ⟨b7,0,none⟩) 1 1);go_simp
set_option maxRecDepth 100000 in
set_option maxHeartbeats 2000000 in
theorem sample_any (w:World):Calls Tryz.prog 31 #[] w fun e w'=>∃b1 b3 b6 b7 b8:Nat,e=.returned (.slice (some ⟨b8,0,none⟩) 2 2)∧PIn w' (smpP b1 b3 b6 b7 b8)∧Below w.heap.size w w':=by
 go_enter Tryz.func31,Tryz.ntmps31
 go_wp2_with fail;refine (fn_any _ _ 0 0 _).mono ?_;rintro e w1 ⟨rfl,hb1⟩;have HB:Hid (Below w.heap.size w w1):=hb1;clear hb1;go_wp2_with fail;refine (fn_any _ _ 1 1 _).mono ?_;rintro e w2 ⟨rfl,hb2⟩;have H1:Hid (TIn w2 (unT ⟨#[112]⟩ w1.heap.size sA)):=(un_in rfl (leaf_in w1 0 ⟨#[97]⟩ (size2 _ (by decide))) (by decide)).below hb2
 replace HB:Hid (Below w.heap.size w w2):=(HB.o.alloc HB.o.size _).trans (hb2.mono (by have:=HB.o.size;simp;omega))
 generalize w1.heap.size=b1 at*;clear hb2;go_wp2_with fail;refine (va_any 1 _).mono ?_;rintro e w3 ⟨rfl,hb3⟩;replace H1:Hid (TIn w3 (unT ⟨#[112]⟩ b1 sA)):=H1.o.below hb3;replace HB:Hid (Below w.heap.size w w3):=HB.o.trans (hb3.mono HB.o.size);clear hb3;go_wp2_with fail;refine (fn_any _ _ 1 1 _).mono ?_;rintro e w4 ⟨rfl,hb4⟩;have H2:Hid (TIn w4 (unT ⟨#[112]⟩ w3.heap.size sV)):=(un_in rfl (leaf_in w3 1 ⟨#[]⟩ (size2 _ (by decide))) (by decide)).below hb4
 replace H1:Hid (TIn w4 (unT ⟨#[112]⟩ b1 sA)):=(H1.o.below ((Below.refl _ _).alloc (Nat.le_refl _) _)).below hb4;replace HB:Hid (Below w.heap.size w w4):=(HB.o.alloc HB.o.size _).trans (hb4.mono (by have:=HB.o.size;simp;omega))
 generalize w3.heap.size=b3 at*;clear hb4;go_wp2_with fail;refine (va_any 1 _).mono ?_;rintro e w5 ⟨rfl,hb5⟩;replace H1:Hid (TIn w5 (unT ⟨#[112]⟩ b1 sA)):=H1.o.below hb5;replace H2:Hid (TIn w5 (unT ⟨#[112]⟩ b3 sV)):=H2.o.below hb5;replace HB:Hid (Below w.heap.size w w5):=HB.o.trans (hb5.mono HB.o.size);clear hb5;go_wp2_with fail;refine (fn_any _ _ 0 0 _).mono ?_;rintro e w6 ⟨rfl,hb6⟩;replace H1:Hid (TIn w6 (unT ⟨#[112]⟩ b1 sA)):=H1.o.below hb6;replace H2:Hid (TIn w6 (unT ⟨#[112]⟩ b3 sV)):=H2.o.below hb6;replace HB:Hid (Below w.heap.size w w6):=HB.o.trans (hb6.mono HB.o.size);clear hb6;go_wp2_with fail;refine (fn_any _ _ 2 2 _).mono ?_;rintro e w7 ⟨rfl,hb7⟩;have H3:Hid (TIn w7 (biT ⟨#[101,113]⟩ w6.heap.size sV sB)):=(bi_in rfl (leaf_in w6 1 ⟨#[]⟩ (size2 _ (by decide))) (leaf_in w6 0 ⟨#[98]⟩ (size2 _ (by decide))) (by decide)).below hb7
 replace H1:Hid (TIn w7 (unT ⟨#[112]⟩ b1 sA)):=(H1.o.below ((Below.refl _ _).alloc (Nat.le_refl _) _)).below hb7;replace H2:Hid (TIn w7 (unT ⟨#[112]⟩ b3 sV)):=(H2.o.below ((Below.refl _ _).alloc (Nat.le_refl _) _)).below hb7;replace HB:Hid (Below w.heap.size w w7):=(HB.o.alloc HB.o.size _).trans (hb7.mono (by have:=HB.o.size;simp;omega))
 generalize w6.heap.size=b6 at*;clear hb7;have H4:Hid (TIn (w7.alloc (.cells #[iV 0,.string ⟨#[101,113]⟩,.slice (some ⟨b6,0,none⟩) 2 2] 67)) (one w7.heap.size (biT ⟨#[101,113]⟩ b6 sV sB))):=one_in rfl H3.o;have H5:Hid (Below w7.heap.size w7 (w7.alloc (.cells #[iV 0,.string ⟨#[101,113]⟩,.slice (some ⟨b6,0,none⟩) 2 2] 67))):=(Below.refl _ _).alloc (Nat.le_refl _) _;have hsz:=HB.o.size;go_wp2_with fail;go_ret;refine ⟨b1,b3,b6,w7.heap.size,w7.heap.size+1,rfl,smp_in (by simp) (H1.o.below H5.o) (H2.o.below H5.o) H4.o,?_⟩
 exact (HB.o.trans (H5.o.mono hsz)).alloc (by simp;omega) _
def smQ (b c:Nat):Tm:=one b (unT ⟨#[112]⟩ c (leafT 1 ⟨#[]⟩))
theorem smE0 (b1 b3 b6 b7 b8 b c:Nat):solveE (smpP b1 b3 b6 b7 b8) (smQ b c) 10=0:=by kernel_rfl
theorem smE3 (b1 b3 b6 b7 b8 b c:Nat):((solP (smpP b1 b3 b6 b7 b8) (smQ b c) 10).ans.map List.length)= [1,1]:=by kernel_rfl
end Go.Proofs.YtmggaclaoefdaabGreat

namespace Go.Proofs.YtmggaclaoefdaabGreat
open Go.RowKit Go.Shelf
set_option linter.unusedVariables false
set_option linter.unusedSimpArgs false
def smY (b c:Nat):PS:= { ps0 (smQ b c) 1 with st:=1}
theorem smP0 (b1 b3 b6 b7 b8:Nat):progV (smpP b1 b3 b6 b7 b8)=0:=by kernel_rfl
theorem smQ0 (b c:Nat):queryV (smQ b c)=0:=by kernel_rfl
theorem smV0 (b c:Nat):varsV (smQ b c)=((1:Nat):Int):=by kernel_rfl
theorem smG0 (b c:Nat):(ps0 (smQ b c) 1).gl.length=1:=by kernel_rfl
theorem smS1 (b1 b3 b6 b7 b8 b c:Nat):(stepP (cls (smpP b1 b3 b6 b7 b8)) (smY b c)).fin=0:=by kernel_rfl
theorem smS2 (b1 b3 b6 b7 b8 b c:Nat):(stepP (cls (smpP b1 b3 b6 b7 b8)) (smY b c)).gl.length=0:=by kernel_rfl
theorem smA1 (b1 b3 b6 b7 b8 b c:Nat):(answerP (cls (smpP b1 b3 b6 b7 b8)) 1 (stepP (cls (smpP b1 b3 b6 b7 b8)) (smY b c))).fin=0:=by kernel_rfl
theorem smA2 (b1 b3 b6 b7 b8 b c:Nat):(answerP (cls (smpP b1 b3 b6 b7 b8)) 1 (stepP (cls (smpP b1 b3 b6 b7 b8)) (smY b c))).gl.length=1:=by kernel_rfl
theorem smA3 (b1 b3 b6 b7 b8 b c:Nat):(answerP (cls (smpP b1 b3 b6 b7 b8)) 1 (stepP (cls (smpP b1 b3 b6 b7 b8)) (smY b c))).ans.length=1:=by kernel_rfl
theorem smA4 (b1 b3 b6 b7 b8 b c:Nat):(answerP (cls (smpP b1 b3 b6 b7 b8)) 1 (stepP (cls (smpP b1 b3 b6 b7 b8)) (smY b c))).st=1:=by kernel_rfl
theorem smp_step (b1 b3 b6 b7 b8 b c:Nat):(stepM (smpP b1 b3 b6 b7 b8) (List.range 1) ⟨startX (smQ b c) 1,[],0⟩).st=1∧(stepM (smpP b1 b3 b6 b7 b8) (List.range 1) ⟨startX (smQ b c) 1,[],0⟩).an.length=1∧(stepM (smpP b1 b3 b6 b7 b8) (List.range 1) ⟨startX (smQ b c) 1,[],0⟩).m.fin=0∧(stepM (smpP b1 b3 b6 b7 b8) (List.range 1) ⟨startX (smQ b c) 1,[],0⟩).m.first≠0:=by
 have hC:=(progV_ok (smP0 b1 b3 b6 b7 b8)).2;have S0:FSim (smpP b1 b3 b6 b7 b8) 1 (List.range 1) ⟨startX (smQ b c) 1,[],0⟩ (ps0 (smQ b c) 1):=start_fsim (smQ0 b c) (smV0 b c) (by omega)
 have h0:(startX (smQ b c) 1).first≠0:=fun e=>by
  have:=(first_nil S0.m rfl).1 e;have h1:=smG0 b c;rw[this]at h1;cases h1
 obtain ⟨S1,_,_⟩:=step_sim hC S0 rfl h0 (by show 0+1≤400;omega)
 have S1':FSim (smpP b1 b3 b6 b7 b8) 1 (List.range 1) ⟨takeM (smpP b1 b3 b6 b7 b8) { startX (smQ b c) 1 with left:=4000},[],1⟩ (stepP (cls (smpP b1 b3 b6 b7 b8)) (smY b c)):=S1
 have hf1:(takeM (smpP b1 b3 b6 b7 b8) { startX (smQ b c) 1 with left:=4000}).fin=0:=by
  have:=S1'.m.fin;rw[smS1]at this;exact this
 have hn1:(takeM (smpP b1 b3 b6 b7 b8) { startX (smQ b c) 1 with left:=4000}).first=0:=(first_nil S1'.m (smS1 b1 b3 b6 b7 b8 b c)).2 (List.eq_nil_of_length_eq_zero (smS2 b1 b3 b6 b7 b8 b c))
 obtain ⟨S2,_⟩:=answer_sim hC S1' (smS1 b1 b3 b6 b7 b8 b c) hn1;have hf2:=S2.m.fin;rw[smA1]at hf2
 have hn2:(answerM (smpP b1 b3 b6 b7 b8) (List.range 1) ⟨takeM (smpP b1 b3 b6 b7 b8) { startX (smQ b c) 1 with left:=4000},[],1⟩).m.first≠0:=fun e=>by
  have h1:=(first_nil S2.m (smA1 b1 b3 b6 b7 b8 b c)).1 e;have h2:=smA2 b1 b3 b6 b7 b8 b c;rw[h1]at h2;cases h2
 have e1:stepM (smpP b1 b3 b6 b7 b8) (List.range 1) ⟨startX (smQ b c) 1,[],0⟩=answerM (smpP b1 b3 b6 b7 b8) (List.range 1) ⟨takeM (smpP b1 b3 b6 b7 b8) { startX (smQ b c) 1 with left:=4000},[],1⟩:=by
  unfold stepM;rw[if_pos (show (startX (smQ b c) 1).fin=0∧(startX (smQ b c) 1).first≠0 from ⟨rfl,h0⟩)]
  show settleM _ _ 41 ⟨takeM (smpP b1 b3 b6 b7 b8) { startX (smQ b c) 1 with left:=4000},[],1⟩=_
  rw[settleM,if_pos ⟨hf1,hn1⟩,settleM,if_neg (fun h=>hn2 h.2)]
 rw[e1];exact ⟨by rw[S2.st];exact smA4 b1 b3 b6 b7 b8 b c,by rw[S2.an];exact smA3 b1 b3 b6 b7 b8 b c,hf2,hn2⟩
end Go.Proofs.YtmggaclaoefdaabGreat

namespace Go.Proofs.YtmggaclaoefdaabGreat
open Go.RowKit Go.Shelf
set_option linter.unusedVariables false
set_option linter.unusedSimpArgs false
structure Mx where
 a0:Option Addr
 l0:Nat
 c0:Nat
 a1:Option Addr
 l1:Nat
 c1:Nat
 fst:Int
 a3:Option Addr
 l3:Nat
 c3:Nat
 a4:Option Addr
 l4:Nat
 c4:Nat
 a5:Option Addr
 l5:Nat
 c5:Nat
 st:Int
 fin:Int
 a8:Option Addr
 l8:Nat
 c8:Nat
def Mx.cells (x:Mx):Array Value:= #[.slice x.a0 x.l0 x.c0,.slice x.a1 x.l1 x.c1,iV x.fst,.slice x.a3 x.l3 x.c3,.slice x.a4 x.l4 x.c4,.slice x.a5 x.l5 x.c5,iV x.st,iV x.fin,.slice x.a8 x.l8 x.c8]
theorem MC.open {lo:Nat} {w:World} {r:Rn} {F:FM} {qs:List Nat} {an:List Tm} (M:MC lo w r F qs an): ∃x:Mx,mC r=x.cells∧x.fst=(F.m.first:Int)∧x.st=(F.st:Int)∧x.fin=F.m.fin∧x.l8=F.an.length:=by
 obtain ⟨a0,c0,e0,_⟩:=row_nil M.hp;obtain ⟨a1,c1,e1,_⟩:=row_nil M.go;obtain ⟨a3,c3,e3,_⟩:=row_nil M.ch;obtain ⟨a4,c4,e4,_⟩:=row_nil M.tl;obtain ⟨a5,c5,e5,_⟩:=row_nil M.qu;obtain ⟨a8,c8,e8,_⟩:=row_nil M.anr;refine ⟨⟨a0,F.m.h.length,c0,a1,F.m.gs.length,c1,r.first,a3,F.m.cs.length,c3,a4,F.m.tr.length,c4,a5,qs.length,c5,r.st,r.fin,a8,an.length,c8⟩,?_,M.first,M.st,M.fin,?_⟩
 ·unfold mC Mx.cells
  simp only;rw[e0,e1,e3,e4,e5,e8]
 ·show an.length=F.an.length
  rw[←M.ans,List.length_map]
def smF (b c:Nat):FM:=⟨startX (smQ b c) 1,[],0⟩
theorem smR (P:Pg) (b c:Nat):RnI P 1 (List.range 1) (smF b c):=start_rni (smQ0 b c) (smV0 b c) (by omega)
theorem smB (b c:Nat):RnB (smF b c):=start_rnb rfl
theorem startS (b1 b3 b6 b7 b8 b c:Nat) (w:World) (hP:PIn w (smpP b1 b3 b6 b7 b8)) (hQ:TIn w (smQ b c)):Calls Tryz.prog 8 #[.slice (some ⟨b8,0,none⟩) 2 2,.slice (some ⟨b,0,none⟩) 1 1] w fun e w'=>∃(r:Rn) (x:Mx),e=.returned (.tuple #[.agg x.cells,iV 0])∧mC r=x.cells∧Below w.heap.size w w'∧MC w.heap.size w' r (smF b c) (List.range 1) []:=by
 refine (mStart_any (smpP b1 b3 b6 b7 b8) (smQ b c) w hP (Nat.le_refl _) hQ).mono ?_;rintro e w' ⟨hb,⟨h,_⟩| ⟨_,n,r,hv,_,rfl,hM⟩⟩
 ·exact absurd (by unfold startE;rw[smP0];exact smQ0 b c) h
 ·have hn:n=1:=by have:=smV0 b c;rw[hv]at this;omega
  subst hn;obtain ⟨x,ex,_⟩:=hM.open;exact ⟨r,x,by unfold mV;rw[ex],ex,hb,hM⟩
theorem stepS (b1 b3 b6 b7 b8 b c lo:Nat) {r:Rn} {x:Mx} (w:World) (hP:PIn w (smpP b1 b3 b6 b7 b8)) (hx:mC r=x.cells) (M:MC lo w r (smF b c) (List.range 1) []):Calls Tryz.prog 13 #[.slice (some ⟨b8,0,none⟩) 2 2,.agg x.cells] w fun e w'=>∃(r':Rn) (y:Mx) (an:List Tm),e=.returned (.tuple #[.agg y.cells,iV 0])∧mC r'=y.cells∧Below w.heap.size w w'∧MC w.heap.size w' r' (stepM (smpP b1 b3 b6 b7 b8) (List.range 1) (smF b c)) (List.range 1) an∧y.fst≠0∧y.st=1∧y.fin=0∧y.l8=1:=by
 have h:=mStep_run (smpP b1 b3 b6 b7 b8) w hP (Nat.le_refl _) (smP0 b1 b3 b6 b7 b8) M (smR _ b c) (smB b c) (by simp)
 unfold mV at h;rw[hx]at h;refine h.mono ?_;rintro e w' ⟨r',an,rfl,hb,hM⟩;obtain ⟨y,ey,h1,h2,h3,h4⟩:=hM.open;obtain ⟨k1,k2,k3,k4⟩:=smp_step b1 b3 b6 b7 b8 b c;refine ⟨r',y,an,by unfold mV;rw[ey],ey,hb,hM,?_,?_,?_,?_⟩
 ·rw[h1];exact fun e=>k4 (Int.natCast_eq_zero.1 e)
 ·rw[h2];show ((stepM (smpP b1 b3 b6 b7 b8) (List.range 1) ⟨startX (smQ b c) 1,[],0⟩).st:Int)=1;rw[k1];rfl
 ·rw[h3];exact k3
 ·rw[h4];exact k2
theorem checkS (b1 b3 b6 b7 b8 d1 d3 d6 d7 d8 b c lo:Nat) {r:Rn} {y:Mx} {an:List Tm} (w:World) (hP:PIn w (smpP d1 d3 d6 d7 d8)) (hx:mC r=y.cells) (M:MC lo w r (stepM (smpP b1 b3 b6 b7 b8) (List.range 1) (smF b c)) (List.range 1) an):Calls Tryz.prog 11 #[.slice (some ⟨d8,0,none⟩) 2 2,.agg y.cells] w fun e w'=>e=.returned (iV 0)∧Below w.heap.size w w':=by
 have hC:=(progV_ok (smP0 b1 b3 b6 b7 b8)).2;have R:=(smR (smpP b1 b3 b6 b7 b8) b c).step hC (fun _ _=>by show (0:Nat)<400;omega)
 have R':RnI (smpP d1 d3 d6 d7 d8) 1 (List.range 1) (stepM (smpP b1 b3 b6 b7 b8) (List.range 1) (smF b c)):=by
  obtain ⟨Y,S⟩:=R.fs;exact ⟨⟨Y,⟨S.m,S.an,S.st,S.few,S.ok,S.sz,S.s4⟩⟩,R.tr,R.cs,R.an⟩
 have h:=mCheck_run (smpP d1 d3 d6 d7 d8) w hP (smP0 d1 d3 d6 d7 d8) M R' ((smB b c).step hC (smR _ b c) (fun _ _=>by show (0:Nat)<400;omega)) (by simp)
 unfold mV at h;rw[hx]at h;exact h
theorem runS (b1 b3 b6 b7 b8 b c:Nat) (w:World) (hP:PIn w (smpP b1 b3 b6 b7 b8)) (hQ:TIn w (smQ b c)):Calls Tryz.prog 17 #[.slice (some ⟨b8,0,none⟩) 2 2,.slice (some ⟨b,0,none⟩) 1 1,iV 10] w fun e w'=>∃(sa:Option Addr) (ca:Nat) (fin st:Int),e=.returned (.tuple #[.agg #[.slice sa 2 ca,iV fin,iV st],iV 0])∧Below w.heap.size w w':=by
 refine (mrun_any (smpP b1 b3 b6 b7 b8) (smQ b c) 10 w hP (Nat.le_refl _) hQ).mono ?_;rintro e w' ⟨hb,h⟩
 rcases h with ⟨h,_⟩| ⟨_,sa,ca,an,fin,st,rfl,hA,_,_,hf,hs,h1,h2,h3⟩
 ·exact absurd (smE0 b1 b3 b6 b7 b8 b c) h
 have e3:=smE3 b1 b3 b6 b7 b8 b c;rw[show (10:Int).toNat=10 from rfl]at h1
 rw[h1]at e3;have hl:an.length=2:=by have:=congrArg List.length e3;simpa using this
 exact ⟨sa,ca,fin,st,by unfold rsV;rw[hl],hb⟩
end Go.Proofs.YtmggaclaoefdaabGreat
