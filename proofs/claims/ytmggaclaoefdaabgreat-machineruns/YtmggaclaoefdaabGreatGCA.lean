/- Part of the proof. -/
import Derived.Test.YtmggaclaoefdaabGreatCp7
namespace Go.Proofs.YtmggaclaoefdaabGreat
open Go.RowKit Go.Proofs.Tryz
set_option linter.unusedVariables false
set_option linter.unusedSimpArgs false
set_option maxRecDepth 100000
set_option maxHeartbeats 8000000
section
open Go.Shelf
def ol (x:Int):Prop:=0<=x/\x<=4
theorem td {c:Prop} [Decidable c] {x:Int} (h:ol x):ol (if c then 3 else x):=by
 by_cases hc:c
 .rw[if_pos hc];exact ⟨by omega,by omega⟩
 .rw[if_neg hc];exact h
theorem M9 {H B:Tm} {at' nx:Nat} {X:PM} (h:ol X.fin):ol (a7 H B at' nx X).1.fin:=by
 unfold a7
 split
 .exact ⟨by show (0:Int)<=3;omega,by show (3:Int)<=4;omega⟩
 .split
  .exact td h
  .split
   .exact ⟨by show (0:Int)<=3;omega,by show (3:Int)<=4;omega⟩
   .exact td h
theorem J6 {P:Pg} {t:Tm} {was:jo} {at' nx:Nat}: ∀(f i:Nat) (X:PM),ol X.fin->ol (j5 P t was at' nx f i X).1.fin:=by
 intro f
 induction f with
 |zero=>intro i X h;exact h
 |succ f ih=>
  intro i X h;rw[j5]
  split
  .exact h
  .rename_i j _
   split
   .exact h
   .have h1:=M9 (H:=P.hd j) (B:=P.bd j) (at':=at') (nx:=nx) h
    split
    .rename_i Y hY
     rw[hY]at h1;simp only
     split
     .exact h1
     .exact h1
    .rename_i Y hY
     rw[hY]at h1;exact ih _ _ h1
theorem ti {P:Pg}: ∀(f:Nat) (X:PM),ol X.fin->ol (fz P f X).fin:=by
 intro f
 induction f with
 |zero=>intro X h;exact h
 |succ f ih=>
  intro X h;rw[fz]
  split
  .exact h
  .split
   .exact ⟨by show (0:Int)<=1;omega,by show (1:Int)<=4;omega⟩
   .rename_i c _
    have h1:=J6 (P:=P) (t:=cd (ah ({ am c { X with cs:=X.cs.dropLast} with left:=4000}:PM).h (bf { am c { X with cs:=X.cs.dropLast} with left:=4000}))) (was:=dn { am c { X with cs:=X.cs.dropLast} with left:=4000}) (at':=bf { am c { X with cs:=X.cs.dropLast} with left:=4000}) (nx:=(ai { am c { X with cs:=X.cs.dropLast} with left:=4000}).nx) (P.len+1) c.cl { am c { X with cs:=X.cs.dropLast} with left:=4000} h
    split
    .rename_i Y hY
     have h2:ol (i4 P c.cl { am c { X with cs:=X.cs.dropLast} with left:=4000}).1.fin:=h1
     rw[hY]at h2;exact h2
    .rename_i Y hY
     have h2:ol (i4 P c.cl { am c { X with cs:=X.cs.dropLast} with left:=4000}).1.fin:=h1
     rw[hY]at h2;exact ih _ h2
theorem N3 {P:Pg} {X:PM} (h:ol X.fin):ol (bn P X).fin:=by
 unfold bn
 split
 .exact ⟨by show (0:Int)<=4;omega,by show (4:Int)<=4;omega⟩
 .split
  .exact h
  .split
   .exact h
   .split
    .exact ti _ _ h
    .split
     .split
      .exact td h
      .exact ti _ _ (td h)
     .have h1:ol (i4 P 0 X).1.fin:=J6 _ _ _ h
      split
      .rename_i Y hY
       rw[hY]at h1;exact h1
      .rename_i Y hY
       rw[hY]at h1;exact ti _ _ h1
def P9 (L:List Tm):Nat:=(L.map cnt).sum
structure De (F:FM):Prop where
 fin:ol F.m.fin
 an: ∀L∈F.an,P9 L<=200
theorem Ok {h:List Cl} {qs:List Nat} (H:HG (ah h) h.length) (hq: ∀x∈qs,x<h.length):P9 (jv h qs)=gd (ah h) h.length qs:=by
 unfold P9 jv gd;rw[List.map_map,List.map_map]
 congr 1
 apply List.map_congr_left
 intro x hx
 show cnt (ap _ (gy (ah h) h.length x))=od (ah h) h.length x
 rw[Ra (fun v=>by show cnt (a9 (vT _))=1;rw[yu];rfl) _ (N5 H x (hq x hx))]
 rfl
theorem De.answer {P:Pg} {qs:List Nat} {F:FM} (B:De F) (hO:jm P.len qs F.m):De (a6 P qs F):=by
 unfold a6
 split
 .exact ⟨⟨by show (0:Int)<=3;omega,by show (3:Int)<=4;omega⟩,B.an⟩
 .rename_i h2
  have hsz:P9 (jv F.m.h qs)<=200:=by rw[Ok hO.s.hg hO.s.qu];omega
  have hall: ∀L∈F.an++ [jv F.m.h qs],P9 L<=200:=fun L hL=>by
   rcases List.mem_append.1 hL with h|h
   .exact B.an L h
   .rw[List.mem_singleton.1 h];exact hsz
  split
  .exact ⟨⟨by show (0:Int)<=1;omega,by show (1:Int)<=4;omega⟩,hall⟩
  .exact ⟨ti _ _ B.fin,hall⟩
theorem De.settle {P:Pg} {n:Nat} {qs:List Nat} (hC:i7 P): ∀(k:Nat) (F:FM),De F->o8 P n qs F->De (au P qs k F):=by
 intro k
 induction k with
 |zero=>intro F B _;exact B
 |succ k ih=>
  intro F B R;rw[au]
  by_cases hc:F.m.fin=0/\F.m.first=0
  .rw[if_pos hc]
   exact ih _ (B.answer R.walk.1) (R.answer hC hc.1 hc.2).1
  .rw[if_neg hc];exact B
theorem O2 (A:Tm):kids A=P9 (br A):=by
 unfold P9 br az kids;rw[List.map_map,List.map_map,uz]
 congr 1
 apply List.map_congr_left
 intro i _
 show cnt (A.f i)=cnt (a9 (A.f i))
 rw[yu]
end
section
open Go.Shelf
theorem o8.take {P:Pg} {n:Nat} {qs:List Nat} {F:FM} (hC:i7 P) (R:o8 P n qs F) (h0:F.m.fin=0) (h1:F.m.first≠0) (hs:F.st<400):o8 P n qs { F with m:=bn P { F.m with left:=4000},st:=F.st+1}:=by
 obtain ⟨Y,S⟩:=R.fs;have hf0:Y.fin=0:=by have:=S.m.fin;omega
 have hst:=S.st;obtain ⟨h2,_⟩:=p6 hC S hf0 h1 (by omega)
 have hfl:=S.ok.fst
 have hO:jm P.len qs { F.m with left:=4000}:=S.ok.same rfl rfl rfl S.ok.fst rfl
 have hT:=nh (X:= { F.m with left:=4000}) (i:=F.m.first-1) hC hO (S.sz.gs5 S.s4) (by show F.m.first=_;omega) (by show F.m.first-1<F.m.gs.length;omega) h0 ⟨4000,rfl,lZ⟩
 have ht:(bn P { F.m with left:=4000}).tr.length<=F.m.tr.length+8000:=hT.tr
 have hcs:(bn P { F.m with left:=4000}).cs.length<=F.m.cs.length+1:=hT.cs
 have hR:=R.tr;have hR2:=R.cs
 exact ⟨⟨_,h2⟩,by
  show (bn P { F.m with left:=4000}).tr.length<=8000*(F.st+1)+4000*F.an.length
  rw[Nat.mul_succ];generalize 4000*F.an.length=x at*;generalize 8000*F.st=y at*
  omega,by show (bn P { F.m with left:=4000}).cs.length<=F.st+1;omega,R.an⟩
theorem De.step {P:Pg} {n:Nat} {qs:List Nat} {F:FM} (hC:i7 P) (B:De F) (R:o8 P n qs F) (hs:F.m.fin=0->F.m.first≠0->F.st<400):De (b9 P qs F):=by
 unfold b9
 by_cases hc:F.m.fin=0/\F.m.first≠0
 .rw[if_pos hc]
  exact De.settle hC 41 _ ⟨N3 (X:= { F.m with left:=4000}) B.fin,B.an⟩ (R.take hC hc.1 hc.2 (hs hc.1 hc.2))
 .rw[if_neg hc]
  exact De.settle hC 41 _ B R
theorem xo {Q:Tm} {n:Nat} (hf:(bt Q n).fin=0):De ⟨bt Q n,[],0⟩:=⟨by show ol (bt Q n).fin;rw[hf];exact ⟨by omega,by omega⟩,fun L hL=>by cases hL⟩
theorem yc {lo n:Nat} {r:Rn} {F:FM} {qs:List Nat} {an:List Tm} (P:Pg) (w:World) (hP:kg w P) (hc:P.len<=P.cap) (hpv:ck P=0) (M:MC lo w r F qs an) (R:o8 P n qs F) (B:De F) (hq:qs.length<=12):
 Calls prog 13 #[.slice P.a P.len P.cap,mV r] w (Qk P w F qs):=
 Ij P w hP hc hpv M R hq B.fin fun A hA=>by
  rw[O2];have:=B.an (br A) (by rw[<-M.ans];exact List.mem_map.2 ⟨A,hA,rfl⟩)
  omega
theorem Eq {lo n:Nat} {r:Rn} {F:FM} {qs:List Nat} {an:List Tm} (P:Pg) (w:World) (hP:kg w P) (hpv:ck P=0) (M:MC lo w r F qs an) (R:o8 P n qs F) (B:De F) (hq:qs.length<=12):
 Calls prog 11 #[.slice P.a P.len P.cap,mV r] w fun e w'=>e=.returned (iV 0)/\Below w.heap.size w w':=by
 obtain ⟨hO,hg5,htr,hcs,hst4⟩:=R.walk;obtain ⟨m,em,hin,hof⟩:=M.mof hO.s.hg ⟨by omega,by omega,by omega,by omega⟩
 have hck:=vi P (m:=m) w hP hin (by have:=(ji hpv).1;omega)
 rw[em]at hck;refine hck.mono ?_;rintro e w' ⟨c,rfl,hcr,hb⟩;have h0:Qd P m 0:=Cg hpv hof hO hst4 hg5 hq B.fin;rw[hcr.same h0];exact ⟨rfl,hb⟩
end
def Rp (nm:ByteArray) (b:Nat) (T U:Tm):Tm:=.mk 0 nm (some ⟨b,0,none⟩) 2 2 (fun i=>if i=0 then T else U)
def sA:Tm:=l7 0 ⟨#[97]⟩
def sV:Tm:=l7 1 ⟨#[]⟩
def sB:Tm:=l7 0 ⟨#[98]⟩
def ed (b1 b3 b6 b7 b8:Nat):Pg:= { a:=some ⟨b8,0,none⟩,len:=2,cap:=2,hd:=fun i=>if i=0 then Gn ⟨#[112]⟩ b1 sA else Gn ⟨#[112]⟩ b3 sV,bd:=fun i=>if i=0 then l7 0 ⟨#[]⟩else one b7 (Rp ⟨#[101,113]⟩ b6 sV sB)}
theorem Fh {w:World} {b:Nat} {T:Tm} {nm:ByteArray} (hb:b=w.heap.size) (h:ay w T) (hn:nm.size<=2):ay (w.alloc (.cells #[iV T.v,.string T.nm,.slice T.a T.len T.cap] 67)) (Gn nm b T):=
 (qo hb h).rename (n6 _ hn)
theorem Sw {w:World} {b:Nat} {T U:Tm} {nm:ByteArray} (hb:b=w.heap.size) (h:ay w T) (h':ay w U) (hn:nm.size<=2):ay (w.alloc (.cells #[iV T.v,.string T.nm,.slice T.a T.len T.cap,iV U.v,.string U.nm,.slice U.a U.len U.cap] 67)) (Rp nm b T U):=by
 subst hb;have hB:Below w.heap.size w (w.alloc (.cells #[iV T.v,.string T.nm,.slice T.a T.len T.cap,iV U.v,.string U.nm,.slice U.a U.len U.cap] 67)):=bA;refine ⟨n6 _ hn,by unfold maxLen;omega,fun i hi=>?_⟩
 rcases (show i=0\/i=1 by omega)with rfl|rfl
 .refine ⟨⟨w.heap.size,0,rfl,?_,?_,?_⟩,h.below hB⟩
  .show World.cell? _ (dZ w.heap.size 0)=some (iV T.v);go_simp
  .show World.cell? _ (dZ w.heap.size 1)=some (.string T.nm);go_simp
  .show World.cell? _ (dZ w.heap.size 2)=some (.slice T.a T.len T.cap);go_simp
 .refine ⟨⟨w.heap.size,0,rfl,?_,?_,?_⟩,h'.below hB⟩
  .show World.cell? _ (dZ w.heap.size 3)=some (iV U.v);go_simp
  .show World.cell? _ (dZ w.heap.size 4)=some (.string U.nm);go_simp
  .show World.cell? _ (dZ w.heap.size 5)=some (.slice U.a U.len U.cap);go_simp
theorem Qs {w:World} {b1 b3 b6 b7 b8:Nat} (hb:b8=w.heap.size) (h1:ay w (Gn ⟨#[112]⟩ b1 sA)) (h2:ay w (Gn ⟨#[112]⟩ b3 sV)) (h3:ay w (one b7 (Rp ⟨#[101,113]⟩ b6 sV sB))):
 kg (w.alloc (.cells #[iV 0,.string ⟨#[112]⟩,.slice (some ⟨b1,0,none⟩) 1 1,.slice none 0 0,iV 0,.string ⟨#[112]⟩,.slice (some ⟨b3,0,none⟩) 1 1,.slice (some ⟨b7,0,none⟩) 1 1] 107)) (ed b1 b3 b6 b7 b8):=by
 subst hb;have hB:Below w.heap.size w (w.alloc (.cells #[iV 0,.string ⟨#[112]⟩,sZ b1 1 1,nZ,iV 0,.string ⟨#[112]⟩,sZ b3 1 1,sZ b7 1 1] 107)):=bA;refine ⟨by show 2<=maxLen;unfold maxLen;omega,fun i hi=>?_⟩
 have hi2:i<2:=hi
 rcases (show i=0\/i=1 by omega)with rfl|rfl
 .refine ⟨⟨w.heap.size,0,rfl,?_,?_,?_,?_⟩,h1.below hB,kw _ _ _ (n6 _ (by decide))⟩
  .show World.cell? _ (dZ w.heap.size 0)=some (iV 0);go_simp
  .show World.cell? _ (dZ w.heap.size 1)=some (.string ⟨#[112]⟩);go_simp
  .show World.cell? _ (dZ w.heap.size 2)=some (sZ b1 1 1);go_simp
  .show World.cell? _ (dZ w.heap.size 3)=some nZ;go_simp
 .refine ⟨⟨w.heap.size,0,rfl,?_,?_,?_,?_⟩,h2.below hB,h3.below hB⟩
  .show World.cell? _ (dZ w.heap.size 4)=some (iV 0);go_simp
  .show World.cell? _ (dZ w.heap.size 5)=some (.string ⟨#[112]⟩);go_simp
  .show World.cell? _ (dZ w.heap.size 6)=some (sZ b3 1 1);go_simp
  .show World.cell? _ (dZ w.heap.size 7)=some (sZ b7 1 1);go_simp
theorem ko (w:World):Calls prog 31 #[] w fun e w'=>∃b1 b3 b6 b7 b8:Nat,e=.returned (.slice (some ⟨b8,0,none⟩) 2 2)/\kg w' (ed b1 b3 b6 b7 b8)/\Below w.heap.size w w':=by
 go_enter Tryz.func31,Tryz.ntmps31
 go_wp2_with fail;refine (mi _ _ 0 0 _).mono ?_;rintro e w1 ⟨rfl,hb1⟩;have HB:=hid hb1;clear hb1;go_wp2_with fail;refine (mi _ _ 1 1 _).mono ?_;rintro e w2 ⟨rfl,hb2⟩;have H1:Hid (ay w2 (Gn ⟨#[112]⟩ w1.heap.size sA)):=(Fh rfl (kw w1 0 ⟨#[97]⟩ (n6 _ (by decide))) (by decide)).below hb2
 replace HB:Hid (Below w.heap.size w w2):=(HB.o.alloc HB.o.size _).trans (hb2.mono (by have:=HB.o.size;simp;omega))
 generalize w1.heap.size=b1 at*;clear hb2;go_wp2_with fail;refine (zl 1 _).mono ?_;rintro e w3 ⟨rfl,hb3⟩;replace H1:=hid (H1.o.below hb3);replace HB:=hid (HB.o.trans (hb3.mono HB.o.size));clear hb3;go_wp2_with fail;refine (mi _ _ 1 1 _).mono ?_;rintro e w4 ⟨rfl,hb4⟩;have H2:Hid (ay w4 (Gn ⟨#[112]⟩ w3.heap.size sV)):=(Fh rfl (kw w3 1 ⟨#[]⟩ (n6 _ (by decide))) (by decide)).below hb4
 replace H1:Hid (ay w4 (Gn ⟨#[112]⟩ b1 sA)):=(H1.o.below bA).below hb4;replace HB:Hid (Below w.heap.size w w4):=(HB.o.alloc HB.o.size _).trans (hb4.mono (by have:=HB.o.size;simp;omega))
 generalize w3.heap.size=b3 at*;clear hb4;go_wp2_with fail;refine (zl 1 _).mono ?_;rintro e w5 ⟨rfl,hb5⟩;replace H1:=hid (H1.o.below hb5);replace H2:=hid (H2.o.below hb5);replace HB:=hid (HB.o.trans (hb5.mono HB.o.size));clear hb5;go_wp2_with fail;refine (mi _ _ 0 0 _).mono ?_;rintro e w6 ⟨rfl,hb6⟩;replace H1:=hid (H1.o.below hb6);replace H2:=hid (H2.o.below hb6);replace HB:Hid (Below w.heap.size w w6):=HB.o.trans (hb6.mono HB.o.size);clear hb6;go_wp2_with fail;refine (mi _ _ 2 2 _).mono ?_;rintro e w7 ⟨rfl,hb7⟩;have H3:Hid (ay w7 (Rp ⟨#[101,113]⟩ w6.heap.size sV sB)):=(Sw rfl (kw w6 1 ⟨#[]⟩ (n6 _ (by decide))) (kw w6 0 ⟨#[98]⟩ (n6 _ (by decide))) (by decide)).below hb7
 replace H1:Hid (ay w7 (Gn ⟨#[112]⟩ b1 sA)):=(H1.o.below bA).below hb7;replace H2:Hid (ay w7 (Gn ⟨#[112]⟩ b3 sV)):=(H2.o.below bA).below hb7;replace HB:Hid (Below w.heap.size w w7):=(HB.o.alloc HB.o.size _).trans (hb7.mono (by have:=HB.o.size;simp;omega))
 generalize w6.heap.size=b6 at*;clear hb7;have H4:Hid (ay (w7.alloc (.cells #[iV 0,.string ⟨#[101,113]⟩,sZ b6 2 2] 67)) (one w7.heap.size (Rp ⟨#[101,113]⟩ b6 sV sB))):=qo rfl H3.o;have H5:Hid (Below w7.heap.size w7 (w7.alloc (.cells #[iV 0,.string ⟨#[101,113]⟩,sZ b6 2 2] 67))):=bA;have hsz:=HB.o.size;go_wp2_with fail;go_ret;refine ⟨b1,b3,b6,w7.heap.size,w7.heap.size+1,rfl,Qs (by simp) (H1.o.below H5.o) (H2.o.below H5.o) H4.o,?_⟩
 exact (HB.o.trans (H5.o.mono hsz)).alloc (by simp;omega) _
def ma (b c:Nat):Tm:=one b (Gn ⟨#[112]⟩ c (l7 1 ⟨#[]⟩))
theorem Ru (b1 b3 b6 b7 b8 b c:Nat):dj (ed b1 b3 b6 b7 b8) (ma b c) 10=0:=by kernel_rfl
theorem Tu (b1 b3 b6 b7 b8 b c:Nat):(ge (ed b1 b3 b6 b7 b8) (ma b c) 10).fin=1:=by kernel_rfl
theorem Tt (b1 b3 b6 b7 b8 b c:Nat):(ge (ed b1 b3 b6 b7 b8) (ma b c) 10).st=2:=by kernel_rfl
theorem Rt (b1 b3 b6 b7 b8 b c:Nat):((ge (ed b1 b3 b6 b7 b8) (ma b c) 10).ans.map List.length)= [1,1]:=by kernel_rfl
theorem Ts (b1 b3 b6 b7 b8 b c:Nat):ib (((ge (ed b1 b3 b6 b7 b8) (ma b c) 10).ans.getD 1 []).getD 0 .nil) (l7 0 ⟨#[98]⟩)=true:=by kernel_rfl
theorem Qr (b1 b3 b6 b7 b8 b c:Nat) (w:World) (hP:kg w (ed b1 b3 b6 b7 b8)) (hQ:ay w (ma b c)):Calls prog 18 #[.slice (some ⟨b8,0,none⟩) 2 2,.slice (some ⟨b,0,none⟩) 1 1,iV 10] w fun e w'=>∃(g o ca cx:Nat) (ax:Option Addr) (X:Tm),e=.returned (.tuple #[.agg #[.slice (some ⟨g,o,none⟩) 2 ca,iV 1,iV 2],iV 0])/\Below w.heap.size w w'/\w'.cell? ⟨g,o+1,none⟩=some (.slice ax 1 cx)/\fe w' ax 0 X/\ay w' X/\ib X (l7 0 ⟨#[98]⟩)=true:=by
 refine (xq (ed b1 b3 b6 b7 b8) (ma b c) 10 w hP lZ hQ).mono ?_;rintro e w' ⟨hb,h⟩
 rcases h with ⟨h,_⟩| ⟨_,sa,ca,an,fin,st,rfl,hA,_,_,hf,hs,h1,h2,h3⟩
 .exact absurd (Ru b1 b3 b6 b7 b8 b c) h
 have e1:=Tu b1 b3 b6 b7 b8 b c;have e2:=Tt b1 b3 b6 b7 b8 b c;have e3:=Rt b1 b3 b6 b7 b8 b c;have e4:=Ts b1 b3 b6 b7 b8 b c;rw[show (10:Int).toNat=10 from rfl]at h1 h2 h3
 rw[h2]at e1;rw[h3]at e2;rw[h1]at e3 e4;have hfin:fin=1:=by omega
 have hst:st=2:=by omega
 obtain ⟨A,B,rfl⟩: ∃A B,an= [A,B]:=by
  have hl:an.length=2:=by have:=congrArg List.length e3;simpa using this
  match an,hl with
  | [A,B],_=>exact ⟨A,B,rfl⟩
 subst hfin hst
 have hB:B.len=1:=by
  have:(br B).length=1:=by
   have:=e3;simp only[List.map_cons,List.map_nil,List.cons.injEq]at this;exact this.2.1
  simpa[br,az]using this
 obtain ⟨⟨g,o,rfl,hc⟩,hT⟩:=hA 1 (by simp)
 have hc:w'.cell? (dZ g (o+1))=some (.slice B.a B.len B.cap):=hc;have hT:ay w' B:=hT;rw[hB]at hc;refine ⟨g,o,ca,B.cap,B.a,B.f 0,rfl,hb,hc,hT.row (by omega),hT.kid (by omega),?_⟩
 have e5:ib ((br B).getD 0 .nil) (l7 0 ⟨#[98]⟩)=true:=e4;have e6:(br B).getD 0 .nil=a9 (B.f 0):=by simp[br,az,hB]
 rw[e6]at e5;exact (t8 _ _).2 (by have:=(t8 _ _).1 e5;rwa [Ae]at this)
theorem Rf (w:World):
 Calls prog 16 #[] w fun e w'=>e=.returned (.bool true)/\Below w.heap.size w w':=by
 go_enter Tryz.func16,Tryz.ntmps16
 go_wp2_with fail;refine (ko _).mono ?_;rintro e w1 ⟨b1,b3,b6,b7,b8,rfl,hP,hb⟩;have HB1:=hid hb;have HP:Hid (∀W,Below w1.heap.size w1 W->kg W (ed b1 b3 b6 b7 b8)):=fun W hW=>hP.below hW
 clear hb hP;go_wp2_with fail;refine (zl 1 _).mono ?_;rintro e w2 ⟨rfl,hb⟩;have HB2:=hid hb;clear hb;have HQ:Hid (ay (w2.alloc (.cells #[iV 1,.string ⟨#[]⟩,nZ] 67)) (Gn ⟨#[112]⟩ w2.heap.size (l7 1 ⟨#[]⟩))):=Fh rfl (kw w2 1 ⟨#[]⟩ (n6 _ (by decide))) (by decide)
 have HB3:Hid (Below w1.heap.size w1 (w2.alloc (.cells #[iV 1,.string ⟨#[]⟩,nZ] 67))):=HB2.o.alloc HB2.o.size _;go_wp2_with fail;generalize w2.alloc (.cells #[iV 1,.string ⟨#[]⟩,nZ] 67)=w3 at*;refine (mi _ _ 1 1 _).mono ?_;rintro e w4 ⟨rfl,hb⟩;have HB4:=hid (HB3.o.trans (hb.mono HB3.o.size));replace HQ:=hid (HQ.o.below hb);clear hb;generalize w2.heap.size=c2 at*;have HQ5:Hid (ay (w4.alloc (.cells #[iV 0,.string ⟨#[112]⟩,sZ c2 1 1] 67)) (ma w4.heap.size c2)):=qo rfl HQ.o;have HB5:Hid (Below w1.heap.size w1 (w4.alloc (.cells #[iV 0,.string ⟨#[112]⟩,sZ c2 1 1] 67))):=HB4.o.alloc HB4.o.size _;have HSo:=hid (Qr b1 b3 b6 b7 b8 w4.heap.size c2 _ (HP.o _ HB5.o) HQ5.o);go_wp2_with fail;generalize w4.alloc (.cells #[iV 0,.string ⟨#[112]⟩,sZ c2 1 1] 67)=w5 at*;refine HSo.o.mono ?_;rintro e w6 ⟨g,o,ca,cx,ax,X,rfl,hb6,hc6,hr6,hX6,hs6⟩;have HB6:Hid (Below w.heap.size w w6):=(HB1.o.trans (HB5.o.mono HB1.o.size)).trans (hb6.mono (by have:=HB1.o.size;have:=HB5.o.size;omega))
 have HSX:=hid hs6;have HX:Hid (∀W,Below w6.heap.size w6 W->ay W X):=fun W hW=>hX6.below hW
 obtain ⟨bx,ox,rfl,d0,d1,d2⟩:=hr6;rw[Nat.zero_mul,Nat.add_zero]at d0 d1 d2;have HBr:Hid (Below w6.heap.size w6 (w6.alloc (.cells #[.slice (some (dZ g o)) 2 ca,iV 1,iV 2] 44))):=bA;have HRs:Hid ((w6.alloc (.cells #[.slice (some (dZ g o)) 2 ca,iV 1,iV 2] 44)).heap[w6.heap.size]?=some (.cells #[.slice (some (dZ g o)) 2 ca,iV 1,iV 2] 44)):=hZ w6 _;have HKp0:Hid (∀W,Below w6.heap.size w6 W->W.cell? (dZ g (o+1))=some (.slice (some (dZ bx ox)) 1 cx)/\W.cell? (dZ bx ox)=some (iV X.v)/\W.cell? (dZ bx (ox+1))=some (.string X.nm)/\W.cell? (dZ bx (ox+2))=some (.slice X.a X.len X.cap)):=fun W hW=>⟨(hW.cell (ag hc6)).trans hc6,(hW.cell (ag d0)).trans d0,(hW.cell (ag d1)).trans d1,(hW.cell (ag d2)).trans d2⟩
 clear hb6 hc6 hX6 hs6 d0 d1 d2 HP HQ HQ5 HSo;go_wp2_with fail;generalize w6.alloc (.cells #[.slice (some (dZ g o)) 2 ca,iV 1,iV 2] 44)=w9 at*;have hz9:w6.heap.size<w9.heap.size:=(aZ HRs.o);obtain ⟨r0',r1',r2',_,_,_⟩:=ae HRs.o;have HKp:Hid (∀W,Below w9.heap.size w9 W->(W.cell? (dZ w6.heap.size 0)=some (.slice (some (dZ g o)) 2 ca)/\W.cell? (dZ w6.heap.size 1)=some (iV 1)/\W.cell? (dZ w6.heap.size 2)=some (iV 2))/\W.cell? (dZ g (o+1))=some (.slice (some (dZ bx ox)) 1 cx)/\W.cell? (dZ bx ox)=some (iV X.v)/\W.cell? (dZ bx (ox+1))=some (.string X.nm)/\W.cell? (dZ bx (ox+2))=some (.slice X.a X.len X.cap)):=fun W hW=>⟨⟨(hW.cell hz9).trans r0',(hW.cell hz9).trans r1',(hW.cell hz9).trans r2'⟩,HKp0.o W (HBr.o.trans (hW.mono (Nat.le_of_lt hz9)))⟩
 have HB9:Hid (Below w9.heap.size w9 w9):=bR;have HXX:Hid (∀W,Below w9.heap.size w9 W->ay W X):=fun W hW=>HX.o W (HBr.o.trans (hW.mono (Nat.le_of_lt hz9)))
 clear r0' r1' r2'
 go_region_held3 (fun W=>(W.cell? (dZ w6.heap.size 0)=some (.slice (some (dZ g o)) 2 ca)/\W.cell? (dZ w6.heap.size 1)=some (iV 1)/\W.cell? (dZ w6.heap.size 2)=some (iV 2))/\W.cell? (dZ g (o+1))=some (.slice (some (dZ bx ox)) 1 cx)/\W.cell? (dZ bx ox)=some (iV X.v)/\W.cell? (dZ bx (ox+1))=some (.string X.nm)/\W.cell? (dZ bx (ox+2))=some (.slice X.a X.len X.cap)) (first|exact HKp.o _ HB9.o|exact HKp.o _ HB9.o.drew)
  (first
    | (go_at_call 29
       refine (mi _ _ _ _ _).mono ?_;rintro e wn ⟨rfl,hb⟩;replace HB9:=hid (Below.trans (by first|exact HB9.o|exact HB9.o.drew) (hb.mono HB9.o.size))
       clear hb)
    | (go_at_call 46
       refine (Qt X (l7 0 ⟨#[98]⟩) _ (by first|exact HXX.o _ HB9.o|exact HXX.o _ HB9.o.drew) (kw _ _ _ (n6 _ (by decide)))).mono ?_
       rintro e wn ⟨rfl,hb⟩;rw[HSX.o];replace HB9:=hid (Below.trans (by first|exact HB9.o|exact HB9.o.drew) (hb.mono HB9.o.size))
       clear hb))
 all_goals
  go_wp2_with fail;go_ret;exact ⟨rfl,(HB6.o.trans (HBr.o.mono HB6.o.size)).trans (HB9.o.mono (by have:=HB6.o.size;omega))⟩
section
open Go.Shelf
def Qa (b c:Nat):PS:= { Gp (ma b c) 1 with st:=1}
theorem Js (b1 b3 b6 b7 b8:Nat):ck (ed b1 b3 b6 b7 b8)=0:=by kernel_rfl
theorem Qg (b c:Nat):bo (ma b c)=0:=by kernel_rfl
theorem Qe (b c:Nat):gp (ma b c)=((1:Nat):Int):=by kernel_rfl
theorem Tr (b c:Nat):(Gp (ma b c) 1).gl.length=1:=by kernel_rfl
theorem Qf (b1 b3 b6 b7 b8 b c:Nat):(eh (bm (ed b1 b3 b6 b7 b8)) (Qa b c)).fin=0:=by kernel_rfl
theorem Tq (b1 b3 b6 b7 b8 b c:Nat):(eh (bm (ed b1 b3 b6 b7 b8)) (Qa b c)).gl.length=0:=by kernel_rfl
theorem Rv (b1 b3 b6 b7 b8 b c:Nat):(ej (bm (ed b1 b3 b6 b7 b8)) 1 (eh (bm (ed b1 b3 b6 b7 b8)) (Qa b c))).fin=0:=by kernel_rfl
theorem Tx (b1 b3 b6 b7 b8 b c:Nat):(ej (bm (ed b1 b3 b6 b7 b8)) 1 (eh (bm (ed b1 b3 b6 b7 b8)) (Qa b c))).gl.length=1:=by kernel_rfl
theorem Tw (b1 b3 b6 b7 b8 b c:Nat):(ej (bm (ed b1 b3 b6 b7 b8)) 1 (eh (bm (ed b1 b3 b6 b7 b8)) (Qa b c))).ans.length=1:=by kernel_rfl
theorem Tv (b1 b3 b6 b7 b8 b c:Nat):(ej (bm (ed b1 b3 b6 b7 b8)) 1 (eh (bm (ed b1 b3 b6 b7 b8)) (Qa b c))).st=1:=by kernel_rfl
theorem K2 (b1 b3 b6 b7 b8 b c:Nat):(b9 (ed b1 b3 b6 b7 b8) (List.range 1) ⟨bt (ma b c) 1,[],0⟩).st=1/\(b9 (ed b1 b3 b6 b7 b8) (List.range 1) ⟨bt (ma b c) 1,[],0⟩).an.length=1/\(b9 (ed b1 b3 b6 b7 b8) (List.range 1) ⟨bt (ma b c) 1,[],0⟩).m.fin=0/\(b9 (ed b1 b3 b6 b7 b8) (List.range 1) ⟨bt (ma b c) 1,[],0⟩).m.first≠0:=by
 have hC:=(ji (Js b1 b3 b6 b7 b8)).2;have S0:wt (ed b1 b3 b6 b7 b8) 1 (List.range 1) ⟨bt (ma b c) 1,[],0⟩ (Gp (ma b c) 1):=lx (Qg b c) (Qe b c) (by omega)
 have h0:(bt (ma b c) 1).first≠0:=fun e=>by
  have:=(kc S0.m rfl).1 e;have h1:=Tr b c;rw[this]at h1;cases h1
 obtain ⟨S1,_,_⟩:=p6 hC S0 rfl h0 (by show 0+1<=400;omega)
 have S1':wt (ed b1 b3 b6 b7 b8) 1 (List.range 1) ⟨bn (ed b1 b3 b6 b7 b8) { bt (ma b c) 1 with left:=4000},[],1⟩ (eh (bm (ed b1 b3 b6 b7 b8)) (Qa b c)):=S1
 have hf1:(bn (ed b1 b3 b6 b7 b8) { bt (ma b c) 1 with left:=4000}).fin=0:=by
  have:=S1'.m.fin;rw[Qf]at this;exact this
 have hn1:(bn (ed b1 b3 b6 b7 b8) { bt (ma b c) 1 with left:=4000}).first=0:=(kc S1'.m (Qf b1 b3 b6 b7 b8 b c)).2 (List.eq_nil_of_length_eq_zero (Tq b1 b3 b6 b7 b8 b c))
 obtain ⟨S2,_⟩:=o5 hC S1' (Qf b1 b3 b6 b7 b8 b c) hn1;have hf2:=S2.m.fin;rw[Rv]at hf2
 have hn2:(a6 (ed b1 b3 b6 b7 b8) (List.range 1) ⟨bn (ed b1 b3 b6 b7 b8) { bt (ma b c) 1 with left:=4000},[],1⟩).m.first≠0:=fun e=>by
  have h1:=(kc S2.m (Rv b1 b3 b6 b7 b8 b c)).1 e;have h2:=Tx b1 b3 b6 b7 b8 b c;rw[h1]at h2;cases h2
 have e1:b9 (ed b1 b3 b6 b7 b8) (List.range 1) ⟨bt (ma b c) 1,[],0⟩=a6 (ed b1 b3 b6 b7 b8) (List.range 1) ⟨bn (ed b1 b3 b6 b7 b8) { bt (ma b c) 1 with left:=4000},[],1⟩:=by
  unfold b9;rw[if_pos (show (bt (ma b c) 1).fin=0/\(bt (ma b c) 1).first≠0 from ⟨rfl,h0⟩)]
  show au _ _ 41 ⟨bn (ed b1 b3 b6 b7 b8) { bt (ma b c) 1 with left:=4000},[],1⟩=_
  rw[au,if_pos ⟨hf1,hn1⟩,au,if_neg (fun h=>hn2 h.2)]
 rw[e1];exact ⟨by rw[S2.st];exact Tv b1 b3 b6 b7 b8 b c,by rw[S2.an];exact Tw b1 b3 b6 b7 b8 b c,hf2,hn2⟩
end
section
open Go.Shelf
structure Mx where
 a0:Option Addr
 l0:Nat
 c0:Nat
 a1:Option Addr
 l1:Nat
 c1:Nat
 fst:Int
 a3:Option Addr
 l3:Nat
 c3:Nat
 a4:Option Addr
 l4:Nat
 c4:Nat
 a5:Option Addr
 l5:Nat
 c5:Nat
 st:Int
 fin:Int
 a8:Option Addr
 l8:Nat
 c8:Nat
def Mx.cells (x:Mx):Array Value:= #[.slice x.a0 x.l0 x.c0,.slice x.a1 x.l1 x.c1,iV x.fst,.slice x.a3 x.l3 x.c3,.slice x.a4 x.l4 x.c4,.slice x.a5 x.l5 x.c5,iV x.st,iV x.fin,.slice x.a8 x.l8 x.c8]
theorem MC.open {lo:Nat} {w:World} {r:Rn} {F:FM} {qs:List Nat} {an:List Tm} (M:MC lo w r F qs an): ∃x:Mx,mC r=x.cells/\x.fst=(F.m.first:Int)/\x.st=(F.st:Int)/\x.fin=F.m.fin/\x.l8=F.an.length:=by
 obtain ⟨a0,c0,e0,_⟩:=ak M.hp;obtain ⟨a1,c1,e1,_⟩:=ak M.go;obtain ⟨a3,c3,e3,_⟩:=ak M.ch;obtain ⟨a4,c4,e4,_⟩:=ak M.tl;obtain ⟨a5,c5,e5,_⟩:=ak M.qu;obtain ⟨a8,c8,e8,_⟩:=ak M.anr;refine ⟨⟨a0,F.m.h.length,c0,a1,F.m.gs.length,c1,r.first,a3,F.m.cs.length,c3,a4,F.m.tr.length,c4,a5,qs.length,c5,r.st,r.fin,a8,an.length,c8⟩,?_,M.first,M.st,M.fin,?_⟩
 .unfold mC Mx.cells
  simp only;rw[e0,e1,e3,e4,e5,e8]
 .show an.length=F.an.length
  rw[<-M.ans,List.length_map]
def Jk (b c:Nat):FM:=⟨bt (ma b c) 1,[],0⟩
theorem Td (P:Pg) (b c:Nat):o8 P 1 (List.range 1) (Jk b c):=qy (Qg b c) (Qe b c) (by omega)
theorem Ua (b c:Nat):De (Jk b c):=xo rfl
theorem Qq (b1 b3 b6 b7 b8 b c:Nat) (w:World) (hP:kg w (ed b1 b3 b6 b7 b8)) (hQ:ay w (ma b c)):Calls prog 8 #[.slice (some ⟨b8,0,none⟩) 2 2,.slice (some ⟨b,0,none⟩) 1 1] w fun e w'=>∃(r:Rn) (x:Mx),e=.returned (.tuple #[.agg x.cells,iV 0])/\mC r=x.cells/\Below w.heap.size w w'/\MC w.heap.size w' r (Jk b c) (List.range 1) []:=by
 refine (vk (ed b1 b3 b6 b7 b8) (ma b c) w hP lZ hQ).mono ?_;rintro e w' ⟨hb,⟨h,_⟩| ⟨_,n,r,hv,_,rfl,hM⟩⟩
 .exact absurd (by unfold f4;rw[Js];exact Qg b c) h
 .have hn:n=1:=by have:=Qe b c;rw[hv]at this;omega
  subst hn;obtain ⟨x,ex,_⟩:=hM.open;exact ⟨r,x,by unfold mV;rw[ex],ex,hb,hM⟩
theorem Sa (b1 b3 b6 b7 b8 b c lo:Nat) {r:Rn} {x:Mx} (w:World) (hP:kg w (ed b1 b3 b6 b7 b8)) (hx:mC r=x.cells) (M:MC lo w r (Jk b c) (List.range 1) []):Calls prog 13 #[.slice (some ⟨b8,0,none⟩) 2 2,.agg x.cells] w fun e w'=>∃(r':Rn) (y:Mx) (an:List Tm),e=.returned (.tuple #[.agg y.cells,iV 0])/\mC r'=y.cells/\Below w.heap.size w w'/\MC w.heap.size w' r' (b9 (ed b1 b3 b6 b7 b8) (List.range 1) (Jk b c)) (List.range 1) an/\y.fst≠0/\y.st=1/\y.fin=0/\y.l8=1:=by
 have h:=yc (ed b1 b3 b6 b7 b8) w hP lZ (Js b1 b3 b6 b7 b8) M (Td _ b c) (Ua b c) (by simp)
 unfold mV at h;rw[hx]at h;refine h.mono ?_;rintro e w' ⟨r',an,rfl,hb,hM⟩;obtain ⟨y,ey,h1,h2,h3,h4⟩:=hM.open;obtain ⟨k1,k2,k3,k4⟩:=K2 b1 b3 b6 b7 b8 b c;refine ⟨r',y,an,by unfold mV;rw[ey],ey,hb,hM,?_,?_,?_,?_⟩
 .rw[h1];exact fun e=>k4 (Int.natCast_eq_zero.1 e)
 .rw[h2];show ((b9 (ed b1 b3 b6 b7 b8) (List.range 1) ⟨bt (ma b c) 1,[],0⟩).st:Int)=1;rw[k1];rfl
 .rw[h3];exact k3
 .rw[h4];exact k2
theorem Rb (b1 b3 b6 b7 b8 d1 d3 d6 d7 d8 b c lo:Nat) {r:Rn} {y:Mx} {an:List Tm} (w:World) (hP:kg w (ed d1 d3 d6 d7 d8)) (hx:mC r=y.cells) (M:MC lo w r (b9 (ed b1 b3 b6 b7 b8) (List.range 1) (Jk b c)) (List.range 1) an):Calls prog 11 #[.slice (some ⟨d8,0,none⟩) 2 2,.agg y.cells] w fun e w'=>e=.returned (iV 0)/\Below w.heap.size w w':=by
 have hC:=(ji (Js b1 b3 b6 b7 b8)).2;have R:=(Td (ed b1 b3 b6 b7 b8) b c).step hC (fun _ _=>by show (0:Nat)<400;omega)
 have R':o8 (ed d1 d3 d6 d7 d8) 1 (List.range 1) (b9 (ed b1 b3 b6 b7 b8) (List.range 1) (Jk b c)):=by
  obtain ⟨Y,S⟩:=R.fs;exact ⟨⟨Y,⟨S.m,S.an,S.st,S.few,S.ok,S.sz,S.s4⟩⟩,R.tr,R.cs,R.an⟩
 have h:=Eq (ed d1 d3 d6 d7 d8) w hP (Js d1 d3 d6 d7 d8) M R' ((Ua b c).step hC (Td _ b c) (fun _ _=>by show (0:Nat)<400;omega)) (by simp)
 unfold mV at h;rw[hx]at h;exact h
theorem Ty (b1 b3 b6 b7 b8 b c:Nat) (w:World) (hP:kg w (ed b1 b3 b6 b7 b8)) (hQ:ay w (ma b c)):Calls prog 17 #[.slice (some ⟨b8,0,none⟩) 2 2,.slice (some ⟨b,0,none⟩) 1 1,iV 10] w fun e w'=>∃(sa:Option Addr) (ca:Nat) (fin st:Int),e=.returned (.tuple #[.agg #[.slice sa 2 ca,iV fin,iV st],iV 0])/\Below w.heap.size w w':=by
 refine (Br (ed b1 b3 b6 b7 b8) (ma b c) 10 w hP lZ hQ).mono ?_;rintro e w' ⟨hb,h⟩
 rcases h with ⟨h,_⟩| ⟨_,sa,ca,an,fin,st,rfl,hA,_,_,hf,hs,h1,h2,h3⟩
 .exact absurd (Ru b1 b3 b6 b7 b8 b c) h
 have e3:=Rt b1 b3 b6 b7 b8 b c;rw[show (10:Int).toNat=10 from rfl]at h1
 rw[h1]at e3;have hl:an.length=2:=by have:=congrArg List.length e3;simpa using this
 exact ⟨sa,ca,fin,st,by unfold tj;rw[hl],hb⟩
end
end Go.Proofs.YtmggaclaoefdaabGreat
