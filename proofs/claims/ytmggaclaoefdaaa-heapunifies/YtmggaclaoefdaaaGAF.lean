/- What VarsOf and Vars answer. What must be in any case. The law's own walk. -/
import Derived.Test.YtmggaclaoefdaaaGAE
import Derived.Deep.RegionHeld3
namespace Go.Proofs.Ytmggaclaoefdaaa
open Go.RowKit

def mxL (n : Int) : List Tm → Int
  | [] => n
  | x :: r => mxL (max n x.v) r
theorem mxL_append (n : Int) (l r : List Tm) : mxL n (l ++ r) = mxL (mxL n l) r := by
  induction l generalizing n with
  | nil => rfl
  | cons x l ih => rw [List.cons_append, mxL, mxL, ih]
theorem grTo_nonneg (g : Nat → Int) (k : Nat) : 0 ≤ grTo g k := by
  induction k with
  | zero => exact Int.le_refl _
  | succ k ih => rw [grTo]; omega
theorem mxL_pre (T : Tm) : ∀ n : Int, 0 ≤ n → mxL n (pre T) = max n (gr T) := by
  induction T with
  | nil => intro n hn; rfl
  | mk v nm a len cap f ih =>
    have key : ∀ k (n : Int), 0 ≤ n → mxL n (preTo (fun i => pre (f i)) k) = max n (grTo (fun i => gr (f i)) k) := by
      intro k
      induction k with
      | zero => intro n hn; show n = max n 0; omega
      | succ k ihk => intro n hn; rw [preTo, mxL_append, ihk n hn, ih k _ (by omega), grTo]; omega
    intro n hn
    rw [pre, mxL, key len _ (by omega)]
    show max (max n v) _ = max n (max v _)
    omega
theorem mxL_take (n : Int) (l : List Tm) (k : Nat) (h : k < l.length) : mxL n (l.take (k + 1)) = max (mxL n (l.take k)) l[k].v := by
  rw [List.take_succ_eq_append_getElem h, mxL_append]; rfl

set_option maxHeartbeats 800000 in
theorem varsOf_any (T : Tm) (w : World) (hin : TIn w T) (hc : ∀ i, i < T.len → cnt (T.f i) ≤ 60) :
    Calls Try.prog 14 #[.slice T.a T.len T.cap] w fun e w' => e = .returned (.int .i64 (grs T)) ∧ Below w.heap.size w w' := by
  have HIn : Hid (TIn w T) := hin
  have hlen : T.len ≤ 2 ^ 63 - 1 := hin.len
  have HC : Hid (∀ i, i < T.len → cnt (T.f i) ≤ 60) := hc
  have HR : Hid (grs T = grTo (fun i => gr (T.f i)) T.len) := rfl
  have HRow : Hid (∀ k, k < T.len → ∀ wr, Below w.heap.size w wr → RowAt wr T.a k (T.f k) ∧ TIn wr (T.f k)) := fun k hk wr hb => ⟨(HIn.out.row hk).below hb, (HIn.out.kid hk).below hb⟩
  clear hin hc
  generalize T.f = f at *
  generalize T.cap = cap at *
  generalize T.a = a at *
  generalize hl : T.len = len at *
  clear hl
  go_enter Try.func14, Try.ntmps14
  go_wp2_with fail
  go_loopw [3, 4] (fun n' i wr => ∃ k : Nat, k ≤ len ∧ i = .int .i64 k ∧ n' = .int .i64 (grTo (fun i => gr (f i)) k) ∧ Below w.heap.size w wr) (fun _ i _ => len - (intOf i).toNat)
  case atStart => exact ⟨0, Nat.zero_le _, rfl, rfl, Below.refl _ _⟩
  case round =>
    obtain ⟨k, hk, rfl, rfl, hb⟩ := hrel
    have HB : Hid (Below w.heap.size w wr) := hb
    have hsz := hb.size
    have HG : Hid (0 ≤ grTo (fun i => gr (f i)) k) := grTo_nonneg _ _
    clear hb
    by_cases hlt : k < len
    · obtain ⟨⟨b, o, ha, c0, c1, c2⟩, hT⟩ := HRow.out k hlt wr HB.out
      have HT : Hid (TIn wr (f k)) := hT
      have HM : Hid (mxL (grTo (fun i => gr (f i)) k) (pre (f k)) = grTo (fun i => gr (f i)) (k + 1)) := by rw [Hid, mxL_pre _ _ HG.out, grTo]
      have HLen : Hid ((pre (f k)).length = cnt (f k)) := pre_length _
      have hcn : cnt (f k) ≤ 60 := HC.out k hlt
      clear hT
      subst ha
      go_wp2_with fail
      refine (partsOf_any (f k) _ HT.out hcn).mono ?_
      rintro r w1 ⟨g, cp, rfl, hown, hb1⟩
      have HW1 : Hid (Below w.heap.size w w1) := HB.out.trans (hb1.mono hsz)
      have HO : Hid (w1.ownsRow wr.heap.size 24 3 (.slice (some ⟨g, 0, none⟩) (cnt (f k)) cp) (cnt (f k)) (flat (pre (f k)))) := hown
      clear hown hb1 c0 c1 c2
      generalize pre (f k) = l at *
      generalize cnt (f k) = n at *
      generalize grTo (fun i => gr (f i)) k = sk at *
      go_wp2_with fail
      go_loop [3, 6] (fun n' i => ∃ j : Nat, j ≤ n ∧ i = .int .i64 j ∧ n' = .int .i64 (mxL sk (l.take j))) (fun _ i => n - (intOf i).toNat)
      case atStart => exact ⟨0, Nat.zero_le _, rfl, rfl⟩
      case round =>
        obtain ⟨j, hj, rfl, rfl⟩ := hrel
        by_cases hjl : j < n
        · have hj' : j < l.length := by rw [HLen.out]; exact hjl
          have c0 : w1.cell? ⟨g, j * 3, none⟩ = some (.int .i64 l[j].v) := (HO.out.cellAt (j * 3) (by omega)).trans (flat_get l j hj').1
          have HX : Hid (mxL sk (l.take (j + 1)) = max (mxL sk (l.take j)) l[j].v) := mxL_take sk l j hj'
          generalize mxL sk (l.take j) = y at *
          generalize l[j].v = x at *
          by_cases hyx : y < x
          · have HX2 : Hid (mxL sk (l.take (j + 1)) = x) := by rw [Hid, HX.out]; omega
            go_wp2_with fail
            go_round
            case rel => exact ⟨j + 1, by omega, by go_num, by rw [HX2.out]⟩
            case measure => simp [intOf]; omega
          · have HX2 : Hid (mxL sk (l.take (j + 1)) = y) := by rw [Hid, HX.out]; omega
            go_wp2_with fail
            go_round
            case rel => exact ⟨j + 1, by omega, by go_num, by rw [HX2.out]⟩
            case measure => simp [intOf]; omega
        · have hke : j = n := by omega
          have HX : Hid (mxL sk (l.take j) = grTo (fun i => gr (f i)) (k + 1)) := by
            rw [Hid, hke, List.take_of_length_le (by rw [HLen.out]; exact Nat.le_refl _), HM.out]
          clear hke
          go_wp2_with fail
          go_roundw
          case rel => exact ⟨k + 1, by omega, by go_num, by rw [HX.out], HW1.out⟩
          case measure => simp [intOf]; omega
    · have hke : k = len := by omega
      have HX : Hid (grs T = grTo (fun i => gr (f i)) k) := by rw [Hid, HR.out, hke]
      clear hke
      go_wp2_with fail
      go_ret
      exact ⟨by rw [HX.out]; rfl, HB.out⟩

def varsV (T : Tm) : Int := if queryV T = 0 then grs T else 0

set_option maxHeartbeats 800000 in
theorem vars_any (T : Tm) (w : World) (hin : TIn w T) :
    Calls Try.prog 12 #[.slice T.a T.len T.cap] w fun e w' => e = .returned (.tuple #[.int .i64 (varsV T), .int .i64 (queryV T)]) ∧ Below w.heap.size w w' := by
  have HIn : Hid (TIn w T) := hin
  clear hin
  go_enter Try.func12, Try.ntmps12
  go_wp2_with fail
  refine (query_any T _ HIn.out).mono ?_
  rintro e w1 ⟨rfl, hb1⟩
  have HB1 : Hid (Below w.heap.size w w1) := hb1
  have hsz := hb1.size
  clear hb1
  by_cases hz : queryV T = 0
  · have HX : Hid (varsV T = grs T) := by rw [Hid, varsV, if_pos hz]
    have HZ : Hid (queryV T = 0) := hz
    rw [hz]
    clear hz
    go_wp2_with fail
    refine (greatest_any T _ (HIn.out.below HB1.out)).mono ?_
    rintro e w2 ⟨rfl, hb2⟩
    have HB2 : Hid (Below w.heap.size w w2) := HB1.out.trans (hb2.mono hsz)
    clear hb2
    go_wp2_with fail
    go_ret2
    exact ⟨by rw [HX.out, HZ.out]; rfl, HB2.out⟩
  · have HX : Hid (varsV T = 0) := by rw [Hid, varsV, if_neg hz]
    have hzb : (queryV T == 0) = false := beq_eq_false_iff_ne.2 hz
    clear hz
    go_wp2_with fail
    go_ret2
    exact ⟨by rw [HX.out]; rfl, HB1.out⟩
end Go.Proofs.Ytmggaclaoefdaaa

namespace Go.Proofs.Ytmggaclaoefdaaa
open Go.RowKit

theorem fn_any (nm : ByteArray) (a : Option Addr) (len cap : Nat) (w : World) :
    Calls Try.prog 48 #[.string nm, .slice a len cap] w fun e w' => e = .returned (.agg #[.int .i64 0, .string nm, .slice a len cap]) ∧ Below w.heap.size w w' := by
  go_enter Try.func48, Try.ntmps48
  go_wp2
  exact bodyPost_ret (v := .agg #[.int .i64 0, .string nm, .slice a len cap]) (by simp [results, Try.results48, go_sem]) rfl ⟨rfl, (Below.refl _ _).alloc (Nat.le_refl _) _⟩

theorem va_any (n : Int) (w : World) :
    Calls Try.prog 52 #[.int .i64 n] w fun e w' => e = .returned (.agg #[.int .i64 n, .string ⟨#[]⟩, .slice none 0 0]) ∧ Below w.heap.size w w' := by
  go_enter Try.func52, Try.ntmps52
  go_wp2
  exact bodyPost_ret (v := .agg #[.int .i64 n, .string ⟨#[]⟩, .slice none 0 0]) (by simp [results, Try.results52, go_sem]) rfl ⟨rfl, (Below.refl _ _).alloc (Nat.le_refl _) _⟩

theorem TIn.rename {w : World} {v v' : Int} {nm nm' : ByteArray} {a : Option Addr} {len cap cap' : Nat} {f : Nat → Tm} (h : TIn w (.mk v nm a len cap f)) (hs : nm'.size ≤ maxLen) : TIn w (.mk v' nm' a len cap' f) := ⟨hs, h.2⟩

/-- A variable, or a name without arguments. -/
def leafT (v : Int) (nm : ByteArray) : Tm := .mk v nm none 0 0 (fun _ => .nil)
theorem leaf_in (w : World) (v : Int) (nm : ByteArray) (h : nm.size ≤ maxLen) : TIn w (leafT v nm) := ⟨h, Nat.zero_le _, fun i hi => absurd hi (Nat.not_lt_zero i)⟩
/-- A name of one argument. -/
def unT (nm : ByteArray) (b : Nat) (T : Tm) : Tm := .mk 0 nm (some ⟨b, 0, none⟩) 1 1 (fun _ => T)
theorem name_a : nameB ⟨#[97]⟩ = true := by decide +kernel
theorem name_a1 : nameB ⟨#[97, 49]⟩ = true := by decide +kernel
theorem name_cut : nameB ⟨#[33]⟩ = true := by decide +kernel
theorem list_e : ByteArray.toList ⟨#[]⟩ = [] := by decide +kernel
theorem size2 (nm : ByteArray) (h : nm.size ≤ 2) : nm.size ≤ maxLen := by unfold maxLen; omega
theorem part_a (n : Nat) (h : n ≤ 4) : partE 0 ⟨#[97]⟩ n = 0 := by simp [partE, name_a]; omega
theorem part_a1 (n : Nat) (h : n ≤ 4) : partE 0 ⟨#[97, 49]⟩ n = 0 := by simp [partE, name_a1]; omega
theorem part_cut : partE 0 ⟨#[33]⟩ 0 = 0 := by simp [partE, name_cut]
theorem part_v (v : Int) (h1 : 1 ≤ v) (h2 : v ≤ 12) : partE v ⟨#[]⟩ 0 = 0 := by
  rw [partE, if_pos (by omega), varE, if_neg (by omega), if_neg (by omega), if_pos list_e]; rfl
theorem check_leaf (v : Int) (nm : ByteArray) (h : partE v nm 0 = 0) : checkV (leafT v nm) = 0 := by
  rw [checkV, if_pos (show cnt (leafT v nm) ≤ 60 from by show 1 + 0 ≤ 60; omega), err_eq, if_pos (show partE (leafT v nm).v (leafT v nm).nm (leafT v nm).len = 0 from h)]; rfl
theorem errs_un (nm : ByteArray) (b : Nat) (T : Tm) : errs (unT nm b T) = err T := rfl
theorem check_un (nm : ByteArray) (b : Nat) (v : Int) (nm' : ByteArray) (h : partE 0 nm 1 = 0) (h' : partE v nm' 0 = 0) : checkV (unT nm b (leafT v nm')) = 0 := by
  rw [checkV, if_pos (show cnt (unT nm b (leafT v nm')) ≤ 60 from by show 1 + (0 + (1 + 0)) ≤ 60; omega), err_eq, if_pos (show partE (unT nm b (leafT v nm')).v (unT nm b (leafT v nm')).nm (unT nm b (leafT v nm')).len = 0 from h), errs_un, err_eq, if_pos (show partE (leafT v nm').v (leafT v nm').nm (leafT v nm').len = 0 from h')]; rfl
theorem chks_one (b : Nat) (T : Tm) : chks (one b T) (one b T).len = checkV T := rfl
theorem query_one (b : Nat) (T : Tm) (h : checkV T = 0) : queryV (one b T) = 0 := by
  rw [queryV, if_pos (show (one b T).len ≤ 6 from by show 1 ≤ 6; omega), chks_one, h]
theorem query_leaf (v : Int) (nm : ByteArray) : queryV (leafT v nm) = 0 := rfl
theorem vars_3 (b b' : Nat) : varsV (one b (unT ⟨#[97]⟩ b' (leafT 3 ⟨#[]⟩))) = 3 := by
  rw [varsV, if_pos (query_one _ _ (check_un _ _ _ _ (part_a 1 (by omega)) (part_v 3 (by omega) (by omega))))]
  rfl

theorem head_leaf : headV (leafT 0 ⟨#[97]⟩) = 0 := by
  have hm : meansB ⟨#[97]⟩ 0 = false := by decide +kernel
  rw [headV, if_pos (check_leaf 0 ⟨#[97]⟩ (part_a 0 (by omega))), if_pos (show (leafT 0 ⟨#[97]⟩).v = 0 from rfl), if_neg (show ¬ meansB (leafT 0 ⟨#[97]⟩).nm (leafT 0 ⟨#[97]⟩).len = true from by show ¬ meansB ⟨#[97]⟩ 0 = true; rw [hm]; simp)]
def pgT (b b' : Nat) : Pg := { a := some ⟨b, 0, none⟩, len := 1, cap := 1, hd := fun _ => leafT 0 ⟨#[97]⟩, bd := fun _ => one b' (leafT 0 ⟨#[33]⟩) }
theorem cls_one (b b' : Nat) : clsV (pgT b b') 1 = clV (leafT 0 ⟨#[97]⟩) (one b' (leafT 0 ⟨#[33]⟩)) := rfl
theorem prog_pg (b b' : Nat) : progV (pgT b b') = 0 := by
  rw [progV, if_pos (show (pgT b b').len ≤ 30 from by show 1 ≤ 30; omega)]
  show clsV (pgT b b') 1 = 0
  rw [cls_one, clV, if_pos head_leaf, query_one _ _ (check_leaf 0 ⟨#[33]⟩ part_cut)]

theorem pg_in (w : World) : PIn ((w.alloc (.cells #[.int .i64 0, .string ⟨#[33]⟩, .slice none 0 0] 24)).alloc (.cells #[.int .i64 0, .string ⟨#[97]⟩, .slice none 0 0, .slice (some ⟨w.heap.size, 0, none⟩) 1 1] 82)) (pgT (w.heap.size + 1) w.heap.size) := by
  refine ⟨size2 ⟨#[0]⟩ (by decide), fun i hi => ?_⟩
  have hi0 : i = 0 := by have : i < 1 := hi; omega
  subst hi0
  refine ⟨⟨w.heap.size + 1, 0, rfl, ?_, ?_, ?_, ?_⟩, leaf_in _ _ _ (size2 _ (by decide)), ?_⟩
  · show World.cell? _ ⟨w.heap.size + 1, 0, none⟩ = some (.int .i64 0); go_simp
  · show World.cell? _ ⟨w.heap.size + 1, 1, none⟩ = some (.string ⟨#[97]⟩); go_simp
  · show World.cell? _ ⟨w.heap.size + 1, 2, none⟩ = some (.slice none 0 0); go_simp
  · show World.cell? _ ⟨w.heap.size + 1, 3, none⟩ = some (.slice (some ⟨w.heap.size, 0, none⟩) 1 1); go_simp
  · exact (one_in (T := leafT 0 ⟨#[33]⟩) (b := w.heap.size) rfl (leaf_in w 0 ⟨#[33]⟩ (size2 _ (by decide)))).below ((Below.refl _ _).alloc (Nat.le_refl _) _)

set_option maxHeartbeats 800000 in
theorem begun_any (w : World) :
    Calls Try.prog 15 #[] w fun e w' => e = .returned (.bool true) ∧ Below w.heap.size w w' := by
  go_enter Try.func15, Try.ntmps15
  go_wp2_with fail
  refine (va_any 3 _).mono ?_
  rintro e w1 ⟨rfl, hb1⟩
  have HB1 : Hid (Below w.heap.size w w1) := hb1
  have hs1 := hb1.size
  clear hb1
  go_wp2_with fail
  refine (fn_any _ _ _ _ _).mono ?_
  rintro e w2 ⟨rfl, hb2⟩
  have HB2 : Hid (Below w.heap.size w w2) := (HB1.out.alloc hs1 _).trans (hb2.mono (by simp; omega))
  have HT2 : Hid (TIn w2 (unT ⟨#[97]⟩ w1.heap.size (leafT 3 ⟨#[]⟩))) := TIn.below (TIn.rename (v := 0) (nm := ByteArray.empty) (cap := 1) (one_in (T := leafT 3 ⟨#[]⟩) (b := w1.heap.size) rfl (leaf_in w1 3 ⟨#[]⟩ (size2 _ (by decide)))) (size2 _ (by decide))) hb2
  have hs2 := HB2.out.size
  clear hb2
  go_wp2_with fail
  refine (vars_any (one w2.heap.size (unT ⟨#[97]⟩ w1.heap.size (leafT 3 ⟨#[]⟩))) _ (one_in rfl HT2.out)).mono ?_
  rintro e w3 ⟨rfl, hb3⟩
  rw [vars_3, query_one _ _ (check_un _ _ _ _ (part_a 1 (by omega)) (part_v 3 (by omega) (by omega)))]
  have HB3 : Hid (Below w.heap.size w w3) := (HB2.out.alloc hs2 _).trans (hb3.mono (by simp; omega))
  have hs3 := HB3.out.size
  clear hb3
  go_wp2_with fail
  refine (va_any 1 _).mono ?_
  rintro e w4 ⟨rfl, hb4⟩
  have HB4 : Hid (Below w.heap.size w w4) := HB3.out.trans (hb4.mono hs3)
  have hs4 := HB4.out.size
  clear hb4
  go_wp2_with fail
  refine (fn_any _ _ _ _ _).mono ?_
  rintro e w5 ⟨rfl, hb5⟩
  have HB5 : Hid (Below w.heap.size w w5) := (HB4.out.alloc hs4 _).trans (hb5.mono (by simp; omega))
  have HT5 : Hid (TIn w5 (unT ⟨#[97, 49]⟩ w4.heap.size (leafT 1 ⟨#[]⟩))) := TIn.below (TIn.rename (v := 0) (nm := ByteArray.empty) (cap := 1) (one_in (T := leafT 1 ⟨#[]⟩) (b := w4.heap.size) rfl (leaf_in w4 1 ⟨#[]⟩ (size2 _ (by decide)))) (size2 _ (by decide))) hb5
  have hs5 := HB5.out.size
  clear hb5
  go_wp2_with fail
  refine (check_any (unT ⟨#[97, 49]⟩ w4.heap.size (leafT 1 ⟨#[]⟩)) _ HT5.out).mono ?_
  rintro e w6 ⟨rfl, hb6⟩
  rw [check_un _ _ _ _ (part_a1 1 (by omega)) (part_v 1 (by omega) (by omega))]
  have HB6 : Hid (Below w.heap.size w w6) := HB5.out.trans (hb6.mono hs5)
  have hs6 := HB6.out.size
  clear hb6
  go_wp2_with fail
  refine (query_any (leafT 0 ⟨#[]⟩) _ (leaf_in _ _ _ (size2 _ (by decide)))).mono ?_
  rintro e w7 ⟨rfl, hb7⟩
  rw [query_leaf]
  have HB7 : Hid (Below w.heap.size w w7) := HB6.out.trans (hb7.mono hs6)
  have hs7 := HB7.out.size
  clear hb7
  go_wp2_with fail
  refine (fn_any _ _ _ _ _).mono ?_
  rintro e w8 ⟨rfl, hb8⟩
  have HB8 : Hid (Below w.heap.size w w8) := HB7.out.trans (hb8.mono hs7)
  have hs8 := HB8.out.size
  clear hb8
  go_wp2_with fail
  refine (fn_any _ _ _ _ _).mono ?_
  rintro e w9 ⟨rfl, hb9⟩
  have HB9 : Hid (Below w.heap.size w w9) := HB8.out.trans (hb9.mono hs8)
  have hs9 := HB9.out.size
  clear hb9
  go_wp2_with fail
  refine (clauses_any (pgT (w9.heap.size + 1) w9.heap.size) _ (pg_in w9)).mono ?_
  rintro e w10 ⟨rfl, hb10⟩
  rw [prog_pg]
  have HB10 : Hid (Below w.heap.size w w10) := ((HB9.out.alloc hs9 _).alloc (by simp; omega) _).trans (hb10.mono (by simp; omega))
  clear hb10
  go_wp2_with fail
  go_ret
  exact ⟨rfl, HB10.out⟩
end Go.Proofs.Ytmggaclaoefdaaa

namespace Go.Proofs.Ytmggaclaoefdaaa
open Go.RowKit

theorem small_of_query (Q : Tm) (h : queryV Q = 0) : ∀ i, i < Q.len → cnt (Q.f i) ≤ 60 := by
  intro i hi
  have h6 : Q.len ≤ 6 := by
    by_cases h6 : Q.len ≤ 6
    · exact h6
    · rw [queryV, if_neg h6] at h; omega
  rw [queryV, if_pos h6] at h
  have h1 : chks Q (i + 1) = 0 := fst_zero _ hi h
  have h0 : chks Q i = 0 := fst_zero _ (Nat.le_of_lt hi) h
  unfold chks at h0 h1
  rw [fst, if_pos h0] at h1
  by_cases hc : cnt (Q.f i) ≤ 60
  · exact hc
  · have h2 : checkV (Q.f i) = 0 := h1
    rw [checkV, if_neg hc] at h2; omega

set_option maxHeartbeats 2000000 in
theorem law_any (T Q : Tm) (P : Pg) (w : World) (hT : TIn w T) (hP : PIn w P) (hQ : TIn w Q) :
    Calls Try.prog 3 #[T.val, .slice P.a P.len P.cap, .slice Q.a Q.len Q.cap] w fun e w' => e = .returned (.bool true) ∧ Below w.heap.size w w' := by
  show Calls Try.prog 3 #[.agg #[.int .i64 T.v, .string T.nm, .slice T.a T.len T.cap], .slice P.a P.len P.cap, .slice Q.a Q.len Q.cap] w _
  have HT : Hid (∀ wr, Below (w.heap.size + 1) (w.alloc (.cells #[.int .i64 T.v, .string T.nm, .slice T.a T.len T.cap] 24)) wr → Below w.heap.size w wr ∧ TIn wr T ∧ PIn wr P ∧ TIn wr Q) := fun wr hb => by
    have hbw : Below w.heap.size w wr := ((Below.refl _ _).alloc (Nat.le_refl _) _).trans (hb.mono (by omega))
    exact ⟨hbw, hT.below hbw, hP.below hbw, hQ.below hbw⟩
  clear hT hP hQ
  have HB : Hid (Below (w.heap.size + 1) (w.alloc (.cells #[.int .i64 T.v, .string T.nm, .slice T.a T.len T.cap] 24)) (w.alloc (.cells #[.int .i64 T.v, .string T.nm, .slice T.a T.len T.cap] 24))) := Below.refl _ _
  by_cases hz : queryV Q = 0
  · have HV : Hid (varsV Q = grs Q) := by rw [Hid, varsV, if_pos hz]
    have HZ : Hid (queryV Q = 0) := hz
    have HC : Hid (∀ i, i < Q.len → cnt (Q.f i) ≤ 60) := small_of_query Q hz
    clear hz
    go_enter Try.func3, Try.ntmps3
    go_wp2_with fail
    refine (vars_any Q _ (HT.out _ HB.out).2.2.2).mono ?_
    rintro e w1 ⟨rfl, hb1⟩
    replace HB : Hid (Below (w.heap.size + 1) (w.alloc (.cells #[.int .i64 T.v, .string T.nm, .slice T.a T.len T.cap] 24)) w1) := HB.out.trans (hb1.mono (by simp))
    have hs : w.heap.size + 1 ≤ w1.heap.size := by have := HB.out.size; simpa using this
    clear hb1
    rw [HV.out, HZ.out]
    go_wp2_with fail
    refine (checkQuery_any Q _ (HT.out _ HB.out).2.2.2).mono ?_
    rintro e w2 ⟨rfl, hb2⟩
    replace HB : Hid (Below (w.heap.size + 1) (w.alloc (.cells #[.int .i64 T.v, .string T.nm, .slice T.a T.len T.cap] 24)) w2) := HB.out.trans (hb2.mono hs)
    replace hs : w.heap.size + 1 ≤ w2.heap.size := by have := HB.out.size; simpa using this
    clear hb2
    rw [HZ.out]
    go_wp2_with fail
    refine (varsOf_any Q _ (HT.out _ HB.out).2.2.2 HC.out).mono ?_
    rintro e w3 ⟨rfl, hb3⟩
    replace HB : Hid (Below (w.heap.size + 1) (w.alloc (.cells #[.int .i64 T.v, .string T.nm, .slice T.a T.len T.cap] 24)) w3) := HB.out.trans (hb3.mono hs)
    replace hs : w.heap.size + 1 ≤ w3.heap.size := by have := HB.out.size; simpa using this
    clear hb3
    go_wp2_with fail
    go_region_held3 (fun w' => w'.cell? ⟨w.heap.size, 0, none⟩ = some (.int .i64 T.v) ∧ w'.cell? ⟨w.heap.size, 1, none⟩ = some (.string T.nm) ∧ w'.cell? ⟨w.heap.size, 2, none⟩ = some (.slice T.a T.len T.cap)) (first | exact box_cells HB.out | exact box_cells HB.out.drew)
      (first
        | (go_at_call 15
           refine (begun_any _).mono ?_
           rintro e w4 ⟨rfl, hb4⟩
           replace HB : Hid (Below (w.heap.size + 1) (w.alloc (.cells #[.int .i64 T.v, .string T.nm, .slice T.a T.len T.cap] 24)) w4) := Below.trans (by first | exact HB.out | exact HB.out.drew) (hb4.mono hs)
           replace hs : w.heap.size + 1 ≤ w4.heap.size := by have := HB.out.size; simpa using this
           clear hb4)
        | (go_at_call 16
           refine (check_any T _ (by first | exact (HT.out _ HB.out).2.1 | exact (HT.out _ HB.out.drew).2.1)).mono ?_
           rintro e w5 ⟨rfl, hb5⟩
           replace HB : Hid (Below (w.heap.size + 1) (w.alloc (.cells #[.int .i64 T.v, .string T.nm, .slice T.a T.len T.cap] 24)) w5) := Below.trans (by first | exact HB.out | exact HB.out.drew) (hb5.mono hs)
           replace hs : w.heap.size + 1 ≤ w5.heap.size := by have := HB.out.size; simpa using this
           clear hb5)
        | (go_at_call 17
           refine (checkTerm_any T _ (by first | exact (HT.out _ HB.out).2.1 | exact (HT.out _ HB.out.drew).2.1)).mono ?_
           rintro e w6 ⟨rfl, hb6⟩
           replace HB : Hid (Below (w.heap.size + 1) (w.alloc (.cells #[.int .i64 T.v, .string T.nm, .slice T.a T.len T.cap] 24)) w6) := Below.trans (by first | exact HB.out | exact HB.out.drew) (hb6.mono hs)
           replace hs : w.heap.size + 1 ≤ w6.heap.size := by have := HB.out.size; simpa using this
           clear hb6)
        | (go_at_call 18
           refine (clauses_any P _ (by first | exact (HT.out _ HB.out).2.2.1 | exact (HT.out _ HB.out.drew).2.2.1)).mono ?_
           rintro e w7 ⟨rfl, hb7⟩
           replace HB : Hid (Below (w.heap.size + 1) (w.alloc (.cells #[.int .i64 T.v, .string T.nm, .slice T.a T.len T.cap] 24)) w7) := Below.trans (by first | exact HB.out | exact HB.out.drew) (hb7.mono hs)
           replace hs : w.heap.size + 1 ≤ w7.heap.size := by have := HB.out.size; simpa using this
           clear hb7)
        | (go_at_call 19
           refine (checkProgram_any P _ (by first | exact (HT.out _ HB.out).2.2.1 | exact (HT.out _ HB.out.drew).2.2.1)).mono ?_
           rintro e w8 ⟨rfl, hb8⟩
           replace HB : Hid (Below (w.heap.size + 1) (w.alloc (.cells #[.int .i64 T.v, .string T.nm, .slice T.a T.len T.cap] 24)) w8) := Below.trans (by first | exact HB.out | exact HB.out.drew) (hb8.mono hs)
           replace hs : w.heap.size + 1 ≤ w8.heap.size := by have := HB.out.size; simpa using this
           clear hb8)
        | (go_at_call 20
           refine (query_any Q _ (by first | exact (HT.out _ HB.out).2.2.2 | exact (HT.out _ HB.out.drew).2.2.2)).mono ?_
           rintro e w9 ⟨rfl, hb9⟩
           replace HB : Hid (Below (w.heap.size + 1) (w.alloc (.cells #[.int .i64 T.v, .string T.nm, .slice T.a T.len T.cap] 24)) w9) := Below.trans (by first | exact HB.out | exact HB.out.drew) (hb9.mono hs)
           replace hs : w.heap.size + 1 ≤ w9.heap.size := by have := HB.out.size; simpa using this
           clear hb9
           rw [HZ.out]))
    go_wp2_with fail
    go_ret
    exact ⟨rfl, (HT.out _ HB.out).1⟩
  · have HV : Hid (varsV Q = 0) := by rw [Hid, varsV, if_neg hz]
    have hzb : (queryV Q == 0) = false := beq_eq_false_iff_ne.2 hz
    clear hz
    go_enter Try.func3, Try.ntmps3
    go_wp2_with fail
    refine (vars_any Q _ (HT.out _ HB.out).2.2.2).mono ?_
    rintro e w1 ⟨rfl, hb1⟩
    replace HB : Hid (Below (w.heap.size + 1) (w.alloc (.cells #[.int .i64 T.v, .string T.nm, .slice T.a T.len T.cap] 24)) w1) := HB.out.trans (hb1.mono (by simp))
    have hs : w.heap.size + 1 ≤ w1.heap.size := by have := HB.out.size; simpa using this
    clear hb1
    rw [HV.out]
    go_wp2_with fail
    refine (checkQuery_any Q _ (HT.out _ HB.out).2.2.2).mono ?_
    rintro e w2 ⟨rfl, hb2⟩
    replace HB : Hid (Below (w.heap.size + 1) (w.alloc (.cells #[.int .i64 T.v, .string T.nm, .slice T.a T.len T.cap] 24)) w2) := HB.out.trans (hb2.mono hs)
    replace hs : w.heap.size + 1 ≤ w2.heap.size := by have := HB.out.size; simpa using this
    clear hb2
    go_wp2_with fail
    go_region_held3 (fun w' => w'.cell? ⟨w.heap.size, 0, none⟩ = some (.int .i64 T.v) ∧ w'.cell? ⟨w.heap.size, 1, none⟩ = some (.string T.nm) ∧ w'.cell? ⟨w.heap.size, 2, none⟩ = some (.slice T.a T.len T.cap)) (first | exact box_cells HB.out | exact box_cells HB.out.drew)
      (first
        | (go_at_call 15
           refine (begun_any _).mono ?_
           rintro e w4 ⟨rfl, hb4⟩
           replace HB : Hid (Below (w.heap.size + 1) (w.alloc (.cells #[.int .i64 T.v, .string T.nm, .slice T.a T.len T.cap] 24)) w4) := Below.trans (by first | exact HB.out | exact HB.out.drew) (hb4.mono hs)
           replace hs : w.heap.size + 1 ≤ w4.heap.size := by have := HB.out.size; simpa using this
           clear hb4)
        | (go_at_call 16
           refine (check_any T _ (by first | exact (HT.out _ HB.out).2.1 | exact (HT.out _ HB.out.drew).2.1)).mono ?_
           rintro e w5 ⟨rfl, hb5⟩
           replace HB : Hid (Below (w.heap.size + 1) (w.alloc (.cells #[.int .i64 T.v, .string T.nm, .slice T.a T.len T.cap] 24)) w5) := Below.trans (by first | exact HB.out | exact HB.out.drew) (hb5.mono hs)
           replace hs : w.heap.size + 1 ≤ w5.heap.size := by have := HB.out.size; simpa using this
           clear hb5)
        | (go_at_call 17
           refine (checkTerm_any T _ (by first | exact (HT.out _ HB.out).2.1 | exact (HT.out _ HB.out.drew).2.1)).mono ?_
           rintro e w6 ⟨rfl, hb6⟩
           replace HB : Hid (Below (w.heap.size + 1) (w.alloc (.cells #[.int .i64 T.v, .string T.nm, .slice T.a T.len T.cap] 24)) w6) := Below.trans (by first | exact HB.out | exact HB.out.drew) (hb6.mono hs)
           replace hs : w.heap.size + 1 ≤ w6.heap.size := by have := HB.out.size; simpa using this
           clear hb6)
        | (go_at_call 18
           refine (clauses_any P _ (by first | exact (HT.out _ HB.out).2.2.1 | exact (HT.out _ HB.out.drew).2.2.1)).mono ?_
           rintro e w7 ⟨rfl, hb7⟩
           replace HB : Hid (Below (w.heap.size + 1) (w.alloc (.cells #[.int .i64 T.v, .string T.nm, .slice T.a T.len T.cap] 24)) w7) := Below.trans (by first | exact HB.out | exact HB.out.drew) (hb7.mono hs)
           replace hs : w.heap.size + 1 ≤ w7.heap.size := by have := HB.out.size; simpa using this
           clear hb7)
        | (go_at_call 19
           refine (checkProgram_any P _ (by first | exact (HT.out _ HB.out).2.2.1 | exact (HT.out _ HB.out.drew).2.2.1)).mono ?_
           rintro e w8 ⟨rfl, hb8⟩
           replace HB : Hid (Below (w.heap.size + 1) (w.alloc (.cells #[.int .i64 T.v, .string T.nm, .slice T.a T.len T.cap] 24)) w8) := Below.trans (by first | exact HB.out | exact HB.out.drew) (hb8.mono hs)
           replace hs : w.heap.size + 1 ≤ w8.heap.size := by have := HB.out.size; simpa using this
           clear hb8)
        | (go_at_call 20
           refine (query_any Q _ (by first | exact (HT.out _ HB.out).2.2.2 | exact (HT.out _ HB.out.drew).2.2.2)).mono ?_
           rintro e w9 ⟨rfl, hb9⟩
           replace HB : Hid (Below (w.heap.size + 1) (w.alloc (.cells #[.int .i64 T.v, .string T.nm, .slice T.a T.len T.cap] 24)) w9) := Below.trans (by first | exact HB.out | exact HB.out.drew) (hb9.mono hs)
           replace hs : w.heap.size + 1 ≤ w9.heap.size := by have := HB.out.size; simpa using this
           clear hb9))
    go_wp2_with fail
    go_ret
    exact ⟨rfl, (HT.out _ HB.out).1⟩
end Go.Proofs.Ytmggaclaoefdaaa
