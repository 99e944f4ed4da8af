/- What must be in any case. -/
import Derived.Test.YtmggaclaoefdaaaGB
namespace Go.Proofs.Ytmggaclaoefdaaa
open Go.RowKit

theorem fn_any (nm : ByteArray) (a : Option Addr) (len cap : Nat) (w : World) :
    Calls Try.prog 48 #[.string nm, .slice a len cap] w fun e w' => e = .returned (.agg #[.int .i64 0, .string nm, .slice a len cap]) ∧ Below w.heap.size w w' := by
  go_enter Try.func48, Try.ntmps48
  go_wp2
  exact bodyPost_ret (v := .agg #[.int .i64 0, .string nm, .slice a len cap]) (by simp [results, Try.results48, go_sem]) rfl ⟨rfl, (Below.refl _ _).alloc (Nat.le_refl _) _⟩

theorem va_any (n : Int) (w : World) :
    Calls Try.prog 52 #[.int .i64 n] w fun e w' => e = .returned (.agg #[.int .i64 n, .string ⟨#[]⟩, .slice none 0 0]) ∧ Below w.heap.size w w' := by
  go_enter Try.func52, Try.ntmps52
  go_wp2
  exact bodyPost_ret (v := .agg #[.int .i64 n, .string ⟨#[]⟩, .slice none 0 0]) (by simp [results, Try.results52, go_sem]) rfl ⟨rfl, (Below.refl _ _).alloc (Nat.le_refl _) _⟩

theorem TIn.rename {w : World} {v v' : Int} {nm nm' : ByteArray} {a : Option Addr} {len cap cap' : Nat} {f : Nat → Tm} (h : TIn w (.mk v nm a len cap f)) (hs : nm'.size ≤ maxLen) : TIn w (.mk v' nm' a len cap' f) := ⟨hs, h.2⟩

/-- A variable, or a name without arguments. -/
def leafT (v : Int) (nm : ByteArray) : Tm := .mk v nm none 0 0 (fun _ => .nil)
theorem leaf_in (w : World) (v : Int) (nm : ByteArray) (h : nm.size ≤ maxLen) : TIn w (leafT v nm) := ⟨h, Nat.zero_le _, fun i hi => absurd hi (Nat.not_lt_zero i)⟩
/-- A name of one argument. -/
def unT (nm : ByteArray) (b : Nat) (T : Tm) : Tm := .mk 0 nm (some ⟨b, 0, none⟩) 1 1 (fun _ => T)
theorem name_a : nameB ⟨#[97]⟩ = true := by decide +kernel
theorem name_a1 : nameB ⟨#[97, 49]⟩ = true := by decide +kernel
theorem name_cut : nameB ⟨#[33]⟩ = true := by decide +kernel
theorem list_e : ByteArray.toList ⟨#[]⟩ = [] := by decide +kernel
theorem size2 (nm : ByteArray) (h : nm.size ≤ 2) : nm.size ≤ maxLen := by unfold maxLen; omega
theorem part_a (n : Nat) (h : n ≤ 4) : partE 0 ⟨#[97]⟩ n = 0 := by simp [partE, name_a]; omega
theorem part_a1 (n : Nat) (h : n ≤ 4) : partE 0 ⟨#[97, 49]⟩ n = 0 := by simp [partE, name_a1]; omega
theorem part_cut : partE 0 ⟨#[33]⟩ 0 = 0 := by simp [partE, name_cut]
theorem part_v (v : Int) (h1 : 1 ≤ v) (h2 : v ≤ 12) : partE v ⟨#[]⟩ 0 = 0 := by
  rw [partE, if_pos (by omega), varE, if_neg (by omega), if_neg (by omega), if_pos list_e]; rfl
theorem check_leaf (v : Int) (nm : ByteArray) (h : partE v nm 0 = 0) : checkV (leafT v nm) = 0 := by
  rw [checkV, if_pos (show cnt (leafT v nm) ≤ 60 from by show 1 + 0 ≤ 60; omega), err_eq, if_pos (show partE (leafT v nm).v (leafT v nm).nm (leafT v nm).len = 0 from h)]; rfl
theorem errs_un (nm : ByteArray) (b : Nat) (T : Tm) : errs (unT nm b T) = err T := rfl
theorem check_un (nm : ByteArray) (b : Nat) (v : Int) (nm' : ByteArray) (h : partE 0 nm 1 = 0) (h' : partE v nm' 0 = 0) : checkV (unT nm b (leafT v nm')) = 0 := by
  rw [checkV, if_pos (show cnt (unT nm b (leafT v nm')) ≤ 60 from by show 1 + (0 + (1 + 0)) ≤ 60; omega), err_eq, if_pos (show partE (unT nm b (leafT v nm')).v (unT nm b (leafT v nm')).nm (unT nm b (leafT v nm')).len = 0 from h), errs_un, err_eq, if_pos (show partE (leafT v nm').v (leafT v nm').nm (leafT v nm').len = 0 from h')]; rfl
theorem chks_one (b : Nat) (T : Tm) : chks (one b T) (one b T).len = checkV T := rfl
theorem query_one (b : Nat) (T : Tm) (h : checkV T = 0) : queryV (one b T) = 0 := by
  rw [queryV, if_pos (show (one b T).len ≤ 6 from by show 1 ≤ 6; omega), chks_one, h]
theorem query_leaf (v : Int) (nm : ByteArray) : queryV (leafT v nm) = 0 := rfl
theorem vars_3 (b b' : Nat) : varsV (one b (unT ⟨#[97]⟩ b' (leafT 3 ⟨#[]⟩))) = 3 := by
  rw [varsV, if_pos (query_one _ _ (check_un _ _ _ _ (part_a 1 (by omega)) (part_v 3 (by omega) (by omega))))]
  rfl

theorem head_leaf : headV (leafT 0 ⟨#[97]⟩) = 0 := by
  have hm : meansB ⟨#[97]⟩ 0 = false := by decide +kernel
  rw [headV, if_pos (check_leaf 0 ⟨#[97]⟩ (part_a 0 (by omega))), if_pos (show (leafT 0 ⟨#[97]⟩).v = 0 from rfl), if_neg (show ¬ meansB (leafT 0 ⟨#[97]⟩).nm (leafT 0 ⟨#[97]⟩).len = true from by show ¬ meansB ⟨#[97]⟩ 0 = true; rw [hm]; simp)]
def pgT (b b' : Nat) : Pg := { a := some ⟨b, 0, none⟩, len := 1, cap := 1, hd := fun _ => leafT 0 ⟨#[97]⟩, bd := fun _ => one b' (leafT 0 ⟨#[33]⟩) }
theorem cls_one (b b' : Nat) : clsV (pgT b b') 1 = clV (leafT 0 ⟨#[97]⟩) (one b' (leafT 0 ⟨#[33]⟩)) := rfl
theorem prog_pg (b b' : Nat) : progV (pgT b b') = 0 := by
  rw [progV, if_pos (show (pgT b b').len ≤ 30 from by show 1 ≤ 30; omega)]
  show clsV (pgT b b') 1 = 0
  rw [cls_one, clV, if_pos head_leaf, query_one _ _ (check_leaf 0 ⟨#[33]⟩ part_cut)]

theorem pg_in (w : World) : PIn ((w.alloc (.cells #[.int .i64 0, .string ⟨#[33]⟩, .slice none 0 0] 24)).alloc (.cells #[.int .i64 0, .string ⟨#[97]⟩, .slice none 0 0, .slice (some ⟨w.heap.size, 0, none⟩) 1 1] 82)) (pgT (w.heap.size + 1) w.heap.size) := by
  refine ⟨size2 ⟨#[0]⟩ (by decide), fun i hi => ?_⟩
  have hi0 : i = 0 := by have : i < 1 := hi; omega
  subst hi0
  refine ⟨⟨w.heap.size + 1, 0, rfl, ?_, ?_, ?_, ?_⟩, leaf_in _ _ _ (size2 _ (by decide)), ?_⟩
  · show World.cell? _ ⟨w.heap.size + 1, 0, none⟩ = some (.int .i64 0); go_simp
  · show World.cell? _ ⟨w.heap.size + 1, 1, none⟩ = some (.string ⟨#[97]⟩); go_simp
  · show World.cell? _ ⟨w.heap.size + 1, 2, none⟩ = some (.slice none 0 0); go_simp
  · show World.cell? _ ⟨w.heap.size + 1, 3, none⟩ = some (.slice (some ⟨w.heap.size, 0, none⟩) 1 1); go_simp
  · exact (one_in (T := leafT 0 ⟨#[33]⟩) (b := w.heap.size) rfl (leaf_in w 0 ⟨#[33]⟩ (size2 _ (by decide)))).below ((Below.refl _ _).alloc (Nat.le_refl _) _)

set_option maxHeartbeats 800000 in
theorem begun_any (w : World) :
    Calls Try.prog 15 #[] w fun e w' => e = .returned (.bool true) ∧ Below w.heap.size w w' := by
  go_enter Try.func15, Try.ntmps15
  go_wp2_with fail
  refine (va_any 3 _).mono ?_
  rintro e w1 ⟨rfl, hb1⟩
  have HB1 : Hid (Below w.heap.size w w1) := hb1
  have hs1 := hb1.size
  clear hb1
  go_wp2_with fail
  refine (fn_any _ _ _ _ _).mono ?_
  rintro e w2 ⟨rfl, hb2⟩
  have HB2 : Hid (Below w.heap.size w w2) := (HB1.out.alloc hs1 _).trans (hb2.mono (by simp; omega))
  have HT2 : Hid (TIn w2 (unT ⟨#[97]⟩ w1.heap.size (leafT 3 ⟨#[]⟩))) := TIn.below (TIn.rename (v := 0) (nm := ByteArray.empty) (cap := 1) (one_in (T := leafT 3 ⟨#[]⟩) (b := w1.heap.size) rfl (leaf_in w1 3 ⟨#[]⟩ (size2 _ (by decide)))) (size2 _ (by decide))) hb2
  have hs2 := HB2.out.size
  clear hb2
  go_wp2_with fail
  refine (vars_any (one w2.heap.size (unT ⟨#[97]⟩ w1.heap.size (leafT 3 ⟨#[]⟩))) _ (one_in rfl HT2.out)).mono ?_
  rintro e w3 ⟨rfl, hb3⟩
  rw [vars_3, query_one _ _ (check_un _ _ _ _ (part_a 1 (by omega)) (part_v 3 (by omega) (by omega)))]
  have HB3 : Hid (Below w.heap.size w w3) := (HB2.out.alloc hs2 _).trans (hb3.mono (by simp; omega))
  have hs3 := HB3.out.size
  clear hb3
  go_wp2_with fail
  refine (va_any 1 _).mono ?_
  rintro e w4 ⟨rfl, hb4⟩
  have HB4 : Hid (Below w.heap.size w w4) := HB3.out.trans (hb4.mono hs3)
  have hs4 := HB4.out.size
  clear hb4
  go_wp2_with fail
  refine (fn_any _ _ _ _ _).mono ?_
  rintro e w5 ⟨rfl, hb5⟩
  have HB5 : Hid (Below w.heap.size w w5) := (HB4.out.alloc hs4 _).trans (hb5.mono (by simp; omega))
  have HT5 : Hid (TIn w5 (unT ⟨#[97, 49]⟩ w4.heap.size (leafT 1 ⟨#[]⟩))) := TIn.below (TIn.rename (v := 0) (nm := ByteArray.empty) (cap := 1) (one_in (T := leafT 1 ⟨#[]⟩) (b := w4.heap.size) rfl (leaf_in w4 1 ⟨#[]⟩ (size2 _ (by decide)))) (size2 _ (by decide))) hb5
  have hs5 := HB5.out.size
  clear hb5
  go_wp2_with fail
  refine (check_any (unT ⟨#[97, 49]⟩ w4.heap.size (leafT 1 ⟨#[]⟩)) _ HT5.out).mono ?_
  rintro e w6 ⟨rfl, hb6⟩
  rw [check_un _ _ _ _ (part_a1 1 (by omega)) (part_v 1 (by omega) (by omega))]
  have HB6 : Hid (Below w.heap.size w w6) := HB5.out.trans (hb6.mono hs5)
  have hs6 := HB6.out.size
  clear hb6
  go_wp2_with fail
  refine (query_any (leafT 0 ⟨#[]⟩) _ (leaf_in _ _ _ (size2 _ (by decide)))).mono ?_
  rintro e w7 ⟨rfl, hb7⟩
  rw [query_leaf]
  have HB7 : Hid (Below w.heap.size w w7) := HB6.out.trans (hb7.mono hs6)
  have hs7 := HB7.out.size
  clear hb7
  go_wp2_with fail
  refine (fn_any _ _ _ _ _).mono ?_
  rintro e w8 ⟨rfl, hb8⟩
  have HB8 : Hid (Below w.heap.size w w8) := HB7.out.trans (hb8.mono hs7)
  have hs8 := HB8.out.size
  clear hb8
  go_wp2_with fail
  refine (fn_any _ _ _ _ _).mono ?_
  rintro e w9 ⟨rfl, hb9⟩
  have HB9 : Hid (Below w.heap.size w w9) := HB8.out.trans (hb9.mono hs8)
  have hs9 := HB9.out.size
  clear hb9
  go_wp2_with fail
  refine (clauses_any (pgT (w9.heap.size + 1) w9.heap.size) _ (pg_in w9)).mono ?_
  rintro e w10 ⟨rfl, hb10⟩
  rw [prog_pg]
  have HB10 : Hid (Below w.heap.size w w10) := ((HB9.out.alloc hs9 _).alloc (by simp; omega) _).trans (hb10.mono (by simp; omega))
  clear hb10
  go_wp2_with fail
  go_ret
  exact ⟨rfl, HB10.out⟩
end Go.Proofs.Ytmggaclaoefdaaa
