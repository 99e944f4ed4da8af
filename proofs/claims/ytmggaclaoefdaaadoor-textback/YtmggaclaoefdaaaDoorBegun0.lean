/- What must be in any case. -/
import Derived.Test.YtmggaclaoefdaaaDoorRefProg
namespace Go.Proofs.YtmggaclaoefdaaaDoor
open Go.RowKit

theorem fn_any (nm : ByteArray) (a : Option Addr) (len cap : Nat) (w : World) :
    Calls Tryd.prog 46 #[.string nm, .slice a len cap] w fun e w' => e = .returned (.agg #[.int .i64 0, .string nm, .slice a len cap]) ∧ Below w.heap.size w w' := by
  go_enter Tryd.func46, Tryd.ntmps46
  go_wp2
  exact bodyPost_ret (v := .agg #[.int .i64 0, .string nm, .slice a len cap]) (by simp [results, Tryd.results46, go_sem]) rfl ⟨rfl, (Below.refl _ _).alloc (Nat.le_refl _) _⟩

theorem va_any (n : Int) (w : World) :
    Calls Tryd.prog 47 #[.int .i64 n] w fun e w' => e = .returned (.agg #[.int .i64 n, .string ⟨#[]⟩, .slice none 0 0]) ∧ Below w.heap.size w w' := by
  go_enter Tryd.func47, Tryd.ntmps47
  go_wp2
  exact bodyPost_ret (v := .agg #[.int .i64 n, .string ⟨#[]⟩, .slice none 0 0]) (by simp [results, Tryd.results47, go_sem]) rfl ⟨rfl, (Below.refl _ _).alloc (Nat.le_refl _) _⟩

theorem TIn.rename {w : World} {v v' : Int} {nm nm' : ByteArray} {a : Option Addr} {len cap cap' : Nat} {f : Nat → Tm} (h : TIn w (.mk v nm a len cap f)) (hs : nm'.size ≤ maxLen) : TIn w (.mk v' nm' a len cap' f) := ⟨hs, h.2⟩

/-- A variable, or a name without arguments. -/
def leafT (v : Int) (nm : ByteArray) : Tm := .mk v nm none 0 0 (fun _ => .nil)
theorem leaf_in (w : World) (v : Int) (nm : ByteArray) (h : nm.size ≤ maxLen) : TIn w (leafT v nm) := ⟨h, Nat.zero_le _, fun i hi => absurd hi (Nat.not_lt_zero i)⟩
/-- A name of one argument. -/
def unT (nm : ByteArray) (b : Nat) (T : Tm) : Tm := .mk 0 nm (some ⟨b, 0, none⟩) 1 1 (fun _ => T)
theorem name_a : nameB ⟨#[97]⟩ = true := by decide +kernel
theorem name_a1 : nameB ⟨#[97, 49]⟩ = true := by decide +kernel
theorem name_cut : nameB ⟨#[33]⟩ = true := by decide +kernel
theorem list_e : ByteArray.toList ⟨#[]⟩ = [] := by decide +kernel
theorem size2 (nm : ByteArray) (h : nm.size ≤ 2) : nm.size ≤ maxLen := by unfold maxLen; omega
theorem part_a (n : Nat) (h : n ≤ 4) : partE 0 ⟨#[97]⟩ n = 0 := by simp [partE, name_a]; omega
theorem part_a1 (n : Nat) (h : n ≤ 4) : partE 0 ⟨#[97, 49]⟩ n = 0 := by simp [partE, name_a1]; omega
theorem part_cut : partE 0 ⟨#[33]⟩ 0 = 0 := by simp [partE, name_cut]
theorem part_v (v : Int) (h1 : 1 ≤ v) (h2 : v ≤ 12) : partE v ⟨#[]⟩ 0 = 0 := by
  rw [partE, if_pos (by omega), varE, if_neg (by omega), if_neg (by omega), if_pos list_e]; rfl
theorem check_leaf (v : Int) (nm : ByteArray) (h : partE v nm 0 = 0) : checkV (leafT v nm) = 0 := by
  rw [checkV, if_pos (show cnt (leafT v nm) ≤ 60 from by show 1 + 0 ≤ 60; omega), err_eq, if_pos (show partE (leafT v nm).v (leafT v nm).nm (leafT v nm).len = 0 from h)]; rfl
theorem errs_un (nm : ByteArray) (b : Nat) (T : Tm) : errs (unT nm b T) = err T := rfl
theorem check_un (nm : ByteArray) (b : Nat) (v : Int) (nm' : ByteArray) (h : partE 0 nm 1 = 0) (h' : partE v nm' 0 = 0) : checkV (unT nm b (leafT v nm')) = 0 := by
  rw [checkV, if_pos (show cnt (unT nm b (leafT v nm')) ≤ 60 from by show 1 + (0 + (1 + 0)) ≤ 60; omega), err_eq, if_pos (show partE (unT nm b (leafT v nm')).v (unT nm b (leafT v nm')).nm (unT nm b (leafT v nm')).len = 0 from h), errs_un, err_eq, if_pos (show partE (leafT v nm').v (leafT v nm').nm (leafT v nm').len = 0 from h')]; rfl
theorem chks_one (b : Nat) (T : Tm) : chks (one b T) (one b T).len = checkV T := rfl
theorem query_one (b : Nat) (T : Tm) (h : checkV T = 0) : queryV (one b T) = 0 := by
  rw [queryV, if_pos (show (one b T).len ≤ 6 from by show 1 ≤ 6; omega), chks_one, h]
theorem query_leaf (v : Int) (nm : ByteArray) : queryV (leafT v nm) = 0 := rfl
theorem head_leaf : headV (leafT 0 ⟨#[97]⟩) = 0 := by
  have hm : meansB ⟨#[97]⟩ 0 = false := by decide +kernel
  rw [headV, if_pos (check_leaf 0 ⟨#[97]⟩ (part_a 0 (by omega))), if_pos (show (leafT 0 ⟨#[97]⟩).v = 0 from rfl), if_neg (show ¬ meansB (leafT 0 ⟨#[97]⟩).nm (leafT 0 ⟨#[97]⟩).len = true from by show ¬ meansB ⟨#[97]⟩ 0 = true; rw [hm]; simp)]
def pgT (b b' : Nat) : Pg := { a := some ⟨b, 0, none⟩, len := 1, cap := 1, hd := fun _ => leafT 0 ⟨#[97]⟩, bd := fun _ => one b' (leafT 0 ⟨#[33]⟩) }
theorem cls_one (b b' : Nat) : clsV (pgT b b') 1 = clV (leafT 0 ⟨#[97]⟩) (one b' (leafT 0 ⟨#[33]⟩)) := rfl
theorem prog_pg (b b' : Nat) : progV (pgT b b') = 0 := by
  rw [progV, if_pos (show (pgT b b').len ≤ 30 from by show 1 ≤ 30; omega)]
  show clsV (pgT b b') 1 = 0
  rw [cls_one, clV, if_pos head_leaf, query_one _ _ (check_leaf 0 ⟨#[33]⟩ part_cut)]

theorem pg_in (w : World) : PIn ((w.alloc (.cells #[.int .i64 0, .string ⟨#[33]⟩, .slice none 0 0] 48)).alloc (.cells #[.int .i64 0, .string ⟨#[97]⟩, .slice none 0 0, .slice (some ⟨w.heap.size, 0, none⟩) 1 1] 50)) (pgT (w.heap.size + 1) w.heap.size) := by
  refine ⟨size2 ⟨#[0]⟩ (by decide), fun i hi => ?_⟩
  have hi0 : i = 0 := by have : i < 1 := hi; omega
  subst hi0
  refine ⟨⟨w.heap.size + 1, 0, rfl, ?_, ?_, ?_, ?_⟩, leaf_in _ _ _ (size2 _ (by decide)), ?_⟩
  · show World.cell? _ ⟨w.heap.size + 1, 0, none⟩ = some (.int .i64 0); go_simp
  · show World.cell? _ ⟨w.heap.size + 1, 1, none⟩ = some (.string ⟨#[97]⟩); go_simp
  · show World.cell? _ ⟨w.heap.size + 1, 2, none⟩ = some (.slice none 0 0); go_simp
  · show World.cell? _ ⟨w.heap.size + 1, 3, none⟩ = some (.slice (some ⟨w.heap.size, 0, none⟩) 1 1); go_simp
  · exact (one_in (T := leafT 0 ⟨#[33]⟩) (b := w.heap.size) rfl (leaf_in w 0 ⟨#[33]⟩ (size2 _ (by decide)))).below ((Below.refl _ _).alloc (Nat.le_refl _) _)

end Go.Proofs.YtmggaclaoefdaaaDoor
