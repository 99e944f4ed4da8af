/- What VarsOf and Vars answer. -/
import Derived.Test.YtmggaclaoefdaaaGreat
namespace Go.Proofs.Ytmggaclaoefdaaa
open Go.RowKit

def mxL (n : Int) : List Tm → Int
  | [] => n
  | x :: r => mxL (max n x.v) r
theorem mxL_append (n : Int) (l r : List Tm) : mxL n (l ++ r) = mxL (mxL n l) r := by
  induction l generalizing n with
  | nil => rfl
  | cons x l ih => rw [List.cons_append, mxL, mxL, ih]
theorem grTo_nonneg (g : Nat → Int) (k : Nat) : 0 ≤ grTo g k := by
  induction k with
  | zero => exact Int.le_refl _
  | succ k ih => rw [grTo]; omega
theorem mxL_pre (T : Tm) : ∀ n : Int, 0 ≤ n → mxL n (pre T) = max n (gr T) := by
  induction T with
  | nil => intro n hn; rfl
  | mk v nm a len cap f ih =>
    have key : ∀ k (n : Int), 0 ≤ n → mxL n (preTo (fun i => pre (f i)) k) = max n (grTo (fun i => gr (f i)) k) := by
      intro k
      induction k with
      | zero => intro n hn; show n = max n 0; omega
      | succ k ihk => intro n hn; rw [preTo, mxL_append, ihk n hn, ih k _ (by omega), grTo]; omega
    intro n hn
    rw [pre, mxL, key len _ (by omega)]
    show max (max n v) _ = max n (max v _)
    omega
theorem mxL_take (n : Int) (l : List Tm) (k : Nat) (h : k < l.length) : mxL n (l.take (k + 1)) = max (mxL n (l.take k)) l[k].v := by
  rw [List.take_succ_eq_append_getElem h, mxL_append]; rfl

set_option maxHeartbeats 800000 in
theorem varsOf_any (T : Tm) (w : World) (hin : TIn w T) (hc : ∀ i, i < T.len → cnt (T.f i) ≤ 60) :
    Calls Try.prog 14 #[.slice T.a T.len T.cap] w fun e w' => e = .returned (.int .i64 (grs T)) ∧ Below w.heap.size w w' := by
  have HIn : Hid (TIn w T) := hin
  have hlen : T.len ≤ 2 ^ 63 - 1 := hin.len
  have HC : Hid (∀ i, i < T.len → cnt (T.f i) ≤ 60) := hc
  have HR : Hid (grs T = grTo (fun i => gr (T.f i)) T.len) := rfl
  have HRow : Hid (∀ k, k < T.len → ∀ wr, Below w.heap.size w wr → RowAt wr T.a k (T.f k) ∧ TIn wr (T.f k)) := fun k hk wr hb => ⟨(HIn.out.row hk).below hb, (HIn.out.kid hk).below hb⟩
  clear hin hc
  generalize T.f = f at *
  generalize T.cap = cap at *
  generalize T.a = a at *
  generalize hl : T.len = len at *
  clear hl
  go_enter Try.func14, Try.ntmps14
  go_wp2_with fail
  go_loopw [3, 4] (fun n' i wr => ∃ k : Nat, k ≤ len ∧ i = .int .i64 k ∧ n' = .int .i64 (grTo (fun i => gr (f i)) k) ∧ Below w.heap.size w wr) (fun _ i _ => len - (intOf i).toNat)
  case atStart => exact ⟨0, Nat.zero_le _, rfl, rfl, Below.refl _ _⟩
  case round =>
    obtain ⟨k, hk, rfl, rfl, hb⟩ := hrel
    have HB : Hid (Below w.heap.size w wr) := hb
    have hsz := hb.size
    have HG : Hid (0 ≤ grTo (fun i => gr (f i)) k) := grTo_nonneg _ _
    clear hb
    by_cases hlt : k < len
    · obtain ⟨⟨b, o, ha, c0, c1, c2⟩, hT⟩ := HRow.out k hlt wr HB.out
      have HT : Hid (TIn wr (f k)) := hT
      have HM : Hid (mxL (grTo (fun i => gr (f i)) k) (pre (f k)) = grTo (fun i => gr (f i)) (k + 1)) := by rw [Hid, mxL_pre _ _ HG.out, grTo]
      have HLen : Hid ((pre (f k)).length = cnt (f k)) := pre_length _
      have hcn : cnt (f k) ≤ 60 := HC.out k hlt
      clear hT
      subst ha
      go_wp2_with fail
      refine (partsOf_any (f k) _ HT.out hcn).mono ?_
      rintro r w1 ⟨g, cp, rfl, hown, hb1⟩
      have HW1 : Hid (Below w.heap.size w w1) := HB.out.trans (hb1.mono hsz)
      have HO : Hid (w1.ownsRow wr.heap.size 24 3 (.slice (some ⟨g, 0, none⟩) (cnt (f k)) cp) (cnt (f k)) (flat (pre (f k)))) := hown
      clear hown hb1 c0 c1 c2
      generalize pre (f k) = l at *
      generalize cnt (f k) = n at *
      generalize grTo (fun i => gr (f i)) k = sk at *
      go_wp2_with fail
      go_loop [3, 6] (fun n' i => ∃ j : Nat, j ≤ n ∧ i = .int .i64 j ∧ n' = .int .i64 (mxL sk (l.take j))) (fun _ i => n - (intOf i).toNat)
      case atStart => exact ⟨0, Nat.zero_le _, rfl, rfl⟩
      case round =>
        obtain ⟨j, hj, rfl, rfl⟩ := hrel
        by_cases hjl : j < n
        · have hj' : j < l.length := by rw [HLen.out]; exact hjl
          have c0 : w1.cell? ⟨g, j * 3, none⟩ = some (.int .i64 l[j].v) := (HO.out.cellAt (j * 3) (by omega)).trans (flat_get l j hj').1
          have HX : Hid (mxL sk (l.take (j + 1)) = max (mxL sk (l.take j)) l[j].v) := mxL_take sk l j hj'
          generalize mxL sk (l.take j) = y at *
          generalize l[j].v = x at *
          by_cases hyx : y < x
          · have HX2 : Hid (mxL sk (l.take (j + 1)) = x) := by rw [Hid, HX.out]; omega
            go_wp2_with fail
            go_round
            case rel => exact ⟨j + 1, by omega, by go_num, by rw [HX2.out]⟩
            case measure => simp [intOf]; omega
          · have HX2 : Hid (mxL sk (l.take (j + 1)) = y) := by rw [Hid, HX.out]; omega
            go_wp2_with fail
            go_round
            case rel => exact ⟨j + 1, by omega, by go_num, by rw [HX2.out]⟩
            case measure => simp [intOf]; omega
        · have hke : j = n := by omega
          have HX : Hid (mxL sk (l.take j) = grTo (fun i => gr (f i)) (k + 1)) := by
            rw [Hid, hke, List.take_of_length_le (by rw [HLen.out]; exact Nat.le_refl _), HM.out]
          clear hke
          go_wp2_with fail
          go_roundw
          case rel => exact ⟨k + 1, by omega, by go_num, by rw [HX.out], HW1.out⟩
          case measure => simp [intOf]; omega
    · have hke : k = len := by omega
      have HX : Hid (grs T = grTo (fun i => gr (f i)) k) := by rw [Hid, HR.out, hke]
      clear hke
      go_wp2_with fail
      go_ret
      exact ⟨by rw [HX.out]; rfl, HB.out⟩

def varsV (T : Tm) : Int := if queryV T = 0 then grs T else 0

set_option maxHeartbeats 800000 in
theorem vars_any (T : Tm) (w : World) (hin : TIn w T) :
    Calls Try.prog 12 #[.slice T.a T.len T.cap] w fun e w' => e = .returned (.tuple #[.int .i64 (varsV T), .int .i64 (queryV T)]) ∧ Below w.heap.size w w' := by
  have HIn : Hid (TIn w T) := hin
  clear hin
  go_enter Try.func12, Try.ntmps12
  go_wp2_with fail
  refine (query_any T _ HIn.out).mono ?_
  rintro e w1 ⟨rfl, hb1⟩
  have HB1 : Hid (Below w.heap.size w w1) := hb1
  have hsz := hb1.size
  clear hb1
  by_cases hz : queryV T = 0
  · have HX : Hid (varsV T = grs T) := by rw [Hid, varsV, if_pos hz]
    have HZ : Hid (queryV T = 0) := hz
    rw [hz]
    clear hz
    go_wp2_with fail
    refine (greatest_any T _ (HIn.out.below HB1.out)).mono ?_
    rintro e w2 ⟨rfl, hb2⟩
    have HB2 : Hid (Below w.heap.size w w2) := HB1.out.trans (hb2.mono hsz)
    clear hb2
    go_wp2_with fail
    go_ret2
    exact ⟨by rw [HX.out, HZ.out]; rfl, HB2.out⟩
  · have HX : Hid (varsV T = 0) := by rw [Hid, varsV, if_neg hz]
    have hzb : (queryV T == 0) = false := beq_eq_false_iff_ne.2 hz
    clear hz
    go_wp2_with fail
    go_ret2
    exact ⟨by rw [HX.out]; rfl, HB1.out⟩
end Go.Proofs.Ytmggaclaoefdaaa
