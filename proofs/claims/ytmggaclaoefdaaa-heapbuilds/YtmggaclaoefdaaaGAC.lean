/- Terms as they lie in memory, and what is counted of them. What SizeOf answers. What parts answers: the first error of terms. -/
import Derived.Test.YtmggaclaoefdaaaGAB
namespace Go.Proofs.Ytmggaclaoefdaaa
open Go.RowKit

inductive Tm where
  | nil
  | mk (v : Int) (nm : ByteArray) (a : Option Addr) (len cap : Nat) (f : Nat → Tm)
namespace Tm
def v : Tm → Int | .nil => 0 | .mk v _ _ _ _ _ => v
def nm : Tm → ByteArray | .nil => ⟨#[]⟩ | .mk _ nm _ _ _ _ => nm
def a : Tm → Option Addr | .nil => none | .mk _ _ a _ _ _ => a
def len : Tm → Nat | .nil => 0 | .mk _ _ _ len _ _ => len
def cap : Tm → Nat | .nil => 0 | .mk _ _ _ _ cap _ => cap
def f : Tm → Nat → Tm | .nil => fun _ => .nil | .mk _ _ _ _ _ f => f
def val (T : Tm) : Value := .agg #[.int .i64 T.v, .string T.nm, .slice T.a T.len T.cap]
end Tm

/-- The cells of element i of a slice of terms. -/
def RowAt (w : World) (a : Option Addr) (i : Nat) (T : Tm) : Prop :=
  ∃ b o, a = some ⟨b, o, none⟩ ∧ w.cell? ⟨b, o + i * 3, none⟩ = some (.int .i64 T.v) ∧ w.cell? ⟨b, o + i * 3 + 1, none⟩ = some (.string T.nm) ∧ w.cell? ⟨b, o + i * 3 + 2, none⟩ = some (.slice T.a T.len T.cap)

/-- A term lies in memory, with all its arguments. -/
def TIn (w : World) : Tm → Prop
  | .nil => False
  | .mk _ nm a len _ f => nm.size ≤ maxLen ∧ len ≤ maxLen ∧ ∀ i, i < len → RowAt w a i (f i) ∧ TIn w (f i)

theorem TIn.name {w : World} {T : Tm} (h : TIn w T) : T.nm.size ≤ maxLen := by
  cases T with
  | nil => exact False.elim h
  | mk => exact h.1
theorem TIn.len {w : World} {T : Tm} (h : TIn w T) : T.len ≤ maxLen := by
  cases T with
  | nil => exact False.elim h
  | mk => exact h.2.1
theorem TIn.row {w : World} {T : Tm} (h : TIn w T) {i : Nat} (hi : i < T.len) : RowAt w T.a i (T.f i) := by
  cases T with
  | nil => exact False.elim h
  | mk => exact (h.2.2 i hi).1
theorem TIn.kid {w : World} {T : Tm} (h : TIn w T) {i : Nat} (hi : i < T.len) : TIn w (T.f i) := by
  cases T with
  | nil => exact False.elim h
  | mk => exact (h.2.2 i hi).2

theorem lt_of_cell {w : World} {p : Addr} {x : Value} (h : w.cell? p = some x) : p.block < w.heap.size := by
  unfold World.cell? at h
  cases hb : w.heap[p.block]? with
  | none => rw [hb] at h; simp at h
  | some o => exact (Array.getElem?_eq_some_iff.1 hb).1

theorem RowAt.below {w w' : World} {a : Option Addr} {i : Nat} {T : Tm} (h : RowAt w a i T) (hb : Below w.heap.size w w') : RowAt w' a i T := by
  obtain ⟨b, o, rfl, h0, h1, h2⟩ := h
  exact ⟨b, o, rfl, (hb.cell (lt_of_cell h0)).trans h0, (hb.cell (lt_of_cell h1)).trans h1, (hb.cell (lt_of_cell h2)).trans h2⟩

theorem TIn.below {w w' : World} {T : Tm} (h : TIn w T) (hb : Below w.heap.size w w') : TIn w' T := by
  induction T with
  | nil => exact False.elim h
  | mk v nm a len cap f ih => exact ⟨h.1, h.2.1, fun i hi => ⟨(h.2.2 i hi).1.below hb, ih i (h.2.2 i hi).2⟩⟩

def sumTo (g : Nat → Nat) : Nat → Nat
  | 0 => 0
  | k + 1 => sumTo g k + g k
theorem sumTo_le (g : Nat → Nat) {j k : Nat} (h : j ≤ k) : sumTo g j ≤ sumTo g k := by
  induction k with
  | zero => rw [Nat.le_zero.1 h]; exact Nat.le_refl _
  | succ k ih =>
    by_cases hj : j = k + 1
    · rw [hj]; exact Nat.le_refl _
    · have := ih (by omega); show _ ≤ sumTo g k + g k; omega

/-- How many parts a term has. -/
def cnt : Tm → Nat
  | .nil => 1
  | .mk _ _ _ len _ f => 1 + sumTo (fun i => cnt (f i)) len
/-- .. and all its arguments together. -/
def kids (T : Tm) : Nat := sumTo (fun i => cnt (T.f i)) T.len
theorem cnt_eq (T : Tm) : cnt T = 1 + kids T := by cases T <;> rfl

def roomV (n : Int) (t : Nat) : Int := if (t : Int) ≤ n then n - t else -1

set_option maxHeartbeats 400000 in
theorem room_any (T : Tm) : ∀ (n : Int) (w : World), TIn w T → 0 ≤ n → n ≤ 60 →
    Calls Try.prog 53 #[.int .i64 n, .slice T.a T.len T.cap] w fun e w' => e = .returned (.int .i64 (roomV n (kids T))) ∧ Below w.heap.size w w' := by
  induction T with
  | nil => intro n w hin; exact False.elim hin
  | mk v nm a len cap f ih =>
    intro n w hin hn0 hn60
    have IH : Hid (∀ i (n : Int) (w : World), TIn w (f i) → 0 ≤ n → n ≤ 60 → Calls Try.prog 53 #[.int .i64 n, .slice (f i).a (f i).len (f i).cap] w fun e w' => e = .returned (.int .i64 (roomV n (kids (f i)))) ∧ Below w.heap.size w w') := ih
    have HIn : Hid (TIn w (.mk v nm a len cap f)) := hin
    have hlen : len ≤ 2 ^ 63 - 1 := TIn.len (T := .mk v nm a len cap f) hin
    clear ih hin
    show Calls Try.prog 53 #[.int .i64 n, .slice a len cap] w _
    go_enter Try.func53, Try.ntmps53
    go_wp2_with fail
    go_loopw [0, 9] (fun n' i wr => ∃ k : Nat, k ≤ len ∧ i = .int .i64 k ∧ (sumTo (fun i => cnt (f i)) k : Int) ≤ n ∧ n' = .int .i64 (n - (sumTo (fun i => cnt (f i)) k : Nat)) ∧ Below w.heap.size w wr) (fun _ i _ => len - (intOf i).toNat)
    case atStart => exact ⟨0, Nat.zero_le _, rfl, by simp [sumTo]; omega, by simp [sumTo], Below.refl _ _⟩
    case round =>
      obtain ⟨k, hk, rfl, hs, rfl, hb⟩ := hrel
      have HS : Hid (kids (.mk v nm a len cap f) = sumTo (fun i => cnt (f i)) len) := rfl
      generalize hsk : sumTo (fun i => cnt (f i)) k = sk at *
      have HK : Hid (sumTo (fun i => cnt (f i)) k = sk) := hsk
      clear hsk
      by_cases hlt : k < len
      · have hr : RowAt wr a k (f k) := (TIn.row (T := .mk v nm a len cap f) HIn.out hlt).below hb
        obtain ⟨b, o, ha, c0, c1, c2⟩ := hr
        have HT : Hid (TIn wr (f k)) := (TIn.kid (T := .mk v nm a len cap f) HIn.out hlt).below hb
        have HM : Hid (sumTo (fun i => cnt (f i)) (k + 1) ≤ sumTo (fun i => cnt (f i)) len) := sumTo_le _ hlt
        have HE : Hid (sumTo (fun i => cnt (f i)) (k + 1) = sk + (1 + kids (f k))) := by rw [Hid, sumTo, HK.out, cnt_eq]
        subst ha
        by_cases hz : n - (sk : Int) = 0
        · have hzb : (n - (sk : Int) == 0) = true := beq_iff_eq.2 hz
          have HR : Hid (roomV n (kids (.mk v nm (some ⟨b, o, none⟩) len cap f)) = -1) := by
            rw [Hid, roomV, if_neg]; rw [HS.out]; have := HM.out; have := HE.out; omega
          clear hz
          go_wp2_with fail
          go_ret
          exact ⟨by rw [HR.out]; rfl, hb.trans (((Below.refl _ _).alloc (Nat.le_refl _) _).mono hb.size)⟩
        · have hzb : (n - (sk : Int) == 0) = false := beq_eq_false_iff_ne.2 hz
          have hpos : sk + 1 ≤ n := by omega
          clear hz
          generalize hkk : kids (f k) = kk at *
          have hsz := hb.size
          by_cases hle : (kk : Int) ≤ n - sk - 1
          · have HV : Hid (roomV (n - sk - 1) kk = n - sk - 1 - kk) := by rw [Hid, roomV, if_pos hle]
            go_wp2_with fail
            refine (IH.out k (n - sk - 1) _ (HT.out.below ((Below.refl _ _).alloc (Nat.le_refl _) _)) (by omega) (by omega)).mono ?_
            rintro e w1 ⟨rfl, hb1⟩
            rw [hkk, HV.out]
            clear hkk
            go_wp2_with fail
            go_roundw
            case rel => exact ⟨k + 1, by omega, by go_num, by rw [HE.out]; omega, by rw [HE.out]; go_num, (hb.trans (((Below.refl _ _).alloc (Nat.le_refl _) _).mono hsz)).trans (hb1.mono (by simp; omega))⟩
            case measure => simp [intOf]; omega
          · have HV : Hid (roomV (n - sk - 1) kk = -1) := by rw [Hid, roomV, if_neg hle]
            have HR : Hid (roomV n (kids (.mk v nm (some ⟨b, o, none⟩) len cap f)) = -1) := by
              rw [Hid, roomV, if_neg]; rw [HS.out]; have := HM.out; have := HE.out; omega
            go_wp2_with fail
            refine (IH.out k (n - sk - 1) _ (HT.out.below ((Below.refl _ _).alloc (Nat.le_refl _) _)) (by omega) (by omega)).mono ?_
            rintro e w1 ⟨rfl, hb1⟩
            rw [hkk, HV.out]
            clear hkk
            go_wp2_with fail
            go_ret
            exact ⟨by rw [HR.out]; rfl, (hb.trans (((Below.refl _ _).alloc (Nat.le_refl _) _).mono hsz)).trans (hb1.mono (by simp; omega))⟩
      · have hke : k = len := by omega
        have HR : Hid (roomV n (kids (.mk v nm a len cap f)) = n - sk) := by
          rw [Hid, HS.out, ← hke, HK.out, roomV, if_pos hs]
        clear hke
        go_wp2_with fail
        go_ret
        exact ⟨by rw [HR.out]; rfl, hb⟩
end Go.Proofs.Ytmggaclaoefdaaa

namespace Go.Proofs.Ytmggaclaoefdaaa
open Go.RowKit

def sizeV (e : Int) (c : Nat) : Int := if (c : Int) ≤ e then c else e + 1

set_option maxHeartbeats 400000 in
theorem sizeOf_any (T : Tm) : ∀ (e : Int) (w : World), TIn w T → 0 ≤ e → e ≤ 60 →
    Calls Try.prog 55 #[T.val, .int .i64 e] w fun r w' => r = .returned (.int .i64 (sizeV e (cnt T))) ∧ Below w.heap.size w w' := by
  induction T with
  | nil => intro e w hin; exact False.elim hin
  | mk v nm a len cap f ih =>
    intro e w hin hn0 hn60
    have IH : Hid (∀ i (e : Int) (w : World), TIn w (f i) → 0 ≤ e → e ≤ 60 → Calls Try.prog 55 #[(f i).val, .int .i64 e] w fun r w' => r = .returned (.int .i64 (sizeV e (cnt (f i)))) ∧ Below w.heap.size w w') := ih
    have HIn : Hid (TIn w (.mk v nm a len cap f)) := hin
    have hlen : len ≤ 2 ^ 63 - 1 := TIn.len (T := .mk v nm a len cap f) hin
    clear ih hin
    show Calls Try.prog 55 #[.agg #[.int .i64 v, .string nm, .slice a len cap], .int .i64 e] w _
    go_enter Try.func55, Try.ntmps55
    go_wp2_with fail
    go_loopw [5, 6] (fun n' i wr => ∃ k : Nat, k ≤ len ∧ i = .int .i64 k ∧ n' = .int .i64 (sizeV e (1 + sumTo (fun i => cnt (f i)) k)) ∧ Below (w.heap.size + 1) (w.alloc (.cells #[.int .i64 v, .string nm, .slice a len cap] 24)) wr) (fun _ i _ => len - (intOf i).toNat)
    case atStart => exact ⟨0, Nat.zero_le _, rfl, by simp [sumTo, sizeV]; omega, Below.refl _ _⟩
    case round =>
      obtain ⟨k, hk, rfl, rfl, hb⟩ := hrel
      have HC : Hid (cnt (.mk v nm a len cap f) = 1 + sumTo (fun i => cnt (f i)) len) := rfl
      have hbw : Below w.heap.size w wr := ((Below.refl _ _).alloc (Nat.le_refl _) _).trans (hb.mono (by omega))
      have hbox : wr.cell? ⟨w.heap.size, 2, none⟩ = some (.slice a len cap) := (hb.cell (p := ⟨w.heap.size, 2, none⟩) (by simp)).trans (by go_simp)
      have HB : Hid (Below (w.heap.size + 1) (w.alloc (.cells #[.int .i64 v, .string nm, .slice a len cap] 24)) wr) := hb
      have HBW : Hid (Below w.heap.size w wr) := hbw
      have hsz : w.heap.size + 1 ≤ wr.heap.size := by have := hb.size; simpa using this
      generalize hsk : sumTo (fun i => cnt (f i)) k = sk at *
      have HK : Hid (sumTo (fun i => cnt (f i)) k = sk) := hsk
      clear hsk hb hbw
      by_cases hlt : k < len
      · have HM : Hid (sumTo (fun i => cnt (f i)) (k + 1) ≤ sumTo (fun i => cnt (f i)) len) := sumTo_le _ hlt
        have HE : Hid (sumTo (fun i => cnt (f i)) (k + 1) = sk + cnt (f k)) := by rw [Hid, sumTo, HK.out]
        by_cases hle : ((1 + sk : Nat) : Int) ≤ e
        · have hr : RowAt wr a k (f k) := (TIn.row (T := .mk v nm a len cap f) HIn.out hlt).below HBW.out
          obtain ⟨b, o, ha, c0, c1, c2⟩ := hr
          have HT : Hid (TIn wr (f k)) := (TIn.kid (T := .mk v nm a len cap f) HIn.out hlt).below HBW.out
          have hv : sizeV e (1 + sk) = 1 + sk := by rw [sizeV, if_pos hle]; omega
          rw [hv]
          clear hv
          subst ha
          have hle' : 1 + (sk : Int) ≤ e := by omega
          have HV : Hid (1 + (sk : Int) + sizeV (e - (1 + sk)) (cnt (f k)) = sizeV e (1 + (sk + cnt (f k)))) := by
            unfold Hid sizeV; split <;> split <;> omega
          generalize hx : sizeV (e - (1 + sk)) (cnt (f k)) = x at *
          have hx0 : 0 ≤ x ∧ x ≤ 61 := by rw [← hx]; unfold sizeV; split <;> omega
          obtain ⟨hx1, hx2⟩ := hx0
          have HX : Hid (sizeV (e - (1 + sk)) (cnt (f k)) = x) := hx
          clear hx hle
          go_wp2_with fail
          refine (IH.out k (e - (1 + sk)) _ HT.out (by omega) (by omega)).mono ?_
          rintro r w1 ⟨rfl, hb1⟩
          rw [HX.out]
          go_wp2_with fail
          go_roundw
          case rel => exact ⟨k + 1, by omega, by go_num, by rw [HE.out, ← HV.out], HB.out.trans (hb1.mono hsz)⟩
          case measure => simp [intOf]; omega
        · have hv : sizeV e (1 + sk) = e + 1 := by rw [sizeV, if_neg hle]
          rw [hv]
          have HR : Hid (sizeV e (cnt (.mk v nm a len cap f)) = e + 1) := by
            rw [Hid, HC.out, sizeV, if_neg]; have := HM.out; have := HE.out; omega
          clear hv
          go_wp2_with fail
          go_ret
          exact ⟨by rw [HR.out]; rfl, HBW.out⟩
      · have hke : k = len := by omega
        have HR : Hid (sizeV e (cnt (.mk v nm a len cap f)) = sizeV e (1 + sk)) := by
          rw [Hid, HC.out, ← hke, HK.out]
        clear hke
        go_wp2_with fail
        all_goals
          go_ret
          exact ⟨by rw [HR.out]; rfl, HBW.out⟩
end Go.Proofs.Ytmggaclaoefdaaa

namespace Go.Proofs.Ytmggaclaoefdaaa
open Go.RowKit

/-- The first that is not 0. -/
def fst (g : Nat → Int) : Nat → Int
  | 0 => 0
  | k + 1 => if fst g k = 0 then g k else fst g k
theorem fst_zero (g : Nat → Int) {j k : Nat} (h : j ≤ k) (hk : fst g k = 0) : fst g j = 0 := by
  induction k with
  | zero => rw [Nat.le_zero.1 h]; rfl
  | succ k ih =>
    by_cases hj : j = k + 1
    · rw [hj]; exact hk
    · have : fst g k = 0 := by
        by_cases h0 : fst g k = 0
        · exact h0
        · rw [fst, if_neg h0] at hk; exact absurd hk h0
      exact ih (by omega) this
theorem fst_stop (g : Nat → Int) {j k : Nat} (h : j < k) (h0 : fst g j = 0) (hg : g j ≠ 0) : fst g k = g j := by
  induction k with
  | zero => omega
  | succ k ih =>
    by_cases hj : j = k
    · subst hj; rw [fst, if_pos h0]
    · have e := ih (by omega)
      rw [fst, if_neg (by rw [e]; exact hg), e]

/-- The first error of a term. -/
def err : Tm → Int
  | .nil => if partE 0 ⟨#[]⟩ 0 = 0 then 0 else partE 0 ⟨#[]⟩ 0
  | .mk v nm _ len _ f => if partE v nm len = 0 then fst (fun i => err (f i)) len else partE v nm len
/-- .. of its arguments. -/
def errs (T : Tm) : Int := fst (fun i => err (T.f i)) T.len
theorem err_eq (T : Tm) : err T = if partE T.v T.nm T.len = 0 then errs T else partE T.v T.nm T.len := by cases T <;> rfl

set_option maxHeartbeats 400000 in
theorem parts_any (T : Tm) : ∀ (w : World), TIn w T →
    Calls Try.prog 54 #[.slice T.a T.len T.cap] w fun e w' => e = .returned (.int .i64 (errs T)) ∧ Below w.heap.size w w' := by
  induction T with
  | nil => intro w hin; exact False.elim hin
  | mk v nm a len cap f ih =>
    intro w hin
    have IH : Hid (∀ i (w : World), TIn w (f i) → Calls Try.prog 54 #[.slice (f i).a (f i).len (f i).cap] w fun e w' => e = .returned (.int .i64 (errs (f i))) ∧ Below w.heap.size w w') := ih
    have HIn : Hid (TIn w (.mk v nm a len cap f)) := hin
    have hlen : len ≤ 2 ^ 63 - 1 := TIn.len (T := .mk v nm a len cap f) hin
    have HS : Hid (errs (.mk v nm a len cap f) = fst (fun i => err (f i)) len) := rfl
    clear ih hin
    show Calls Try.prog 54 #[.slice a len cap] w _
    go_enter Try.func54, Try.ntmps54
    go_wp2_with fail
    go_loopw [9] (fun i wr => ∃ k : Nat, k ≤ len ∧ i = .int .i64 k ∧ fst (fun i => err (f i)) k = 0 ∧ Below w.heap.size w wr) (fun i _ => len - (intOf i).toNat)
    case atStart => exact ⟨0, Nat.zero_le _, rfl, rfl, Below.refl _ _⟩
    case round =>
      obtain ⟨k, hk, rfl, hs, hb⟩ := hrel
      have HK : Hid (fst (fun i => err (f i)) k = 0) := hs
      have HB : Hid (Below w.heap.size w wr) := hb
      have hsz := hb.size
      clear hs hb
      by_cases hlt : k < len
      · have hr : RowAt wr a k (f k) := (TIn.row (T := .mk v nm a len cap f) HIn.out hlt).below HB.out
        obtain ⟨b, o, ha, c0, c1, c2⟩ := hr
        have HT : Hid (TIn wr (f k)) := (TIn.kid (T := .mk v nm a len cap f) HIn.out hlt).below HB.out
        have HE := err_eq (f k)
        have HN : Hid (err (f k) ≠ 0 → errs (.mk v nm a len cap f) = err (f k)) := fun h => by rw [HS.out]; exact fst_stop _ hlt HK.out h
        have HZ : Hid (err (f k) = 0 → fst (fun i => err (f i)) (k + 1) = 0) := fun h => by rw [fst, if_pos HK.out]; exact h
        have HE' : Hid (err (f k) = if partE (f k).v (f k).nm (f k).len = 0 then errs (f k) else partE (f k).v (f k).nm (f k).len) := HE
        clear HE
        subst ha
        go_wp2_with fail
        refine (part_any _ _ _ _ _ _ HT.out.name).mono ?_
        rintro e w1 ⟨rfl, hb1⟩
        have HB1 : Hid (Below (wr.heap.size + 1) (wr.alloc (.cells #[.int .i64 (f k).v, .string (f k).nm, .slice (f k).a (f k).len (f k).cap] 24)) w1) := by
          have := hb1; rw [Hid]; simpa using this
        clear hb1
        have hsz1 : wr.heap.size + 1 ≤ w1.heap.size := by have := HB1.out.size; simpa using this
        have HW1 : Hid (Below wr.heap.size wr w1) := ((Below.refl _ _).alloc (Nat.le_refl _) _).trans (HB1.out.mono (by omega))
        have hbox : w1.cell? ⟨wr.heap.size, 2, none⟩ = some (.slice (f k).a (f k).len (f k).cap) := (HB1.out.cell (p := ⟨wr.heap.size, 2, none⟩) (by simp)).trans (by go_simp)
        by_cases hp : partE (f k).v (f k).nm (f k).len = 0
        · have HE2 : Hid (err (f k) = errs (f k)) := by rw [Hid, HE'.out, if_pos hp]
          rw [hp]
          clear hp
          go_wp2_with fail
          refine (IH.out k _ (HT.out.below HW1.out)).mono ?_
          rintro e w2 ⟨rfl, hb2⟩
          have HW2 : Hid (Below w.heap.size w w2) := (HB.out.trans (HW1.out.mono (by omega))).trans (hb2.mono (by omega))
          clear hb2
          by_cases hq : errs (f k) = 0
          · have HZ2 := HZ.out (HE2.out.trans hq)
            have HZ3 : Hid (fst (fun i => err (f i)) (k + 1) = 0) := HZ2
            rw [hq]
            clear hq HZ2
            go_wp2_with fail
            go_roundw
            case rel => exact ⟨k + 1, by omega, by go_num, HZ3.out, HW2.out⟩
            case measure => simp [intOf]; omega
          · have hqb : (errs (f k) == 0) = false := beq_eq_false_iff_ne.2 hq
            have HR : Hid (errs (.mk v nm (some ⟨b, o, none⟩) len cap f) = errs (f k)) := (HN.out (by rw [HE2.out]; exact hq)).trans HE2.out
            clear hq
            go_wp2_with fail
            go_ret
            exact ⟨by rw [HR.out]; rfl, HW2.out⟩
        · have hpb : (partE (f k).v (f k).nm (f k).len == 0) = false := beq_eq_false_iff_ne.2 hp
          have HE2 : Hid (err (f k) = partE (f k).v (f k).nm (f k).len) := by rw [Hid, HE'.out, if_neg hp]
          have HR : Hid (errs (.mk v nm (some ⟨b, o, none⟩) len cap f) = partE (f k).v (f k).nm (f k).len) := (HN.out (by rw [HE2.out]; exact hp)).trans HE2.out
          clear hp
          go_wp2_with fail
          go_ret
          exact ⟨by rw [HR.out]; rfl, HB.out.trans (HW1.out.mono (by omega))⟩
      · have hke : k = len := by omega
        have HR : Hid (errs (.mk v nm a len cap f) = 0) := by rw [Hid, HS.out, ← hke, HK.out]
        clear hke
        go_wp2_with fail
        go_ret
        exact ⟨by rw [HR.out]; rfl, HB.out⟩
end Go.Proofs.Ytmggaclaoefdaaa
