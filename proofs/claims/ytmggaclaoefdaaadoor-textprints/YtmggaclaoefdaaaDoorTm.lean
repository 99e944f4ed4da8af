/- Terms as they lie in memory, and what is counted of them. -/
import Derived.Test.YtmggaclaoefdaaaDoorPart
namespace Go.Proofs.YtmggaclaoefdaaaDoor
open Go.RowKit

inductive Tm where
  | nil
  | mk (v : Int) (nm : ByteArray) (a : Option Addr) (len cap : Nat) (f : Nat → Tm)
namespace Tm
def v : Tm → Int | .nil => 0 | .mk v _ _ _ _ _ => v
def nm : Tm → ByteArray | .nil => ⟨#[]⟩ | .mk _ nm _ _ _ _ => nm
def a : Tm → Option Addr | .nil => none | .mk _ _ a _ _ _ => a
def len : Tm → Nat | .nil => 0 | .mk _ _ _ len _ _ => len
def cap : Tm → Nat | .nil => 0 | .mk _ _ _ _ cap _ => cap
def f : Tm → Nat → Tm | .nil => fun _ => .nil | .mk _ _ _ _ _ f => f
def val (T : Tm) : Value := .agg #[.int .i64 T.v, .string T.nm, .slice T.a T.len T.cap]
end Tm

/-- The cells of element i of a slice of terms. -/
def RowAt (w : World) (a : Option Addr) (i : Nat) (T : Tm) : Prop :=
  ∃ b o, a = some ⟨b, o, none⟩ ∧ w.cell? ⟨b, o + i * 3, none⟩ = some (.int .i64 T.v) ∧ w.cell? ⟨b, o + i * 3 + 1, none⟩ = some (.string T.nm) ∧ w.cell? ⟨b, o + i * 3 + 2, none⟩ = some (.slice T.a T.len T.cap)

/-- A term lies in memory, with all its arguments. -/
def TIn (w : World) : Tm → Prop
  | .nil => False
  | .mk _ nm a len _ f => nm.size ≤ maxLen ∧ len ≤ maxLen ∧ ∀ i, i < len → RowAt w a i (f i) ∧ TIn w (f i)

theorem TIn.name {w : World} {T : Tm} (h : TIn w T) : T.nm.size ≤ maxLen := by
  cases T with
  | nil => exact False.elim h
  | mk => exact h.1
theorem TIn.len {w : World} {T : Tm} (h : TIn w T) : T.len ≤ maxLen := by
  cases T with
  | nil => exact False.elim h
  | mk => exact h.2.1
theorem TIn.row {w : World} {T : Tm} (h : TIn w T) {i : Nat} (hi : i < T.len) : RowAt w T.a i (T.f i) := by
  cases T with
  | nil => exact False.elim h
  | mk => exact (h.2.2 i hi).1
theorem TIn.kid {w : World} {T : Tm} (h : TIn w T) {i : Nat} (hi : i < T.len) : TIn w (T.f i) := by
  cases T with
  | nil => exact False.elim h
  | mk => exact (h.2.2 i hi).2

theorem lt_of_cell {w : World} {p : Addr} {x : Value} (h : w.cell? p = some x) : p.block < w.heap.size := by
  unfold World.cell? at h
  cases hb : w.heap[p.block]? with
  | none => rw [hb] at h; simp at h
  | some o => exact (Array.getElem?_eq_some_iff.1 hb).1

theorem RowAt.below {w w' : World} {a : Option Addr} {i : Nat} {T : Tm} (h : RowAt w a i T) (hb : Below w.heap.size w w') : RowAt w' a i T := by
  obtain ⟨b, o, rfl, h0, h1, h2⟩ := h
  exact ⟨b, o, rfl, (hb.cell (lt_of_cell h0)).trans h0, (hb.cell (lt_of_cell h1)).trans h1, (hb.cell (lt_of_cell h2)).trans h2⟩

theorem TIn.below {w w' : World} {T : Tm} (h : TIn w T) (hb : Below w.heap.size w w') : TIn w' T := by
  induction T with
  | nil => exact False.elim h
  | mk v nm a len cap f ih => exact ⟨h.1, h.2.1, fun i hi => ⟨(h.2.2 i hi).1.below hb, ih i (h.2.2 i hi).2⟩⟩

def sumTo (g : Nat → Nat) : Nat → Nat
  | 0 => 0
  | k + 1 => sumTo g k + g k
theorem sumTo_le (g : Nat → Nat) {j k : Nat} (h : j ≤ k) : sumTo g j ≤ sumTo g k := by
  induction k with
  | zero => rw [Nat.le_zero.1 h]; exact Nat.le_refl _
  | succ k ih =>
    by_cases hj : j = k + 1
    · rw [hj]; exact Nat.le_refl _
    · have := ih (by omega); show _ ≤ sumTo g k + g k; omega

/-- How many parts a term has. -/
def cnt : Tm → Nat
  | .nil => 1
  | .mk _ _ _ len _ f => 1 + sumTo (fun i => cnt (f i)) len
/-- .. and all its arguments together. -/
def kids (T : Tm) : Nat := sumTo (fun i => cnt (T.f i)) T.len
theorem cnt_eq (T : Tm) : cnt T = 1 + kids T := by cases T <;> rfl

def roomV (n : Int) (t : Nat) : Int := if (t : Int) ≤ n then n - t else -1

set_option maxHeartbeats 400000 in
theorem room_any (T : Tm) : ∀ (n : Int) (w : World), TIn w T → 0 ≤ n → n ≤ 60 →
    Calls Tryd.prog 56 #[.int .i64 n, .slice T.a T.len T.cap] w fun e w' => e = .returned (.int .i64 (roomV n (kids T))) ∧ Below w.heap.size w w' := by
  induction T with
  | nil => intro n w hin; exact False.elim hin
  | mk v nm a len cap f ih =>
    intro n w hin hn0 hn60
    have IH : Hid (∀ i (n : Int) (w : World), TIn w (f i) → 0 ≤ n → n ≤ 60 → Calls Tryd.prog 56 #[.int .i64 n, .slice (f i).a (f i).len (f i).cap] w fun e w' => e = .returned (.int .i64 (roomV n (kids (f i)))) ∧ Below w.heap.size w w') := ih
    have HIn : Hid (TIn w (.mk v nm a len cap f)) := hin
    have hlen : len ≤ 2 ^ 63 - 1 := TIn.len (T := .mk v nm a len cap f) hin
    clear ih hin
    show Calls Tryd.prog 56 #[.int .i64 n, .slice a len cap] w _
    go_enter Tryd.func56, Tryd.ntmps56
    go_wp2_with fail
    go_loopw [0, 9] (fun n' i wr => ∃ k : Nat, k ≤ len ∧ i = .int .i64 k ∧ (sumTo (fun i => cnt (f i)) k : Int) ≤ n ∧ n' = .int .i64 (n - (sumTo (fun i => cnt (f i)) k : Nat)) ∧ Below w.heap.size w wr) (fun _ i _ => len - (intOf i).toNat)
    case atStart => exact ⟨0, Nat.zero_le _, rfl, by simp [sumTo]; omega, by simp [sumTo], Below.refl _ _⟩
    case round =>
      obtain ⟨k, hk, rfl, hs, rfl, hb⟩ := hrel
      have HS : Hid (kids (.mk v nm a len cap f) = sumTo (fun i => cnt (f i)) len) := rfl
      generalize hsk : sumTo (fun i => cnt (f i)) k = sk at *
      have HK : Hid (sumTo (fun i => cnt (f i)) k = sk) := hsk
      clear hsk
      by_cases hlt : k < len
      · have hr : RowAt wr a k (f k) := (TIn.row (T := .mk v nm a len cap f) HIn.out hlt).below hb
        obtain ⟨b, o, ha, c0, c1, c2⟩ := hr
        have HT : Hid (TIn wr (f k)) := (TIn.kid (T := .mk v nm a len cap f) HIn.out hlt).below hb
        have HM : Hid (sumTo (fun i => cnt (f i)) (k + 1) ≤ sumTo (fun i => cnt (f i)) len) := sumTo_le _ hlt
        have HE : Hid (sumTo (fun i => cnt (f i)) (k + 1) = sk + (1 + kids (f k))) := by rw [Hid, sumTo, HK.out, cnt_eq]
        subst ha
        by_cases hz : n - (sk : Int) = 0
        · have hzb : (n - (sk : Int) == 0) = true := beq_iff_eq.2 hz
          have HR : Hid (roomV n (kids (.mk v nm (some ⟨b, o, none⟩) len cap f)) = -1) := by
            rw [Hid, roomV, if_neg]; rw [HS.out]; have := HM.out; have := HE.out; omega
          clear hz
          go_wp2_with fail
          go_ret
          exact ⟨by rw [HR.out]; rfl, hb.trans (((Below.refl _ _).alloc (Nat.le_refl _) _).mono hb.size)⟩
        · have hzb : (n - (sk : Int) == 0) = false := beq_eq_false_iff_ne.2 hz
          have hpos : sk + 1 ≤ n := by omega
          clear hz
          generalize hkk : kids (f k) = kk at *
          have hsz := hb.size
          by_cases hle : (kk : Int) ≤ n - sk - 1
          · have HV : Hid (roomV (n - sk - 1) kk = n - sk - 1 - kk) := by rw [Hid, roomV, if_pos hle]
            go_wp2_with fail
            refine (IH.out k (n - sk - 1) _ (HT.out.below ((Below.refl _ _).alloc (Nat.le_refl _) _)) (by omega) (by omega)).mono ?_
            rintro e w1 ⟨rfl, hb1⟩
            rw [hkk, HV.out]
            clear hkk
            go_wp2_with fail
            go_roundw
            case rel => exact ⟨k + 1, by omega, by go_num, by rw [HE.out]; omega, by rw [HE.out]; go_num, (hb.trans (((Below.refl _ _).alloc (Nat.le_refl _) _).mono hsz)).trans (hb1.mono (by simp; omega))⟩
            case measure => simp [intOf]; omega
          · have HV : Hid (roomV (n - sk - 1) kk = -1) := by rw [Hid, roomV, if_neg hle]
            have HR : Hid (roomV n (kids (.mk v nm (some ⟨b, o, none⟩) len cap f)) = -1) := by
              rw [Hid, roomV, if_neg]; rw [HS.out]; have := HM.out; have := HE.out; omega
            go_wp2_with fail
            refine (IH.out k (n - sk - 1) _ (HT.out.below ((Below.refl _ _).alloc (Nat.le_refl _) _)) (by omega) (by omega)).mono ?_
            rintro e w1 ⟨rfl, hb1⟩
            rw [hkk, HV.out]
            clear hkk
            go_wp2_with fail
            go_ret
            exact ⟨by rw [HR.out]; rfl, (hb.trans (((Below.refl _ _).alloc (Nat.le_refl _) _).mono hsz)).trans (hb1.mono (by simp; omega))⟩
      · have hke : k = len := by omega
        have HR : Hid (roomV n (kids (.mk v nm a len cap f)) = n - sk) := by
          rw [Hid, HS.out, ← hke, HK.out, roomV, if_pos hs]
        clear hke
        go_wp2_with fail
        go_ret
        exact ⟨by rw [HR.out]; rfl, hb⟩
end Go.Proofs.YtmggaclaoefdaaaDoor
