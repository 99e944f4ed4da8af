/- The reader: variables. -/
import Derived.Test.YtmggaclaoefdaaaDoorRd4
import Derived.Laws.EntriesVeiled
namespace Go.Proofs.YtmggaclaoefdaaaDoor
open Go.RowKit

inductive R (α : Type) where
  | ok (a : α) (p : Nat)
  | no (p : Nat)

/-- A variable that stands at p (there is a V). -/
def pVar (l : List UInt8) (p : Nat) : R Nat :=
  match l[p + 1]? with
  | none => .no (p + 1)
  | some c =>
    if dig0 (c.toNat : Int) = true then
      match l[p + 2]? with
      | none => .ok (c.toNat - 48) (p + 2)
      | some d => if btw (d.toNat : Int) 48 57 = true then .ok (10 * (c.toNat - 48) + (d.toNat - 48)) (p + 3) else .ok (c.toNat - 48) (p + 2)
    else .no (p + 1)

set_option maxRecDepth 100000 in
set_option maxHeartbeats 2000000 in
theorem variable_rd (b : Nat) (s : ByteArray) (p : Nat) (w : World) (hr : RS b s p w) (hp : p < s.size) (hs : s.size ≤ 6000) (hv : atC s p 86 = true) :
    Calls Tryd.prog 65 #[.pointer (some ⟨b, 0, none⟩)] w fun e w' => (∃ n q, pVar s.data.toList p = .ok n q ∧ n ≤ 99 ∧ q ≤ s.size ∧ p < q ∧ e = .returned (.int .i64 n) ∧ RS b s q w' ∧ G b w w') ∨ (∃ q, pVar s.data.toList p = .no q ∧ e = .panicked [pent q] ∧ G b w w') := by
  have hmf : ∀ (fn : Fn) (first cap : Array Value) (w : World), (Instr.makeFunc fn first cap).run Tryd.prog w = .ok (.func fn first cap) w := fun _ _ _ _ => rfl
  have hbl := hr.lt
  have HRa : Hid (RS b s p (w.alloc (.cells #[.func (.func 76) #[] #[]] 100))) := hr.keep ((Below.refl _ _).alloc (Nat.le_refl _) _)
  have HM : Hid (mAt s.data.toList p [86] = none) := by
    have h : s.data.toList[p]? = some 86 := beq_iff_eq.1 hv
    rw [Hid, mAt, if_pos h]; rfl
  have HGa : Hid (G b w (w.alloc (.cells #[.func (.func 76) #[] #[]] 100))) := G.alloc b w _
  clear hr hv
  go_enter Tryd.func65, Tryd.ntmps65
  go_wp2_with fail
  refine (must_any b s p ⟨#[86]⟩ _ HRa.out (by omega) hs (show 1 ≤ 6000 by omega)).mono ?_
  rintro e w1 (⟨_, rfl, hR1, hG1⟩ | ⟨q, hq, _⟩)
  case inr => rw [show (⟨#[86]⟩ : ByteArray).data.toList = [86] from rfl, HM.out] at hq; exact absurd hq (by simp)
  have HR1 : Hid (RS b s (p + 1) w1) := hR1
  have HG1 : Hid (G b w w1) := HGa.out.trans hG1
  have hd1 : w1.heap[w.heap.size]? = some (.cells #[.func (.func 76) #[] #[]] 100) := (hG1.block w.heap.size (by simp) (by simp; omega)).trans (heap_alloc_new w _)
  have HD1 : Hid (w1.heap[w.heap.size]? = some (.cells #[.func (.func 76) #[] #[]] 100)) := hd1
  have hc1 : w1.cell? ⟨w.heap.size, 0, none⟩ = some (.func (.func 76) #[] #[]) := by simp [World.cell?, hd1]
  have HC1 : Hid (w1.cell? ⟨w.heap.size, 0, none⟩ = some (.func (.func 76) #[] #[])) := hc1
  have hs1 : w.heap.size < w1.heap.size := by have := hG1.size; simp at this; omega
  clear hR1 hG1 hd1
  by_cases hin : ∃ h : p + 1 < s.size, dig0 (s[p + 1].toNat : Int) = true
  case neg =>
    have HX : Hid (pVar s.data.toList p = .no (p + 1)) := by
      rw [Hid, pVar]
      by_cases h : p + 1 < s.size
      · rw [get_of s _ h]
        show (if dig0 (s[p + 1].toNat : Int) = true then _ else _) = _
        rw [if_neg (fun h2 => hin ⟨h, h2⟩)]
      · rw [get_none s _ h]
    have HN : Hid ((hlt : p + 1 < s.size) → dig0 (s[p + 1].toNat : Int) = false) := fun h => by
      cases hd : dig0 (s[p + 1].toNat : Int)
      · rfl
      · exact absurd ⟨h, hd⟩ hin
    clear hin
    go_wp2_with fail
    refine (one77_no b s (p + 1) _ w1 HC1.out HR1.out HN.out).mono ?_
    rintro e w2 ⟨rfl, hG2⟩
    exact ⟨rfl, .inr ⟨p + 1, HX.out, rfl, HG1.out.trans hG2⟩⟩
  obtain ⟨h1, hd0⟩ := hin
  have HY : Hid (dig0 (s[p + 1].toNat : Int) = true) := hd0
  have hb0 : 49 ≤ s[p + 1].toNat ∧ s[p + 1].toNat ≤ 57 := by
    simp [dig0, btw] at hd0; omega
  obtain ⟨hb1, hb2⟩ := hb0
  clear hd0
  have HP : Hid (pVar s.data.toList p = match s.data.toList[p + 2]? with
      | none => .ok (s[p + 1].toNat - 48) (p + 2)
      | some d => if btw (d.toNat : Int) 48 57 = true then .ok (10 * (s[p + 1].toNat - 48) + (d.toNat - 48)) (p + 3) else .ok (s[p + 1].toNat - 48) (p + 2)) := by
    rw [Hid, pVar, get_of s _ h1]
    show (if dig0 (s[p + 1].toNat : Int) = true then _ else _) = _
    rw [if_pos HY.out]
  have HO : Hid (Calls Tryd.prog 68 #[.pointer (some ⟨b, 0, none⟩), .func (.func 77) #[] #[.pointer (some ⟨w.heap.size, 0, none⟩)]] w1 fun e w' => e = .returned (.int .u8 (s[p + 1].toNat : Int)) ∧ RS b s (p + 1 + 1) w' ∧ G b w1 w') := one77_yes b s (p + 1) _ w1 HC1.out HR1.out hs h1 HY.out
  generalize s[p + 1].toNat = c at *
  go_wp2_with fail
  refine HO.out.mono ?_
  rintro e w2 ⟨rfl, hR2, hG2⟩
  have HR2 : Hid (RS b s (p + 2) w2) := hR2
  have HG2 : Hid (G b w w2) := HG1.out.trans hG2
  have hd2 : w2.heap[w.heap.size]? = some (.cells #[.func (.func 76) #[] #[]] 100) := (hG2.block w.heap.size hs1 (by simp; omega)).trans HD1.out
  have HD2 : Hid (w2.heap[w.heap.size]? = some (.cells #[.func (.func 76) #[] #[]] 100)) := hd2
  have hc2 : w2.cell? ⟨w.heap.size, 0, none⟩ = some (.func (.func 76) #[] #[]) := by simp [World.cell?, hd2]
  clear hR2 hG2 hd2 hc1
  go_wp2_with fail
  by_cases hin : ∃ h : p + 2 < s.size, btw (s[p + 2].toNat : Int) 48 57 = true
  case neg =>
    have HX : Hid (pVar s.data.toList p = .ok (c - 48) (p + 2)) := by
      rw [Hid, HP.out]
      by_cases h : p + 2 < s.size
      · rw [get_of s _ h]
        show (if btw (s[p + 2].toNat : Int) 48 57 = true then _ else _) = _
        rw [if_neg (fun h2 => hin ⟨h, h2⟩)]
      · rw [get_none s _ h]
    have HS : Hid (Calls Tryd.prog 78 #[.pointer (some ⟨b, 0, none⟩), .func (.func 76) #[] #[]] w2 fun e w' => e = .returned (.bool false) ∧ ∃ n, w' = w2.drewN n) := by
      by_cases h : p + 2 < s.size
      · have := sees76_in b s (p + 2) w2 HR2.out h
        have hf : btw (s[p + 2].toNat : Int) 48 57 = false := by
          cases hd : btw (s[p + 2].toNat : Int) 48 57
          · rfl
          · exact absurd ⟨h, hd⟩ hin
        rw [hf] at this; exact this
      · exact sees76_out b s (p + 2) w2 HR2.out h
    clear hin
    refine HS.out.mono ?_
    rintro e w3 ⟨rfl, n, rfl⟩
    go_wp2_with fail
    go_ret
    refine .inl ⟨c - 48, p + 2, HX.out, by omega, by omega, by omega, ret_int ?_, HR2.out.drew n, HG2.out.trans (G.drewN b w2 n)⟩
    omega
  obtain ⟨h2, hd0⟩ := hin
  have HX : Hid (pVar s.data.toList p = .ok (10 * (c - 48) + (s[p + 2].toNat - 48)) (p + 3)) := by
    rw [Hid, HP.out, get_of s _ h2]
    show (if btw (s[p + 2].toNat : Int) 48 57 = true then _ else _) = _
    rw [if_pos hd0]
  have HS := sees76_in b s (p + 2) w2 HR2.out h2
  rw [hd0] at HS
  have hb3 : 48 ≤ s[p + 2].toNat ∧ s[p + 2].toNat ≤ 57 := by simp [btw] at hd0; omega
  obtain ⟨hb4, hb5⟩ := hb3
  refine HS.mono ?_
  rintro e w3 ⟨rfl, n, rfl⟩
  have HR3 : Hid (RS b s (p + 2) (w2.drewN n)) := HR2.out.drew n
  have HG3 : Hid (G b w (w2.drewN n)) := HG2.out.trans (G.drewN b w2 n)
  have hc3 : (w2.drewN n).cell? ⟨w.heap.size, 0, none⟩ = some (.func (.func 76) #[] #[]) := by simp [hc2]
  generalize w2.drewN n = w3 at *
  have HO3 : Hid (Calls Tryd.prog 68 #[.pointer (some ⟨b, 0, none⟩), .func (.func 76) #[] #[]] w3 fun e w' => e = .returned (.int .u8 (s[p + 2].toNat : Int)) ∧ RS b s (p + 2 + 1) w' ∧ G b w3 w') := one76_yes b s (p + 2) w3 HR3.out hs h2 hd0
  clear HS hd0 hc2
  generalize s[p + 2].toNat = d at *
  go_wp2_with fail
  refine HO3.out.mono ?_
  rintro e w4 ⟨rfl, hR4, hG4⟩
  have HR4 : Hid (RS b s (p + 3) w4) := hR4
  have HG4 : Hid (G b w w4) := HG3.out.trans hG4
  clear hR4 hG4
  go_wp2_with fail
  go_ret
  refine .inl ⟨10 * (c - 48) + (d - 48), p + 3, HX.out, by omega, by omega, by omega, ret_int ?_, HR4.out, HG4.out⟩
  omega
end Go.Proofs.YtmggaclaoefdaaaDoor
