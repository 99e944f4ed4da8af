/- The reader: ahead and must. -/
import Derived.Test.YtmggaclaoefdaaaDoorRd3
namespace Go.Proofs.YtmggaclaoefdaaaDoor
open Go.RowKit

/-- Where a text that must stand at p can't; none: it does. -/
def mAt (l : List UInt8) : Nat → List UInt8 → Option Nat
  | _, [] => none
  | p, c :: r => if l[p]? = some c then mAt l (p + 1) r else some p
def atC (s : ByteArray) (p : Nat) (c : UInt8) : Bool := s.data.toList[p]? == some c
theorem get_of (s : ByteArray) (p : Nat) (h : p < s.size) : s.data.toList[p]? = some s[p] := by
  rw [List.getElem?_eq_getElem (by simpa using h)]; rfl
theorem get_none (s : ByteArray) (p : Nat) (h : ¬ p < s.size) : s.data.toList[p]? = none := by
  rw [List.getElem?_eq_none]; simp; omega
theorem extract_list (s : ByteArray) (p q : Nat) : (s.extract p q).data.toList = (s.data.toList.drop p).take (q - p) := by
  simp [ByteArray.data_extract]
theorem hasPrefix_one (l : List UInt8) (p : Nat) (c : UInt8) : Lib.hasPrefix (l.drop p) [c] = (l[p]? == some c) := by
  rw [← List.head?_drop]
  cases l.drop p with
  | nil => rfl
  | cons x r => simp [Lib.hasPrefix, List.isPrefixOf]; exact Bool.beq_comm

set_option maxRecDepth 100000 in
set_option maxHeartbeats 1000000 in
theorem ahead_any (b : Nat) (s : ByteArray) (p : Nat) (c : UInt8) (w : World) (hr : RS b s p w) (hp : p ≤ s.size) :
    Calls Tryd.prog 60 #[.pointer (some ⟨b, 0, none⟩), .string ⟨#[c]⟩] w fun e w' => e = .returned (.bool (atC s p c)) ∧ ∃ n, w' = w.drewN n := by
  have c0 := hr.c0
  have c1 := hr.c1
  have hp' : (p : Int) ≤ (s.size : Int) := by omega
  clear hr
  go_enter Tryd.func60, Tryd.ntmps60
  go_wp2_with fail
  go_quiet ((go_at_call 67; exact Calls.quiet_of_same (Tryd.strings_HasPrefix _ _ _)))
  go_wp2_with fail
  go_ret
  refine ⟨ret_bool ?_, _, rfl⟩
  rw [extract_list, List.take_of_length_le (by simp), hasPrefix_one]
  rfl

theorem mAt_step (l : List UInt8) (p : Nat) (x : List UInt8) (i : Nat) (h : i < x.length) : mAt l (p + i) (x.drop i) = if l[p + i]? = some x[i] then mAt l (p + (i + 1)) (x.drop (i + 1)) else some (p + i) := by
  rw [List.drop_eq_getElem_cons h, mAt]; rfl

set_option maxRecDepth 100000 in
set_option maxHeartbeats 1000000 in
theorem must_any (b : Nat) (s : ByteArray) (p : Nat) (x : ByteArray) (w : World) (hr : RS b s p w) (hp : p ≤ s.size) (hs : s.size ≤ 6000) (hx : x.size ≤ 6000) :
    Calls Tryd.prog 61 #[.pointer (some ⟨b, 0, none⟩), .string x] w fun e w' => (mAt s.data.toList p x.data.toList = none ∧ e = .returned (.tuple #[]) ∧ RS b s (p + x.size) w' ∧ G b w w') ∨ (∃ q, mAt s.data.toList p x.data.toList = some q ∧ e = .panicked [pent q] ∧ G b w w') := by
  have hmf : ∀ (fn : Fn) (first cap : Array Value) (w : World), (Instr.makeFunc fn first cap).run Tryd.prog w = .ok (.func fn first cap) w := fun _ _ _ _ => rfl
  have HR : Hid (RS b s p w) := hr
  have hbl := hr.lt
  clear hr
  go_enter Tryd.func61, Tryd.ntmps61
  go_wp2_with fail
  go_loopw [7] (fun i wr => ∃ k : Nat, k ≤ x.size ∧ i = .int .i64 k ∧ mAt s.data.toList p x.data.toList = mAt s.data.toList (p + k) (x.data.toList.drop k) ∧ p + k ≤ s.size ∧ RS b s (p + k) wr ∧ G b (w.alloc (.cells #[.string x] 9)) wr) (fun i _ => x.size - (intOf i).toNat)
  case atStart => exact ⟨0, Nat.zero_le _, rfl, rfl, hp, HR.out.keep ((Below.refl _ _).alloc (Nat.le_refl _) _), G.refl _ _⟩
  case round =>
    obtain ⟨k, hk, rfl, hm, hpk, hR, hG⟩ := hrel
    have HM : Hid (mAt s.data.toList p x.data.toList = mAt s.data.toList (p + k) (x.data.toList.drop k)) := hm
    have HRk : Hid (RS b s (p + k) wr) := hR
    have HGk : Hid (G b (w.alloc (.cells #[.string x] 9)) wr) := hG
    have hbx : wr.heap[w.heap.size]? = some (.cells #[.string x] 9) := (hG.block w.heap.size (by simp) (by simp; omega)).trans (heap_alloc_new w _)
    have hsz : w.heap.size + 1 ≤ wr.heap.size := by have := hG.size; simpa using this
    have hcx : wr.cell? ⟨w.heap.size, 0, none⟩ = some (.string x) := by simp [World.cell?, hbx]
    have HBx : Hid (wr.heap[w.heap.size]? = some (.cells #[.string x] 9)) := hbx
    have HGw : Hid (G b w wr) := (G.alloc b w _).trans hG
    clear hm hR hG hbx
    by_cases hlt : k < x.size
    · have HStep : Hid (mAt s.data.toList p x.data.toList = if s.data.toList[p + k]? = some x[k] then mAt s.data.toList (p + (k + 1)) (x.data.toList.drop (k + 1)) else some (p + k)) := by
        rw [Hid, HM.out, mAt_step _ _ _ _ (by simpa using hlt)]; rfl
      have HRa : Hid (RS b s (p + k) (wr.alloc (.cells #[.int .i64 k] 3))) := HRk.out.keep ((Below.refl _ _).alloc (Nat.le_refl _) _)
      have hca : (wr.alloc (.cells #[.int .i64 k] 3)).cell? ⟨w.heap.size, 0, none⟩ = some (.string x) := by
        rw [(((Below.refl _ _).alloc (Nat.le_refl _) _ : Below wr.heap.size wr (wr.alloc (.cells #[.int .i64 k] 3)))).cell (p := ⟨w.heap.size, 0, none⟩) (show w.heap.size < wr.heap.size by omega)]; exact hcx
      have HCa : Hid ((wr.alloc (.cells #[.int .i64 k] 3)).cell? ⟨w.heap.size, 0, none⟩ = some (.string x)) := hca
      have HCi : Hid ((wr.alloc (.cells #[.int .i64 k] 3)).cell? ⟨wr.heap.size, 0, none⟩ = some (.int .i64 k)) := by rw [Hid]; go_simp
      clear hca hcx
      by_cases hin : p + k < s.size ∧ s.data.toList[p + k]? = some x[k]
      · obtain ⟨hin1, hin2⟩ := hin
        have HS2 : Hid (mAt s.data.toList p x.data.toList = mAt s.data.toList (p + (k + 1)) (x.data.toList.drop (k + 1))) := by rw [Hid, HStep.out, if_pos hin2]
        have hy : ((s[p + k].toNat : Int) == (x[k].toNat : Int)) = true := by
          rw [get_of s _ hin1] at hin2; have := Option.some.inj hin2; rw [this]; simp
        have HY : Hid (((s[p + k].toNat : Int) == (x[k].toNat : Int)) = true) := hy
        clear hy hin2
        go_wp2_with fail
        refine (one69_yes b s (p + k) _ _ x k hlt _ HCa.out HCi.out HRa.out hs hin1 HY.out).mono ?_
        rintro e w2 ⟨rfl, hR2, hG2⟩
        have HR2 : Hid (RS b s (p + (k + 1)) w2) := by rw [Hid, show p + (k + 1) = p + k + 1 by omega]; exact hR2
        have HG2 : Hid (G b (w.alloc (.cells #[.string x] 9)) w2) := (HGk.out.trans (G.alloc b wr _)).trans hG2
        clear hR2 hG2
        go_wp2_with fail
        go_roundw
        case rel => exact ⟨k + 1, by omega, by go_num, HS2.out, by omega, HR2.out, HG2.out⟩
        case measure => simp [intOf]; omega
      · have hne : ¬ s.data.toList[p + k]? = some x[k] := fun h => hin ⟨by
            by_cases hh : p + k < s.size
            · exact hh
            · rw [get_none s _ hh] at h; exact absurd h (by simp), h⟩
        have HS2 : Hid (mAt s.data.toList p x.data.toList = some (p + k)) := by rw [Hid, HStep.out, if_neg hne]
        have HN : Hid ((hlt : p + k < s.size) → ((s[p + k].toNat : Int) == (x[k].toNat : Int)) = false) := fun h => by
          rw [get_of s _ h] at hne
          rw [beq_eq_false_iff_ne]
          intro e
          exact hne (congrArg some (UInt8.toNat_inj.1 (by omega)))
        clear hin hne
        go_wp2_with fail
        refine (one69_no b s (p + k) _ _ x k hlt _ HCa.out HCi.out HRa.out HN.out).mono ?_
        rintro e w2 ⟨rfl, hG2⟩
        exact ⟨rfl, .inr ⟨p + k, HS2.out, rfl, (HGw.out.trans (G.alloc b wr _)).trans hG2⟩⟩
    · have hke : k = x.size := by omega
      have HE : Hid (mAt s.data.toList p x.data.toList = none ∧ RS b s (p + x.size) wr) := ⟨by rw [HM.out, hke, List.drop_eq_nil_of_le (by simp)]; rfl, by rw [← hke]; exact HRk.out⟩
      clear hke
      go_wp2_with fail
      go_end0
      exact .inl ⟨HE.out.1, rfl, HE.out.2, HGw.out⟩
end Go.Proofs.YtmggaclaoefdaaaDoor
