/- Names: what IsName answers. -/
import Derived.Test.YtmggaclaoefdaaaName
namespace Go.Proofs.Ytmggaclaoefdaaa
open Go.RowKit

theorem nameB_word (s : ByteArray) (h : (s.toList == [33]) = false) : nameB s = wordB s := by rw [nameB, h, Bool.false_or]

set_option maxHeartbeats 800000 in
theorem isName_any (s : ByteArray) (w : World) (hs : s.size ≤ maxLen) :
    Calls Try.prog 57 #[.string s] w fun e w' => e = .returned (.bool (nameB s)) ∧ w' = w := by
  unfold maxLen at hs
  cases hc : (s.toList == [33])
  case true =>
    have H : Hid (nameB s = true) := by rw [Hid, nameB, hc, Bool.true_or]
    go_enter Try.func57, Try.ntmps57
    go_wp2_with fail
    go_ret
    exact ⟨by rw [H.out]; rfl, rfl⟩
  have HW : Hid (nameB s = wordB s) := nameB_word s hc
  by_cases h1 : 1 ≤ s.size
  case neg =>
    have H : Hid (nameB s = false) := by rw [Hid, HW.out]; exact wordB_short s h1
    have hb : btw (s.size : Int) 1 8 = false := by simp [btw]; omega
    go_enter Try.func57, Try.ntmps57
    go_wp2_with (go_at_call 56; refine (between_any _ _ _ _).mono ?_; rintro e w' ⟨rfl, rfl⟩)
    go_ret
    exact ⟨by rw [H.out]; rfl, rfl⟩
  by_cases h8 : s.size ≤ 8
  case neg =>
    have H : Hid (nameB s = false) := by rw [Hid, HW.out]; exact wordB_long s h8
    have hb : btw (s.size : Int) 1 8 = false := by simp [btw]; omega
    go_enter Try.func57, Try.ntmps57
    go_wp2_with (go_at_call 56; refine (between_any _ _ _ _).mono ?_; rintro e w' ⟨rfl, rfl⟩)
    go_ret
    exact ⟨by rw [H.out]; rfl, rfl⟩
  have hb : btw (s.size : Int) 1 8 = true := by simp [btw]; omega
  have h0 : 0 < s.size := by omega
  have hf0 : btw (s[0].toNat : Int) 97 122 = true ∨ btw (s[0].toNat : Int) 97 122 = false := by cases btw (s[0].toNat : Int) 97 122 <;> simp
  have hlt0 : s[0].toNat < 256 := s[0].toNat_lt
  rcases hf0 with hf | hf
  case inr =>
    have H : Hid (nameB s = false) := by rw [Hid, HW.out]; exact wordB_first s h0 hf
    go_enter Try.func57, Try.ntmps57
    go_wp2_with (go_at_call 56; refine (between_any _ _ _ _).mono ?_; rintro e w' ⟨rfl, rfl⟩)
    go_ret
    exact ⟨by rw [H.out]; rfl, rfl⟩
  have HF : Hid (btw (s[0].toNat : Int) 97 122 = true) := hf
  have HA0 : Hid (allIn (s.data.toList.take 1) = true) := by
    rw [Hid, allIn_snoc s 0 h0]; simp [allIn, innerI, hf]
  go_enter Try.func57, Try.ntmps57
  go_wp2_with (go_at_call 56; refine (between_any _ _ _ _).mono ?_; rintro e w' ⟨rfl, rfl⟩)
  go_loop [3] (fun i => ∃ k : Nat, k ≤ s.size ∧ i = .int .i64 k ∧ allIn (s.data.toList.take k) = true) (fun i => s.size - (intOf i).toNat)
  case atStart => exact ⟨1, h1, rfl, HA0.out⟩
  case round =>
    obtain ⟨k, hk, rfl, hal⟩ := hrel
    have HA : Hid (allIn (s.data.toList.take k) = true) := hal
    clear hal hf hb
    by_cases hlt : k < s.size
    · have hsn := allIn_snoc s k hlt
      rw [HA.out, Bool.true_and] at hsn
      have HS : Hid (allIn (s.data.toList.take (k + 1)) = innerI (s[k].toNat : Int)) := hsn
      have hno := allIn_no s k hlt
      have HN : Hid (innerI (s[k].toNat : Int) = false → nameB s = false) := fun h => HW.out.trans (hno h)
      clear hsn hno
      have hltk : s[k].toNat < 256 := s[k].toNat_lt
      cases hL : btw (s[k].toNat : Int) 97 122
      · cases hD : btw (s[k].toNat : Int) 48 57
        · by_cases hu : (s[k].toNat : Int) = 95
          · have hub : ((s[k].toNat : Int) == 95) = true := beq_iff_eq.2 hu
            have HI : Hid (innerI (s[k].toNat : Int) = true) := by simp [Hid, innerI, hub]
            clear hu
            go_wp2_with (go_at_call 56; refine (between_any _ _ _ _).mono ?_; rintro e w' ⟨rfl, rfl⟩)
            go_round
            case rel => exact ⟨k + 1, by omega, by go_num, by rw [HS.out, HI.out]⟩
            case measure => simp [intOf]; omega
          · have hub : ((s[k].toNat : Int) == 95) = false := beq_eq_false_iff_ne.2 hu
            have HI : Hid (nameB s = false) := HN.out (by rw [innerI, hL, hD, hub]; rfl)
            go_wp2_with (go_at_call 56; refine (between_any _ _ _ _).mono ?_; rintro e w' ⟨rfl, rfl⟩)
            go_ret
            exact ⟨by rw [HI.out]; rfl, rfl⟩
        · have HI : Hid (innerI (s[k].toNat : Int) = true) := by simp [Hid, innerI, hD]
          go_wp2_with (go_at_call 56; refine (between_any _ _ _ _).mono ?_; rintro e w' ⟨rfl, rfl⟩)
          go_round
          case rel => exact ⟨k + 1, by omega, by go_num, by rw [HS.out, HI.out]⟩
          case measure => simp [intOf]; omega
      · have HI : Hid (innerI (s[k].toNat : Int) = true) := by simp [Hid, innerI, hL]
        go_wp2_with (go_at_call 56; refine (between_any _ _ _ _).mono ?_; rintro e w' ⟨rfl, rfl⟩)
        go_round
        case rel => exact ⟨k + 1, by omega, by go_num, by rw [HS.out, HI.out]⟩
        case measure => simp [intOf]; omega
    · have hke : k = s.size := by omega
      have HY : Hid (nameB s = true) := HW.out.trans (wordB_yes s h1 h8 h0 HF.out (by rw [← hke]; exact HA.out))
      clear hke
      go_wp2_with fail
      go_ret
      exact ⟨by rw [HY.out]; rfl, rfl⟩

end Go.Proofs.Ytmggaclaoefdaaa
