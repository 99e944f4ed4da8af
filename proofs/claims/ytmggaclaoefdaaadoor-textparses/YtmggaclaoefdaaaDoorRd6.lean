/- The reader: names. -/
import Derived.Test.YtmggaclaoefdaaaDoorRd5
import Derived.Deep.LoopGhost
import Derived.Deep.RegionHeld3
namespace Go.Proofs.YtmggaclaoefdaaaDoor
open Go.RowKit

def inn (c : UInt8) : Bool := innerI (c.toNat : Int)
/-- How long the word is that stands at p. -/
def wl (l : List UInt8) (p : Nat) : Nat := ((l.drop p).takeWhile inn).length
theorem tw_in {α : Type} (f : α → Bool) (L : List α) (k : Nat) (h : k < (L.takeWhile f).length) : ∃ c, L[k]? = some c ∧ f c = true := by
  induction L generalizing k with
  | nil => simp at h
  | cons x r ih =>
    rw [List.takeWhile_cons] at h
    split at h
    · rename_i hx
      cases k with
      | zero => exact ⟨x, rfl, hx⟩
      | succ k => obtain ⟨c, h1, h2⟩ := ih k (by simpa using h); exact ⟨c, by simpa using h1, h2⟩
    · simp at h
theorem tw_end {α : Type} (f : α → Bool) (L : List α) (c : α) (h : L[(L.takeWhile f).length]? = some c) : f c = false := by
  induction L with
  | nil => simp at h
  | cons x r ih =>
    rw [List.takeWhile_cons] at h
    split at h
    · exact ih (by simpa using h)
    · rename_i hx
      simp at h
      subst h; simpa using hx
theorem wl_in {s : ByteArray} {p k : Nat} (h : k < wl s.data.toList p) : ∃ h : p + k < s.size, innerI (s[p + k].toNat : Int) = true := by
  obtain ⟨c, h1, h2⟩ := tw_in inn _ k h
  rw [List.getElem?_drop] at h1
  by_cases hp : p + k < s.size
  · rw [get_of s _ hp] at h1
    have := Option.some.inj h1
    subst this
    exact ⟨hp, h2⟩
  · rw [get_none s _ hp] at h1; simp at h1
theorem wl_end {s : ByteArray} {p : Nat} (hp : p + wl s.data.toList p < s.size) : innerI (s[p + wl s.data.toList p].toNat : Int) = false := by
  refine tw_end inn (s.data.toList.drop p) s[p + wl s.data.toList p] ?_
  rw [List.getElem?_drop]
  exact get_of s _ hp
theorem wl_pos {s : ByteArray} {p : Nat} (hp : p < s.size) (h : btw (s[p].toNat : Int) 97 122 = true) : 1 ≤ wl s.data.toList p := by
  by_cases h0 : wl s.data.toList p = 0
  · have hi := wl_end (s := s) (p := p) (by rw [h0]; exact hp)
    simp only [h0, Nat.add_zero] at hi
    rw [innerI, h] at hi
    simp at hi
  · omega
theorem wl_le (s : ByteArray) (p : Nat) (hp : p ≤ s.size) : p + wl s.data.toList p ≤ s.size := by
  have := (List.takeWhile_sublist (l := s.data.toList.drop p) inn).length_le
  simp at this
  unfold wl
  omega

set_option maxRecDepth 100000 in
theorem clone_any (s : ByteArray) (w : World) (h : s.size ≤ 6000) :
    Calls Tryd.prog 89 #[.string s] w fun e w' => e = .returned (.string s) ∧ Below w.heap.size w w' := by
  go_enter Tryd.func89, Tryd.ntmps89
  go_wp2_with fail
  refine (Tryd.stringslite_Clone s w (by omega)).mono ?_
  rintro e w1 ⟨rfl, hb⟩
  have HB : Hid (Below w.heap.size w w1) := hb
  clear hb
  go_wp2_with fail
  go_ret
  exact ⟨rfl, HB.out⟩

set_option maxRecDepth 100000 in
set_option maxHeartbeats 2000000 in
theorem word_yes (b : Nat) (s : ByteArray) (p d : Nat) (w : World) (hr : RS b s p w) (hs : s.size ≤ 6000) (hp : p < s.size) (hl : btw (s[p].toNat : Int) 97 122 = true) (hd : w.heap[d]? = some (.cells #[.func (.func 79) #[] #[]] 100)) (hdb : d ≠ b) :
    Calls Tryd.prog 80 #[.pointer (some ⟨b, 0, none⟩), .func (.func 79) #[] #[], .func (.func 81) #[] #[.pointer (some ⟨d, 0, none⟩)]] w fun e w' => e = .returned (.string (s.extract p (p + wl s.data.toList p))) ∧ RS b s (p + wl s.data.toList p) w' ∧ G b w w' := by
  have HR : Hid (RS b s p w) := hr
  have HL : Hid (btw (s[p].toNat : Int) 97 122 = true) := hl
  have HD : Hid (w.heap[d]? = some (.cells #[.func (.func 79) #[] #[]] 100)) := hd
  have hdl : d < w.heap.size := (Array.getElem?_eq_some_iff.1 hd).1
  have hbl := hr.lt
  have c0 := hr.c0
  have c1 := hr.c1
  have hw1 := wl_pos hp hl
  have hwl := wl_le s p (by omega)
  clear hr hl hd
  go_enter Tryd.func80, Tryd.ntmps80
  go_wp2_with fail
  refine (one79_yes b s p w HR.out hs hp HL.out).mono ?_
  rintro e w1 ⟨rfl, hR1, hG1⟩
  have HR1 : Hid (RS b s (p + 1) w1) := hR1
  have HG1 : Hid (G b w w1) := hG1
  clear hR1 hG1 c0 c1
  go_wp2_with fail
  generalize hm : wl s.data.toList p = m at *
  have HM : Hid (wl s.data.toList p = m) := hm
  clear hm
  go_loopg [] (m - 1) (fun g wr => ∃ k : Nat, 1 ≤ k ∧ k ≤ m ∧ g = m - k ∧ RS b s (p + k) wr ∧ G b w wr)
  case atStart => exact ⟨1, by omega, hw1, rfl, HR1.out, HG1.out⟩
  case round =>
    obtain ⟨k, hk1, hkm, rfl, hR, hG⟩ := hrel
    have HRk : Hid (RS b s (p + k) wr) := hR
    have HGk : Hid (G b w wr) := hG
    have hdk : wr.heap[d]? = some (.cells #[.func (.func 79) #[] #[]] 100) := (hG.block d hdl (by simp; omega)).trans HD.out
    have HDc : Hid (wr.cell? ⟨d, 0, none⟩ = some (.func (.func 79) #[] #[])) := by rw [Hid]; simp [World.cell?, hdk]
    clear hR hG hdk
    by_cases hlt : k < m
    · obtain ⟨hin, hy⟩ := wl_in (s := s) (p := p) (k := k) (by rw [HM.out]; exact hlt)
      have HS := sees81_in b s (p + k) d wr HDc.out HRk.out hin
      rw [hy] at HS
      have HSS : Hid (Calls Tryd.prog 78 #[.pointer (some ⟨b, 0, none⟩), .func (.func 81) #[] #[.pointer (some ⟨d, 0, none⟩)]] wr fun e w' => e = .returned (.bool true) ∧ ∃ n, w' = wr.drewN n) := HS
      clear HS hy
      go_wp2_with fail
      refine HSS.out.mono ?_
      rintro e w3 ⟨rfl, n, rfl⟩
      have HR3 : Hid (RS b s (p + k) (wr.drewN n)) := HRk.out.drew n
      have HG3 : Hid (G b w (wr.drewN n)) := HGk.out.trans (G.drewN b wr n)
      generalize wr.drewN n = w3 at *
      have c0 := HR3.out.c0
      have c1 := HR3.out.c1
      have f1 := HR3.out.fz 1
      have HR4 : Hid (RS b s (p + (k + 1)) (w3.setCell ⟨b, 1, none⟩ (.int .i64 (p + (k + 1) : Nat)))) := HR3.out.set (p + (k + 1))
      have HG4 : Hid (G b w (w3.setCell ⟨b, 1, none⟩ (.int .i64 (p + (k + 1) : Nat)))) := HG3.out.trans (G.set b w3 1 _)
      rw [show ((p + (k + 1) : Nat) : Int) = (p : Int) + (k : Int) + 1 from by omega] at HR4 HG4
      go_wp2_with fail
      go_roundg (m - (k + 1))
      case measure => omega
      case rel => exact ⟨k + 1, by omega, by omega, rfl, HR4.out, HG4.out⟩
    · have hke : k = m := by omega
      subst hke
      have HS : Hid (Calls Tryd.prog 78 #[.pointer (some ⟨b, 0, none⟩), .func (.func 81) #[] #[.pointer (some ⟨d, 0, none⟩)]] wr fun e w' => e = .returned (.bool false) ∧ ∃ n, w' = wr.drewN n) := by
        by_cases hin : p + k < s.size
        · have := sees81_in b s (p + k) d wr HDc.out HRk.out hin
          have hf : innerI (s[p + k].toNat : Int) = false := by
            have h := HM.out
            have := wl_end (s := s) (p := p) (by rw [h]; exact hin)
            simp only [h] at this
            exact this
          rw [hf] at this; exact this
        · exact sees81_out b s (p + k) d wr HRk.out hin
      go_wp2_with fail
      refine HS.out.mono ?_
      rintro e w3 ⟨rfl, n, rfl⟩
      have HR3 : Hid (RS b s (p + k) (wr.drewN n)) := HRk.out.drew n
      have HG3 : Hid (G b w (wr.drewN n)) := HGk.out.trans (G.drewN b wr n)
      generalize wr.drewN n = w3 at *
      have c0 := HR3.out.c0
      have c1 := HR3.out.c1
      have hpk : ((p : Int) + (k : Int)) ≤ (s.size : Int) := by omega
      have hex : (s.extract p (p + k)).size ≤ 6000 := by simp; omega
      rw [show ((p + k : Nat) : Int) = (p : Int) + (k : Int) from by omega] at c1
      have hbl3 := HR3.out.lt
      have h0p : (0 : Int) ≤ (p : Int) := by omega
      have hpp : (p : Int) ≤ (p : Int) + (k : Int) := by omega
      have h0k : (0 : Int) ≤ (p : Int) + (k : Int) := by omega
      go_wp2_with fail
      go_region_held3 (fun w' => w'.cell? ⟨b, 0, none⟩ = some (.string s) ∧ w'.cell? ⟨b, 1, none⟩ = some (.int .i64 ((p : Int) + (k : Int)))) (first | exact ⟨k0, k1⟩ | exact ⟨by simpa using c0, by simpa using c1⟩)
        (first
          | (go_at_call 89
             refine (clone_any _ _ hex).mono ?_
             rintro e w4 ⟨rfl, hb4⟩
             have HB4 : Hid (Below w3.heap.size w3 w4) := (Below.refl _ w3).drew.trans hb4
             have k0 : w4.cell? ⟨b, 0, none⟩ = some (.string s) := (HB4.out.cell (p := ⟨b, 0, none⟩) hbl3).trans c0
             have k1 : w4.cell? ⟨b, 1, none⟩ = some (.int .i64 ((p : Int) + (k : Int))) := (HB4.out.cell (p := ⟨b, 1, none⟩) hbl3).trans c1
             clear hb4))
      go_wp2_with fail
      go_ret
      exact ⟨by rw [HM.out]; rfl, by rw [HM.out]; exact HR3.out.keep HB4.out, HG3.out.trans (G.below HB4.out)⟩

set_option maxRecDepth 100000 in
set_option maxHeartbeats 2000000 in
theorem word_no (b : Nat) (s : ByteArray) (p d : Nat) (w : World) (hr : RS b s p w) (hno : (h : p < s.size) → btw (s[p].toNat : Int) 97 122 = false) :
    Calls Tryd.prog 80 #[.pointer (some ⟨b, 0, none⟩), .func (.func 79) #[] #[], .func (.func 81) #[] #[.pointer (some ⟨d, 0, none⟩)]] w fun e w' => e = .panicked [pent p] ∧ G b w w' := by
  have HC : Hid (Calls Tryd.prog 68 #[.pointer (some ⟨b, 0, none⟩), .func (.func 79) #[] #[]] w fun e w' => e = .panicked [pent p] ∧ G b w w') := one79_no b s p w hr hno
  have c0 := hr.c0
  have c1 := hr.c1
  clear hr hno
  go_enter Tryd.func80, Tryd.ntmps80
  go_wp2_with fail
  refine HC.out.mono ?_
  rintro e w1 ⟨rfl, hG⟩
  exact ⟨rfl, rfl, hG⟩

/-- A name that stands at p. -/
def pName (l : List UInt8) (p : Nat) : R (List UInt8) :=
  if l[p]? = some 33 then .ok [33] (p + 1)
  else match l[p]? with
    | none => .no p
    | some c => if btw (c.toNat : Int) 97 122 = true then .ok ((l.drop p).take (wl l p)) (p + wl l p) else .no p

set_option maxRecDepth 100000 in
set_option maxHeartbeats 2000000 in
theorem name_rd (b : Nat) (s : ByteArray) (p : Nat) (w : World) (hr : RS b s p w) (hp : p ≤ s.size) (hs : s.size ≤ 6000) :
    Calls Tryd.prog 66 #[.pointer (some ⟨b, 0, none⟩)] w fun e w' => (∃ nm q, pName s.data.toList p = .ok nm.data.toList q ∧ nm.size ≤ 6000 ∧ q ≤ s.size ∧ p < q ∧ e = .returned (.string nm) ∧ RS b s q w' ∧ G b w w') ∨ (∃ q, pName s.data.toList p = .no q ∧ e = .panicked [pent q] ∧ G b w w') := by
  have hmf : ∀ (fn : Fn) (first cap : Array Value) (w : World), (Instr.makeFunc fn first cap).run Tryd.prog w = .ok (.func fn first cap) w := fun _ _ _ _ => rfl
  have HR : Hid (RS b s p w) := hr
  have HA := ahead_any b s p 33 w hr hp
  have HAA : Hid (Calls Tryd.prog 60 #[.pointer (some ⟨b, 0, none⟩), .string ⟨#[33]⟩] w fun e w' => e = .returned (.bool (atC s p 33)) ∧ ∃ n, w' = w.drewN n) := HA
  clear hr HA
  go_enter Tryd.func66, Tryd.ntmps66
  go_wp2_with fail
  refine HAA.out.mono ?_
  rintro e w0 ⟨rfl, n, rfl⟩
  have HR0 : Hid (RS b s p (w.drewN n)) := HR.out.drew n
  have HG0 : Hid (G b w (w.drewN n)) := G.drewN b w n
  generalize w.drewN n = w0 at *
  have hbl := HR0.out.lt
  by_cases hc : s.data.toList[p]? = some 33
  · have HP : Hid (pName s.data.toList p = .ok [33] (p + 1)) := by rw [Hid, pName, if_pos hc]
    have hlt : p < s.size := by
      by_cases h : p < s.size
      · exact h
      · rw [get_none s _ h] at hc; exact absurd hc (by simp)
    rw [show atC s p 33 = true from by unfold atC; rw [hc]; rfl]
    have HM : Hid (mAt s.data.toList p [33] = none) := by rw [Hid, mAt, if_pos hc]; rfl
    clear hc
    go_wp2_with fail
    refine (must_any b s p ⟨#[33]⟩ _ HR0.out hp hs (show 1 ≤ 6000 by omega)).mono ?_
    rintro e w1 (⟨_, rfl, hR1, hG1⟩ | ⟨q, hq, _⟩)
    case inr => rw [show (⟨#[33]⟩ : ByteArray).data.toList = [33] from rfl, HM.out] at hq; exact absurd hq (by simp)
    have HR1 : Hid (RS b s (p + 1) w1) := hR1
    have HG1 : Hid (G b w w1) := HG0.out.trans hG1
    clear hR1 hG1
    go_wp2_with fail
    go_ret
    exact .inl ⟨⟨#[33]⟩, p + 1, HP.out, show 1 ≤ 6000 by omega, by omega, by omega, rfl, HR1.out, HG1.out⟩
  rw [show atC s p 33 = false from by unfold atC; exact beq_eq_false_iff_ne.2 hc]
  have HRa : Hid (RS b s p (w0.alloc (.cells #[.func (.func 79) #[] #[]] 100))) := HR0.out.keep ((Below.refl _ _).alloc (Nat.le_refl _) _)
  have HGa : Hid (G b w (w0.alloc (.cells #[.func (.func 79) #[] #[]] 100))) := HG0.out.trans (G.alloc b w0 _)
  by_cases hin : ∃ h : p < s.size, btw (s[p].toNat : Int) 97 122 = true
  · obtain ⟨h, hy⟩ := hin
    have HP : Hid (pName s.data.toList p = .ok ((s.data.toList.drop p).take (wl s.data.toList p)) (p + wl s.data.toList p)) := by
      rw [Hid, pName, if_neg hc, get_of s _ h]
      show (if btw (s[p].toNat : Int) 97 122 = true then _ else _) = _
      rw [if_pos hy]
    have hw1 := wl_pos h hy
    have hwl := wl_le s p hp
    have HW : Hid (Calls Tryd.prog 80 #[.pointer (some ⟨b, 0, none⟩), .func (.func 79) #[] #[], .func (.func 81) #[] #[.pointer (some ⟨w0.heap.size, 0, none⟩)]] (w0.alloc (.cells #[.func (.func 79) #[] #[]] 100)) fun e w' => e = .returned (.string (s.extract p (p + wl s.data.toList p))) ∧ RS b s (p + wl s.data.toList p) w' ∧ G b (w0.alloc (.cells #[.func (.func 79) #[] #[]] 100)) w') := word_yes b s p w0.heap.size _ HRa.out hs h hy (heap_alloc_new w0 _) (by omega)
    clear hc hy
    go_wp2_with fail
    refine HW.out.mono ?_
    rintro e w1 ⟨rfl, hR1, hG1⟩
    have HR1 : Hid (RS b s (p + wl s.data.toList p) w1) := hR1
    have HG1 : Hid (G b w w1) := HGa.out.trans hG1
    clear hR1 hG1
    go_wp2_with fail
    go_ret
    refine .inl ⟨s.extract p (p + wl s.data.toList p), p + wl s.data.toList p, ?_, by simp; omega, hwl, by omega, rfl, HR1.out, HG1.out⟩
    rw [HP.out, extract_list, Nat.add_sub_cancel_left]
  · have HP : Hid (pName s.data.toList p = .no p) := by
      rw [Hid, pName, if_neg hc]
      by_cases h : p < s.size
      · rw [get_of s _ h]
        show (if btw (s[p].toNat : Int) 97 122 = true then _ else _) = _
        rw [if_neg (fun h2 => hin ⟨h, h2⟩)]
      · rw [get_none s _ h]
    have HW : Hid (Calls Tryd.prog 80 #[.pointer (some ⟨b, 0, none⟩), .func (.func 79) #[] #[], .func (.func 81) #[] #[.pointer (some ⟨w0.heap.size, 0, none⟩)]] (w0.alloc (.cells #[.func (.func 79) #[] #[]] 100)) fun e w' => e = .panicked [pent p] ∧ G b (w0.alloc (.cells #[.func (.func 79) #[] #[]] 100)) w') := word_no b s p w0.heap.size _ HRa.out (fun h => by
      cases hd : btw (s[p].toNat : Int) 97 122
      · rfl
      · exact absurd ⟨h, hd⟩ hin)
    clear hc hin
    go_wp2_with fail
    refine HW.out.mono ?_
    rintro e w1 ⟨rfl, hG1⟩
    exact ⟨rfl, .inr ⟨p, HP.out, rfl, HGa.out.trans hG1⟩⟩
end Go.Proofs.YtmggaclaoefdaaaDoor
