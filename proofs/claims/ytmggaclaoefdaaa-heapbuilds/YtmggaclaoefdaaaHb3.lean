/- The sample's calls. -/
import Derived.Test.YtmggaclaoefdaaaGBL
namespace Go.Proofs.Ytmggaclaoefdaaa
open Go.RowKit
set_option linter.unusedVariables false
set_option linter.unusedSimpArgs false

def tH1 (b : Nat) : Tm := duo ⟨#[102]⟩ b (leafT 1 ⟨#[]⟩) (leafT 0 ⟨#[97]⟩)
def tH2 (b : Nat) : Tm := duo ⟨#[102]⟩ b (leafT 0 ⟨#[98]⟩) (leafT 2 ⟨#[]⟩)
theorem chkH1 (b : Nat) : checkV (tH1 b) = 0 := by kernel_rfl
theorem chkH2 (b : Nat) : checkV (tH2 b) = 0 := by kernel_rfl
theorem nm_small {l : List Cl} (h : ∀ c ∈ l, c.nm.size ≤ 1) : ∀ c ∈ l, c.nm.size ≤ maxLen := fun c hc => by have := h c hc; unfold maxLen; omega
theorem buildE1 (b : Nat) (w : World) (hT : TIn w (tH1 b)) : Calls Try.prog 42 #[.slice none 0 0, (tH1 b).val] w fun e w' => ∃ (sv : Option Addr) (cv g : Nat), e = B4 (.slice sv 5 cv) 0 (.slice (some ⟨g, 0, none⟩) 12 12) 0 ∧ CRw w.heap.size w' (.slice sv 5 cv) c0 ∧ Below w.heap.size w w' := by
  have h1 : (putH (fun _ => frC 0) 0 (tH1 b)).1.1 = c0 := rfl
  have h2 : (putH (fun _ => frC 0) 0 (tH1 b)).2 = 0 := rfl
  refine (build_any (h := fun _ => frC 0) (tH1 b) w ⟨fun i hi => absurd hi (Nat.not_lt_zero i), by unfold maxLen; omega, fun i hi => absurd hi (Nat.not_lt_zero i)⟩ (Nat.le_refl _) (fun _ => ⟨rfl, rfl⟩) hT).mono ?_
  rintro e w' ⟨c, hc, hb, h⟩
  have hc0 := chk_nil hc
  rcases h with ⟨h, _⟩ | ⟨_, h, _⟩ | ⟨_, _, ⟨h, _⟩ | ⟨_, v, g, he, hC, _⟩⟩
  · exact absurd hc0 h
  · exact absurd (chkH1 b) h
  · rw [h1] at h; exact absurd h (by decide)
  · rw [h1] at hC
    rw [h2] at he
    obtain ⟨sv, cv, hv, _⟩ := CRw.form hC
    subst hv
    exact ⟨sv, cv, g, he, hC, hb⟩
theorem buildE2 {sa : Option Addr} {cap : Nat} (b : Nat) (w : World) {lo : Nat} (hC : CRw lo w (.slice sa 5 cap) c0) (hT : TIn w (tH2 b)) : Calls Try.prog 42 #[.slice sa 5 cap, (tH2 b).val] w fun e w' => ∃ (sv : Option Addr) (cv g : Nat), e = B4 (.slice sv 10 cv) 5 (.slice (some ⟨g, 0, none⟩) 12 12) 0 ∧ CRw w.heap.size w' (.slice sv 10 cv) c1 ∧ Below w.heap.size w w' := by
  have h1 : (putH (hOf c0) 5 (tH2 b)).1.1 = c1 := rfl
  have h2 : (putH (hOf c0) 5 (tH2 b)).2 = 5 := rfl
  have hcap : 5 ≤ cap := by
    obtain ⟨sa', cp', e, h, _⟩ := CRw.form hC
    injection e with _ _ e
    subst e; exact h
  have hn : sa = none → 5 = 0 ∧ cap = 0 := fun e => by
    subst e
    rcases hC.2 with ⟨_, h0⟩ | ⟨g, cg, cur, hv, _⟩
    · cases h0
    · cases hv
  refine (build_any (h := hOf c0) (tH2 b) w (CRw.hin hC rfl (nm_small (by decide))) hcap hn hT).mono ?_
  rintro e w' ⟨c, hc, hb, h⟩
  have hc0 := hc.same chk_c0
  rcases h with ⟨h, _⟩ | ⟨_, h, _⟩ | ⟨_, _, ⟨h, _⟩ | ⟨_, v, g, he, hC, _⟩⟩
  · exact absurd hc0 h
  · exact absurd (chkH2 b) h
  · rw [show (putH (hOf c0) c0.length (tH2 b)).1.1 = c1 from h1] at h; exact absurd h (by decide)
  · rw [show (putH (hOf c0) c0.length (tH2 b)).1.1 = c1 from h1] at hC
    rw [show (putH (hOf c0) c0.length (tH2 b)).2 = 5 from h2] at he
    obtain ⟨sv, cv, hv, _⟩ := CRw.form hC
    subst hv
    exact ⟨sv, cv, g, he, hC, hb⟩
theorem can_ap_ground {π : Int → Int} : ap (nmOf π) (fC (atC 98) (atC 97)) = can (fC (atC 98) (atC 97)) := by
  rw [ap_fn _ (T := fC (atC 98) (atC 97)) rfl]
  show Tm.mk 0 (nmC 102) none 2 0 _ = Tm.mk 0 (nmC 102) none 2 0 _
  congr 1
  funext i
  by_cases h0 : i = 0
  · subst h0
    show ap (nmOf π) (atC 98) = can (atC 98)
    rw [ap_fn _ (T := atC 98) rfl]
    rfl
  by_cases h1 : i = 1
  · subst h1
    show ap (nmOf π) (atC 97) = can (atC 97)
    rw [ap_fn _ (T := atC 97) rfl]
    rfl
  · have h2 : ¬ i < 2 := by omega
    show (if i < 2 then _ else Tm.nil) = (if i < 2 then _ else Tm.nil)
    rw [if_neg h2, if_neg h2]
theorem CRw.cap5 {lo : Nat} {w : World} {sa : Option Addr} {n cap : Nat} {l : List Cl} (hC : CRw lo w (.slice sa n cap) l) (hn : n = l.length) : n ≤ cap ∧ (sa = none → n = 0 ∧ cap = 0) := by
  subst hn
  rcases hC.2 with ⟨hv, h0⟩ | ⟨g, cg, cur, hv, _, _, h, _⟩
  · injection hv with h1 h2 h3
    exact ⟨by omega, fun _ => ⟨h0, h3⟩⟩
  · injection hv with h1 h2 h3
    subst h3
    exact ⟨h, fun e => by rw [e] at h1; cases h1⟩
theorem hunifyE {sa : Option Addr} {cap lo : Nat} (w : World) (hC : CRw lo w (.slice sa 10 cap) c1) : Calls Try.prog 46 #[.slice sa 10 cap, .int .i64 0, .int .i64 5] w fun e w' => ∃ (sv : Option Addr) (cv : Nat) (sb : Option Addr) (cb : Nat), e = U5 (.slice sv 10 cv) (.slice sb 2 cb) true 5 0 ∧ CRw w.heap.size w' (.slice sv 10 cv) c3 ∧ Below w.heap.size w w' := by
  obtain ⟨h5, hn⟩ := CRw.cap5 hC rfl
  have hu : uniH (hOf c1) c1.length 0 5 = .yes (3995, c3, [3, 9]) := sm_all
  refine (hunify_any (h := hOf c1) 0 5 w (CRw.hin hC rfl nm_c1) h5 hn).mono ?_
  rintro e w' ⟨hb, h⟩
  rcases h with ⟨c, _, ⟨h, hc⟩ | ⟨_, _, h⟩⟩ | ⟨_, _, _, ⟨h, _⟩ | ⟨_, h, _⟩ | ⟨_, _, v, bv, he, hC3, hO⟩⟩
  · exact absurd (hc.same chk_c1) h
  · rcases h with h | h <;> exact absurd h (by decide)
  · rw [hu] at h; exact absurd h (by decide)
  · rw [hu] at h; cases h
  · rw [hu] at he hC3 hO
    obtain ⟨sv, cv, hv, _⟩ := CRw.form hC3
    subst hv
    obtain ⟨sb, cb, hb'⟩ : ∃ sb cb, bv = .slice sb 2 cb := by
      rcases hO.2 with ⟨_, h0⟩ | ⟨g, cg, cur, hv, _⟩
      · cases h0
      · exact ⟨_, _, hv⟩
    subst hb'
    exact ⟨sv, cv, sb, cb, he, hC3, hb⟩
theorem nm_c3 : ∀ c ∈ c3, c.nm.size ≤ maxLen := by
  have h := (smH_good 4001 0 5 (4000, c1, []) ⟨good_c1, nm_c1⟩ (by show 0 < 10; omega) (by show 5 < 10; omega)).nm
  rw [sm_all] at h
  exact h
theorem hreadE {sa : Option Addr} {cap lo : Nat} (w : World) (hC : CRw lo w (.slice sa 10 cap) c3) : Calls Try.prog 35 #[.slice sa 10 cap, .int .i64 5] w fun e w' => ∃ (X : Tm) (sl : Option Addr) (cl : Nat), e = T3v X (.slice sl 0 cl) 0 ∧ can X = can (fC (atC 98) (atC 97)) ∧ TIn w' X ∧ Below w.heap.size w w' := by
  obtain ⟨h5, _⟩ := CRw.cap5 hC rfl
  refine (hread_any (h := hOf c3) 5 w (CRw.hin hC rfl nm_c3) h5).mono ?_
  rintro e w' ⟨X, L, l, c, rfl, hR, hX, hO, hb⟩
  rcases hR with ⟨h, hc, _⟩ | ⟨_, _, h, _⟩ | ⟨_, _, _, h, _⟩ | ⟨_, _, hc, _, hx, hl⟩
  · exact absurd (hc.same chk_c3) h
  · exact absurd h (by decide)
  · have h9 : 200 < cntA (hOf c3) 10 5 := h
    rw [cnt_c3] at h9; omega
  · have hl' : l = [] := by rw [hl]; show (addV [] (vsT (std (hOf c3) 10 5))).map _ = []; rw [vs_c3]; rfl
    subst hl' hc
    obtain ⟨sl, cl, hL⟩ : ∃ sl cl, L = .slice sl 0 cl := by
      rcases hO.2 with ⟨hv, _⟩ | ⟨g, cg, cur, hv, _⟩
      · exact ⟨_, _, hv⟩
      · exact ⟨_, _, hv⟩
    subst hL
    refine ⟨X, sl, cl, rfl, ?_, hX, hb⟩
    rw [hx]
    show ap _ (std (hOf c3) 10 5) = _
    rw [std_c3, ap_can]
    exact (can_ap_ground)
theorem hderefE {sa : Option Addr} {cap lo : Nat} (w : World) (hC : CRw lo w (.slice sa 10 cap) c3) : Calls Try.prog 34 #[.slice sa 10 cap, .int .i64 0] w fun e w' => e = .returned (.tuple #[.int .i64 0, .int .i64 0]) ∧ Below w.heap.size w w' := by
  obtain ⟨h5, _⟩ := CRw.cap5 hC rfl
  refine (hderef_any (h := hOf c3) 0 w (CRw.hin hC rfl nm_c3) h5).mono ?_
  rintro e w' ⟨r, c, rfl, hR, hb⟩
  rcases hR with ⟨h, hc, _⟩ | ⟨_, _, h, _⟩ | ⟨_, hc, _, hr⟩
  · exact absurd (hc.same chk_c3) h
  · exact absurd h (by decide)
  · have hr' : r = 0 := by rw [hr]; show ((endA (hOf c3) 10 0 : Nat) : Int) = 0; rw [end_c3]; rfl
    subst hr' hc
    exact ⟨rfl, hb⟩
theorem hcheckE {sa : Option Addr} {cap lo : Nat} (w : World) (hC : CRw lo w (.slice sa 10 cap) c3) : Calls Try.prog 40 #[.slice sa 10 cap] w fun e w' => e = .returned (.int .i64 0) ∧ Below w.heap.size w w' := by
  obtain ⟨h5, _⟩ := CRw.cap5 hC rfl
  refine (hcheck_any (h := hOf c3) w (CRw.hin hC rfl nm_c3) h5).mono ?_
  rintro e w' ⟨c, rfl, hR, hb⟩
  have := hR.same chk_c3
  subst this
  exact ⟨rfl, hb⟩
end Go.Proofs.Ytmggaclaoefdaaa
