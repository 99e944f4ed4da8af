/- Making two terms the same: on a heap and off it, the same comes. The reference's ReadOf, walked. -/
import Derived.Test.YtmggaclaoefdaaaHw1
import Derived.Test.YtmggaclaoefdaaaGAQ
import Derived.Test.YtmggaclaoefdaaaHr8
import Derived.Test.YtmggaclaoefdaaaGAN
import Derived.Test.YtmggaclaoefdaaaGBE
import Derived.Test.YtmggaclaoefdaaaGBO
namespace Go.Proofs.Ytmggaclaoefdaaa
open Go.RowKit
set_option linter.unusedVariables false
set_option linter.unusedSimpArgs false

/-- What an answer on the heap means for pairs off it. -/
def SmM (D : Int → Prop) (σ : Sg) (κ : Int → Nat) (L : Nat) (l : List Cl) (qs : List (Tm × Tm)) : MR → Prop
  | .yes s => ∃ σ' κ', HR σ' (hOf s.2.1) s.2.1.length κ' D ∧ (∀ i U, Rep σ (hOf l) l.length κ D i U → Rep σ' (hOf s.2.1) s.2.1.length κ' D i U) ∧ s.1 ≤ L ∧ ∀ F ps, L < F → ∃ F', s.1 < F' ∧ meetF F σ L (qs ++ ps) = meetF F' σ' s.1 ps
  | .no x _ _ => (x = -1 ∧ ∀ F ps, L < F → meetF F σ L (qs ++ ps) = .over) ∨ ∃ k : Nat, x = (k : Int) ∧ ∀ F ps, L < F → meetF F σ L (qs ++ ps) = .no k
theorem Rep.end_ {σ : Sg} {h : Nat → Cl} {len : Nat} {κ : Int → Nat} {D : Int → Prop} (H : HR σ h len κ D) {i : Nat} {S : Tm} (r : Rep σ h len κ D i S) (hw : wha σ (wha σ S) = wha σ S) (hp : 0 ≤ (wha σ S).v) : Rep σ h len κ D (endA h len i) (wha σ S) := by
  have he := H.hg.end_end r.lt
  have hl := H.hg.end_lt r.lt
  cases r with
  | var hi h0 hv hD hl' he' => exact .var hl hp (by rw [hw]; exact hv) (by rw [hw]; exact hD) (by rw [hw]; exact hl') (by rw [hw, he]; exact he')
  | fn hi h0 hv hk hnm hn hkids => exact .fn hl hp (by rw [hw]; exact hv) (by rw [he]; exact hk) (by rw [he, hw]; exact hnm) (by rw [he, hw]; exact hn) (fun j hj => by rw [hw] at hj ⊢; rw [he]; exact hkids j hj)
theorem wha_wha {σ : Sg} (hd : Dec σ) {S : Tm} (h0 : 0 ≤ S.v) : wha σ (wha σ S) = wha σ S := by
  by_cases hv : (wha σ S).v = 0
  · exact wha_fn hv
  · exact wha_none (root_of hd h0 hv)
theorem wha_nn {σ : Sg} (hd : Dec σ) {S : Tm} (h0 : 0 ≤ S.v) : 0 ≤ (wha σ S).v := (wha_le hd _ S rfl h0).1
/-- A variable bound on both sides. -/
theorem bd_meet {D : Int → Prop} {σ : Sg} {κ : Int → Nat} {n : Nat} {l : List Cl} {bs : List Nat} (H : HR σ (hOf l) l.length κ D) {X T : Tm} {A B : Nat} (hX0 : X.v ≠ 0) (hXD : D X.v) (hXl : X.len = 0) (hXn : σ X.v = none) (hA : A = κ X.v) (rT : Rep σ (hOf l) l.length κ D B T) (hBe : endA (hOf l) l.length B = B) (hTw : wha σ T = T) (hne : X.v ≠ T.v)
    (hTk : (T.v = 0 ∧ (hOf l B).k = 2) ∨ (T.v ≠ 0 ∧ D T.v ∧ T.len = 0 ∧ σ T.v = none ∧ B = κ T.v)) {qs : List (Tm × Tm)}
    (hm : ∀ F ps, n < F → meetF (F + 1) σ (n + 1) (qs ++ ps) = match within σ X.v n [T] with
        | .over => .over
        | .found k => .no k
        | .free k => meetF F (put σ X T) k ps) : SmM D σ κ (n + 1) l qs (bdH A B (n, l, bs)) := by
  subst hA
  have hXp := H.pos _ hXD
  have hW := within_lkR H hXD hXn n [T] [B] (.cons rT .nil)
  obtain ⟨f1, f2, f3⟩ := H.fr _ hXD hXn
  have hm' : ∀ F ps, n + 1 < F → meetF F σ (n + 1) (qs ++ ps) = match within σ X.v n [T] with
        | .over => .over
        | .found k => .no k
        | .free k => meetF (F - 1) (put σ X T) k ps := fun F ps hF => by
    obtain ⟨F', rfl⟩ : ∃ F', F = F' + 1 := ⟨F - 1, by omega⟩
    exact hm F' ps (by omega)
  unfold bdH
  show SmM D σ κ (n + 1) l qs (match lkL (hOf l) l.length (κ X.v) n [B] with
    | .ok k => .yes (k, bndL l (swB l (κ X.v) B).1 (swB l (κ X.v) B).2, bs ++ [(swB l (κ X.v) B).1])
    | q => .no q.left l bs)
  have hle := (lkL_le (hOf l) l.length (κ X.v) n [B]).1
  have hnr := lkL_not H.hg (H.end_ hXD hXn) n [B]
  cases hlk : lkL (hOf l) l.length (κ X.v) n [B] with
  | over =>
    rw [hlk] at hW
    cases hwi : within σ X.v n [T] with
    | over =>
      refine .inl ⟨rfl, fun F ps hF => ?_⟩
      rw [hm' F ps hF, hwi]
    | found k => rw [hwi] at hW; exact hW.elim
    | free k => rw [hwi] at hW; exact hW.elim
  | hit k =>
    rw [hlk] at hW
    cases hwi : within σ X.v n [T] with
    | over => rw [hwi] at hW; exact hW.elim
    | found k' =>
      rw [hwi] at hW
      obtain rfl : k' = k := hW
      refine .inr ⟨k', rfl, fun F ps hF => ?_⟩
      rw [hm' F ps hF, hwi]
    | free k => rw [hwi] at hW; exact hW.elim
  | ok k =>
    have hkn := hle k hlk
    have hRt : ¬ Rch (hOf l) (κ X.v) B := hnr k hlk B (by simp) rT.lt
    rw [hlk] at hW
    cases hwi : within σ X.v n [T] with
    | over => rw [hwi] at hW; exact hW.elim
    | found k => rw [hwi] at hW; exact hW.elim
    | free k' =>
      rw [hwi] at hW
      obtain rfl : k' = k := hW
      rw [hwi] at hm'
      have fin : ∀ (e c : Nat) (σ' : Sg) (κ' : Int → Nat), e < l.length → swB l (κ X.v) B = (e, c) → put σ X T = σ' → HR σ' (bndH (hOf l) e c) l.length κ' D → (∀ i U, Rep σ (hOf l) l.length κ D i U → Rep σ' (bndH (hOf l) e c) l.length κ' D i U) → SmM D σ κ (n + 1) l qs (.yes (k', bndL l (swB l (κ X.v) B).1 (swB l (κ X.v) B).2, bs ++ [(swB l (κ X.v) B).1])) := by
        intro e c σ' κ' he hs hp hH hR
        rw [hs]
        refine ⟨σ', κ', ?_, ?_, by show k' ≤ n + 1; omega, fun F ps hF => ⟨F - 1, by show k' < F - 1; omega, ?_⟩⟩
        · show HR σ' (hOf (bndL l e c)) (bndL l e c).length κ' D
          rw [bndL_h he, bndL_len]
          exact hH
        · show ∀ i U, _ → Rep σ' (hOf (bndL l e c)) (bndL l e c).length κ' D i U
          rw [bndL_h he, bndL_len]
          exact hR
        · rw [hm' F ps hF]
          show meetF (F - 1) (put σ X T) k' ps = meetF (F - 1) σ' k' ps
          rw [hp]
      rcases hTk with ⟨hT0, hBk⟩ | ⟨hT0, hTD, hTl, hTn, hB⟩
      · refine fin (κ X.v) B (upd σ X.v T) κ f1 (by unfold swB; rw [if_neg (by omega)]) (by unfold put; rw [if_neg (by omega)]) (hr_term H hXD hXn hT0 rT.lt hBk hRt) (fun i U r => rep_termB H hXD hXn hT0 hBe hBk rT hRt r)
      · subst hB
        have hTp := H.pos _ hTD
        obtain ⟨g1, g2, g3⟩ := H.fr _ hTD hTn
        have hκ : κ X.v ≠ κ T.v := fun x => hne (H.ij _ _ hXD hTD hXn hTn x)
        have hsw : ∃ e c, swB l (κ X.v) (κ T.v) = (e, c) ∧ ((e = κ X.v ∧ c = κ T.v) ∨ (e = κ T.v ∧ c = κ X.v)) := by
          unfold swB
          by_cases hlt : (hOf l (κ T.v)).k = 1 ∧ κ X.v < κ T.v
          · exact ⟨κ T.v, κ X.v, if_pos hlt, .inr ⟨rfl, rfl⟩⟩
          · exact ⟨κ X.v, κ T.v, if_neg hlt, .inl ⟨rfl, rfl⟩⟩
        obtain ⟨e, c, hs, hec⟩ := hsw
        have hel : e < l.length := by rcases hec with ⟨rfl, _⟩ | ⟨rfl, _⟩ <;> assumption
        by_cases hlt : X.v < T.v
        · have hec' : (e = κ T.v ∧ c = κ X.v) ∨ (e = κ X.v ∧ c = κ T.v) := hec.symm
          exact fin e c (upd σ T.v X) (κput κ X.v c) hel hs (by unfold put; rw [if_pos hlt]) (hr_vars H hTD hXD hTn hXn hlt rfl hec') (fun i U r => rep_vars H hTD hXD hTn hXn hlt rfl hXl hec' r)
        · exact fin e c (upd σ X.v T) (κput κ T.v c) hel hs (by unfold put; rw [if_neg hlt]) (hr_vars H hXD hTD hXn hTn (by omega) rfl hec) (fun i U r => rep_vars H hXD hTD hXn hTn (by omega) rfl hTl hec r)
theorem SmM.trans {D : Int → Prop} {σ σ' : Sg} {κ κ' : Int → Nat} {L : Nat} {l : List Cl} {q1 q2 : List (Tm × Tm)} {s : MS} (hR : ∀ i U, Rep σ (hOf l) l.length κ D i U → Rep σ' (hOf s.2.1) s.2.1.length κ' D i U) (hle : s.1 ≤ L) (hm : ∀ F ps, L < F → ∃ F', s.1 < F' ∧ meetF F σ L (q1 ++ ps) = meetF F' σ' s.1 ps) {r : MR} (h2 : SmM D σ' κ' s.1 s.2.1 q2 r) : SmM D σ κ L l (q1 ++ q2) r := by
  cases r with
  | yes s2 =>
    obtain ⟨σ2, κ2, H2, R2, le2, m2⟩ := h2
    refine ⟨σ2, κ2, H2, fun i U r => R2 i U (hR i U r), by omega, fun F ps hF => ?_⟩
    obtain ⟨F', h1, e1⟩ := hm F (q2 ++ ps) hF
    obtain ⟨F2, h2, e2⟩ := m2 F' ps h1
    exact ⟨F2, h2, by rw [List.append_assoc, e1, e2]⟩
  | no x l2 b2 =>
    rcases h2 with ⟨hx, h2⟩ | ⟨k, hx, h2⟩
    · refine .inl ⟨hx, fun F ps hF => ?_⟩
      obtain ⟨F', h1, e1⟩ := hm F (q2 ++ ps) hF
      rw [List.append_assoc, e1, h2 F' ps h1]
    · refine .inr ⟨k, hx, fun F ps hF => ?_⟩
      obtain ⟨F', h1, e1⟩ := hm F (q2 ++ ps) hF
      rw [List.append_assoc, e1, h2 F' ps h1]
theorem SmM.more {D : Int → Prop} {σ : Sg} {κ : Int → Nat} {L : Nat} {l : List Cl} {q1 q2 : List (Tm × Tm)} {x : Int} {l' : List Cl} {bs' : List Nat} (h : SmM D σ κ L l q1 (.no x l' bs')) : SmM D σ κ L l (q1 ++ q2) (.no x l' bs') := by
  rcases h with ⟨hx, h⟩ | ⟨k, hx, h⟩
  · exact .inl ⟨hx, fun F ps hF => by rw [List.append_assoc]; exact h F _ hF⟩
  · exact .inr ⟨k, hx, fun F ps hF => by rw [List.append_assoc]; exact h F _ hF⟩
def SmI (D : Int → Prop) (f : Nat) : Prop := ∀ (a b L : Nat) (l : List Cl) (bs : List Nat) (σ : Sg) (κ : Int → Nat) (S T : Tm), L < f → HR σ (hOf l) l.length κ D → Rep σ (hOf l) l.length κ D a S → Rep σ (hOf l) l.length κ D b T → SmM D σ κ L l [(S, T)] (smH f a b (L, l, bs))
theorem sm_kids {D : Int → Prop} {f : Nat} (ih : SmI D f) {A B L N : Nat} {l : List Cl} {bs : List Nat} {σ : Sg} {κ : Int → Nat} {X Y : Tm} (hL : L < f) (H : HR σ (hOf l) l.length κ D) (hN : X.len = N)
    (rX : ∀ j, j < N → Rep σ (hOf l) l.length κ D (A + 1 + j) (X.f j)) (rY : ∀ j, j < N → Rep σ (hOf l) l.length κ D (B + 1 + j) (Y.f j)) :
    ∀ k, k ≤ N → SmM D σ κ L l ((zipK X Y).take k) (smK (smH f) A B k (L, l, bs)) := by
  intro k
  induction k with
  | zero => intro _; exact ⟨σ, κ, H, fun i U r => r, Nat.le_refl _, fun F ps hF => ⟨F, hF, rfl⟩⟩
  | succ k ik =>
    intro hk
    have h1 := ik (by omega)
    have htk : (zipK X Y).take (k + 1) = (zipK X Y).take k ++ [(X.f k, Y.f k)] := by
      unfold zipK
      rw [hN, List.take_add_one, List.getElem?_map, List.getElem?_range (show k < N by omega)]
      rfl
    rw [htk]
    show SmM D σ κ L l _ (match smK (smH f) A B k (L, l, bs) with | .yes s' => smH f (A + 1 + k) (B + 1 + k) s' | r => r)
    cases hs : smK (smH f) A B k (L, l, bs) with
    | yes s =>
      rw [hs] at h1
      obtain ⟨σ', κ', H', R', le', m'⟩ := h1
      exact SmM.trans R' le' m' (ih (A + 1 + k) (B + 1 + k) s.1 s.2.1 s.2.2 σ' κ' (X.f k) (Y.f k) (by omega) H' (R' _ _ (rX k (by omega))) (R' _ _ (rY k (by omega))))
    | no x l' bs' =>
      rw [hs] at h1
      exact h1.more
theorem sm_step {D : Int → Prop} {f : Nat} (ih : SmI D f) : SmI D (f + 1) := by
  intro a b L l bs σ κ S T hL H rS rT
  cases L with
  | zero =>
    refine .inl ⟨rfl, fun F ps hF => ?_⟩
    obtain ⟨F', rfl⟩ : ∃ F', F = F' + 1 := ⟨F - 1, by omega⟩
    rfl
  | succ n =>
    show SmM D σ κ (n + 1) l [(S, T)] (smE (smH f) (endA (hOf l) l.length a) (endA (hOf l) l.length b) (n, l, bs))
    have hS0 := rS.nn
    have hT0 := rT.nn
    have rSe := rS.end_ H (wha_wha H.dec hS0) (wha_nn H.dec hS0)
    have rTe := rT.end_ H (wha_wha H.dec hT0) (wha_nn H.dec hT0)
    have hAe := H.hg.end_end rS.lt
    have hBe := H.hg.end_end rT.lt
    unfold smE
    show SmM D σ κ (n + 1) l [(S, T)] (if (hOf l (endA (hOf l) l.length a)).k = 1 ∧ endA (hOf l) l.length a = endA (hOf l) l.length b then .yes (n, l, bs)
      else if (hOf l (endA (hOf l) l.length a)).k = 1 then bdH (endA (hOf l) l.length a) (endA (hOf l) l.length b) (n, l, bs)
      else if (hOf l (endA (hOf l) l.length b)).k = 1 then bdH (endA (hOf l) l.length b) (endA (hOf l) l.length a) (n, l, bs)
      else if ¬ ((hOf l (endA (hOf l) l.length a)).n = (hOf l (endA (hOf l) l.length b)).n ∧ (hOf l (endA (hOf l) l.length a)).nm.toList = (hOf l (endA (hOf l) l.length b)).nm.toList) then .no n l bs
      else smK (smH f) (endA (hOf l) l.length a) (endA (hOf l) l.length b) (hOf l (endA (hOf l) l.length a)).n.toNat (n, l, bs))
    have one : ∀ (F : Nat) (ps : List (Tm × Tm)), [(S, T)] ++ ps = (S, T) :: ps := fun _ _ => rfl
    cases rS with
    | var hi h0 hv hD hl he =>
      have hSn := root_of H.dec h0 hv
      have hAk : (hOf l (endA (hOf l) l.length a)).k = 1 := by rw [he]; exact (H.fr _ hD hSn).2.1
      cases rT with
      | var hi' h0' hv' hD' hl' he' =>
        have hTn := root_of H.dec h0' hv'
        by_cases hAB : endA (hOf l) l.length a = endA (hOf l) l.length b
        · have huv : (wha σ S).v = (wha σ T).v := H.ij _ _ hD hD' hSn hTn (by rw [← he, ← he']; exact hAB)
          rw [if_pos ⟨hAk, hAB⟩]
          refine ⟨σ, κ, H, fun i U r => r, by show n ≤ n + 1; omega, fun F ps hF => ?_⟩
          obtain ⟨F', rfl⟩ : ∃ F', F = F' + 1 := ⟨F - 1, by omega⟩
          exact ⟨F', by show n < F'; omega, meet_var hv huv⟩
        · have huv : (wha σ S).v ≠ (wha σ T).v := fun e => hAB (by rw [he, he', e])
          rw [if_neg (fun c => hAB c.2), if_pos hAk]
          exact bd_meet H hv hD hl hSn he rTe hBe (wha_wha H.dec h0') huv (.inr ⟨hv', hD', hl', hTn, he'⟩) (fun F ps hF => meet_left hv huv)
      | fn hi' h0' hv' hk' hnm' hn' hkids' =>
        have hAB : ¬ endA (hOf l) l.length a = endA (hOf l) l.length b := fun e => by rw [e] at hAk; omega
        have huv : (wha σ S).v ≠ (wha σ T).v := by omega
        rw [if_neg (fun c => hAB c.2), if_pos hAk]
        exact bd_meet H hv hD hl hSn he rTe hBe (wha_wha H.dec h0') huv (.inl ⟨hv', hk'⟩) (fun F ps hF => meet_left hv huv)
    | fn hi h0 hv hk hnm hn hkids =>
      have hAk : ¬ (hOf l (endA (hOf l) l.length a)).k = 1 := by omega
      cases rT with
      | var hi' h0' hv' hD' hl' he' =>
        have hTn := root_of H.dec h0' hv'
        have hBk : (hOf l (endA (hOf l) l.length b)).k = 1 := by rw [he']; exact (H.fr _ hD' hTn).2.1
        rw [if_neg (fun c => hAk c.1), if_neg hAk, if_pos hBk]
        exact bd_meet H hv' hD' hl' hTn he' rSe hAe (wha_wha H.dec h0) (by omega) (.inl ⟨hv, hk⟩) (fun F ps hF => meet_right hv hv')
      | fn hi' h0' hv' hk' hnm' hn' hkids' =>
        have hBk : ¬ (hOf l (endA (hOf l) l.length b)).k = 1 := by omega
        rw [if_neg (fun c => hAk c.1), if_neg hAk, if_neg hBk]
        by_cases hsame : (wha σ S).nm.toList = (wha σ T).nm.toList ∧ (wha σ S).len = (wha σ T).len
        · rw [if_neg (fun c => c ⟨by rw [hn, hn', hsame.2], by rw [hnm, hnm', hsame.1]⟩), hn, Int.toNat_natCast]
          have hK := sm_kids (bs := bs) ih (show n < f by omega) H (X := wha σ S) (Y := wha σ T) rfl hkids (fun j hj => hkids' j (by omega)) (wha σ S).len (Nat.le_refl _)
          have hz : (zipK (wha σ S) (wha σ T)).take (wha σ S).len = zipK (wha σ S) (wha σ T) := List.take_of_length_le (by unfold zipK; simp)
          rw [hz] at hK
          generalize smK (smH f) (endA (hOf l) l.length a) (endA (hOf l) l.length b) (wha σ S).len (n, l, bs) = r at hK
          have hon : ∀ F ps, n + 1 < F → meetF F σ (n + 1) ([(S, T)] ++ ps) = meetF (F - 1) σ n (zipK (wha σ S) (wha σ T) ++ ps) := fun F ps hF => by
            obtain ⟨F', rfl⟩ : ∃ F', F = F' + 1 := ⟨F - 1, by omega⟩
            exact meet_on hv hv' hsame.1 hsame.2
          cases r with
          | yes s =>
            obtain ⟨σ', κ', H', R', le', m'⟩ := hK
            refine ⟨σ', κ', H', R', by omega, fun F ps hF => ?_⟩
            obtain ⟨F', h1, e1⟩ := m' (F - 1) ps (by omega)
            exact ⟨F', h1, by rw [hon F ps hF, e1]⟩
          | no x l' bs' =>
            rcases hK with ⟨hx, hK⟩ | ⟨k, hx, hK⟩
            · exact .inl ⟨hx, fun F ps hF => by rw [hon F ps hF, hK _ _ (by omega)]⟩
            · exact .inr ⟨k, hx, fun F ps hF => by rw [hon F ps hF, hK _ _ (by omega)]⟩
        · rw [if_pos (fun c => hsame ⟨by rw [← hnm, ← hnm']; exact c.2, by have := c.1; rw [hn, hn'] at this; omega⟩)]
          refine .inr ⟨n, rfl, fun F ps hF => ?_⟩
          obtain ⟨F', rfl⟩ : ∃ F', F = F' + 1 := ⟨F - 1, by omega⟩
          exact meet_off hv hv' hsame
theorem sm_meet (D : Int → Prop) : ∀ f, SmI D f := by
  intro f
  induction f with
  | zero => intro a b L l bs σ κ S T hL; exact absurd hL (Nat.not_lt_zero L)
  | succ f ih => exact sm_step ih
end Go.Proofs.Ytmggaclaoefdaaa

namespace Go.Proofs.Ytmggaclaoefdaaa
open Go.RowKit
set_option linter.unusedVariables false
set_option linter.unusedSimpArgs false

theorem okv_ofcan {N : Int} {T : Tm} (h : Okv N (can T)) (hT : ∃ w, TIn w T) : Okv N T := by
  induction T with
  | nil => obtain ⟨w, hT⟩ := hT; exact hT.elim
  | mk v nm a len cap f ih =>
    obtain ⟨w, hT⟩ := hT
    refine ⟨h.1, h.2.1, h.2.2.1, h.2.2.2.1, fun i hi => ih i ?_ ⟨w, (hT.2.2 i hi).2⟩⟩
    have h9 : Okv N (if i < len then can (f i) else .nil) := h.2.2.2.2 i hi
    rw [if_pos hi] at h9
    exact h9
theorem kept_none (v : Value) : v.ownBlock = none ∨ v.ownBlock ≠ none := by
  cases v.ownBlock with
  | none => exact .inl rfl
  | some g => exact .inr (by simp)
end Go.Proofs.Ytmggaclaoefdaaa
