/- The closure by which Whole goes on, with the function that numbers. A term through and through, by what its variables are: over terms alone. Whole, with the function that numbers: of all terms. -/
import Derived.Test.YtmggaclaoefdaaaGW
import Derived.Test.YtmggaclaoefdaaaGJ
import Derived.Test.YtmggaclaoefdaaaGH
namespace Go.Proofs.Ytmggaclaoefdaaa
open Go.RowKit

/-- What Whole's closure tells, seen from the world wF. -/
def numT (wF : World) (k : Nat) (σ : Sg) (d : Nat) : Tell where
  S := List Int
  I := fun s w => NumIs w k s ∧ Bw (fun q => q = k) wF.heap.size wF w
  nx := fun s v => addV s (vsT (ex σ d (vT v)))
  le := fun s s' => s <+: s'
  O := fun s v => ap (nmOf (num s)) (ex σ d (vT v))
  M := fun q => q = k
  B := wF.heap.size
theorem numT_ok {wF : World} {k : Nat} (hk : k < wF.heap.size) (σ : Sg) (d : Nat) : TellOk (numT wF k σ d) :=
  ⟨fun s => List.prefix_refl s, fun _ _ _ h1 h2 => h1.trans h2, fun s _ => addV_pre _ s, fun _ _ _ h hb => ⟨h.1.kept (hb.block k hk), h.2.trans (Bw.ofBelow hb)⟩, fun q (h : q = k) => h ▸ hk⟩
/-- Whole of what a variable is, with numbers. -/
def WN (k o b m : Nat) (tv : Value) (lo n : Nat) (σ : Sg) (L : Int) (d : Nat) (T : Tm) : Prop := ∀ (s : List Int) (w : World), NumIs w k s → VS w b m tv 1000000 lo n σ L → w.heap[o]? = some (.cells #[.map (some k)] 124) → Okv 1000000 T → TIn w T → NB k T → Fin σ d T →
    Calls Try.prog 97 #[.pointer (some ⟨b, 0, none⟩), T.val, .func (.func 137) #[] #[.pointer (some ⟨o, 0, none⟩)]] w (XQ (fun q => q = k) w (fun X w' => NumIs w' k (addV s (vsT (ex σ d T))) ∧ ∀ s', addV s (vsT (ex σ d T)) <+: s' → can X = ap (nmOf (num s')) (ex σ d T)))
set_option maxRecDepth 100000 in
set_option maxHeartbeats 2000000 in
theorem whole1_num {wF : World} {k o b m pv pn : Nat} {tv : Value} {lo n : Nat} {σ : Sg} {L : Int} {d : Nat} {v : Int} (hp : 0 < v) (hN : v ≤ 1000000) (hS : VS wF b m tv 1000000 lo n σ L) (hkb : k ≠ b ∧ k ≠ m ∧ ∀ g, tv.ownBlock = some g → g ≠ k) (hσk : ∀ u T, σ u = some T → NB k T) (hpv : wF.heap[pv]? = some (.cells #[.pointer (some ⟨b, 0, none⟩)] 89)) (hpn : wF.heap[pn]? = some (.cells #[.func (.func 137) #[] #[.pointer (some ⟨o, 0, none⟩)]] 116)) (ho : wF.heap[o]? = some (.cells #[.map (some k)] 124)) (hne : pv ≠ k ∧ pn ≠ k ∧ o ≠ k) (hF : Fin σ (d + 1) (vT v)) (hW : ∀ U, σ v = some U → WN k o b m tv lo n σ L (d + 1) U) :
    TC (numT wF k σ (d + 1)) 121 #[.pointer (some ⟨pv, 0, none⟩), .pointer (some ⟨pn, 0, none⟩)] v := by
  intro s W hB hI
  have hv : v ≠ 0 := by omega
  have h0 : 0 ≤ v := by omega
  obtain ⟨hN1, hbw⟩ : NumIs W k s ∧ Bw (fun q => q = k) wF.heap.size wF W := hI
  have hSW : VS W b m tv 1000000 lo n σ L := hS.bw hbw (Nat.le_refl _) hkb.1 hkb.2.1 hkb.2.2 hσk
  have HSW : Hid (VS W b m tv 1000000 lo n σ L) := hSW
  have hbl : ∀ q, q ≠ k → q < wF.heap.size → W.heap[q]? = wF.heap[q]? := fun q h1 h2 => hbw.block q h2 h1
  have HPv : Hid (W.heap[pv]? = some (.cells #[.pointer (some ⟨b, 0, none⟩)] 89)) := (hbl pv hne.1 (Array.getElem?_eq_some_iff.1 hpv).1).trans hpv
  have HPn : Hid (W.heap[pn]? = some (.cells #[.func (.func 137) #[] #[.pointer (some ⟨o, 0, none⟩)]] 116)) := (hbl pn hne.2.1 (Array.getElem?_eq_some_iff.1 hpn).1).trans hpn
  have HPo : Hid (W.heap[o]? = some (.cells #[.map (some k)] 124)) := (hbl o hne.2.2 (Array.getElem?_eq_some_iff.1 ho).1).trans ho
  have HNk : Hid (NumIs W k s) := hN1
  have HBw : Hid (Bw (fun q => q = k) wF.heap.size wF W) := hbw
  have HOk : Hid (o ≠ k) := hne.2.2
  obtain ⟨v0, _, _, _, _, _⟩ := block_cells hSW.blk
  obtain ⟨mo, hmo, hMW⟩ := hSW.map.looks
  have HBZ : Hid (Below W.heap.size W (W.alloc (.cells #[.int .i64 0, .string ⟨#[]⟩, .slice none 0 0] 24))) := (Below.refl _ _).alloc (Nat.le_refl _) _
  have hpvl : pv < W.heap.size := (Array.getElem?_eq_some_iff.1 HPv.out).1
  have hpnl : pn < W.heap.size := (Array.getElem?_eq_some_iff.1 HPn.out).1
  have q0 : (W.alloc (.cells #[.int .i64 0, .string ⟨#[]⟩, .slice none 0 0] 24)).cell? ⟨pv, 0, none⟩ = some (.pointer (some ⟨b, 0, none⟩)) := by rw [HBZ.out.cell (p := ⟨pv, 0, none⟩) hpvl]; simp [World.cell?, HPv.out]
  have q1 : (W.alloc (.cells #[.int .i64 0, .string ⟨#[]⟩, .slice none 0 0] 24)).cell? ⟨b, 0, none⟩ = some (.map (some m)) := (HBZ.out.cell (lt_of_cell v0)).trans v0
  have hoz : (W.alloc (.cells #[.int .i64 0, .string ⟨#[]⟩, .slice none 0 0] 24)).heap[m]? = some mo := (HBZ.out.block m hSW.map.lt).trans hmo
  have HZ : Hid ((W.alloc (.cells #[.int .i64 0, .string ⟨#[]⟩, .slice none 0 0] 24)).heap[W.heap.size]? = some (.cells #[.int .i64 0, .string ⟨#[]⟩, .slice none 0 0] 24)) := heap_alloc_new W _
  have hkW := hN1.lt
  cases hsv : σ v with
  | none =>
    have hl := ((hMW _ hoz).look h0 hN).2 hsv
    have hex : ex σ (d + 1) (vT v) = .mk v ⟨#[]⟩ none 0 0 (fun _ => .nil) := by
      rw [ex, wha_none (T := vT v) hsv, if_neg (show ¬ (vT v).v = 0 from hv)]; rfl
    have hvs : vsT (ex σ (d + 1) (vT v)) = [v] := by rw [hex, vsT, if_neg hv]
    have HVs : Hid (vsT (ex σ (d + 1) (vT v)) = [v]) := hvs
    have HEx : Hid (ex σ (d + 1) (vT v) = .mk v ⟨#[]⟩ none 0 0 (fun _ => .nil)) := hex
    have HFn : Hid (∀ W2, Below W.heap.size W W2 → Calls Try.prog 137 #[.int .i64 v, .pointer (some ⟨o, 0, none⟩)] W2 fun e w' => e = .returned (.int .i64 (num (addV s [v]) v)) ∧ NumIs w' k (addV s [v]) ∧ W2.grownBy w' (some k)) := fun W2 hW2 => found1_any v W2 ((hW2.block o (Array.getElem?_eq_some_iff.1 HPo.out).1).trans HPo.out) (HNk.out.kept (hW2.block k hkW)) HOk.out hp hN
    have q2 : (W.alloc (.cells #[.int .i64 0, .string ⟨#[]⟩, .slice none 0 0] 24)).cell? ⟨pn, 0, none⟩ = some (.func (.func 137) #[] #[.pointer (some ⟨o, 0, none⟩)]) := by rw [HBZ.out.cell (p := ⟨pn, 0, none⟩) hpnl]; simp [World.cell?, HPn.out]
    clear hsv hMW hex hvs hSW hN1 hbw hbl hW hS hpv hpn ho hne hF hσk hkb
    show Calls Try.prog 121 #[.int .i64 v, .pointer (some ⟨pv, 0, none⟩), .pointer (some ⟨pn, 0, none⟩)] W _
    go_enter Try.func121, Try.ntmps121
    go_wp2_with fail
    have HB2 : Hid (Below W.heap.size W ((W.alloc (.cells #[.int .i64 0, .string ⟨#[]⟩, .slice none 0 0] 24)).alloc (.cells #[.int .i64 0, .string ⟨#[]⟩, .slice none 0 0] 24))) := ((Below.refl _ _).alloc (Nat.le_refl _) _).alloc (by simp) _
    have HZ2 : Hid (((W.alloc (.cells #[.int .i64 0, .string ⟨#[]⟩, .slice none 0 0] 24)).alloc (.cells #[.int .i64 0, .string ⟨#[]⟩, .slice none 0 0] 24)).heap[W.heap.size]? = some (.cells #[.int .i64 0, .string ⟨#[]⟩, .slice none 0 0] 24)) := by rw [Hid, heap_alloc_old _ _ (by simp)]; exact HZ.out
    refine (HFn.out _ HB2.out).mono ?_
    rintro e w1 ⟨rfl, hn1, hg1⟩
    have HN1 : Hid (NumIs w1 k (addV s [v])) := hn1
    have HX3 : Hid (w1.heap[W.heap.size]? = some (.cells #[.int .i64 0, .string ⟨#[]⟩, .slice none 0 0] 24)) := (hg1.block _ (Array.getElem?_eq_some_iff.1 HZ2.out).1 (by simp; omega)).trans HZ2.out
    have HB3 : Hid (Bw (fun q => q = k) W.heap.size W w1) := (Bw.ofBelow HB2.out).grown hg1 HB2.out.size (fun q hq => .inr (Option.some.inj hq).symm)
    clear hn1 hg1 hl q0 q1 q2 v0
    obtain ⟨x0, x1, x2, f0, f1, f2⟩ := block_cells HX3.out
    generalize hnum : num (addV s [v]) v = nv at *
    go_wp2_with fail
    obtain ⟨W', hW', z0, z1, z2, hB', hgr⟩ := fin3b (r := W.heap.size) (Nat.le_refl _) HX3.out HB3.out (.int .i64 nv) (.string ⟨#[]⟩) (.slice none 0 0)
    rw [hW']
    have hbb : Below W.heap.size w1 W' := (Below.refl _ _).grown hgr HB3.out.size (fun q hq => by have := Option.some.inj hq; omega)
    have hbF : Bw (fun q => q = k) wF.heap.size wF W' := HBw.out.trans (hB'.mono hB)
    refine bodyPost_ret (v := (vT nv).val) ?_ rfl ⟨vT nv, rfl, hB', ?_, vT_in _ _, ⟨fun h => absurd h (Nat.lt_irrefl 0), fun i hi => absurd hi (Nat.not_lt_zero i)⟩, fun s'' hs'' => ?_⟩
    · simp [results, Try.results121, go_sem, z0, z1, z2, Tm.val, vT, Tm.v, Tm.nm, Tm.a, Tm.len, Tm.cap]
    · show NumIs W' k (addV s (vsT (ex σ (d + 1) (vT v)))) ∧ _
      rw [HVs.out]
      exact ⟨HN1.out.kept (hbb.block k hkW), hbF⟩
    · have hs2 : addV s (vsT (ex σ (d + 1) (vT v))) <+: s'' := hs''
      rw [HVs.out] at hs2
      show can (vT nv) = ap (nmOf (num s'')) (ex σ (d + 1) (vT v))
      rw [HEx.out, ap, if_neg hv, ← hnum]
      show _ = can (vT (num s'' v))
      rw [num_pre hs2 (addV_mem [v] s v (by simp))]
  | some U =>
    have hl := ((hMW _ hoz).look h0 hN).1 U hsv
    obtain ⟨hTU, hOU, _⟩ := HSW.out.trm _ _ hsv
    obtain ⟨hex, hfin⟩ := ex_bound HSW.out.dec (T := vT v) h0 hv hsv (d + 1)
    have HEx : Hid (ex σ (d + 1) (vT v) = ex σ (d + 1) U) := hex
    have HCU : Hid (∀ W2, Below W.heap.size W W2 → Calls Try.prog 97 #[.pointer (some ⟨b, 0, none⟩), .agg #[.int .i64 U.v, .string U.nm, .slice U.a U.len U.cap], .func (.func 137) #[] #[.pointer (some ⟨o, 0, none⟩)]] W2 (XQ (fun q => q = k) W2 (fun X w' => NumIs w' k (addV s (vsT (ex σ (d + 1) U))) ∧ ∀ s', addV s (vsT (ex σ (d + 1) U)) <+: s' → can X = ap (nmOf (num s')) (ex σ (d + 1) U)))) := fun W2 hW2 => hW U hsv s W2 (HNk.out.kept (hW2.block k hkW)) (HSW.out.below hW2) ((hW2.block o (Array.getElem?_eq_some_iff.1 HPo.out).1).trans HPo.out) hOU (hTU.below hW2) (hσk v U hsv) (hfin hF)
    have r0' : ((W.alloc (.cells #[.int .i64 0, .string ⟨#[]⟩, .slice none 0 0] 24)).alloc (.cells #[.int .i64 U.v, .string U.nm, .slice U.a U.len U.cap] 24)).cell? ⟨pv, 0, none⟩ = some (.pointer (some ⟨b, 0, none⟩)) := (((Below.refl _ _).alloc (Nat.le_refl _) _).cell (B := (W.alloc (.cells #[.int .i64 0, .string ⟨#[]⟩, .slice none 0 0] 24)).heap.size) (p := ⟨pv, 0, none⟩) (by simp; omega)).trans q0
    have q2 : (W.alloc (.cells #[.int .i64 0, .string ⟨#[]⟩, .slice none 0 0] 24)).cell? ⟨pn, 0, none⟩ = some (.func (.func 137) #[] #[.pointer (some ⟨o, 0, none⟩)]) := by rw [HBZ.out.cell (p := ⟨pn, 0, none⟩) hpnl]; simp [World.cell?, HPn.out]
    have r1' : ((W.alloc (.cells #[.int .i64 0, .string ⟨#[]⟩, .slice none 0 0] 24)).alloc (.cells #[.int .i64 U.v, .string U.nm, .slice U.a U.len U.cap] 24)).cell? ⟨pn, 0, none⟩ = some (.func (.func 137) #[] #[.pointer (some ⟨o, 0, none⟩)]) := (((Below.refl _ _).alloc (Nat.le_refl _) _).cell (B := (W.alloc (.cells #[.int .i64 0, .string ⟨#[]⟩, .slice none 0 0] 24)).heap.size) (p := ⟨pn, 0, none⟩) (by simp; omega)).trans q2
    clear hsv hMW hex hfin hTU hOU hSW hN1 hbw hbl hW hS hpv hpn ho hne hF hσk hkb
    show Calls Try.prog 121 #[.int .i64 v, .pointer (some ⟨pv, 0, none⟩), .pointer (some ⟨pn, 0, none⟩)] W _
    go_enter Try.func121, Try.ntmps121
    go_wp2_with fail
    have HB2 : Hid (Below W.heap.size W ((W.alloc (.cells #[.int .i64 0, .string ⟨#[]⟩, .slice none 0 0] 24)).alloc (.cells #[.int .i64 U.v, .string U.nm, .slice U.a U.len U.cap] 24))) := ((Below.refl _ _).alloc (Nat.le_refl _) _).alloc (by simp) _
    have HZ2 : Hid (((W.alloc (.cells #[.int .i64 0, .string ⟨#[]⟩, .slice none 0 0] 24)).alloc (.cells #[.int .i64 U.v, .string U.nm, .slice U.a U.len U.cap] 24)).heap[W.heap.size]? = some (.cells #[.int .i64 0, .string ⟨#[]⟩, .slice none 0 0] 24)) := by rw [Hid, heap_alloc_old _ _ (by simp)]; exact HZ.out
    have hszA : W.heap.size < ((W.alloc (.cells #[.int .i64 0, .string ⟨#[]⟩, .slice none 0 0] 24)).alloc (.cells #[.int .i64 U.v, .string U.nm, .slice U.a U.len U.cap] 24)).heap.size := (Array.getElem?_eq_some_iff.1 HZ2.out).1
    refine (HCU.out _ HB2.out).mono ?_
    rintro e w1 ⟨X, rfl, hb1, hX1, hA1, hQ1⟩
    have HX3 : Hid (w1.heap[W.heap.size]? = some (.cells #[.int .i64 0, .string ⟨#[]⟩, .slice none 0 0] 24)) := (hb1.block _ hszA (by omega)).trans HZ2.out
    have HB3 : Hid (Bw (fun q => q = k) W.heap.size W w1) := (Bw.ofBelow HB2.out).trans (hb1.mono HB2.out.size)
    have HXX : Hid (TIn w1 X ∧ NB W.heap.size X ∧ Above W.heap.size X ∧ NumIs w1 k (addV s (vsT (ex σ (d + 1) U))) ∧ ∀ s', addV s (vsT (ex σ (d + 1) U)) <+: s' → can X = ap (nmOf (num s')) (ex σ (d + 1) U)) := ⟨hX1, hA1.nb hszA, hA1.mono HB2.out.size, hQ1.1, hQ1.2⟩
    clear hb1 hX1 hA1 hQ1 hl q0 q1 q2 r0' r1' v0
    obtain ⟨x0, x1, x2, f0, f1, f2⟩ := block_cells HX3.out
    rw [show X.val = .agg #[.int .i64 X.v, .string X.nm, .slice X.a X.len X.cap] from rfl]
    go_wp2_with fail
    obtain ⟨W', hW', z0, z1, z2, hB', hgr⟩ := fin3b (r := W.heap.size) (Nat.le_refl _) HX3.out HB3.out (.int .i64 X.v) (.string X.nm) (.slice X.a X.len X.cap)
    rw [hW']
    have hT' : TIn W' X := HXX.out.1.grown hgr (fun q hq => by obtain rfl := Option.some.inj hq; exact HXX.out.2.1)
    have hbb : Below W.heap.size w1 W' := (Below.refl _ _).grown hgr HB3.out.size (fun q hq => by have := Option.some.inj hq; omega)
    have hbF : Bw (fun q => q = k) wF.heap.size wF W' := HBw.out.trans (hB'.mono hB)
    refine bodyPost_ret (v := X.val) ?_ rfl ⟨X, rfl, hB', ?_, hT', HXX.out.2.2.1, fun s'' hs'' => ?_⟩
    · simp [results, Try.results121, go_sem, z0, z1, z2, Tm.val]
    · show NumIs W' k (addV s (vsT (ex σ (d + 1) (vT v)))) ∧ _
      rw [HEx.out]
      exact ⟨HXX.out.2.2.2.1.kept (hbb.block k hkW), hbF⟩
    · have hs2 : addV s (vsT (ex σ (d + 1) (vT v))) <+: s'' := hs''
      rw [HEx.out] at hs2
      show can X = ap (nmOf (num s'')) (ex σ (d + 1) (vT v))
      rw [HEx.out]
      exact HXX.out.2.2.2.2 s'' hs2
end Go.Proofs.Ytmggaclaoefdaaa

namespace Go.Proofs.Ytmggaclaoefdaaa
open Go.RowKit

/-- Of a variable only its number counts. -/
theorem ex_v {σ : Sg} {T : Tm} (hv : T.v ≠ 0) (d : Nat) : ex σ d T = ex σ d (vT T.v) ∧ (Fin σ d T → Fin σ d (vT T.v)) := by
  cases d with
  | zero => exact ⟨rfl, fun h => h⟩
  | succ d =>
    cases hs : σ T.v with
    | none =>
      have e1 : wha σ T = T := wha_none hs
      have e2 : wha σ (vT T.v) = vT T.v := wha_none (T := vT T.v) hs
      refine ⟨?_, fun _ i hi => ?_⟩
      · rw [ex, ex, e1, e2, if_neg hv, if_neg (show ¬ (vT T.v).v = 0 from hv)]; rfl
      · rw [e2] at hi; exact absurd hi (Nat.not_lt_zero i)
    | some U =>
      have e : wha σ T = wha σ (vT T.v) := by
        unfold wha
        show wh σ (T.v.toNat + 1) T = wh σ (T.v.toNat + 1) (vT T.v)
        rw [wh, wh, if_neg hv, if_neg (show ¬ (vT T.v).v = 0 from hv), hs, show σ (vT T.v).v = some U from hs]
      refine ⟨by rw [ex, ex, e], fun hF i hi => ?_⟩
      rw [← e] at hi ⊢
      exact hF i hi
theorem vsT_eq {T U : Tm} (h : can T = can U) : vsT T = vsT U := by rw [← vsT_can T, ← vsT_can U, h]
theorem ap_eq {θ : Int → Tm} {T U : Tm} (h : can T = can U) : ap θ T = ap θ U := by rw [← ap_can θ T, ← ap_can θ U, h]
theorem map_flat {α β : Type} (f : α → List β) (l : List (List α)) : ((l.flatten).map f).flatten = (l.map fun x => (x.map f).flatten).flatten := by
  induction l with
  | nil => rfl
  | cons x l ih => simp only [List.flatten_cons, List.map_append, List.flatten_append, List.map_cons, ih]
/-- A term through and through: its variables, and what is put in for them. -/
theorem ex_parts {σ : Sg} {D : Nat} (θ : Int → Tm) : ∀ (d : Nat) (T : Tm), Fin σ d T → (∀ v ∈ vsT T, Fin σ D (vT v)) →
    vsT (ex σ d T) = ((vsT T).map fun v => vsT (ex σ D (vT v))).flatten ∧ ap (fun v => ap θ (ex σ D (vT v))) T = ap θ (ex σ d T) := by
  intro d
  induction d with
  | zero => intro T h; exact h.elim
  | succ d ih =>
    intro T hF hV
    by_cases hv : T.v = 0
    · have e : wha σ T = T := wha_fn hv
      have hx : ex σ (d + 1) T = .mk 0 T.nm none T.len 0 (fun i => ex σ d (T.f i)) := by rw [ex, e, if_pos hv]
      have hk : ∀ i, i < T.len → Fin σ d (T.f i) := fun i hi => by
        have := hF i (by rw [e]; exact hi)
        rwa [e] at this
      have hvk : ∀ i, i < T.len → ∀ v ∈ vsT (T.f i), Fin σ D (vT v) := fun i hi v h => hV v (by
        rw [vsT_fn hv]
        exact List.mem_flatten.2 ⟨_, List.mem_map.2 ⟨i, List.mem_range.2 hi, rfl⟩, h⟩)
      constructor
      · rw [hx, vsT, if_pos rfl, vsT_fn hv, upV, map_flat, List.map_map]
        congr 1
        apply List.map_congr_left
        intro i hi
        have hi := List.mem_range.1 hi
        exact (ih (T.f i) (hk i hi) (hvk i hi)).1
      · rw [hx, ap_fn _ hv, ap, if_pos rfl]
        congr 1
        funext i
        by_cases hi : i < T.len
        · rw [if_pos hi, if_pos hi]; exact (ih (T.f i) (hk i hi) (hvk i hi)).2
        · rw [if_neg hi, if_neg hi]
    · have hvs : vsT T = [T.v] := by
        cases T with
        | nil => exact absurd rfl hv
        | mk v nm a len cap f =>
          have hv : ¬ v = 0 := hv
          rw [vsT, if_neg hv]; rfl
      obtain ⟨e1, e2⟩ := ex_v (σ := σ) hv (d + 1)
      have hsame : can (ex σ (d + 1) (vT T.v)) = can (ex σ D (vT T.v)) := ex_same (e2 hF) (hV T.v (by rw [hvs]; simp))
      refine ⟨?_, ?_⟩
      · rw [hvs, e1, vsT_eq hsame]; simp
      · rw [ap_var _ hv, e1]; exact ap_eq hsame.symm
end Go.Proofs.Ytmggaclaoefdaaa

namespace Go.Proofs.Ytmggaclaoefdaaa
open Go.RowKit

theorem NB.nm {k : Nat} {T : Tm} (h : NB k T) : NM (fun q => q = k) T := by
  induction T with
  | nil => trivial
  | mk v nm a len cap f ih => exact ⟨fun h0 => let ⟨b, o, e, hb⟩ := h.1 h0; ⟨b, o, e, hb⟩, fun i hi => ih i (h.2 i hi)⟩
theorem fin_vars {σ : Sg} (T : Tm) : ∀ (d : Nat), Fin σ d T → (∀ v ∈ vsT T, Fin σ d (vT v)) ∧ (T.v = 0 → ∀ e, d = e + 1 → ∀ v ∈ vsT T, Fin σ e (vT v)) := by
  induction T with
  | nil => intro d _; exact ⟨fun v h => by simp [vsT] at h, fun _ _ _ v h => by simp [vsT] at h⟩
  | mk v nm a len cap f ih =>
    intro d hF
    by_cases hv : v = 0
    · have key : ∀ e, d = e + 1 → ∀ u ∈ vsT (.mk v nm a len cap f), Fin σ e (vT u) := by
        rintro e rfl u hu
        rw [vsT, if_pos hv] at hu
        obtain ⟨l, hl, hul⟩ := List.mem_flatten.1 hu
        obtain ⟨i, hi, rfl⟩ := List.mem_map.1 hl
        have hi := List.mem_range.1 hi
        have hk : Fin σ e (f i) := by
          have hw : wha σ (.mk v nm a len cap f) = .mk v nm a len cap f := wha_fn hv
          have := hF i (by rw [hw]; exact hi)
          rwa [hw] at this
        exact (ih i e hk).1 u hul
      refine ⟨fun u hu => ?_, fun _ => key⟩
      cases d with
      | zero => exact hF.elim
      | succ e => exact (key e rfl u hu).mono
    · refine ⟨fun u hu => ?_, fun h => absurd h hv⟩
      rw [vsT, if_neg hv, List.mem_singleton] at hu
      subst hu
      exact (ex_v (σ := σ) (T := .mk u nm a len cap f) hv d).2 hF
theorem tl_num (wF : World) (k : Nat) (σ : Sg) (D : Nat) (l : List Int) : ∀ s : List Int, tl (numT wF k σ D) s l = addV s ((l.map fun v => vsT (ex σ D (vT v))).flatten) := by
  induction l with
  | nil => intro s; rfl
  | cons v l ih =>
    intro s
    show tl (numT wF k σ D) (addV s (vsT (ex σ D (vT v)))) l = _
    rw [ih, List.map_cons, List.flatten_cons, addV_append]
theorem whole1_ent : Ent 121 := ent_of Try.func121 rfl rfl
/-- From the variables of a term to the term. -/
theorem wn_of {k o b m : Nat} {tv : Value} {lo n : Nat} {σ : Sg} {L : Int} {d D : Nat} {T : Tm} (hkb : k ≠ b ∧ k ≠ m ∧ ∀ g, tv.ownBlock = some g → g ≠ k) (hσk : ∀ u T, σ u = some T → NB k T) (hok : o ≠ k)
    (hD : Fin σ d T → ∀ v ∈ vsT T, Fin σ D (vT v)) (hW : ∀ v ∈ vsT T, ∀ e, D = e + 1 → ∀ U, σ v = some U → WN k o b m tv lo n σ L D U) : WN k o b m tv lo n σ L d T := by
  intro s w hN hS ho hO hT hB hF
  have hk := hN.lt
  have hV := hD hF
  obtain ⟨hp1, _⟩ := ex_parts (fun v => vT v) d T hF hV
  have hp2 : ∀ θ : Int → Tm, ap (fun v => ap θ (ex σ D (vT v))) T = ap θ (ex σ d T) := fun θ => (ex_parts θ d T hF hV).2
  refine whole_gen w (fun q (h : q = k) => h ▸ hk) (fun X w1 w2 h hb => ⟨h.1.kept (hb.block k hk), h.2⟩) ?_
  intro W hW1 hpv hpn
  have hkW : k < W.heap.size := Nat.lt_of_lt_of_le hk hW1.size
  have hNW : NumIs W k s := hN.kept (hW1.block k hk)
  have hSW := hS.below hW1
  have hoW : W.heap[o]? = some (.cells #[.map (some k)] 124) := (hW1.block o (Array.getElem?_eq_some_iff.1 ho).1).trans ho
  refine (each_gen (numT_ok hkW σ D) whole1_ent T hO.fo (fun v hv => ?_) s W (Nat.le_refl _) ⟨hNW, Bw.refl _ _ _⟩ (hT.below hW1) hB.nm).mono ?_
  · have hFv := hV v hv
    cases D with
    | zero => exact hFv.elim
    | succ e =>
      have hvp : 0 < v := by
        rcases Int.lt_or_le 0 v with h | h
        · exact h
        · have h0 := (vsT_okv hO v hv).1
          exact absurd (show v = 0 by omega) (vsT_ne T v hv)
      exact whole1_num hvp (vsT_okv hO v hv).2 hSW hkb hσk hpv hpn hoW ⟨by omega, by omega, hok⟩ hFv (hW v hv e rfl)
  · rintro e w' ⟨X, h1, h2, h3, h4, h5, h6⟩
    have h3 : NumIs w' k (tl (numT W k σ D) s (vsT T)) ∧ _ := h3
    rw [tl_num, ← hp1] at h3
    refine ⟨X, h1, h2, h4, h5, h3.1, fun s' hs' => ?_⟩
    rw [← hp2]
    exact h6 s' (by show tl (numT W k σ D) s (vsT T) <+: s'; rw [tl_num, ← hp1]; exact hs')
where
  vsT_ne (T : Tm) : ∀ v ∈ vsT T, v ≠ 0 := by
    induction T with
    | nil => intro v h; simp [vsT] at h
    | mk u nm a len cap f ih =>
      intro v h
      rw [vsT] at h
      split at h
      · obtain ⟨l, hl, hul⟩ := List.mem_flatten.1 h
        obtain ⟨i, _, rfl⟩ := List.mem_map.1 hl
        exact ih i v hul
      · rw [List.mem_singleton] at h; subst h; assumption
theorem whole_num {k o b m : Nat} {tv : Value} {lo n : Nat} {σ : Sg} {L : Int} (hd : Dec σ) (hkb : k ≠ b ∧ k ≠ m ∧ ∀ g, tv.ownBlock = some g → g ≠ k) (hσk : ∀ u T, σ u = some T → NB k T) (hok : o ≠ k) : ∀ (d q : Nat) (T : Tm), T.v.toNat ≤ q → WN k o b m tv lo n σ L d T := by
  intro d
  induction d with
  | zero => intro q T _ s w _ _ _ _ _ _ hF; exact hF.elim
  | succ d ihd =>
    have hfn : ∀ T : Tm, T.v = 0 → WN k o b m tv lo n σ L (d + 1) T := fun T hv => wn_of (D := d) hkb hσk hok (fun hF => (fin_vars T (d + 1) hF).2 hv d rfl) (fun v _ e _ U _ => ihd U.v.toNat U (Nat.le_refl _))
    intro q
    induction q with
    | zero =>
      intro T hq s w hN hS ho hO hT hB hF
      exact hfn T (by have := hO.top.1; omega) s w hN hS ho hO hT hB hF
    | succ q ihq =>
      intro T hq
      by_cases hv : T.v = 0
      · exact hfn T hv
      · refine wn_of (D := d + 1) hkb hσk hok (fun hF => (fin_vars T (d + 1) hF).1) (fun v hvs e _ U hU => ?_)
        have hvs' : v = T.v := by
          cases T with
          | nil => exact absurd rfl hv
          | mk u nm a len cap f =>
            have hv : ¬ u = 0 := hv
            rw [vsT, if_neg hv, List.mem_singleton] at hvs
            exact hvs
        rcases hd _ _ hU with h | ⟨h3, h4⟩
        · exact hfn U h
        · exact ihq U (by omega)
end Go.Proofs.Ytmggaclaoefdaaa
