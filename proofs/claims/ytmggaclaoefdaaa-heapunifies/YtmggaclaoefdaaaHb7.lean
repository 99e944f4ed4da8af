/- What HeapUnifies says is true. -/
import Derived.Test.YtmggaclaoefdaaaHb4
import Derived.Test.YtmggaclaoefdaaaGBX
import Derived.Test.YtmggaclaoefdaaaHh2
namespace Go.Proofs.Ytmggaclaoefdaaa
open Go.RowKit
set_option linter.unusedVariables false
set_option linter.unusedSimpArgs false

theorem hOf_map' {h : Nat → Cl} {len i : Nat} (hi : i < len) : hOf ((List.range len).map h) i = h i := by
  unfold hOf
  simp [hi]
theorem none_or {len : Nat} {n : Int} (h : noneB len n = true) : n < 0 ∨ n ≥ (len : Int) := by
  unfold noneB at h
  simp at h
  exact h
theorem none_not {len : Nat} {n : Int} (h : noneB len n = false) : 0 ≤ n ∧ n < (len : Int) := by
  unfold noneB at h
  simp at h
  omega
theorem ir_row {w : World} {lo : Nat} {sa : Option Addr} {n cp : Nat} {bs : List Nat} (h : w.ownsRow lo 3 1 (.slice sa n cp) bs.length (bs.map fun x : Nat => Value.int .i64 (x : Int))) : IR w sa (bs.map fun x : Nat => (x : Int)) := by
  intro k hk
  have hk' : k < bs.length := by simpa using hk
  rcases h.2 with ⟨_, h0⟩ | ⟨g, cp', cur, hv, _⟩
  · omega
  · cases hv
    refine ⟨g, 0, rfl, ?_⟩
    rw [Nat.zero_add]
    exact (World.ownsRow.cellAt h k (by omega)).trans (by simp [hk'])
theorem cr_row {w : World} {lo : Nat} {sa : Option Addr} {n cp : Nat} {l : List Cl} (h : CRw lo w (.slice sa n cp) l) : CR w sa l := by
  intro k hk
  rcases h.2 with ⟨_, h0⟩ | ⟨g, cp', cur, hv, _⟩
  · omega
  · cases hv
    obtain ⟨f0, f1, f2⟩ := flatC_get l k hk
    refine ⟨g, 0, rfl, ?_, ?_, ?_⟩ <;> rw [Nat.zero_add]
    · exact (World.ownsRow.cellAt h (k * 3) (by omega)).trans f0
    · exact (World.ownsRow.cellAt h (k * 3 + 1) (by omega)).trans f1
    · exact (World.ownsRow.cellAt h (k * 3 + 2) (by omega)).trans f2
set_option maxRecDepth 100000 in
set_option maxHeartbeats 8000000 in
theorem law_hunifies {sa : Option Addr} {len cap : Nat} {h : Nat → Cl} (a b : Int) (w : World) (hh : HIn w sa len h) (hcap : len ≤ cap) (hn : sa = none → len = 0 ∧ cap = 0) :
    Calls Try.prog 10 #[.slice sa len cap, .int .i64 a, .int .i64 b] w fun e w' => e = .returned (.bool true) ∧ Below w.heap.size w w' := by
  have HH : Hid (∀ W, Below w.heap.size w W → HIn W sa len h) := fun W hW => hh.below hW
  have HUn : Hid (Calls Try.prog 46 #[.slice sa len cap, .int .i64 a, .int .i64 b] w (UnR h len a b w)) := hunify_any a b w hh hcap hn
  have HNn : Hid (sa = none → len = 0 ∧ cap = 0) := hn
  clear hh hn
  go_enter Try.func10, Try.ntmps10
  go_wp2_with fail
  refine HUn.out.mono ?_
  rintro e w1 ⟨hb1, hcs⟩
  have HB1 : Hid (Below w.heap.size w w1) := hb1
  have HC1 : Hid (Calls Try.prog 36 #[.slice sa len cap] w1 fun e w' => ∃ c : Int, e = .returned (.int .i64 c) ∧ ChkR h len c ∧ Below w1.heap.size w1 w') := checkHeap_any _ (HH.out _ hb1)
  clear hb1 HUn
  rcases hcs with ⟨c, rfl, hcs⟩ | ⟨hck, hna, hnb, hcs⟩
  case inl =>
    rw [show U5 (.slice none 0 0) (.slice none 0 0) false 0 c = .returned (.tuple #[.slice none 0 0, .slice none 0 0, .bool false, .int .i64 0, .int .i64 c]) from rfl]
    rcases hcs with ⟨hc0, hck⟩ | ⟨hck, rfl, hab⟩
    · have HCk : Hid (ChkR h len c) := hck
      have hcb : (c == 0) = false := beq_eq_false_iff_ne.2 hc0
      have hcb' : (c != 0) = true := bne_iff_ne.2 hc0
      have hcc : (c == c) = true := by simp
      clear hck
      go_wp2_with fail
      refine HC1.out.mono ?_
      rintro e w2 ⟨c2, rfl, hc2, hb2⟩
      obtain rfl : c2 = c := hc2.same HCk.out
      have HB2 : Hid (Below w.heap.size w w2) := below_after2 HB1.out hb2
      clear hb2 hc2
      go_wp2_with fail
      refine (begunH _).mono ?_
      rintro e w3 ⟨rfl, hb3⟩
      have HB3 : Hid (Below w.heap.size w w3) := below_after2 HB2.out hb3
      clear hb3
      go_wp2_with fail
      go_ret
      exact ⟨rfl, HB3.out⟩
    · have HCk : Hid (ChkR h len 0) := hck
      have hcs : (a < 0) ∨ (¬ a < 0 ∧ a ≥ (len : Int)) ∨ (¬ a < 0 ∧ ¬ a ≥ (len : Int) ∧ b < 0) ∨ (¬ a < 0 ∧ ¬ a ≥ (len : Int) ∧ ¬ b < 0 ∧ b ≥ (len : Int)) := by
        rcases hab with h1 | h1 <;> have h2 := none_or h1 <;> omega
      clear hck hab
      have fin : ∀ (w2 : World), Below w1.heap.size w1 w2 → Hid (Below w.heap.size w w2) := fun w2 h2 => below_after2 HB1.out h2
      rcases hcs with h1 | ⟨h1, h2⟩ | ⟨h1, h2, h3⟩ | ⟨h1, h2, h3, h4⟩
      all_goals
        go_wp2_with fail
        refine HC1.out.mono ?_
        rintro e w2 ⟨c2, rfl, hc2, hb2⟩
        obtain rfl : c2 = 0 := hc2.same HCk.out
        have HB2 : Hid (Below w.heap.size w w2) := below_after2 HB1.out hb2
        clear hb2 hc2
        go_wp2_with fail
        refine (begunH _).mono ?_
        rintro e w3 ⟨rfl, hb3⟩
        have HB3 : Hid (Below w.heap.size w w3) := below_after2 HB2.out hb3
        clear hb3
        go_wp2_with fail
        go_ret
        exact ⟨rfl, HB3.out⟩
  obtain ⟨hG, hl4⟩ := ChkR.good hck
  have ha := none_not hna
  have hb := none_not hnb
  obtain ⟨na, hna'⟩ : ∃ na : Nat, a = (na : Int) := ⟨a.toNat, by omega⟩
  obtain ⟨nb, hnb'⟩ : ∃ nb : Nat, b = (nb : Int) := ⟨b.toNat, by omega⟩
  subst hna' hnb'
  have HCk : Hid (ChkR h len 0) := hck
  have HG : Hid (HG h len) := hG
  have q1 : ¬ ((na : Int) < 0) := by omega
  have q2 : ¬ ((na : Int) ≥ (len : Int)) := by omega
  have q3 : ¬ ((nb : Int) < 0) := by omega
  have q4 : ¬ ((nb : Int) ≥ (len : Int)) := by omega
  have HL : Hid (((List.range len).map h).length = len) := by rw [Hid]; simp
  have hfl : (flatC ((List.range len).map h)).length = len * 3 := by rw [flatC_length, HL.out]
  have HNl : Hid (∀ c ∈ (List.range len).map h, c.nm.size ≤ maxLen) := fun c hc => by
    obtain ⟨i, hi, rfl⟩ := List.mem_map.1 hc
    exact (HH.out w (Below.refl _ _)).nm i (List.mem_range.1 hi)
  have HGl : Hid (Go.Proofs.Ytmggaclaoefdaaa.HG (hOf ((List.range len).map h)) ((List.range len).map h).length) := by
    rw [Hid, HL.out]
    exact hG.congr fun i hi => hOf_map' hi
  obtain ⟨ad, had⟩ : ∃ ad, sa = some ad := by
    cases sa with
    | none => have := HNn.out rfl; omega
    | some ad => exact ⟨ad, rfl⟩
  subst had
  have HMt : Hid (∀ (lo xb g cp : Nat) (W : World), RH lo W xb (.slice none 0 0) 0 g cp ((List.range len).map h) [] → Calls Try.prog 47 #[.pointer (some ⟨xb, 0, none⟩), .int .i64 (na : Int), .int .i64 (nb : Int)] W (MtP W lo xb (.slice none 0 0) g cp (uniH h len na nb))) := fun lo xb g cp W hR => by
    exact rmeet_all 4001 lo xb (.slice none 0 0) g cp (4000, (List.range len).map h, []) na nb W (by show 4000 < 4001; omega) (Nat.le_refl _) (by show 0 + 4000 ≤ 1000000; omega) ⟨HGl.out, HNl.out⟩ (hR.cast (by simp)) (by show na < _; rw [HL.out]; omega) (by show nb < _; rw [HL.out]; omega)
  obtain ⟨i0, hi, hi0, hi1, hi2⟩ := info_parts infoC
  clear hck hna hnb hG HNn
  rcases hcs with ⟨hlt, rfl⟩ | ⟨hge, hok, rfl⟩ | ⟨hge, hok, v, bv, rfl, hv, hbv⟩
  · have Hlt : Hid ((uniH h len na nb).left < 0) := hlt
    clear hlt
    rw [show U5 (.slice none 0 0) (.slice none 0 0) false 0 2 = .returned (.tuple #[.slice none 0 0, .slice none 0 0, .bool false, .int .i64 0, .int .i64 2]) from rfl]
    go_wp2_with fail
    refine HC1.out.mono ?_
    rintro e w2 ⟨c2, rfl, hc2, hb2⟩
    obtain rfl : c2 = 0 := hc2.same HCk.out
    have HB2 : Hid (Below w.heap.size w w2) := below_after2 HB1.out hb2
    have HB12 : Hid (Below w1.heap.size w1 w2) := hb2
    clear hb2 hc2
    go_wp2_with fail
    refine (begunH _).mono ?_
    rintro e w3 ⟨rfl, hb3⟩
    have HB3 : Hid (Below w.heap.size w w3) := below_after2 HB2.out hb3
    have HB13 : Hid (Below w1.heap.size w1 w3) := below_after2 HB12.out hb3
    clear hb3
    have HO4 : Hid ((w3.alloc (.cells #[] 128)).ownsRow w3.heap.size 128 3 (.slice (some ⟨w3.heap.size, 0, none⟩) 0 0) 0 []) := World.ownsRow_lit w3 #[] 0 (Nat.le_refl _) (by unfold maxLen; omega) rfl
    have HB4 : Hid (Below w3.heap.size w3 (w3.alloc (.cells #[] 128))) := (Below.refl _ _).alloc (Nat.le_refl _) _
    have HN4 : Hid (∀ j u, (flatC ((List.range len).map h))[j]? = some u → (w3.alloc (.cells #[] 128)).cell? (ad.add j) = some u) := ((HH.out _ HB3.out).below HB4.out).news
    go_wp2_with (at_builtin; refine wpList_append_own_at _ rfl (.tmp 71) (.tmp 72) 54 rfl w3.heap.size 128 i0 (.agg #[.int .i64 0, .int .i64 0, .string ByteArray.empty]) 3 32 Try.underlying54 hi hi0 hi1 hi2 rfl (by decide) (.slice (some ⟨w3.heap.size, 0, none⟩) 0 0) 0 [] rfl HO4.out ad len cap (flatC ((List.range len).map h)) rfl hfl HN4.out (flatC_one _) (by unfold maxLen; omega) (by omega) (by simp) ?_; intro v' w6 hown' hgrow hnil hat; have hv' : ∃ g' cap', v' = .slice (some ⟨g', 0, none⟩) len cap' := (by rcases hown'.2 with ⟨_, h0⟩ | ⟨g', cap', _, h9, _⟩; (· omega); (· exact ⟨g', cap', by rw [h9, Nat.zero_add]⟩)); obtain ⟨g', cap', rfl⟩ := hv'; have HC6 : Hid (CRw w3.heap.size w6 (.slice (some ⟨g', 0, none⟩) len cap') ((List.range len).map h)) := (by rw [Hid]; unfold CRw; rw [HL.out]; simpa using hown'); have HB6 : Hid (Below w3.heap.size w3 w6) := HB4.out.grown hgrow (by simp) (fun k hk => by have : w3.heap.size = k := Option.some.inj hk; omega); clear hown' hgrow hnil hat)
    have HB7 : Hid (Below w6.heap.size w6 (w6.alloc (.cells #[.slice (some ⟨g', 0, none⟩) len cap', .slice none 0 0, .int .i64 0] 73))) := (Below.refl _ _).alloc (Nat.le_refl _) _
    have hs7 : (w6.alloc (.cells #[.slice (some ⟨g', 0, none⟩) len cap', .slice none 0 0, .int .i64 0] 73)).heap.size = w6.heap.size + 1 := by simp
    have HR7 : Hid (RH w3.heap.size (w6.alloc (.cells #[.slice (some ⟨g', 0, none⟩) len cap', .slice none 0 0, .int .i64 0] 73)) w6.heap.size (.slice none 0 0) 0 g' cap' ((List.range len).map h) []) := ⟨by rw [HL.out]; exact heap_alloc_new _ _, by rw [HL.out]; exact World.ownsRow.kept HC6.out (grown_of_below HB7.out none) (kept_none _), World.ownsRow_nil _ _ _ _, by have := HB6.out.size; rw [hs7]; omega⟩
    have HM7 : Hid (Calls Try.prog 47 #[.pointer (some ⟨w6.heap.size, 0, none⟩), .int .i64 (na : Int), .int .i64 (nb : Int)] (w6.alloc (.cells #[.slice (some ⟨g', 0, none⟩) len cap', .slice none 0 0, .int .i64 0] 73)) (MtP (w6.alloc (.cells #[.slice (some ⟨g', 0, none⟩) len cap', .slice none 0 0, .int .i64 0] 73)) w3.heap.size w6.heap.size (.slice none 0 0) g' cap' (uniH h len na nb))) := HMt.out _ _ _ _ _ HR7.out
    have hg6 := (HC6.out.lt g' rfl)
    have hs36 := HB6.out.size
    go_wp2_with fail
    generalize w6.alloc (.cells #[.slice (some ⟨g', 0, none⟩) len cap', .slice none 0 0, .int .i64 0] 73) = w7 at *
    refine HM7.out.mono ?_
    rintro e w8 ⟨rfl, bw, hR8, hB8, hat8⟩
    have HB38 : Hid (Below w3.heap.size w3 w8) := ((HB6.out.trans (HB7.out.mono hs36))).trans ⟨hB8.os, hB8.tape, hB8.output, hB8.size, fun k hk => hB8.block k (by omega) (fun hm => by rcases hm with e | e | e; (· omega); (· omega); (· cases e))⟩
    have HR8 : Hid (RH w3.heap.size w8 w6.heap.size bw (4000 - (uniH h len na nb).left) g' cap' (uniH h len na nb).l (uniH h len na nb).bs) := hR8
    obtain ⟨m0, m1, m2, _⟩ := hR8.cells
    clear hR8 hB8 hat8 HR7 HM7 HB7 HC6 HN4 HO4
    generalize uniH h len na nb = r at *
    cases r with
    | yes s => exact absurd Hlt.out (by show ¬ ((s.1 : Int) < 0); omega)
    | no x l8 b8 =>
      have hcd : (MR.no x l8 b8).code = 2 := by show (if x < 0 then (2 : Int) else 0) = 2; exact if_pos Hlt.out
      rw [hcd]
      clear m0 m1 m2
      go_wp2_with fail
      go_ret
      exact ⟨rfl, below_after2 HB3.out HB38.out⟩

  · have Hok : Hid ((uniH h len na nb).ok = false) := hok
    have Hge : Hid (0 ≤ (uniH h len na nb).left) := hge
    clear hok hge
    rw [show U5 (.slice none 0 0) (.slice none 0 0) false (4000 - (uniH h len na nb).left) 0 = .returned (.tuple #[.slice none 0 0, .slice none 0 0, .bool false, .int .i64 (4000 - (uniH h len na nb).left), .int .i64 0]) from rfl]
    go_wp2_with fail
    refine HC1.out.mono ?_
    rintro e w2 ⟨c2, rfl, hc2, hb2⟩
    obtain rfl : c2 = 0 := hc2.same HCk.out
    have HB2 : Hid (Below w.heap.size w w2) := below_after2 HB1.out hb2
    have HB12 : Hid (Below w1.heap.size w1 w2) := hb2
    clear hb2 hc2
    go_wp2_with fail
    refine (begunH _).mono ?_
    rintro e w3 ⟨rfl, hb3⟩
    have HB3 : Hid (Below w.heap.size w w3) := below_after2 HB2.out hb3
    have HB13 : Hid (Below w1.heap.size w1 w3) := below_after2 HB12.out hb3
    clear hb3
    have HO4 : Hid ((w3.alloc (.cells #[] 128)).ownsRow w3.heap.size 128 3 (.slice (some ⟨w3.heap.size, 0, none⟩) 0 0) 0 []) := World.ownsRow_lit w3 #[] 0 (Nat.le_refl _) (by unfold maxLen; omega) rfl
    have HB4 : Hid (Below w3.heap.size w3 (w3.alloc (.cells #[] 128))) := (Below.refl _ _).alloc (Nat.le_refl _) _
    have HN4 : Hid (∀ j u, (flatC ((List.range len).map h))[j]? = some u → (w3.alloc (.cells #[] 128)).cell? (ad.add j) = some u) := ((HH.out _ HB3.out).below HB4.out).news
    go_wp2_with (at_builtin; refine wpList_append_own_at _ rfl (.tmp 71) (.tmp 72) 54 rfl w3.heap.size 128 i0 (.agg #[.int .i64 0, .int .i64 0, .string ByteArray.empty]) 3 32 Try.underlying54 hi hi0 hi1 hi2 rfl (by decide) (.slice (some ⟨w3.heap.size, 0, none⟩) 0 0) 0 [] rfl HO4.out ad len cap (flatC ((List.range len).map h)) rfl hfl HN4.out (flatC_one _) (by unfold maxLen; omega) (by omega) (by simp) ?_; intro v' w6 hown' hgrow hnil hat; have hv' : ∃ g' cap', v' = .slice (some ⟨g', 0, none⟩) len cap' := (by rcases hown'.2 with ⟨_, h0⟩ | ⟨g', cap', _, h9, _⟩; (· omega); (· exact ⟨g', cap', by rw [h9, Nat.zero_add]⟩)); obtain ⟨g', cap', rfl⟩ := hv'; have HC6 : Hid (CRw w3.heap.size w6 (.slice (some ⟨g', 0, none⟩) len cap') ((List.range len).map h)) := (by rw [Hid]; unfold CRw; rw [HL.out]; simpa using hown'); have HB6 : Hid (Below w3.heap.size w3 w6) := HB4.out.grown hgrow (by simp) (fun k hk => by have : w3.heap.size = k := Option.some.inj hk; omega); clear hown' hgrow hnil hat)
    have HB7 : Hid (Below w6.heap.size w6 (w6.alloc (.cells #[.slice (some ⟨g', 0, none⟩) len cap', .slice none 0 0, .int .i64 0] 73))) := (Below.refl _ _).alloc (Nat.le_refl _) _
    have hs7 : (w6.alloc (.cells #[.slice (some ⟨g', 0, none⟩) len cap', .slice none 0 0, .int .i64 0] 73)).heap.size = w6.heap.size + 1 := by simp
    have HR7 : Hid (RH w3.heap.size (w6.alloc (.cells #[.slice (some ⟨g', 0, none⟩) len cap', .slice none 0 0, .int .i64 0] 73)) w6.heap.size (.slice none 0 0) 0 g' cap' ((List.range len).map h) []) := ⟨by rw [HL.out]; exact heap_alloc_new _ _, by rw [HL.out]; exact World.ownsRow.kept HC6.out (grown_of_below HB7.out none) (kept_none _), World.ownsRow_nil _ _ _ _, by have := HB6.out.size; rw [hs7]; omega⟩
    have HM7 : Hid (Calls Try.prog 47 #[.pointer (some ⟨w6.heap.size, 0, none⟩), .int .i64 (na : Int), .int .i64 (nb : Int)] (w6.alloc (.cells #[.slice (some ⟨g', 0, none⟩) len cap', .slice none 0 0, .int .i64 0] 73)) (MtP (w6.alloc (.cells #[.slice (some ⟨g', 0, none⟩) len cap', .slice none 0 0, .int .i64 0] 73)) w3.heap.size w6.heap.size (.slice none 0 0) g' cap' (uniH h len na nb))) := HMt.out _ _ _ _ _ HR7.out
    have hg6 := (HC6.out.lt g' rfl)
    have hs36 := HB6.out.size
    go_wp2_with fail
    generalize w6.alloc (.cells #[.slice (some ⟨g', 0, none⟩) len cap', .slice none 0 0, .int .i64 0] 73) = w7 at *
    refine HM7.out.mono ?_
    rintro e w8 ⟨rfl, bw, hR8, hB8, hat8⟩
    have HB38 : Hid (Below w3.heap.size w3 w8) := ((HB6.out.trans (HB7.out.mono hs36))).trans ⟨hB8.os, hB8.tape, hB8.output, hB8.size, fun k hk => hB8.block k (by omega) (fun hm => by rcases hm with e | e | e; (· omega); (· omega); (· cases e))⟩
    have HR8 : Hid (RH w3.heap.size w8 w6.heap.size bw (4000 - (uniH h len na nb).left) g' cap' (uniH h len na nb).l (uniH h len na nb).bs) := hR8
    obtain ⟨m0, m1, m2, _⟩ := hR8.cells
    clear hR8 hB8 hat8 HR7 HM7 HB7 HC6 HN4 HO4
    generalize uniH h len na nb = r at *
    cases r with
    | yes s => exact absurd Hok.out (by show ¬ (true = false); simp)
    | no x l8 b8 =>
      have hcd : (MR.no x l8 b8).code = 0 := by show (if x < 0 then (2 : Int) else 0) = 0; exact if_neg (by have : 0 ≤ x := Hge.out; omega)
      rw [hcd]
      have hxx : (4000 - (MR.no x l8 b8).left == 4000 - (MR.no x l8 b8).left) = true := by simp
      generalize 4000 - (MR.no x l8 b8).left = wx at *
      clear m0 m1
      go_wp2_with fail
      go_ret
      exact ⟨rfl, below_after2 HB3.out HB38.out⟩

  · have Hok : Hid ((uniH h len na nb).ok = true) := hok
    clear hok hge
    obtain ⟨sv, cv, rfl, hcv, _⟩ := CRw.form hv
    obtain ⟨sb, cb, hbvv⟩ : ∃ sb cb, bv = .slice sb (uniH h len na nb).bs.length cb := by
      rcases hbv.2 with ⟨h1, h2⟩ | ⟨_, cp, _, h1, _⟩
      · exact ⟨none, 0, by rw [h1, h2]⟩
      · exact ⟨_, cp, h1⟩
    subst hbvv
    have HV : Hid (∀ W, Below w1.heap.size w1 W → CR W sv (uniH h len na nb).l ∧ IR W sb ((uniH h len na nb).bs.map fun x : Nat => (x : Int))) := fun W hW => ⟨cr_row (hv.below hW), ir_row (hbv.kept (grown_of_below hW none) (kept_none _))⟩
    clear hv hbv
    rw [show U5 (.slice sv (uniH h len na nb).l.length cv) (.slice sb (uniH h len na nb).bs.length cb) true (4000 - (uniH h len na nb).left) 0 = .returned (.tuple #[.slice sv (uniH h len na nb).l.length cv, .slice sb (uniH h len na nb).bs.length cb, .bool true, .int .i64 (4000 - (uniH h len na nb).left), .int .i64 0]) from rfl]
    go_wp2_with fail
    refine HC1.out.mono ?_
    rintro e w2 ⟨c2, rfl, hc2, hb2⟩
    obtain rfl : c2 = 0 := hc2.same HCk.out
    have HB2 : Hid (Below w.heap.size w w2) := below_after2 HB1.out hb2
    have HB12 : Hid (Below w1.heap.size w1 w2) := hb2
    clear hb2 hc2
    go_wp2_with fail
    refine (begunH _).mono ?_
    rintro e w3 ⟨rfl, hb3⟩
    have HB3 : Hid (Below w.heap.size w w3) := below_after2 HB2.out hb3
    have HB13 : Hid (Below w1.heap.size w1 w3) := below_after2 HB12.out hb3
    clear hb3
    have HO4 : Hid ((w3.alloc (.cells #[] 128)).ownsRow w3.heap.size 128 3 (.slice (some ⟨w3.heap.size, 0, none⟩) 0 0) 0 []) := World.ownsRow_lit w3 #[] 0 (Nat.le_refl _) (by unfold maxLen; omega) rfl
    have HB4 : Hid (Below w3.heap.size w3 (w3.alloc (.cells #[] 128))) := (Below.refl _ _).alloc (Nat.le_refl _) _
    have HN4 : Hid (∀ j u, (flatC ((List.range len).map h))[j]? = some u → (w3.alloc (.cells #[] 128)).cell? (ad.add j) = some u) := ((HH.out _ HB3.out).below HB4.out).news
    go_wp2_with (at_builtin; refine wpList_append_own_at _ rfl (.tmp 71) (.tmp 72) 54 rfl w3.heap.size 128 i0 (.agg #[.int .i64 0, .int .i64 0, .string ByteArray.empty]) 3 32 Try.underlying54 hi hi0 hi1 hi2 rfl (by decide) (.slice (some ⟨w3.heap.size, 0, none⟩) 0 0) 0 [] rfl HO4.out ad len cap (flatC ((List.range len).map h)) rfl hfl HN4.out (flatC_one _) (by unfold maxLen; omega) (by omega) (by simp) ?_; intro v' w6 hown' hgrow hnil hat; have hv' : ∃ g' cap', v' = .slice (some ⟨g', 0, none⟩) len cap' := (by rcases hown'.2 with ⟨_, h0⟩ | ⟨g', cap', _, h9, _⟩; (· omega); (· exact ⟨g', cap', by rw [h9, Nat.zero_add]⟩)); obtain ⟨g', cap', rfl⟩ := hv'; have HC6 : Hid (CRw w3.heap.size w6 (.slice (some ⟨g', 0, none⟩) len cap') ((List.range len).map h)) := (by rw [Hid]; unfold CRw; rw [HL.out]; simpa using hown'); have HB6 : Hid (Below w3.heap.size w3 w6) := HB4.out.grown hgrow (by simp) (fun k hk => by have : w3.heap.size = k := Option.some.inj hk; omega); clear hown' hgrow hnil hat)
    have HB7 : Hid (Below w6.heap.size w6 (w6.alloc (.cells #[.slice (some ⟨g', 0, none⟩) len cap', .slice none 0 0, .int .i64 0] 73))) := (Below.refl _ _).alloc (Nat.le_refl _) _
    have hs7 : (w6.alloc (.cells #[.slice (some ⟨g', 0, none⟩) len cap', .slice none 0 0, .int .i64 0] 73)).heap.size = w6.heap.size + 1 := by simp
    have HR7 : Hid (RH w3.heap.size (w6.alloc (.cells #[.slice (some ⟨g', 0, none⟩) len cap', .slice none 0 0, .int .i64 0] 73)) w6.heap.size (.slice none 0 0) 0 g' cap' ((List.range len).map h) []) := ⟨by rw [HL.out]; exact heap_alloc_new _ _, by rw [HL.out]; exact World.ownsRow.kept HC6.out (grown_of_below HB7.out none) (kept_none _), World.ownsRow_nil _ _ _ _, by have := HB6.out.size; rw [hs7]; omega⟩
    have HM7 : Hid (Calls Try.prog 47 #[.pointer (some ⟨w6.heap.size, 0, none⟩), .int .i64 (na : Int), .int .i64 (nb : Int)] (w6.alloc (.cells #[.slice (some ⟨g', 0, none⟩) len cap', .slice none 0 0, .int .i64 0] 73)) (MtP (w6.alloc (.cells #[.slice (some ⟨g', 0, none⟩) len cap', .slice none 0 0, .int .i64 0] 73)) w3.heap.size w6.heap.size (.slice none 0 0) g' cap' (uniH h len na nb))) := HMt.out _ _ _ _ _ HR7.out
    have hg6 := (HC6.out.lt g' rfl)
    have hs36 := HB6.out.size
    go_wp2_with fail
    generalize w6.alloc (.cells #[.slice (some ⟨g', 0, none⟩) len cap', .slice none 0 0, .int .i64 0] 73) = w7 at *
    refine HM7.out.mono ?_
    rintro e w8 ⟨rfl, bw, hR8, hB8, hat8⟩
    have HB38 : Hid (Below w3.heap.size w3 w8) := ((HB6.out.trans (HB7.out.mono hs36))).trans ⟨hB8.os, hB8.tape, hB8.output, hB8.size, fun k hk => hB8.block k (by omega) (fun hm => by rcases hm with e | e | e; (· omega); (· omega); (· cases e))⟩
    have HR8 : Hid (RH w3.heap.size w8 w6.heap.size bw (4000 - (uniH h len na nb).left) g' cap' (uniH h len na nb).l (uniH h len na nb).bs) := hR8
    obtain ⟨m0, m1, m2, _⟩ := hR8.cells
    clear hR8 hB8 hat8 HR7 HM7 HB7 HC6 HN4 HO4
    generalize uniH h len na nb = r at *
    cases r with
    | no x l8 b8 => exact absurd Hok.out (by show ¬ (false = true); simp)
    | yes s =>
      rw [show (MR.yes s).code = 1 from rfl]
      have HR9 : Hid (RH w3.heap.size w8 w6.heap.size bw (4000 - (MR.yes s).left) g' cap' s.2.1 s.2.2) := HR8.out
      have HV9 : Hid (CR w8 sv s.2.1 ∧ IR w8 sb (s.2.2.map fun x : Nat => (x : Int))) := HV.out _ (below_after2 HB13.out HB38.out)
      rw [show (MR.yes s).l = s.2.1 from rfl] at m0 ⊢
      rw [show (MR.yes s).bs = s.2.2 from rfl]
      have hxx : (4000 - (MR.yes s).left == 4000 - (MR.yes s).left) = true := by simp
      obtain ⟨sc, cc, hbw⟩ : ∃ sc cc, bw = .slice sc s.2.2.length cc := by
        rcases HR9.out.bnd.2 with ⟨h1, h2⟩ | ⟨_, cp, _, h1, _⟩
        · exact ⟨none, 0, by rw [h1, h2]⟩
        · exact ⟨_, cp, h1⟩
      subst hbw
      have hbl : s.2.2.length ≤ 2 ^ 63 - 1 := by
        rcases HR9.out.bnd.2 with ⟨h1, h2⟩ | ⟨_, cp, _, h1, _, _, h3, h4, _⟩
        · omega
        · unfold maxLen at h4; omega
      have hll : s.2.1.length ≤ 2 ^ 63 - 1 := by
        have := (CRw.form HR9.out.row)
        obtain ⟨_, _, _, _, h4⟩ := this
        unfold maxLen at h4; omega
      have HSi : Hid (Calls Try.prog 41 #[.slice sb s.2.2.length cb, .slice sc s.2.2.length cc] w8 fun e w' => ∃ ok : Bool, e = .returned (.bool ok) ∧ (ok = true ↔ True) ∧ Below w8.heap.size w8 w') := by
        have h9 := sameInts_any (sa := sb) (sb := sc) (ca := cb) (cb := cc) (s.2.2.map fun x : Nat => (x : Int)) (s.2.2.map fun x : Nat => (x : Int)) w8 HV9.out.2 (ir_row HR9.out.bnd) (by simpa using hbl)
        rw [List.length_map] at h9
        refine h9.mono ?_
        rintro e w' ⟨ok, h1, h2, h3⟩
        exact ⟨ok, h1, by rw [h2]; simp, h3⟩
      have HSh : Hid (∀ W, Below w8.heap.size w8 W → Calls Try.prog 44 #[.slice sv s.2.1.length cv, .slice (some ⟨g', 0, none⟩) s.2.1.length cap'] W fun e w' => ∃ ok : Bool, e = .returned (.bool ok) ∧ (ok = true ↔ True) ∧ Below W.heap.size W w') := fun W hW => by
        refine (sameHeap_any (sa := sv) (sb := some ⟨g', 0, none⟩) (ca := cv) (cb := cap') s.2.1 s.2.1 W (HV9.out.1.below hW) ((cr_row HR9.out.row).below hW) hll).mono ?_
        rintro e w' ⟨ok, h1, h2, h3⟩
        exact ⟨ok, h1, by rw [h2]; simp, h3⟩
      have HM0 : Hid (∀ W, Below w8.heap.size w8 W → W.cell? ⟨w6.heap.size, 0, none⟩ = some (.slice (some ⟨g', 0, none⟩) s.2.1.length cap')) := fun W hW => (HR9.out.below hW).cells.1
      generalize 4000 - (MR.yes s).left = wx at *
      clear m0
      go_wp2_with fail
      refine HSi.out.mono ?_
      rintro e w9 ⟨ok, rfl, hok, hb9⟩
      obtain rfl : ok = true := hok.2 trivial
      have m9 := HM0.out _ hb9
      have HS9 := HSh.out _ hb9
      have HB9 : Hid (Below w.heap.size w w9) := below_after2 (below_after2 HB3.out HB38.out) hb9
      clear hb9 hok
      go_wp2_with fail
      refine HS9.mono ?_
      rintro e w10 ⟨ok, rfl, hok, hb10⟩
      obtain rfl : ok = true := hok.2 trivial
      have HB10 : Hid (Below w.heap.size w w10) := below_after2 HB9.out hb10
      clear hb10 hok
      go_wp2_with fail
      go_ret
      exact ⟨rfl, HB10.out⟩
end Go.Proofs.Ytmggaclaoefdaaa
