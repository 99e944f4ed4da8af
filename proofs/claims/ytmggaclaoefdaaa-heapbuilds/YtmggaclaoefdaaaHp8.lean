/- The reference's Stood, walked. -/
import Derived.Test.YtmggaclaoefdaaaHr8
import Derived.Test.YtmggaclaoefdaaaGAK
namespace Go.Proofs.Ytmggaclaoefdaaa
open Go.RowKit
set_option linter.unusedVariables false
set_option linter.unusedSimpArgs false

def SdP (h : Nat → Cl) (len most i : Nat) (w : World) (e : Ending) (w' : World) : Prop := Below w.heap.size w w' ∧
  ((cntA h len i ≤ most ∧ ∃ X : Tm, e = T3 X (cntA h len i : Int) true ∧ TIn w' X ∧ Above w.heap.size X ∧ can X = std h len i) ∨ (most < cntA h len i ∧ ∃ n : Nat, e = T3 (vT 0) (n : Int) false ∧ n ≤ most + 1))
def SdC (most : Nat) : Prop := ∀ (h : Nat → Cl) (len i : Nat) (a : Option Addr) (cap : Nat) (w : World), HG h len → len ≤ 1000000 → i < len → HIn w a len h → Calls Try.prog 45 #[.slice a len cap, .int .i64 (i : Int), .int .i64 (most : Int)] w (SdP h len most i w)
set_option maxRecDepth 100000 in
set_option maxHeartbeats 8000000 in
theorem stood_step (most : Nat) (hm : most ≤ 200) (hall : ∀ k, k < most → SdC k) : SdC most := by
  intro h len i a cap w H hlb hi hh
  have HAll : Hid (∀ k, k < most → SdC k) := hall
  have HH : Hid (∀ W, Below w.heap.size w W → HIn W a len h) := fun W hW => hh.below hW
  have HG' : Hid (HG h len) := H
  have hz := H.end_lt hi
  have Hor := H.end_or hi
  have HEn : Hid (∀ W, Below w.heap.size w W → Calls Try.prog 37 #[.slice a len cap, .int .i64 i] W fun e w' => e = .returned (.int .i64 (endA h len i : Nat)) ∧ w' = W) := fun W hW => endOf_any (H.endR hi) W (hh.below hW)
  have HSv : Hid ((h (endA h len i)).k = 1 → std h len i = can (vT ((endA h len i : Int) + 1)) ∧ cntA h len i = 1) := fun e => ⟨std_var e, cntA_var e⟩
  have HSf : Hid (∀ n : Nat, (h (endA h len i)).k = 2 → (h (endA h len i)).n = (n : Int) → std h len i = .mk 0 (h (endA h len i)).nm none n 0 (fun j => if j < n then std h len (endA h len i + 1 + j) else .nil) ∧ cntA h len i = 1 + sumTo (fun j => cntA h len (endA h len i + 1 + j)) n) := fun n e e' => ⟨std_fn H hi e e', cntA_fn H hi e e'⟩
  have HNa : Hid ((h (endA h len i)).nm.size ≤ maxLen) := hh.nm _ hz
  have HC1 : Hid (1 ≤ cntA h len i) := cntA_pos
  have HBa : Hid (Below w.heap.size w (w.alloc (.cells #[.int .i64 0, .string ⟨#[]⟩, .slice none 0 0] 24))) := (Below.refl _ _).alloc (Nat.le_refl _) _
  have HXa : Hid ((w.alloc (.cells #[.int .i64 0, .string ⟨#[]⟩, .slice none 0 0] 24)).heap[w.heap.size]? = some (.cells #[.int .i64 0, .string ⟨#[]⟩, .slice none 0 0] 24)) := heap_alloc_new _ _
  have hsa : (w.alloc (.cells #[.int .i64 0, .string ⟨#[]⟩, .slice none 0 0] 24)).heap.size = w.heap.size + 1 := by simp
  obtain ⟨i0, hi0, hz0, hz1, hz2⟩ := info_parts Try.info24
  generalize endA h len i = z at *
  clear hall hh H
  go_enter Try.func45, Try.ntmps45
  go_wp2_with fail
  generalize w.alloc (.cells #[.int .i64 0, .string ⟨#[]⟩, .slice none 0 0] 24) = wa at *
  refine (HEn.out wa HBa.out).mono ?_
  rintro e w1 ⟨rfl, hw1⟩
  rw [hw1]
  clear hw1 HEn
  obtain ⟨x0, x1, x2, f0, f1, f2⟩ := block_cells HXa.out
  obtain ⟨b, o, rfl, k0, k1, k2⟩ := (HH.out wa HBa.out).row z hz
  have hzI : (z : Int) < (len : Int) := by omega
  by_cases hm0 : most = 0
  · have hgb : decide ((1 : Int) > (most : Int)) = true := decide_eq_true (by omega)
    have hgb2 : (most : Int) < 1 := by omega
    go_wp2_with fail
    obtain ⟨V', hV, z0, z1, z2, hBV, _⟩ := fin3n (r := w.heap.size) (Nat.le_refl _) HXa.out HBa.out (.int .i64 0) (.string ⟨#[]⟩) (.slice none 0 0)
    rw [hV]
    refine bodyPost_ret (v := .tuple #[(vT 0).val, .int .i64 ((1 : Nat) : Int), .bool false]) ?_ rfl ⟨hBV, .inr ⟨by have := HC1.out; omega, 1, rfl, by omega⟩⟩
    simp [results, Try.results45, go_sem, z0, z1, z2, Tm.val, vT, Tm.v, Tm.nm, Tm.a, Tm.len, Tm.cap]
  have hgb : decide ((1 : Int) > (most : Int)) = false := decide_eq_false (by omega)
  have hgb2 : ¬ (most : Int) < 1 := by omega
  rcases Hor with ⟨hk, hkn⟩ | hk
  · have hkb : ((h z).k == 1) = true := by rw [hk]; rfl
    have hwz : IntKind.i64.wrap ((z : Int) + 1) = (z : Int) + 1 := by simp [IntKind.wrap, IntKind.bits, IntKind.signed]; omega
    have HS : Hid (std h len i = can (vT ((z : Int) + 1)) ∧ cntA h len i = 1) := HSv.out hk
    clear hk hkn HSv HSf
    go_wp2_with fail
    obtain ⟨V', hV, z0, z1, z2, hBV, _⟩ := fin3n (r := w.heap.size) (Nat.le_refl _) HXa.out HBa.out (.int .i64 ((z : Int) + 1)) (.string ⟨#[]⟩) (.slice none 0 0)
    rw [hV]
    refine bodyPost_ret (v := .tuple #[(vT ((z : Int) + 1)).val, .int .i64 ((1 : Nat) : Int), .bool true]) ?_ rfl ⟨hBV, .inl ⟨by rw [HS.out.2]; omega, vT ((z : Int) + 1), by rw [HS.out.2]; rfl, vT_in _ _, ⟨fun h => absurd h (Nat.lt_irrefl 0), fun j hj => absurd hj (Nat.not_lt_zero j)⟩, HS.out.1.symm⟩⟩
    simp [results, Try.results45, go_sem, z0, z1, z2, Tm.val, vT, Tm.v, Tm.nm, Tm.a, Tm.len, Tm.cap]
  · have hkb : ((h z).k == 1) = false := by rw [hk]; rfl
    obtain ⟨n, hn⟩ : ∃ n : Nat, (h z).n = n := ⟨(h z).n.toNat, by have := HG'.out.ok.n0 z hz; omega⟩
    have hn4 : n ≤ 4 := by have := HG'.out.ok.n4 z hz (by omega); omega
    obtain ⟨hs1, hs2⟩ := HSf.out n hk hn
    have HS : Hid (std h len i = .mk 0 (h z).nm none n 0 (fun j => if j < n then std h len (z + 1 + j) else .nil)) := hs1
    have HSc : Hid (cntA h len i = 1 + sumTo (fun j => cntA h len (z + 1 + j)) n) := hs2
    have HKl : Hid (∀ j, j < n → z + 1 + j < len) := fun j hj => (HG'.out.kids z hz hk j (by omega)).1
    have Hn : Hid ((h z).n = (n : Int)) := hn
    have HBb : Hid (Below w.heap.size w (wa.alloc (.cells #[.int .i64 0, .string (h z).nm, .slice none 0 0] 24))) := HBa.out.alloc HBa.out.size _
    have HXb : Hid ((wa.alloc (.cells #[.int .i64 0, .string (h z).nm, .slice none 0 0] 24)).heap[w.heap.size]? = some (.cells #[.int .i64 0, .string ⟨#[]⟩, .slice none 0 0] 24)) := by rw [Hid, heapOld _ _ (by omega)]; exact HXa.out
    have HYb : Hid ((wa.alloc (.cells #[.int .i64 0, .string (h z).nm, .slice none 0 0] 24)).heap[w.heap.size + 1]? = some (.cells #[.int .i64 0, .string (h z).nm, .slice none 0 0] 24)) := by
      have := heap_alloc_new wa (.cells #[.int .i64 0, .string (h z).nm, .slice none 0 0] 24)
      rwa [hsa] at this
    have hsb : (wa.alloc (.cells #[.int .i64 0, .string (h z).nm, .slice none 0 0] 24)).heap.size = w.heap.size + 2 := by simp; omega
    clear hk hn hs1 hs2 HSv HSf
    go_wp2_with fail
    generalize wa.alloc (.cells #[.int .i64 0, .string (h z).nm, .slice none 0 0] 24) = wb at *
    generalize hs : w.heap.size = s at *
    go_loopw [9, 11] (fun p q wr => ∃ (j : Nat) (ts : List Tm) (v : Value), j ≤ n ∧ p = .int .i64 ((1 + sumTo (fun j => cntA h len (z + 1 + j)) j : Nat) : Int) ∧ q = .int .i64 ((j : Int) + 1) ∧ 1 + sumTo (fun j => cntA h len (z + 1 + j)) j ≤ most ∧ LstR (s + 2) wr v ts ts ∧ ts.length = j ∧ wr.heap[s + 1]? = some (.cells #[.int .i64 0, .string (h z).nm, v] 24) ∧ wr.heap[s]? = some (.cells #[.int .i64 0, .string ⟨#[]⟩, .slice none 0 0] 24) ∧ s + 2 ≤ wr.heap.size ∧ Below s w wr ∧ (∀ i, i < j → can (ts.getD i .nil) = std h len (z + 1 + i))) (fun _ q _ => n + 1 - (intOf q).toNat)
    case atStart => exact ⟨0, [], _, Nat.zero_le _, rfl, rfl, by show 1 + 0 ≤ most; omega, ⟨World.ownsRow_nil _ _ _ _, fun c hc => absurd hc (by simp), rfl, fun i hi => absurd hi (Nat.not_lt_zero i)⟩, rfl, HYb.out, HXb.out, by omega, HBb.out, fun i hi => absurd hi (Nat.not_lt_zero i)⟩
    case round =>
      obtain ⟨j, ts, v, hj, rfl, rfl, hnm, hL, hTL, hY, hX, hsz, hB, hVal⟩ := hrel
      have HL : Hid (LstR (s + 2) wr v ts ts) := hL
      have HTL : Hid (ts.length = j) := hTL
      have HY : Hid (wr.heap[s + 1]? = some (.cells #[.int .i64 0, .string (h z).nm, v] 24)) := hY
      have HX : Hid (wr.heap[s]? = some (.cells #[.int .i64 0, .string ⟨#[]⟩, .slice none 0 0] 24)) := hX
      have HB : Hid (Below s w wr) := hB
      have HVal : Hid (∀ i, i < j → can (ts.getD i .nil) = std h len (z + 1 + i)) := hVal
      have hts4 : ts.length ≤ 4 := by omega
      obtain ⟨b', o', e', kr0, kr1, kr2⟩ := (HH.out wr hB).row z hz
      cases e'
      rw [Hn.out] at kr1
      have HSu : Hid (sumTo (fun j => cntA h len (z + 1 + j)) (j + 1) = sumTo (fun j => cntA h len (z + 1 + j)) j + cntA h len (z + 1 + j)) := rfl
      have HSl : Hid (sumTo (fun j => cntA h len (z + 1 + j)) (j + 1) ≤ sumTo (fun j => cntA h len (z + 1 + j)) n ∨ n ≤ j) := by
        rw [Hid]
        by_cases e : j < n
        · exact .inl (sumTo_le _ (by omega))
        · exact .inr (by omega)
      generalize hnn : 1 + sumTo (fun j => cntA h len (z + 1 + j)) j = nn at *
      have Hnn : Hid (1 + sumTo (fun j => cntA h len (z + 1 + j)) j = nn) := hnn
      have hn1 : 1 ≤ nn := by omega
      clear hL hTL hY hX hB hVal hnn
      by_cases hlt : j < n
      case neg =>
        have hje : n = j := by omega
        subst hje
        have hle : decide ((n : Int) + 1 ≤ (n : Int)) = false := decide_eq_false (by omega)
        have hle2 : ¬ ((n : Int) + 1 ≤ (n : Int)) := by omega
        obtain ⟨Q, hvQ, hQ, hQA, hQL, hQE, hQN⟩ := HL.out.exact
        have HQ : Hid (TIn wr Q ∧ Above (s + 2) Q ∧ Q.len = n ∧ ∀ i, i < Q.len → Q.f i = ts.getD i .nil) := ⟨hQ, hQA, by rw [hQL, HTL.out], hQE⟩
        subst hvQ
        clear hQ hQA hQL hQE hQN
        obtain ⟨c0, c1, c2, _, _, _⟩ := block_cells HY.out
        obtain ⟨y0, y1, y2, g0, g1, g2⟩ := block_cells HX.out
        go_wp2_with fail
        obtain ⟨V', hV, z0, z1, z2, hBV, hgV⟩ := fin3n (w := w) (r := s) (by omega) HX.out (by rw [hs]; exact HB.out) (.int .i64 0) (.string (h z).nm) (.slice Q.a Q.len Q.cap)
        rw [hV]
        have hQ' : TIn V' Q := HQ.out.1.grown hgV (fun k hk => by obtain rfl := Option.some.inj hk; exact HQ.out.2.1.nb (by omega))
        have hce : cntA h len i = nn := by rw [HSc.out]; exact Hnn.out
        refine bodyPost_ret (v := .tuple #[Tm.val (.mk 0 (h z).nm Q.a Q.len Q.cap Q.f), .int .i64 (nn : Int), .bool true]) ?_ rfl ⟨hBV, .inl ⟨by rw [hce]; exact hnm, .mk 0 (h z).nm Q.a Q.len Q.cap Q.f, by rw [hce]; rfl, hQ'.retop HNa.out, (HQ.out.2.1.mono (by omega)).retop, ?_⟩⟩
        · simp [results, Try.results45, go_sem, z0, z1, z2, Tm.val, Tm.v, Tm.nm, Tm.a, Tm.len, Tm.cap]
        · rw [HS.out]
          show Tm.mk 0 (h z).nm none Q.len 0 (fun j => if j < Q.len then can (Q.f j) else .nil) = _
          rw [HQ.out.2.2.1]
          congr 1
          funext q
          by_cases hq : q < n
          · rw [if_pos hq, if_pos hq, HQ.out.2.2.2 q (by rw [HQ.out.2.2.1]; exact hq)]
            exact HVal.out q hq
          · rw [if_neg hq, if_neg hq]
      have hle : decide ((j : Int) + 1 ≤ (n : Int)) = true := decide_eq_true (by omega)
      have hle2 : (j : Int) + 1 ≤ (n : Int) := by omega
      have hkl := HKl.out j hlt
      have hwa : IntKind.i64.wrap ((z : Int) + ((j : Int) + 1)) = ((z + 1 + j : Nat) : Int) := by simp [IntKind.wrap, IntKind.bits, IntKind.signed]; omega
      have hwb : IntKind.i64.wrap ((most : Int) - (nn : Int)) = ((most - nn : Nat) : Int) := by simp [IntKind.wrap, IntKind.bits, IntKind.signed]; omega
      have HCall : Hid (Calls Try.prog 45 #[.slice (some ⟨b, o, none⟩) len cap, .int .i64 ((z + 1 + j : Nat) : Int), .int .i64 ((most - nn : Nat) : Int)] wr (SdP h len (most - nn) (z + 1 + j) wr)) := HAll.out (most - nn) (by omega) h len (z + 1 + j) _ cap wr HG'.out hlb hkl (HH.out wr HB.out)
      have hc1 : 1 ≤ cntA h len (z + 1 + j) := cntA_pos
      generalize hck : cntA h len (z + 1 + j) = ck at *
      have Hck : Hid (cntA h len (z + 1 + j) = ck) := hck
      clear hck
      go_wp2_with fail
      refine HCall.out.mono ?_
      rintro e w2 ⟨hb2, h2⟩
      have HB2 : Hid (Below wr.heap.size wr w2) := hb2
      have hs2 : wr.heap.size ≤ w2.heap.size := hb2.size
      rw [Hck.out] at h2
      rcases h2 with ⟨hle3, X, rfl, hX, hXA, hXV⟩ | ⟨hno, k, rfl, hk⟩
      case inr =>
        rw [show T3 (vT 0) (k : Int) false = .returned (.tuple #[.agg #[.int .i64 0, .string ⟨#[]⟩, .slice none 0 0], .int .i64 k, .bool false]) from rfl]
        have HNo : Hid (most < cntA h len i) := by
          have h1 := HSu.out
          have h2 := HSl.out
          have h3 := Hnn.out
          rw [Hid, HSc.out]
          omega
        have HBZ : Hid (Below s w (w2.alloc (.cells #[.int .i64 0, .string ⟨#[]⟩, .slice none 0 0] 24))) := (HB.out.trans (hb2.mono (by omega))).alloc (by omega) _
        have HZ3 : Hid ((w2.alloc (.cells #[.int .i64 0, .string ⟨#[]⟩, .slice none 0 0] 24)).heap[s]? = some (.cells #[.int .i64 0, .string ⟨#[]⟩, .slice none 0 0] 24)) := by rw [Hid, heapOld _ _ (by omega)]; exact (hb2.block s (by omega)).trans HX.out
        obtain ⟨y0, y1, y2, f0, f1, f2⟩ := block_cells HZ3.out
        have hwk : IntKind.i64.wrap ((nn : Int) + (k : Int)) = ((nn + k : Nat) : Int) := by simp [IntKind.wrap, IntKind.bits, IntKind.signed]; omega
        clear hno hb2 HSl
        go_wp2_with fail
        obtain ⟨V', hV, z0, z1, z2, hBV, _⟩ := fin3n (w := w) (r := s) (by omega) HZ3.out (by rw [hs]; exact HBZ.out) (.int .i64 0) (.string ⟨#[]⟩) (.slice none 0 0)
        rw [hV]
        refine bodyPost_ret (v := .tuple #[(vT 0).val, .int .i64 ((nn + k : Nat) : Int), .bool false]) ?_ rfl ⟨hBV, .inr ⟨HNo.out, nn + k, rfl, by omega⟩⟩
        simp [results, Try.results45, go_sem, z0, z1, z2, Tm.val, vT, Tm.v, Tm.nm, Tm.a, Tm.len, Tm.cap]
      rw [show T3 X (ck : Int) true = .returned (.tuple #[.agg #[.int .i64 X.v, .string X.nm, .slice X.a X.len X.cap], .int .i64 ck, .bool true]) from rfl]
      have HXf : Hid (TIn w2 X ∧ Above wr.heap.size X ∧ can X = std h len (z + 1 + j)) := ⟨hX, hXA, hXV⟩
      have hwk : IntKind.i64.wrap ((nn : Int) + (ck : Int)) = ((nn + ck : Nat) : Int) := by simp [IntKind.wrap, IntKind.bits, IntKind.signed]; omega
      have HL5 : Hid (LstR (s + 2) ((w2.alloc (.cells #[.int .i64 X.v, .string X.nm, .slice X.a X.len X.cap] 24)).alloc (.cells #[.int .i64 X.v, .string X.nm, .slice X.a X.len X.cap] 24)) v ts ts) := ((HL.out.keep HB2.out).keep ((Below.refl _ _).alloc (Nat.le_refl _) _)).keep ((Below.refl _ _).alloc (Nat.le_refl _) _)
      have HN5 : Hid (∀ j u, (flat [X])[j]? = some u → ((w2.alloc (.cells #[.int .i64 X.v, .string X.nm, .slice X.a X.len X.cap] 24)).alloc (.cells #[.int .i64 X.v, .string X.nm, .slice X.a X.len X.cap] 24)).cell? ((⟨w2.heap.size + 1, 0, none⟩ : Addr).add j) = some u) := by
        have := news1 (w2.alloc (.cells #[.int .i64 X.v, .string X.nm, .slice X.a X.len X.cap] 24)) X
        rwa [show (w2.alloc (.cells #[.int .i64 X.v, .string X.nm, .slice X.a X.len X.cap] 24)).heap.size = w2.heap.size + 1 from by simp] at this
      have hs5 : ((w2.alloc (.cells #[.int .i64 X.v, .string X.nm, .slice X.a X.len X.cap] 24)).alloc (.cells #[.int .i64 X.v, .string X.nm, .slice X.a X.len X.cap] 24)).heap.size = w2.heap.size + 2 := by simp
      have hsz3 : s + 2 ≤ ((w2.alloc (.cells #[.int .i64 X.v, .string X.nm, .slice X.a X.len X.cap] 24)).alloc (.cells #[.int .i64 X.v, .string X.nm, .slice X.a X.len X.cap] 24)).heap.size := by omega
      have HQ5 : Hid (((w2.alloc (.cells #[.int .i64 X.v, .string X.nm, .slice X.a X.len X.cap] 24)).alloc (.cells #[.int .i64 X.v, .string X.nm, .slice X.a X.len X.cap] 24)).heap[s + 1]? = some (.cells #[.int .i64 0, .string (h z).nm, v] 24)) := by
        rw [Hid, heapOld _ _ (by simp; omega), heapOld _ _ (by omega)]; exact (hb2.block (s + 1) (by omega)).trans HY.out
      have HQ4 : Hid ((w2.alloc (.cells #[.int .i64 X.v, .string X.nm, .slice X.a X.len X.cap] 24)).heap[s + 1]? = some (.cells #[.int .i64 0, .string (h z).nm, v] 24)) := by
        rw [Hid, heapOld _ _ (by omega)]; exact (hb2.block (s + 1) (by omega)).trans HY.out
      obtain ⟨p0, p1, p2, m0, m1, m2⟩ := block_cells HQ4.out
      have hne6 : some (s + 1) ≠ v.ownBlock := fun e => by have := (HL.out.own.lt _ e.symm).1; omega
      clear hb2 hX hXA hXV HSl kr0 kr1 kr2
      go_wp2_with (at_builtin; refine wpList_append_own_at _ rfl (.tmp 68) (.tmp 70) 22 rfl (s + 2) 24 i0 (.agg #[.int .i64 0, .string ByteArray.empty, .slice none 0 0]) 3 48 Try.underlying22 hi0 hz0 hz1 hz2 rfl (by decide) v ts.length (flat ts) rfl HL5.out.own ⟨w2.heap.size + 1, 0, none⟩ 1 1 (flat [X]) rfl rfl HN5.out (flat_one _) (by unfold maxLen; omega) (by omega) hsz3 ?_; intro v' w6 hown' hgrow hnil hat; have hv' : ∃ g' cap', v' = .slice (some ⟨g', 0, none⟩) (ts.length + 1) cap' := (by rcases hown'.2 with ⟨_, h0⟩ | ⟨g', cap', _, h, _⟩; (· omega); (· exact ⟨g', cap', h⟩)); obtain ⟨g', cap', rfl⟩ := hv'; have HQ6 : Hid (w6.heap[s + 1]? = some (.cells #[.int .i64 0, .string (h z).nm, v] 24)) := (hgrow.block (s + 1) (by omega) hne6).trans HQ5.out; obtain ⟨q0, q1, q2, n0, n1, n2⟩ := block_cells HQ6.out)
      have hgs := grown_set (W := w6) (s + 1) 2 (.slice (some ⟨g', 0, none⟩) (ts.length + 1) cap')
      have hB5 : Below s w ((w2.alloc (.cells #[.int .i64 X.v, .string X.nm, .slice X.a X.len X.cap] 24)).alloc (.cells #[.int .i64 X.v, .string X.nm, .slice X.a X.len X.cap] 24)) := ((HB.out.trans (HB2.out.mono (by omega))).alloc (by omega) _).alloc (by simp; omega) _
      have hB6 : Below s w w6 := hB5.grown hgrow (by omega) (fun p hp => by have := (HL5.out.own.lt p hp).1; omega)
      have h6s := hgrow.size
      have HBF : Hid (Below s w (w6.setCell ⟨s + 1, 2, none⟩ (.slice (some ⟨g', 0, none⟩) (ts.length + 1) cap'))) := hB6.grown hgs (by omega) (fun p hp => by have := Option.some.inj hp; omega)
      have hX5 : TIn ((w2.alloc (.cells #[.int .i64 X.v, .string X.nm, .slice X.a X.len X.cap] 24)).alloc (.cells #[.int .i64 X.v, .string X.nm, .slice X.a X.len X.cap] 24)) X := (HXf.out.1.below ((Below.refl _ _).alloc (Nat.le_refl _) _)).below ((Below.refl _ _).alloc (Nat.le_refl _) _)
      have hL6 : LstR (s + 2) w6 (.slice (some ⟨g', 0, none⟩) (ts.length + 1) cap') (ts ++ [X]) (ts ++ [X]) := HL5.out.more hX5 (HXf.out.2.1.mono (by omega)) (fun p hp => HXf.out.2.1.nb (HL.out.own.lt p hp).2) (Sim.refl X) hown' hgrow hat
      have HLF : Hid (LstR (s + 2) (w6.setCell ⟨s + 1, 2, none⟩ (.slice (some ⟨g', 0, none⟩) (ts.length + 1) cap')) (.slice (some ⟨g', 0, none⟩) (ts.length + 1) cap') (ts ++ [X]) (ts ++ [X])) := by
        refine ⟨hL6.own.kept hgs (.inr (fun e => by have h1 := (hL6.own.lt g' rfl).1; have h2 : g' = s + 1 := Option.some.inj e; omega)), fun U hU => ?_, hL6.len, hL6.sim⟩
        obtain ⟨h1, h2, h3⟩ := hL6.all U hU
        exact ⟨h1.grown hgs (fun p hp => by obtain rfl := Option.some.inj hp; exact h2.nb (by omega)), h2, h3⟩
      have HYF : Hid ((w6.setCell ⟨s + 1, 2, none⟩ (.slice (some ⟨g', 0, none⟩) (ts.length + 1) cap')).heap[s + 1]? = some (.cells #[.int .i64 0, .string (h z).nm, (.slice (some ⟨g', 0, none⟩) (ts.length + 1) cap')] 24)) := setL HQ6.out
      have HXF : Hid ((w6.setCell ⟨s + 1, 2, none⟩ (.slice (some ⟨g', 0, none⟩) (ts.length + 1) cap')).heap[s]? = some (.cells #[.int .i64 0, .string ⟨#[]⟩, .slice none 0 0] 24)) := (hgs.block _ (by omega) (by simp)).trans ((hgrow.block s (by omega) (fun e => by have := (HL5.out.own.lt _ e.symm).1; omega)).trans (by rw [heapOld _ _ (by simp; omega), heapOld _ _ (by omega)]; exact (HB2.out.block s (by omega)).trans HX.out))
      have hszF : s + 2 ≤ (w6.setCell ⟨s + 1, 2, none⟩ (.slice (some ⟨g', 0, none⟩) (ts.length + 1) cap')).heap.size := by have := hgs.size; omega
      have HVF : Hid (∀ i, i < j + 1 → can ((ts ++ [X]).getD i .nil) = std h len (z + 1 + i)) := fun i hi => by
        have hj' := HTL.out
        by_cases h2 : i < j
        · have e : (ts ++ [X]).getD i .nil = ts.getD i .nil := by simp [List.getD, List.getElem?_append_left (show i < ts.length by omega)]
          rw [e]; exact HVal.out i h2
        · obtain rfl : i = j := by omega
          have e : (ts ++ [X]).getD i .nil = X := by rw [← hj']; simp [List.getD]
          rw [e]; exact HXf.out.2.2
      have hlF : (ts ++ [X]).length = j + 1 := by rw [List.length_append, HTL.out]; rfl
      have HnF : Hid (nn + ck = 1 + sumTo (fun j => cntA h len (z + 1 + j)) (j + 1)) := by rw [Hid, HSu.out, ← Hnn.out]; omega
      clear hgs hB5 hB6 hX5 hL6 hown' hgrow hnil hat
      go_wp2_with fail
      go_roundw
      case rel => exact ⟨j + 1, ts ++ [X], _, by omega, by rw [← HnF.out]; first | rfl | rw [Int.natCast_add] | simp, by go_num, by rw [← HnF.out]; omega, HLF.out, hlF, HYF.out, HXF.out, hszF, HBF.out, HVF.out⟩
      case measure => simp [intOf]; omega
theorem stood_all : ∀ most, most ≤ 200 → SdC most := by
  intro most
  induction most using Nat.strongRecOn with
  | _ most ih => intro hm; exact stood_step most hm fun k hk => ih k hk (by omega)
end Go.Proofs.Ytmggaclaoefdaaa
