/- What Print answers. -/
import Derived.Test.YtmggaclaoefdaaaDoorGoals
namespace Go.Proofs.YtmggaclaoefdaaaDoor
open Go.RowKit

def clO (H B : Tm) : Obj := .cells #[.int .i64 H.v, .string H.nm, .slice H.a H.len H.cap, .slice B.a B.len B.cap] 50
theorem kept_cl {b k : Nat} {w w' : World} {H B : Tm} (hk : Lib.OthersKept 5 (some b) w w') (hne : k ≠ b) (h : w.heap[k]? = some (clO H B)) : w'.heap[k]? = some (clO H B) :=
  hk k _ h (fun e => hne (Option.some.inj e)) (fun c fz e => by unfold clO at e; injection e with _ e2 _; exact absurd e2 (by decide))
theorem cells_of_cl {w : World} {k : Nat} {H B : Tm} (h : w.heap[k]? = some (clO H B)) : w.cell? ⟨k, 3, none⟩ = some (.slice B.a B.len B.cap) := by
  unfold clO at h
  simp [World.cell?, h]
theorem txts_one (b : Nat) (T : Tm) : txts (one b T) = txt T := by
  show [] ++ (if 0 = 0 then [] else [44, 32]) ++ txt T = txt T
  simp
/-- A list of one term, in a block of its own that is kept. -/
theorem one_kept {w' : World} {b : Nat} {T : Tm} (hx : w'.heap[b]? = some (boxO T)) (hT : TIn w' T) : TIn w' (one b T) := by
  refine ⟨Nat.zero_le _, by unfold maxLen; omega, fun i hi => ?_⟩
  have hi0 : i = 0 := by omega
  subst hi0
  obtain ⟨h0, h1, h2⟩ := cells_of_block hx
  exact ⟨⟨b, 0, rfl, h0, h1, h2⟩, hT⟩

def printV (P : Pg) : List UInt8 := if progV P = 0 then progT P else []

set_option maxRecDepth 100000 in
set_option maxHeartbeats 2000000 in
theorem print_any (P : Pg) (w : World) (hin : PIn w P) :
    Calls Tryd.prog 6 #[.slice P.a P.len P.cap] w fun e w' => e = .returned (.tuple #[.string ⟨(printV P).toArray⟩, .int .i64 (progV P)]) ∧ Below w.heap.size w w' := by
  have HIn : Hid (PIn w P) := hin
  have hlen : P.len ≤ 2 ^ 63 - 1 := hin.1
  clear hin
  go_enter Tryd.func6, Tryd.ntmps6
  go_wp2_with fail
  refine (clauses_any P _ HIn.out).mono ?_
  rintro e w1 ⟨rfl, hb1⟩
  have HB1 : Hid (Below w.heap.size w w1) := hb1
  have hs1 := hb1.size
  clear hb1
  by_cases hz : progV P = 0
  case neg =>
    have HX : Hid (printV P = []) := by rw [Hid, printV, if_neg hz]
    have hzb : (progV P == 0) = false := beq_eq_false_iff_ne.2 hz
    clear hz
    go_wp2_with fail
    go_ret2
    exact ⟨by rw [HX.out]; rfl, HB1.out⟩
  have HZ : Hid (progV P = 0) := hz
  have hok := okP_prog hz
  have HX : Hid (printV P = pgTo P.hd P.bd P.len) := by rw [Hid, printV, if_pos hz]; rfl
  rw [hz]
  clear hz
  have HOk : Hid (∀ i, i < P.len → okT (P.hd i) ∧ okQ (P.bd i)) := hok.2
  have hl30 : P.len ≤ 30 := hok.1
  have HSt : Hid (St w1.heap.size w1.heap.size (w1.alloc (.cells #[.pointer none, .slice none 0 0] 46)) [] (w1.alloc (.cells #[.pointer none, .slice none 0 0] 46))) := new_builder w1
  have HBa : Hid (Below w1.heap.size w1 (w1.alloc (.cells #[.pointer none, .slice none 0 0] 46))) := (Below.refl _ _).alloc (Nat.le_refl _) _
  have HRow : Hid (∀ k, k < P.len → ∀ wr, Below w1.heap.size (w1.alloc (.cells #[.pointer none, .slice none 0 0] 46)) wr → ClAt wr P.a k (P.hd k) (P.bd k) ∧ TIn wr (P.hd k) ∧ TIn wr (P.bd k)) := fun k hk wr hb => ((HIn.out.below HB1.out).below (HBa.out.trans hb)).2 k hk
  clear hok
  generalize P.hd = hd at *
  generalize P.bd = bd at *
  generalize P.cap = cap at *
  generalize P.a = a at *
  generalize hl : P.len = len at *
  clear hl
  go_wp2_with fail
  go_loopw [15] (fun i wr => ∃ k : Nat, k ≤ len ∧ i = .int .i64 k ∧ St w1.heap.size w1.heap.size (w1.alloc (.cells #[.pointer none, .slice none 0 0] 46)) (pgTo hd bd k) wr) (fun i _ => len - (intOf i).toNat)
  case atStart => exact ⟨0, Nat.zero_le _, rfl, HSt.out⟩
  case round =>
    obtain ⟨k, hk, rfl, hS⟩ := hrel
    have HS : Hid (St w1.heap.size w1.heap.size (w1.alloc (.cells #[.pointer none, .slice none 0 0] 46)) (pgTo hd bd k) wr) := hS
    have hbk := hS.lt
    clear hS
    by_cases hlt : k < len
    · obtain ⟨⟨b, o, ha, c0, c1, c2, c3⟩, _, _⟩ := HRow.out k hlt wr HS.out.2.1
      have HK : Hid (okT (hd k)) := (HOk.out k hlt).1
      have HKQ : Hid (okQ (bd k)) := (HOk.out k hlt).2
      have HRk : Hid (∀ wr, Below w1.heap.size (w1.alloc (.cells #[.pointer none, .slice none 0 0] 46)) wr → TIn wr (hd k) ∧ TIn wr (bd k)) := fun wr hb => (HRow.out k hlt wr hb).2
      have ht := txt_le HK.out
      have htq := goalsT_le HKQ.out
      have htx := txts_le HKQ.out
      have hpk : (pgTo hd bd k).length ≤ 160000 := by
        have := pgTo_bd (h := hd) (b := bd) (k := k) (fun i hi => HOk.out i (by omega))
        omega
      have HE : Hid (pgTo hd bd (k + 1) = pgTo hd bd k ++ (txt (hd k) ++ (if (bd k).len = 0 then [] else [32, 58, 45, 32] ++ goalsT (bd k)) ++ [46, 10])) := rfl
      generalize pgTo hd bd k = pk at *
      subst ha
      -- the clause, and the list of its head
      have HSa : Hid (St w1.heap.size w1.heap.size (w1.alloc (.cells #[.pointer none, .slice none 0 0] 46)) pk ((wr.alloc (clO (hd k) (bd k))).alloc (boxO (hd k)))) := (HS.out.alloc _).alloc _
      have HCa : Hid (((wr.alloc (clO (hd k) (bd k))).alloc (boxO (hd k))).heap[wr.heap.size]? = some (clO (hd k) (bd k))) := by
        rw [Hid, heap_alloc_old _ _ (by simp)]; exact heap_alloc_new wr _
      have HXa : Hid (((wr.alloc (clO (hd k) (bd k))).alloc (boxO (hd k))).heap[wr.heap.size + 1]? = some (boxO (hd k))) := by
        have := heap_alloc_new (wr.alloc (clO (hd k) (bd k))) (boxO (hd k))
        rw [Hid]; simpa using this
      generalize hW : (wr.alloc (clO (hd k) (bd k))).alloc (boxO (hd k)) = W at *
      have HW : Hid ((wr.alloc (clO (hd k) (bd k))).alloc (boxO (hd k)) = W) := hW
      clear hW
      go_wp2_with fail
      have hWe : (wr.alloc (Obj.cells #[.int .i64 (hd k).v, .string (hd k).nm, .slice (hd k).a (hd k).len (hd k).cap, .slice (bd k).a (bd k).len (bd k).cap] 50)).alloc (Obj.cells #[.int .i64 (hd k).v, .string (hd k).nm, .slice (hd k).a (hd k).len (hd k).cap] 48) = W := HW.out
      rw [hWe]
      clear hWe HW
      refine (write_any (one (wr.heap.size + 1) (hd k)) w1.heap.size w1.heap.size W pk (fun w' h1 h2 => one_kept (kept_block h2 (by omega) HXa.out) (HRk.out w' (HSa.out.2.1.trans h1)).1) ⟨HSa.out.1, Below.refl _ _, Lib.OthersKept.refl _ _ _, HSa.out.2.2.2⟩ (fun i _ => HK.out.2) (by rw [txts_one]; omega)).mono ?_
      rintro e w2 ⟨rfl, hS2⟩
      rw [txts_one] at hS2
      have HS2 : Hid (St w1.heap.size w1.heap.size (w1.alloc (.cells #[.pointer none, .slice none 0 0] 46)) (pk ++ txt (hd k)) w2) := ⟨hS2.1, HSa.out.2.1.trans hS2.2.1, HSa.out.2.2.1.trans hS2.2.2.1, hS2.2.2.2⟩
      have HC2 : Hid (w2.heap[wr.heap.size]? = some (clO (hd k) (bd k))) := kept_cl hS2.2.2.1 (by omega) HCa.out
      have hc3 := cells_of_cl HC2.out
      clear hS2 c0 c1 c2 c3
      by_cases hl0 : (bd k).len = 0
      · have HE2 : Hid (pgTo hd bd (k + 1) = pk ++ txt (hd k) ++ [46, 10]) := by rw [Hid, HE.out, if_pos hl0]; simp
        have hlz : ¬ 0 < (bd k).len := by omega
        clear hl0
        go_wp2_with fail
        refine (ws_any ⟨#[46, 10]⟩ HS2.out (by rw [List.length_append]; show _ + 2 ≤ _; omega)).mono ?_
        rintro e w3 ⟨rfl, hS3, _⟩
        have HS3 : Hid (St w1.heap.size w1.heap.size (w1.alloc (.cells #[.pointer none, .slice none 0 0] 46)) (pgTo hd bd (k + 1)) w3) := by rw [Hid, HE2.out]; exact hS3
        clear hS3
        go_wp2_with fail
        go_roundw
        case rel => exact ⟨k + 1, by omega, by go_num, HS3.out⟩
        case measure => simp [intOf]; omega
      · have HGt : Hid (goalsT (bd k) = txts (bd k)) := by rw [Hid, goalsT, if_neg hl0]
        have HE2 : Hid (pgTo hd bd (k + 1) = pk ++ txt (hd k) ++ [32, 58, 45, 32] ++ txts (bd k) ++ [46, 10]) := by rw [Hid, HE.out, if_neg hl0, HGt.out]; simp
        have hlp : 0 < (bd k).len := by omega
        clear hl0
        go_wp2_with fail
        refine (ws_any ⟨#[32, 58, 45, 32]⟩ HS2.out (by rw [List.length_append]; show _ + 4 ≤ _; omega)).mono ?_
        rintro e w3 ⟨rfl, hS3, hk3⟩
        have HS3 : Hid (St w1.heap.size w1.heap.size (w1.alloc (.cells #[.pointer none, .slice none 0 0] 46)) (pk ++ txt (hd k) ++ [32, 58, 45, 32]) w3) := hS3
        have HC3 : Hid (w3.heap[wr.heap.size]? = some (clO (hd k) (bd k))) := kept_cl hk3 (by omega) HC2.out
        have hd3 := cells_of_cl HC3.out
        clear hS3 hk3
        go_wp2_with fail
        refine (write_any (bd k) w1.heap.size w1.heap.size w3 _ (fun w' h1 _ => (HRk.out w' (HS3.out.2.1.trans h1)).2) ⟨HS3.out.1, Below.refl _ _, Lib.OthersKept.refl _ _ _, HS3.out.2.2.2⟩ (fun i hi => (HKQ.out.2 i hi).2) (by rw [List.length_append, List.length_append]; show _ + 4 + _ ≤ _; omega)).mono ?_
        rintro e w4 ⟨rfl, hS4⟩
        have HS4 : Hid (St w1.heap.size w1.heap.size (w1.alloc (.cells #[.pointer none, .slice none 0 0] 46)) (pk ++ txt (hd k) ++ [32, 58, 45, 32] ++ txts (bd k)) w4) := ⟨hS4.1, HS3.out.2.1.trans hS4.2.1, HS3.out.2.2.1.trans hS4.2.2.1, hS4.2.2.2⟩
        clear hS4
        go_wp2_with fail
        refine (ws_any ⟨#[46, 10]⟩ HS4.out (by rw [List.length_append, List.length_append, List.length_append]; show _ + 4 + _ + 2 ≤ _; omega)).mono ?_
        rintro e w5 ⟨rfl, hS5, _⟩
        have HS5 : Hid (St w1.heap.size w1.heap.size (w1.alloc (.cells #[.pointer none, .slice none 0 0] 46)) (pgTo hd bd (k + 1)) w5) := by rw [Hid, HE2.out]; exact hS5
        clear hS5
        go_wp2_with fail
        go_roundw
        case rel => exact ⟨k + 1, by omega, by go_num, HS5.out⟩
        case measure => simp [intOf]; omega
    · have hke : k = len := by omega
      have HR : Hid (pgTo hd bd k = printV P) := by rw [Hid, HX.out, hke]
      clear hke
      go_wp2_with fail
      refine (string_any HS.out).mono ?_
      rintro e w3 ⟨rfl, hb3⟩
      have HB3 : Hid (Below w.heap.size w w3) := HB1.out.trans ((HBa.out.trans hb3).mono hs1)
      clear hb3
      go_wp2_with fail
      go_ret2
      exact ⟨by rw [← HR.out, HZ.out]; rfl, HB3.out⟩
end Go.Proofs.YtmggaclaoefdaaaDoor
