/- What write lays into a builder: the text of terms. -/
import Derived.Test.YtmggaclaoefdaaaDoorText4
import Derived.Test.YtmggaclaoefdaaaDoorShelf
import Derived.Test.YtmggaclaoefdaaaDoorLayB
namespace Go.Proofs.YtmggaclaoefdaaaDoor
open Go.RowKit

/-- A builder b, at w, that holds bs; below B, and beside its bytes, all is as it was at w0. -/
def St (B b : Nat) (w0 : World) (bs : List UInt8) (w : World) : Prop :=
  Lib.IsBuilderF 46 5 B b (Lib.byteCells bs) w ∧ Below B w0 w ∧ Lib.OthersKept 5 (some b) w0 w ∧ B ≤ w.heap.size
def boxO (T : Tm) : Obj := .cells #[.int .i64 T.v, .string T.nm, .slice T.a T.len T.cap] 48

theorem St.lt {B b : Nat} {w0 w : World} {bs : List UInt8} (h : St B b w0 bs w) : b < w.heap.size := by
  have key : ∀ {p : Value}, Lib.BuilderAtF 46 5 B b p (Lib.byteCells bs) w → b < w.heap.size := fun h => by
    obtain ⟨_, v, hb, _⟩ := h
    exact (Array.getElem?_eq_some_iff.1 hb).1
  rcases h.1 with h | h
  · exact key h
  · exact key h
theorem St.alloc {B b : Nat} {w0 w : World} {bs : List UInt8} (h : St B b w0 bs w) (o : Obj) : St B b w0 bs (w.alloc o) :=
  ⟨h.1.alloc o, h.2.1.alloc h.2.2.2 o, h.2.2.1.alloc o, by have := h.2.2.2; simp; omega⟩
theorem kept_block {b k : Nat} {w w' : World} {T : Tm} (hk : Lib.OthersKept 5 (some b) w w') (hne : k ≠ b) (h : w.heap[k]? = some (boxO T)) : w'.heap[k]? = some (boxO T) :=
  hk k _ h (fun e => hne (Option.some.inj e)) (fun c fz e => by unfold boxO at e; injection e with _ e2 _; exact absurd e2 (by decide))
theorem cells_of_block {w : World} {k : Nat} {T : Tm} (h : w.heap[k]? = some (boxO T)) :
    w.cell? ⟨k, 0, none⟩ = some (.int .i64 T.v) ∧ w.cell? ⟨k, 1, none⟩ = some (.string T.nm) ∧ w.cell? ⟨k, 2, none⟩ = some (.slice T.a T.len T.cap) := by
  unfold boxO at h
  refine ⟨?_, ?_, ?_⟩ <;> simp [World.cell?, h]

theorem ws_any {B b : Nat} {w0 w : World} {bs : List UInt8} (s : ByteArray) (h : St B b w0 bs w) (hl : bs.length + s.size ≤ 2000000) :
    Calls Tryd.prog 21 #[.pointer (some ⟨b, 0, none⟩), .string s] w fun e w' => e = .returned (.tuple #[.int .i64 s.size, .nilIface]) ∧ St B b w0 (bs ++ s.data.toList) w' ∧ Lib.OthersKept 5 (some b) w w' := by
  refine (Tryd.Builder_WriteString_k B b _ s w h.1 (by rw [Lib.byteCells_length]; omega) h.2.2.2).mono ?_
  rintro e w' ⟨rfl, h1, h2, h3⟩
  refine ⟨rfl, ⟨?_, h.2.1.trans h2, h.2.2.1.trans h3, Nat.le_trans h.2.2.2 h2.size⟩, h3⟩
  rw [Lib.byteCells_append, ← Lib.strCells_eq]
  exact Or.inr h1

theorem decDigits_eq (n : Nat) (h : n ≤ 12) : Lib.decDigits n = digs n := by
  have : ∀ n : Fin 13, Lib.decDigits n.1 = digs n.1 := by decide +kernel
  exact this ⟨n, by omega⟩

set_option maxRecDepth 100000 in
set_option maxHeartbeats 2000000 in
theorem write_any (T : Tm) : ∀ (B b : Nat) (w : World) (bs : List UInt8), (∀ w', Below B w w' → Lib.OthersKept 5 (some b) w w' → TIn w' T) → St B b w bs w → (∀ i, i < T.len → err (T.f i) = 0) → bs.length + (txts T).length ≤ 1000000 →
    Calls Tryd.prog 20 #[.pointer (some ⟨b, 0, none⟩), .slice T.a T.len T.cap] w fun e w' => e = .returned (.tuple #[]) ∧ St B b w (bs ++ txts T) w' := by
  induction T with
  | nil => intro B b w bs hst; exact False.elim (hst w (Below.refl _ _) (Lib.OthersKept.refl _ _ _))
  | mk v nm a len cap f ih =>
    intro B b w bs hst hS hok hbd
    have IH : Hid (∀ i (B b : Nat) (w : World) (bs : List UInt8), (∀ w', Below B w w' → Lib.OthersKept 5 (some b) w w' → TIn w' (f i)) → St B b w bs w → (∀ j, j < (f i).len → err ((f i).f j) = 0) → bs.length + (txts (f i)).length ≤ 1000000 →
      Calls Tryd.prog 20 #[.pointer (some ⟨b, 0, none⟩), .slice (f i).a (f i).len (f i).cap] w fun e w' => e = .returned (.tuple #[]) ∧ St B b w (bs ++ txts (f i)) w') := ih
    have HSt : Hid (∀ w', Below B w w' → Lib.OthersKept 5 (some b) w w' → TIn w' (.mk v nm a len cap f)) := hst
    have HS0 : Hid (St B b w bs w) := hS
    have HOk : Hid (∀ i, i < len → err (f i) = 0) := hok
    have HBd : Hid (bs.length + (txtTo (fun i => txt (f i)) len).length ≤ 1000000) := hbd
    have hlen : len ≤ 2 ^ 63 - 1 := TIn.len (T := .mk v nm a len cap f) (hst w (Below.refl _ _) (Lib.OthersKept.refl _ _ _))
    have HT : Hid (txts (.mk v nm a len cap f) = txtTo (fun i => txt (f i)) len) := rfl
    clear ih hst hS hok hbd
    show Calls Tryd.prog 20 #[.pointer (some ⟨b, 0, none⟩), .slice a len cap] w _
    go_enter Tryd.func20, Tryd.ntmps20
    go_wp2_with fail
    go_loopw [8] (fun i wr => ∃ k : Nat, k ≤ len ∧ i = .int .i64 k ∧ St B b w (bs ++ txtTo (fun i => txt (f i)) k) wr) (fun i _ => len - (intOf i).toNat)
    case atStart => exact ⟨0, Nat.zero_le _, rfl, by simpa [txtTo] using HS0.out⟩
    case round =>
      obtain ⟨k, hk, rfl, hS⟩ := hrel
      have HS : Hid (St B b w (bs ++ txtTo (fun i => txt (f i)) k) wr) := hS
      clear hS
      by_cases hlt : k < len
      · have hin := HSt.out wr HS.out.2.1 HS.out.2.2.1
        have hr : RowAt wr a k (f k) := TIn.row (T := .mk v nm a len cap f) hin hlt
        obtain ⟨bb, o, ha, c0, c1, c2⟩ := hr
        have HE : Hid (txtTo (fun i => txt (f i)) (k + 1) = txtTo (fun i => txt (f i)) k ++ (if k = 0 then [] else [44, 32]) ++ txt (f k)) := rfl
        have HKid : Hid (∀ w', Below B w w' → Lib.OthersKept 5 (some b) w w' → TIn w' (f k)) := fun w' h1 h2 => TIn.kid (T := .mk v nm a len cap f) (HSt.out w' h1 h2) hlt
        have HOk1 : Hid (err (f k) = 0) := HOk.out k hlt
        have HL1 : Hid (bs.length + (txtTo (fun i => txt (f i)) (k + 1)).length ≤ 1000000) := by
          have h1 := HBd.out
          have h2 : (txtTo (fun i => txt (f i)) (k + 1)).length ≤ (txtTo (fun i => txt (f i)) len).length := txtTo_le _ hlt
          rw [Hid]; omega
        clear hin
        generalize htk : txtTo (fun i => txt (f i)) k = tk at *
        clear htk
        have HTx : Hid (txt (f k) = if (f k).v = 0 then (f k).nm.data.toList ++ (if (f k).len = 0 then [] else [40] ++ txts (f k) ++ [41]) else 86 :: digs (f k).v.toNat) := by
          cases hfk : f k with
          | nil => rw [Hid]; rfl
          | mk v nm a len cap f => rfl
        subst ha
        have hbk : b < wr.heap.size := HS.out.lt
        have hlb : bs.length + (tk ++ (if k = 0 then [] else [44, 32]) ++ txt (f k)).length ≤ 1000000 := by have := HL1.out; rw [HE.out] at this; exact this
        have hls : ((if k = 0 then [] else [44, 32]) : List UInt8).length ≤ 2 := by split <;> simp
        rw [List.length_append, List.length_append] at hlb
        generalize hsp : ((if k = 0 then [] else [44, 32]) : List UInt8) = sp at *
        have HSp : Hid ((if k = 0 then [] else [44, 32]) = sp) := hsp
        clear hsp
        have HSa : Hid (St B b w (bs ++ tk) (wr.alloc (boxO (f k)))) := HS.out.alloc _
        have HXa : Hid ((wr.alloc (boxO (f k))).heap[wr.heap.size]? = some (boxO (f k))) := heap_alloc_new wr _
        unfold boxO at HSa HXa
        by_cases hv : (f k).v = 0
        case neg =>
          obtain ⟨h1, h12, hl⟩ := ok_var HOk1.out hv
          clear hl
          have HTx2 : Hid (txt (f k) = 86 :: digs (f k).v.toNat) := by rw [Hid, HTx.out, if_neg hv]
          have hvb : ((f k).v == 0) = false := beq_eq_false_iff_ne.2 hv
          have hdl := digs_len (f k).v.toNat
          clear hv
          rcases Nat.eq_zero_or_pos k with hk0 | hk0
          · have HS2 : Hid (St B b w (bs ++ tk ++ sp) (wr.alloc (.cells #[.int .i64 (f k).v, .string (f k).nm, .slice (f k).a (f k).len (f k).cap] 48))) := by
              have h1 := HSp.out; rw [if_pos hk0] at h1; rw [Hid, ← h1, List.append_nil]; exact HSa.out
            have HX2 := HXa
            have hkn : ¬ 0 < k := by omega
            clear hk0
            go_wp2_with fail
            refine (ws_any ⟨#[86]⟩ HS2.out (by rw [List.length_append, List.length_append]; show _ + 1 ≤ _; omega)).mono ?_
            rintro e w3 ⟨rfl, hS3, hk3⟩
            have HS3 : Hid (St B b w (bs ++ tk ++ sp ++ [86]) w3) := hS3
            have HX3 : Hid (w3.heap[wr.heap.size]? = some (boxO (f k))) := kept_block hk3 (by omega) HX2.out
            clear hS3 hk3
            obtain ⟨y0, y1, y2⟩ := cells_of_block HX3.out
            go_wp2_with fail
            rw [show (f k).v = ((f k).v.toNat : Int) from by omega]
            refine (Tryd.strconv_Itoa_small (f k).v.toNat (by omega) _).mono ?_
            rintro e w4 ⟨rfl, rfl⟩
            rw [decDigits_eq _ (by omega)]
            go_wp2_with fail
            refine (ws_any ⟨(digs (f k).v.toNat).toArray⟩ HS3.out (by rw [List.length_append, List.length_append, List.length_append, size_list]; simp; omega)).mono ?_
            rintro e w5 ⟨rfl, hS5, hk5⟩
            have HS5 : Hid (St B b w (bs ++ txtTo (fun i => txt (f i)) (k + 1)) w5) := by
              rw [Hid, HE.out, HTx2.out]
              have : bs ++ (tk ++ sp ++ 86 :: digs (f k).v.toNat) = bs ++ tk ++ sp ++ [86] ++ digs (f k).v.toNat := by simp
              rw [this]; exact hS5
            clear hS5 hk5
            go_wp2_with fail
            go_roundw
            case rel => exact ⟨k + 1, by omega, by go_num, HS5.out⟩
            case measure => simp [intOf]; omega
          · go_wp2_with fail
            refine (ws_any ⟨#[44, 32]⟩ HSa.out (by rw [List.length_append]; show _ + 2 ≤ _; omega)).mono ?_
            rintro e w2 ⟨rfl, hS2, hk2⟩
            have HS2 : Hid (St B b w (bs ++ tk ++ sp) w2) := by
              have h1 := HSp.out; rw [if_neg (by omega)] at h1; rw [Hid, ← h1]; exact hS2
            have HX2 : Hid (w2.heap[wr.heap.size]? = some (boxO (f k))) := kept_block hk2 (by omega) HXa.out
            obtain ⟨x0, x1, x2⟩ := cells_of_block HX2.out
            clear hS2 hk2
            go_wp2_with fail
            refine (ws_any ⟨#[86]⟩ HS2.out (by rw [List.length_append, List.length_append]; show _ + 1 ≤ _; omega)).mono ?_
            rintro e w3 ⟨rfl, hS3, hk3⟩
            have HS3 : Hid (St B b w (bs ++ tk ++ sp ++ [86]) w3) := hS3
            have HX3 : Hid (w3.heap[wr.heap.size]? = some (boxO (f k))) := kept_block hk3 (by omega) HX2.out
            clear hS3 hk3
            obtain ⟨y0, y1, y2⟩ := cells_of_block HX3.out
            go_wp2_with fail
            rw [show (f k).v = ((f k).v.toNat : Int) from by omega]
            refine (Tryd.strconv_Itoa_small (f k).v.toNat (by omega) _).mono ?_
            rintro e w4 ⟨rfl, rfl⟩
            rw [decDigits_eq _ (by omega)]
            go_wp2_with fail
            refine (ws_any ⟨(digs (f k).v.toNat).toArray⟩ HS3.out (by rw [List.length_append, List.length_append, List.length_append, size_list]; simp; omega)).mono ?_
            rintro e w5 ⟨rfl, hS5, hk5⟩
            have HS5 : Hid (St B b w (bs ++ txtTo (fun i => txt (f i)) (k + 1)) w5) := by
              rw [Hid, HE.out, HTx2.out]
              have : bs ++ (tk ++ sp ++ 86 :: digs (f k).v.toNat) = bs ++ tk ++ sp ++ [86] ++ digs (f k).v.toNat := by simp
              rw [this]; exact hS5
            clear hS5 hk5
            go_wp2_with fail
            go_roundw
            case rel => exact ⟨k + 1, by omega, by go_num, HS5.out⟩
            case measure => simp [intOf]; omega
        have hn8 := (ok_name HOk1.out hv).1
        by_cases hl0 : (f k).len = 0
        case pos =>
          have HTx2 : Hid (txt (f k) = (f k).nm.data.toList) := by rw [Hid, HTx.out, if_pos hv, if_pos hl0, List.append_nil]
          have hlz : ¬ 0 < (f k).len := by omega
          have hvb : ((f k).v == 0) = true := beq_iff_eq.2 hv
          clear hv hl0
          rcases Nat.eq_zero_or_pos k with hk0 | hk0
          · have HS2 : Hid (St B b w (bs ++ tk ++ sp) (wr.alloc (.cells #[.int .i64 (f k).v, .string (f k).nm, .slice (f k).a (f k).len (f k).cap] 48))) := by
              have h1 := HSp.out; rw [if_pos hk0] at h1; rw [Hid, ← h1, List.append_nil]; exact HSa.out
            have HX2 := HXa
            have hkn : ¬ 0 < k := by omega
            clear hk0
            go_wp2_with fail
            refine (ws_any (f k).nm HS2.out (by rw [List.length_append, List.length_append]; omega)).mono ?_
            rintro e w3 ⟨rfl, hS3, hk3⟩
            have HS3 : Hid (St B b w (bs ++ txtTo (fun i => txt (f i)) (k + 1)) w3) := by
              rw [Hid, HE.out, HTx2.out]
              have : bs ++ (tk ++ sp ++ (f k).nm.data.toList) = bs ++ tk ++ sp ++ (f k).nm.data.toList := by simp
              rw [this]; exact hS3
            have HX3 : Hid (w3.heap[wr.heap.size]? = some (boxO (f k))) := kept_block hk3 (by omega) HX2.out
            clear hS3 hk3
            obtain ⟨y0, y1, y2⟩ := cells_of_block HX3.out
            go_wp2_with fail
            go_roundw
            case rel => exact ⟨k + 1, by omega, by go_num, HS3.out⟩
            case measure => simp [intOf]; omega
          · go_wp2_with fail
            refine (ws_any ⟨#[44, 32]⟩ HSa.out (by rw [List.length_append]; show _ + 2 ≤ _; omega)).mono ?_
            rintro e w2 ⟨rfl, hS2, hk2⟩
            have HS2 : Hid (St B b w (bs ++ tk ++ sp) w2) := by
              have h1 := HSp.out; rw [if_neg (by omega)] at h1; rw [Hid, ← h1]; exact hS2
            have HX2 : Hid (w2.heap[wr.heap.size]? = some (boxO (f k))) := kept_block hk2 (by omega) HXa.out
            obtain ⟨x0, x1, x2⟩ := cells_of_block HX2.out
            clear hS2 hk2
            go_wp2_with fail
            refine (ws_any (f k).nm HS2.out (by rw [List.length_append, List.length_append]; omega)).mono ?_
            rintro e w3 ⟨rfl, hS3, hk3⟩
            have HS3 : Hid (St B b w (bs ++ txtTo (fun i => txt (f i)) (k + 1)) w3) := by
              rw [Hid, HE.out, HTx2.out]
              have : bs ++ (tk ++ sp ++ (f k).nm.data.toList) = bs ++ tk ++ sp ++ (f k).nm.data.toList := by simp
              rw [this]; exact hS3
            have HX3 : Hid (w3.heap[wr.heap.size]? = some (boxO (f k))) := kept_block hk3 (by omega) HX2.out
            clear hS3 hk3
            obtain ⟨y0, y1, y2⟩ := cells_of_block HX3.out
            go_wp2_with fail
            go_roundw
            case rel => exact ⟨k + 1, by omega, by go_num, HS3.out⟩
            case measure => simp [intOf]; omega
        have HTx2 : Hid (txt (f k) = (f k).nm.data.toList ++ ([40] ++ txts (f k) ++ [41])) := by rw [Hid, HTx.out, if_pos hv, if_neg hl0]
        have hlp : 0 < (f k).len := by omega
        have hln : (f k).nm.data.toList.length + (txts (f k)).length + 2 = (txt (f k)).length := by rw [HTx2.out]; simp; omega
        have hnl : (f k).nm.size = (f k).nm.data.toList.length := size_list _
        have HOk2 : Hid (∀ j, j < (f k).len → err ((f k).f j) = 0) := fun j hj => ok_kid HOk1.out hj
        have hvb : ((f k).v == 0) = true := beq_iff_eq.2 hv
        clear hl0 hv
        rcases Nat.eq_zero_or_pos k with hk0 | hk0
        · have HS2 : Hid (St B b w (bs ++ tk ++ sp) (wr.alloc (.cells #[.int .i64 (f k).v, .string (f k).nm, .slice (f k).a (f k).len (f k).cap] 48))) := by
            have h1 := HSp.out; rw [if_pos hk0] at h1; rw [Hid, ← h1, List.append_nil]; exact HSa.out
          have HX2 := HXa
          have hkn : ¬ 0 < k := by omega
          clear hk0
          go_wp2_with fail
          refine (ws_any (f k).nm HS2.out (by rw [List.length_append, List.length_append]; omega)).mono ?_
          rintro e w3 ⟨rfl, hS3, hk3⟩
          have HS3 : Hid (St B b w (bs ++ tk ++ sp ++ (f k).nm.data.toList) w3) := hS3
          have HX3 : Hid (w3.heap[wr.heap.size]? = some (boxO (f k))) := kept_block hk3 (by omega) HX2.out
          clear hS3 hk3
          obtain ⟨y0, y1, y2⟩ := cells_of_block HX3.out
          go_wp2_with fail
          refine (ws_any ⟨#[40]⟩ HS3.out (by rw [List.length_append, List.length_append, List.length_append]; show _ + 1 ≤ _; omega)).mono ?_
          rintro e w4 ⟨rfl, hS4, hk4⟩
          have HS4 : Hid (St B b w (bs ++ tk ++ sp ++ (f k).nm.data.toList ++ [40]) w4) := hS4
          have HX4 : Hid (w4.heap[wr.heap.size]? = some (boxO (f k))) := kept_block hk4 (by omega) HX3.out
          clear hS4 hk4
          obtain ⟨z0, z1, z2⟩ := cells_of_block HX4.out
          go_wp2_with fail
          refine (IH.out k B b w4 (bs ++ tk ++ sp ++ (f k).nm.data.toList ++ [40]) (fun w' h1 h2 => HKid.out w' (HS4.out.2.1.trans h1) (HS4.out.2.2.1.trans h2)) ⟨HS4.out.1, Below.refl _ _, Lib.OthersKept.refl _ _ _, HS4.out.2.2.2⟩ HOk2.out (by rw [List.length_append, List.length_append, List.length_append, List.length_append]; show _ + 1 + _ ≤ _; omega)).mono ?_
          rintro e w5 ⟨rfl, hS5⟩
          have HS5 : Hid (St B b w (bs ++ tk ++ sp ++ (f k).nm.data.toList ++ [40] ++ txts (f k)) w5) := ⟨hS5.1, HS4.out.2.1.trans hS5.2.1, HS4.out.2.2.1.trans hS5.2.2.1, hS5.2.2.2⟩
          clear hS5
          go_wp2_with fail
          refine (ws_any ⟨#[41]⟩ HS5.out (by rw [List.length_append, List.length_append, List.length_append, List.length_append, List.length_append]; show _ + 1 + _ + 1 ≤ _; omega)).mono ?_
          rintro e w6 ⟨rfl, hS6, hk6⟩
          have HS6 : Hid (St B b w (bs ++ txtTo (fun i => txt (f i)) (k + 1)) w6) := by
            rw [Hid, HE.out, HTx2.out]
            have : bs ++ (tk ++ sp ++ ((f k).nm.data.toList ++ ([40] ++ txts (f k) ++ [41]))) = bs ++ tk ++ sp ++ (f k).nm.data.toList ++ [40] ++ txts (f k) ++ [41] := by simp
            rw [this]; exact hS6
          clear hS6 hk6
          go_wp2_with fail
          go_roundw
          case rel => exact ⟨k + 1, by omega, by go_num, HS6.out⟩
          case measure => simp [intOf]; omega
        · go_wp2_with fail
          refine (ws_any ⟨#[44, 32]⟩ HSa.out (by rw [List.length_append]; show _ + 2 ≤ _; omega)).mono ?_
          rintro e w2 ⟨rfl, hS2, hk2⟩
          have HS2 : Hid (St B b w (bs ++ tk ++ sp) w2) := by
            have h1 := HSp.out; rw [if_neg (by omega)] at h1; rw [Hid, ← h1]; exact hS2
          have HX2 : Hid (w2.heap[wr.heap.size]? = some (boxO (f k))) := kept_block hk2 (by omega) HXa.out
          obtain ⟨x0, x1, x2⟩ := cells_of_block HX2.out
          clear hS2 hk2
          go_wp2_with fail
          refine (ws_any (f k).nm HS2.out (by rw [List.length_append, List.length_append]; omega)).mono ?_
          rintro e w3 ⟨rfl, hS3, hk3⟩
          have HS3 : Hid (St B b w (bs ++ tk ++ sp ++ (f k).nm.data.toList) w3) := hS3
          have HX3 : Hid (w3.heap[wr.heap.size]? = some (boxO (f k))) := kept_block hk3 (by omega) HX2.out
          clear hS3 hk3
          obtain ⟨y0, y1, y2⟩ := cells_of_block HX3.out
          go_wp2_with fail
          refine (ws_any ⟨#[40]⟩ HS3.out (by rw [List.length_append, List.length_append, List.length_append]; show _ + 1 ≤ _; omega)).mono ?_
          rintro e w4 ⟨rfl, hS4, hk4⟩
          have HS4 : Hid (St B b w (bs ++ tk ++ sp ++ (f k).nm.data.toList ++ [40]) w4) := hS4
          have HX4 : Hid (w4.heap[wr.heap.size]? = some (boxO (f k))) := kept_block hk4 (by omega) HX3.out
          clear hS4 hk4
          obtain ⟨z0, z1, z2⟩ := cells_of_block HX4.out
          go_wp2_with fail
          refine (IH.out k B b w4 (bs ++ tk ++ sp ++ (f k).nm.data.toList ++ [40]) (fun w' h1 h2 => HKid.out w' (HS4.out.2.1.trans h1) (HS4.out.2.2.1.trans h2)) ⟨HS4.out.1, Below.refl _ _, Lib.OthersKept.refl _ _ _, HS4.out.2.2.2⟩ HOk2.out (by rw [List.length_append, List.length_append, List.length_append, List.length_append]; show _ + 1 + _ ≤ _; omega)).mono ?_
          rintro e w5 ⟨rfl, hS5⟩
          have HS5 : Hid (St B b w (bs ++ tk ++ sp ++ (f k).nm.data.toList ++ [40] ++ txts (f k)) w5) := ⟨hS5.1, HS4.out.2.1.trans hS5.2.1, HS4.out.2.2.1.trans hS5.2.2.1, hS5.2.2.2⟩
          clear hS5
          go_wp2_with fail
          refine (ws_any ⟨#[41]⟩ HS5.out (by rw [List.length_append, List.length_append, List.length_append, List.length_append, List.length_append]; show _ + 1 + _ + 1 ≤ _; omega)).mono ?_
          rintro e w6 ⟨rfl, hS6, hk6⟩
          have HS6 : Hid (St B b w (bs ++ txtTo (fun i => txt (f i)) (k + 1)) w6) := by
            rw [Hid, HE.out, HTx2.out]
            have : bs ++ (tk ++ sp ++ ((f k).nm.data.toList ++ ([40] ++ txts (f k) ++ [41]))) = bs ++ tk ++ sp ++ (f k).nm.data.toList ++ [40] ++ txts (f k) ++ [41] := by simp
            rw [this]; exact hS6
          clear hS6 hk6
          go_wp2_with fail
          go_roundw
          case rel => exact ⟨k + 1, by omega, by go_num, HS6.out⟩
          case measure => simp [intOf]; omega
      · have hke : k = len := by omega
        have HX : Hid (St B b w (bs ++ txts (.mk v nm a len cap f)) wr) := by rw [Hid, HT.out, ← hke]; exact HS.out
        clear hke
        go_wp2_with fail
        go_end0
        exact ⟨rfl, HX.out⟩
end Go.Proofs.YtmggaclaoefdaaaDoor
