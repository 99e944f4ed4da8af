/- From what the arguments read as to terms that lie in memory. -/
import Derived.Test.YtmggaclaoefdaaaLaw
import Derived.ProofKit
import Derived.Deep.Slices
namespace Go.Proofs.Ytmggaclaoefdaaa
open Go.RowKit Go.ChangeShapes Go.WideShapes

theorem Try.cells24 : Try.prog.cellsOf 24 = 3 := by kernel_rfl
theorem Try.cells82 : Try.prog.cellsOf 82 = 4 := by kernel_rfl
theorem Try.cells22 : Try.prog.cellsOf 22 = 1 := by kernel_rfl
theorem Try.cells3 : Try.prog.cellsOf 3 = 1 := by kernel_rfl
theorem Try.cells9 : Try.prog.cellsOf 9 = 1 := by kernel_rfl

instance : Inhabited Tm := ⟨.nil⟩

section
variable {H : Type} {enc : TypeId × Value → H} {W : World} {spare : Nat → Bool} {held : Bool}

theorem row_of_cells {a : Addr} {i : Nat} {T : Tm} (hs : a.spot = none) (h : W.cells? 0 (a.add (i * 3)) 3 = some (cells3 T)) : RowAt W (some a) i T := by
  obtain ⟨b, o, s⟩ := a
  cases hs
  obtain ⟨_, _, hc⟩ := World.cells?_some h
  have e : ∀ j, ((⟨b, o, none⟩ : Addr).add (i * 3)).add j = ⟨b, o + i * 3 + j, none⟩ := fun j => by
    rw [Go.Deep.add_add]
    unfold Addr.add
    split
    · rename_i h0
      have h2 : j = 0 := by omega
      rw [h2]; simp
    · simp [Nat.add_assoc]
  refine ⟨b, o, rfl, ?_, ?_, ?_⟩
  · have := hc 0 (by omega); rw [e] at this; exact this
  · have := hc 1 (by omega); rw [e] at this; exact this
  · have := hc 2 (by omega); rw [e] at this; exact this

set_option maxRecDepth 100000 in
theorem open_term : ∀ (n : Nat), (∀ (cs : List Value) (x : DataW H × List MemPlace), DataW.trod enc Try.prog W 0 spare held n 24 cs = some x → ∃ T : Tm, cs = cells3 T ∧ TIn W T) ∧
    (∀ (cs : List Value) (x : DataW H × List MemPlace), DataW.trod enc Try.prog W 0 spare held n 22 cs = some x → ∃ T : Tm, T.v = 0 ∧ T.nm = ⟨#[]⟩ ∧ cs = [.slice T.a T.len T.cap] ∧ TIn W T) := by
  intro n
  induction n with
  | zero => exact ⟨fun cs x h => by simp [DataW.trod] at h, fun cs x h => by simp [DataW.trod] at h⟩
  | succ n ih =>
    constructor
    · intro cs x h
      obtain ⟨xs, m, hm, _, hl, hlen, hf⟩ := DataW.trod_struct Try.underlying24 h
      obtain rfl : n = m := by omega
      rw [Try.cells24] at hl
      match cs, hl with
      | [c0, c1, c2], _ =>
        match xs, hlen with
        | [y0, y1, y2], _ =>
          have h0 : DataW.trod enc Try.prog W 0 spare held n 3 (([c0, c1, c2].drop 0).take (Try.prog.cellsOf 3)) = some y0 := hf 0 _ rfl
          have h1 : DataW.trod enc Try.prog W 0 spare held n 9 (([c0, c1, c2].drop 1).take (Try.prog.cellsOf 9)) = some y1 := hf 1 _ rfl
          have h2 : DataW.trod enc Try.prog W 0 spare held n 22 (([c0, c1, c2].drop 2).take (Try.prog.cellsOf 22)) = some y2 := hf 2 _ rfl
          rw [Try.cells3] at h0
          rw [Try.cells9] at h1
          rw [Try.cells22] at h2
          obtain ⟨v, e0, _, _⟩ := DataW.trod_int Try.underlying3 h0
          obtain ⟨s, e1, _, hs⟩ := DataW.trod_string Try.underlying9 h1
          obtain ⟨T, _, _, e2, hT⟩ := ih.2 _ _ h2
          simp at e0 e1 e2
          subst e0 e1 e2
          refine ⟨.mk v s T.a T.len T.cap T.f, rfl, ?_⟩
          exact ⟨hs, hT.len, fun i hi => ⟨hT.row hi, hT.kid hi⟩⟩
    · intro cs x h
      rcases DataW.trod_slice Try.underlying22 h with ⟨rfl, _⟩ | ⟨a, len, cap, elems, rest, m, hm, rfl, _, hb, hl, hmx, hlen, hel, _, _⟩
      · exact ⟨.mk 0 ⟨#[]⟩ none 0 0 (fun _ => .nil), rfl, rfl, rfl, Nat.zero_le _, Nat.zero_le _, fun i hi => absurd hi (Nat.not_lt_zero i)⟩
      · obtain rfl : n = m := by omega
        rw [Try.cells24] at hel
        have key : ∀ i, i < len → ∃ T : Tm, W.cells? 0 (a.add (i * 3)) 3 = some (cells3 T) ∧ TIn W T := fun i hi => by
          have := hel i hi
          rw [List.getElem?_eq_getElem (by omega)] at this
          obtain ⟨cs', g1, g2⟩ := Option.bind_eq_some_iff.1 this
          obtain ⟨T, rfl, hT⟩ := ih.1 _ _ g2
          exact ⟨T, g1, hT⟩
        obtain ⟨f, hf⟩ := Go.Deep.choose_lt key
        refine ⟨.mk 0 ⟨#[]⟩ (some a) len cap f, rfl, rfl, rfl, Nat.zero_le _, Nat.le_trans hl hmx, fun i hi => ⟨?_, (hf i hi).2⟩⟩
        have hs : a.spot = none := by
          obtain ⟨_, _, hc⟩ := World.cells?_some (hf 0 (by omega)).1
          have h0 := hc 0 (by omega)
          exact World.cell?_spot (w := W) (a := a) (v := .int .i64 (f 0).v) (by simpa [Addr.add, cells3] using h0)
        exact row_of_cells hs (hf i hi).1

theorem cl_of_cells {a : Addr} {i : Nat} {T B : Tm} (hs : a.spot = none) (h : W.cells? 0 (a.add (i * 4)) 4 = some (cells3 T ++ [.slice B.a B.len B.cap])) : ClAt W (some a) i T B := by
  obtain ⟨b, o, s⟩ := a
  cases hs
  obtain ⟨_, _, hc⟩ := World.cells?_some h
  have e : ∀ j, ((⟨b, o, none⟩ : Addr).add (i * 4)).add j = ⟨b, o + i * 4 + j, none⟩ := fun j => by
    rw [Go.Deep.add_add]
    unfold Addr.add
    split
    · rename_i h0
      have h2 : j = 0 := by omega
      rw [h2]; simp
    · simp [Nat.add_assoc]
  refine ⟨b, o, rfl, ?_, ?_, ?_, ?_⟩
  · have := hc 0 (by omega); rw [e] at this; exact this
  · have := hc 1 (by omega); rw [e] at this; exact this
  · have := hc 2 (by omega); rw [e] at this; exact this
  · have := hc 3 (by omega); rw [e] at this; exact this

set_option maxRecDepth 100000 in
theorem open_clause (n : Nat) (cs : List Value) (x : DataW H × List MemPlace) (h : DataW.trod enc Try.prog W 0 spare held n 82 cs = some x) : ∃ T B : Tm, cs = cells3 T ++ [.slice B.a B.len B.cap] ∧ TIn W T ∧ TIn W B := by
  obtain ⟨xs, m, hm, _, hl, hlen, hf⟩ := DataW.trod_struct Try.underlying82 h
  rw [Try.cells82] at hl
  match cs, hl with
  | [c0, c1, c2, c3], _ =>
    match xs, hlen with
    | [y0, y1], _ =>
      have h0 : DataW.trod enc Try.prog W 0 spare held m 24 (([c0, c1, c2, c3].drop 0).take (Try.prog.cellsOf 24)) = some y0 := hf 0 _ rfl
      have h1 : DataW.trod enc Try.prog W 0 spare held m 22 (([c0, c1, c2, c3].drop 3).take (Try.prog.cellsOf 22)) = some y1 := hf 1 _ rfl
      rw [Try.cells24] at h0
      rw [Try.cells22] at h1
      obtain ⟨T, e0, hT⟩ := (open_term m).1 _ _ h0
      obtain ⟨B, _, _, e1, hB⟩ := (open_term m).2 _ _ h1
      simp [cells3] at e0 e1
      obtain ⟨rfl, rfl, rfl⟩ := e0
      subst e1
      exact ⟨T, B, rfl, hT, hB⟩

theorem open_prog (n : Nat) (cs : List Value) (x : DataW H × List MemPlace) (h : DataW.trod enc Try.prog W 0 spare held n 26 cs = some x) : ∃ P : Pg, cs = [.slice P.a P.len P.cap] ∧ PIn W P := by
  rcases DataW.trod_slice Try.underlying26 h with ⟨rfl, _⟩ | ⟨a, len, cap, elems, rest, m, hm, rfl, _, hb, hl, hmx, hlen, hel, _, _⟩
  · exact ⟨{ a := none, len := 0, cap := 0, hd := fun _ => .nil, bd := fun _ => .nil }, rfl, Nat.zero_le _, fun i hi => absurd hi (Nat.not_lt_zero i)⟩
  · rw [Try.cells82] at hel
    have key : ∀ i, i < len → ∃ TB : Tm × Tm, W.cells? 0 (a.add (i * 4)) 4 = some (cells3 TB.1 ++ [.slice TB.2.a TB.2.len TB.2.cap]) ∧ TIn W TB.1 ∧ TIn W TB.2 := fun i hi => by
      have := hel i hi
      rw [List.getElem?_eq_getElem (by omega)] at this
      obtain ⟨cs', g1, g2⟩ := Option.bind_eq_some_iff.1 this
      obtain ⟨T, B, rfl, hT, hB⟩ := open_clause _ _ _ g2
      exact ⟨(T, B), g1, hT, hB⟩
    obtain ⟨f, hf⟩ := Go.Deep.choose_lt key
    refine ⟨{ a := some a, len := len, cap := cap, hd := fun i => (f i).1, bd := fun i => (f i).2 }, rfl, Nat.le_trans hl hmx, fun i hi => ⟨?_, (hf i hi).2⟩⟩
    have hi' : i < len := hi
    have hs : a.spot = none := by
      obtain ⟨_, _, hc⟩ := World.cells?_some (hf 0 (by omega)).1
      have h0 := hc 0 (by omega)
      exact World.cell?_spot (w := W) (a := a) (v := .int .i64 (f 0).1.v) (by simpa [Addr.add, cells3] using h0)
    exact cl_of_cells hs (hf i hi).1
end
end Go.Proofs.Ytmggaclaoefdaaa
