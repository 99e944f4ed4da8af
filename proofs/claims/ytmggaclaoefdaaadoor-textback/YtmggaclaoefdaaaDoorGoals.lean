/- What Goals answers. -/
import Derived.Test.YtmggaclaoefdaaaDoorWrite
namespace Go.Proofs.YtmggaclaoefdaaaDoor
open Go.RowKit

theorem new_builder (w : World) : St w.heap.size w.heap.size (w.alloc (.cells #[.pointer none, .slice none 0 0] 46)) [] (w.alloc (.cells #[.pointer none, .slice none 0 0] 46)) := by
  refine ⟨.inl ⟨Nat.le_refl _, .slice none 0 0, heap_alloc_new w _, ⟨rfl, .inl ⟨rfl, rfl⟩⟩, by simp [Value.ownBlock]⟩, Below.refl _ _, Lib.OthersKept.refl _ _ _, by simp⟩

theorem string_any {B b : Nat} {w0 w : World} {bs : List UInt8} (h : St B b w0 bs w) :
    Calls Tryd.prog 22 #[.pointer (some ⟨b, 0, none⟩)] w fun e w' => e = .returned (.string ⟨bs.toArray⟩) ∧ Below B w0 w' := by
  refine (Tryd.Builder_String_any_k B b bs w h.1 h.2.2.2).mono ?_
  rintro e w' ⟨rfl, _, h2, _⟩
  exact ⟨rfl, h.2.1.trans h2⟩

def goalsV (Q : Tm) : List UInt8 := if queryV Q = 0 then goalsT Q else []

set_option maxRecDepth 100000 in
set_option maxHeartbeats 1000000 in
theorem goals_any (Q : Tm) (w : World) (hin : TIn w Q) :
    Calls Tryd.prog 7 #[.slice Q.a Q.len Q.cap] w fun e w' => e = .returned (.tuple #[.string ⟨(goalsV Q).toArray⟩, .int .i64 (queryV Q)]) ∧ Below w.heap.size w w' := by
  have HIn : Hid (TIn w Q) := hin
  have hlen : Q.len ≤ 2 ^ 63 - 1 := hin.len
  clear hin
  go_enter Tryd.func7, Tryd.ntmps7
  go_wp2_with fail
  refine (query_any Q _ HIn.out).mono ?_
  rintro e w1 ⟨rfl, hb1⟩
  have HB1 : Hid (Below w.heap.size w w1) := hb1
  have hs1 := hb1.size
  clear hb1
  by_cases hz : queryV Q = 0
  case neg =>
    have HX : Hid (goalsV Q = []) := by rw [Hid, goalsV, if_neg hz]
    have hzb : (queryV Q == 0) = false := beq_eq_false_iff_ne.2 hz
    clear hz
    go_wp2_with fail
    go_ret2
    exact ⟨by rw [HX.out]; rfl, HB1.out⟩
  have HOk : Hid (okQ Q) := okQ_query hz
  have HZ : Hid (queryV Q = 0) := hz
  have HX : Hid (goalsV Q = goalsT Q) := by rw [Hid, goalsV, if_pos hz]
  rw [hz]
  clear hz
  by_cases h0 : Q.len = 0
  · have HG : Hid (goalsT Q = [116, 114, 117, 101]) := by rw [Hid, goalsT, if_pos h0]
    have h0b : ((Q.len : Int) == 0) = true := beq_iff_eq.2 (by omega)
    clear h0
    go_wp2_with fail
    go_ret2
    exact ⟨by rw [HX.out, HG.out, HZ.out]; rfl, HB1.out⟩
  have HG : Hid (goalsT Q = txts Q) := by rw [Hid, goalsT, if_neg h0]
  have h0b : ((Q.len : Int) == 0) = false := beq_eq_false_iff_ne.2 (by omega)
  clear h0
  have HSt : Hid (St w1.heap.size w1.heap.size (w1.alloc (.cells #[.pointer none, .slice none 0 0] 46)) [] (w1.alloc (.cells #[.pointer none, .slice none 0 0] 46))) := new_builder w1
  have HBa : Hid (Below w1.heap.size w1 (w1.alloc (.cells #[.pointer none, .slice none 0 0] 46))) := (Below.refl _ _).alloc (Nat.le_refl _) _
  have hbd := txts_le HOk.out
  go_wp2_with fail
  refine (write_any Q w1.heap.size w1.heap.size _ [] (fun w' h1 _ => (HIn.out.below HB1.out).below (HBa.out.trans h1)) HSt.out (fun i hi => (HOk.out.2 i hi).2) (by simp; omega)).mono ?_
  rintro e w2 ⟨rfl, hS2⟩
  have HS2 : Hid (St w1.heap.size w1.heap.size (w1.alloc (.cells #[.pointer none, .slice none 0 0] 46)) (txts Q) w2) := hS2
  clear hS2
  go_wp2_with fail
  refine (string_any HS2.out).mono ?_
  rintro e w3 ⟨rfl, hb3⟩
  have HB3 : Hid (Below w.heap.size w w3) := HB1.out.trans ((HBa.out.trans hb3).mono hs1)
  clear hb3
  go_wp2_with fail
  go_ret2
  exact ⟨by rw [HX.out, HG.out, HZ.out]; rfl, HB3.out⟩
end Go.Proofs.YtmggaclaoefdaaaDoor
