/- read: what gives up is caught. -/
import Derived.Test.YtmggaclaoefdaaaDoorRdB
import Derived.Defers
import Derived.Recover
namespace Go.Proofs.YtmggaclaoefdaaaDoor
open Go.RowKit

theorem ta_yes (q : Int) (w : World) : (Instr.typeAssert (.iface 92 (.int .i64 q)) 20 92 true).run Tryd.prog w = .ok (.tuple #[.int .i64 q, .bool true]) w := by
  unfold Instr.typeAssert
  simp [run_underlying Tryd.underlying92, Sem.run_bind, Sem.run_pure]
theorem ta_no (w : World) : (Instr.typeAssert .nilIface 20 92 true).run Tryd.prog w = .ok (.tuple #[.int .i64 0, .bool false]) w := by
  unfold Instr.typeAssert
  simp [run_underlying Tryd.underlying92, Sem.run_bind, Tryd.zeroValue92]

set_option maxRecDepth 100000 in
set_option maxHeartbeats 1000000 in
theorem catch58_p (r : Nat) (x : Int) (q : Nat) (older : List PanicEntry) (w : World) (hc : w.cell? ⟨r, 0, none⟩ = some (.int .i64 x)) (hz : w.frozen? ⟨r, 0, none⟩ = false) :
    CallsD Tryd.prog 58 #[.pointer (some ⟨r, 0, none⟩)] (.panicking ({ v := .iface 92 (.int .i64 q), recovered := false } :: older)) w fun e u' w' =>
      e = .returned (.tuple #[]) ∧ u' = .panicking ({ v := .iface 92 (.int .i64 q), recovered := true } :: older) ∧ w' = w.setCell ⟨r, 0, none⟩ (.int .i64 q) := by
  refine callsD_of_wpS Tryd.func58 rfl fun c₀ cs hu => ?_
  apply wpS_seq
  apply wpS_region
  simp [wpOpsS, go_sem, recoverD, hu, Tryd.ntmps58, Exit.thenS, ta_yes]
  apply wpS_seq
  apply wpS_region
  simp [wpOpsS, go_sem, Exit.thenS]
  refine wpS_cond (t := true) (by simp [Act.eval, Array.replicate]) ?_
  simp only [if_true]
  apply wpS_region
  simp [wpOpsS, go_sem, hc, hz, bodyPostS, results, Tryd.results58]

set_option maxRecDepth 100000 in
set_option maxHeartbeats 1000000 in
theorem catch58_i (r : Nat) (w : World) :
    CallsD Tryd.prog 58 #[.pointer (some ⟨r, 0, none⟩)] .returning w fun e u' w' => e = .returned (.tuple #[]) ∧ u' = .returning ∧ w' = w := by
  refine callsD_of_wpS Tryd.func58 rfl fun c₀ cs hu => ?_
  apply wpS_seq
  apply wpS_region
  simp [wpOpsS, go_sem, recoverD, hu, Tryd.ntmps58, Exit.thenS, ta_no]
  apply wpS_seq
  apply wpS_region
  simp [wpOpsS, go_sem, Exit.thenS]
  refine wpS_cond (t := false) (by simp [Act.eval, Array.replicate]) ?_
  simp only [Bool.false_eq_true, if_false]
  refine wpS_of_wp (wp_skip ?_)
  cases c₀
  simp_all [bodyPostS, results, Tryd.results58]

set_option maxRecDepth 100000 in
set_option maxHeartbeats 1000000 in
theorem catch62_p (r : Nat) (x : Int) (q : Nat) (older : List PanicEntry) (w : World) (hc : w.cell? ⟨r, 0, none⟩ = some (.int .i64 x)) (hz : w.frozen? ⟨r, 0, none⟩ = false) :
    CallsD Tryd.prog 62 #[.pointer (some ⟨r, 0, none⟩)] (.panicking ({ v := .iface 92 (.int .i64 q), recovered := false } :: older)) w fun e u' w' =>
      e = .returned (.tuple #[]) ∧ u' = .panicking ({ v := .iface 92 (.int .i64 q), recovered := true } :: older) ∧ w' = w.setCell ⟨r, 0, none⟩ (.int .i64 q) := by
  refine callsD_of_wpS Tryd.func62 rfl fun c₀ cs hu => ?_
  apply wpS_seq
  apply wpS_region
  simp [wpOpsS, go_sem, recoverD, hu, Tryd.ntmps62, Exit.thenS, ta_yes]
  apply wpS_seq
  apply wpS_region
  simp [wpOpsS, go_sem, Exit.thenS]
  refine wpS_cond (t := true) (by simp [Act.eval, Array.replicate]) ?_
  simp only [if_true]
  apply wpS_region
  simp [wpOpsS, go_sem, hc, hz, bodyPostS, results, Tryd.results62]

set_option maxRecDepth 100000 in
set_option maxHeartbeats 1000000 in
theorem catch62_i (r : Nat) (w : World) :
    CallsD Tryd.prog 62 #[.pointer (some ⟨r, 0, none⟩)] .returning w fun e u' w' => e = .returned (.tuple #[]) ∧ u' = .returning ∧ w' = w := by
  refine callsD_of_wpS Tryd.func62 rfl fun c₀ cs hu => ?_
  apply wpS_seq
  apply wpS_region
  simp [wpOpsS, go_sem, recoverD, hu, Tryd.ntmps62, Exit.thenS, ta_no]
  apply wpS_seq
  apply wpS_region
  simp [wpOpsS, go_sem, Exit.thenS]
  refine wpS_cond (t := false) (by simp [Act.eval, Array.replicate]) ?_
  simp only [Bool.false_eq_true, if_false]
  refine wpS_of_wp (wp_skip ?_)
  cases c₀
  simp_all [bodyPostS, results, Tryd.results62]

theorem PIn.grown {w w' : World} {lo k : Nat} {P : Pg} (h : PIn w P) (hA : PAbove lo P) (hg : w.grownBy w' (some k)) (hk : k < lo) : PIn w' P := by
  refine ⟨h.1, fun i hi => ?_⟩
  obtain ⟨⟨b, o, ha, h0, h1, h2, h3⟩, hT, hB⟩ := h.2 i hi
  obtain ⟨b', o', ha', hlo⟩ := hA.1 (by omega)
  have hbb : b = b' := by rw [ha] at ha'; cases ha'; rfl
  have hne : some b ≠ some k := by simp; omega
  exact ⟨⟨b, o, ha, hg.cell h0 hne, hg.cell h1 hne, hg.cell h2 hne, hg.cell h3 hne⟩, hT.grown hg (fun j hj => by obtain rfl := Option.some.inj hj; exact (hA.2 i hi).1.nb hk), hB.grown hg (fun j hj => by obtain rfl := Option.some.inj hj; exact (hA.2 i hi).2.nb hk)⟩
theorem PAbove.mono {lo lo' : Nat} {P : Pg} (h : PAbove lo P) (hl : lo' ≤ lo) : PAbove lo' P := ⟨fun h0 => let ⟨b, o, h1, h2⟩ := h.1 h0; ⟨b, o, h1, Nat.le_trans hl h2⟩, fun i hi => ⟨(h.2 i hi).1.mono hl, (h.2 i hi).2.mono hl⟩⟩
theorem read_frame {w w1 : World} {s : ByteArray} (hG : G (w.heap.size + 1) ((w.alloc (.cells #[.int .i64 0] 3)).alloc (.cells #[.string s, .int .i64 0] 84)) w1) (v : Value) :
    w1.cell? ⟨w.heap.size, 0, none⟩ = some (.int .i64 0) ∧ w1.frozen? ⟨w.heap.size, 0, none⟩ = false ∧ (w1.setCell ⟨w.heap.size, 0, none⟩ v).cell? ⟨w.heap.size, 0, none⟩ = some v ∧ Below w.heap.size w (w1.setCell ⟨w.heap.size, 0, none⟩ v) := by
  have hx : w1.heap[w.heap.size]? = some (.cells #[.int .i64 0] 3) := (hG.block w.heap.size (by simp; omega) (by simp)).trans (by rw [heap_alloc_old _ _ (by simp)]; exact heap_alloc_new w _)
  have hy : (w1.setCell ⟨w.heap.size, 0, none⟩ v).heap[w.heap.size]? = some (.cells #[v] 3) := by
    simp only [World.setCell, Array.getElem?_modify]
    simp [hx]
  have hb : Below w.heap.size w ((w.alloc (.cells #[.int .i64 0] 3)).alloc (.cells #[.string s, .int .i64 0] 84)) := ((Below.refl _ _).alloc (Nat.le_refl _) _).alloc (by simp) _
  have hb1 : Below w.heap.size w w1 := ⟨hG.os.trans hb.os, hG.tape.trans hb.tape, hG.output.trans hb.output, Nat.le_trans hb.size hG.size, fun k hk => (hG.block k (Nat.lt_of_lt_of_le hk hb.size) (by simp; omega)).trans (hb.block k hk)⟩
  exact ⟨by simp [World.cell?, hx], by simp [World.frozen?, hx], by simp [World.cell?, hy], hb1.setCell (Nat.le_refl _) v⟩

set_option maxRecDepth 100000 in
set_option maxHeartbeats 4000000 in
theorem read48 (n : Nat) (s : ByteArray) (w : World) (hs : s.size ≤ 6000) (hn : s.size ≤ n) :
    Calls Tryd.prog 48 #[.string s, .func (.func 29) #[] #[]] w fun e w' => (∃ P ds q, pProg s.data.toList n (s.size + 1) 0 = .ok ds q ∧ PSim P ds ∧ e = .returned (.tuple #[.slice P.a P.len P.cap, .int .i64 0, .int .i64 0]) ∧ PIn w' P ∧ PAbove w.heap.size P ∧ Below w.heap.size w w') ∨ (∃ q, pProg s.data.toList n (s.size + 1) 0 = .no q ∧ e = .returned (.tuple #[.slice none 0 0, .int .i64 q, .int .i64 1]) ∧ Below w.heap.size w w') := by
  have hmf : ∀ (fn : Fn) (first cap : Array Value) (w : World), (Instr.makeFunc fn first cap).run Tryd.prog w = .ok (.func fn first cap) w := fun _ _ _ _ => rfl
  have HR : Hid (RS (w.heap.size + 1) s 0 ((w.alloc (.cells #[.int .i64 0] 3)).alloc (.cells #[.string s, .int .i64 0] 84))) := by
    have := heap_alloc_new (w.alloc (.cells #[.int .i64 0] 3)) (.cells #[.string s, .int .i64 0] 84)
    rw [Hid, RS]; simpa using this
  go_enter_defers Tryd.func48, Tryd.ntmps48
  go_wp2_with fail
  refine (program_rd n (w.heap.size + 1) s _ HR.out hs hn).mono ?_
  rintro e w1 (⟨P, ds, q, hpt, hS, rfl, hP, hA, hG⟩ | ⟨q, hpt, rfl, hG⟩)
  · have HP : Hid (pProg s.data.toList n (s.size + 1) 0 = .ok ds q ∧ PSim P ds) := ⟨hpt, hS⟩
    obtain ⟨x0, f0, y0, hb⟩ := read_frame hG (.int .i64 0)
    have HB : Hid (Below w.heap.size w (w1.setCell ⟨w.heap.size, 0, none⟩ (.int .i64 0))) := hb
    have HPI : Hid (PIn (w1.setCell ⟨w.heap.size, 0, none⟩ (.int .i64 0)) P) := hP.grown hA (grown_set w.heap.size 0 _) (by simp; omega)
    have HA : Hid (PAbove w.heap.size P) := hA.mono (by simp; omega)
    clear hpt hS hP hA hG hb
    go_wp2_with fail
    refine leaves_cons (f := 58) (args := #[.pointer (some ⟨w.heap.size, 0, none⟩)]) (by simp) (by simp [go_sem]) ?_
    refine (catch58_i w.heap.size _).mono ?_
    rintro e u' w'' ⟨rfl, rfl, rfl⟩
    generalize w1.setCell ⟨w.heap.size, 0, none⟩ (.int .i64 0) = w2 at *
    refine ⟨.tuple #[.slice P.a P.len P.cap, .int .i64 0, .int .i64 0], ?_, .inl ⟨P, ds, q, HP.out.1, HP.out.2, rfl, HPI.out, HA.out, HB.out⟩⟩
    simp [results, Tryd.results48, go_sem, y0]
  · obtain ⟨x0, f0, y0, hb⟩ := read_frame hG (.int .i64 q)
    have HB : Hid (Below w.heap.size w (w1.setCell ⟨w.heap.size, 0, none⟩ (.int .i64 q))) := hb
    have HP : Hid (pProg s.data.toList n (s.size + 1) 0 = .no q) := hpt
    clear hpt hG hb
    refine leaves_cons (f := 58) (args := #[.pointer (some ⟨w.heap.size, 0, none⟩)]) (by simp) (by simp [go_sem]) ?_
    refine (catch58_p w.heap.size 0 q [] w1 x0 f0).mono ?_
    rintro e u' w'' ⟨rfl, rfl, rfl⟩
    generalize w1.setCell ⟨w.heap.size, 0, none⟩ (.int .i64 q) = w2 at *
    simp [Leaves, settle, results, Tryd.results48, go_sem, y0]
    exact ⟨q, HP.out, rfl, HB.out⟩
set_option maxRecDepth 100000 in
set_option maxHeartbeats 4000000 in
theorem read50 (n : Nat) (s : ByteArray) (w : World) (hs : s.size ≤ 6000) (hn : s.size < n) :
    Calls Tryd.prog 50 #[.string s, .func (.func 31) #[] #[]] w fun e w' => (∃ T us q, pGoals s.data.toList n = .ok us q ∧ BSim T us ∧ e = .returned (.tuple #[.slice T.a T.len T.cap, .int .i64 0, .int .i64 0]) ∧ TIn w' T ∧ Above w.heap.size T ∧ Below w.heap.size w w') ∨ (∃ q, pGoals s.data.toList n = .no q ∧ e = .returned (.tuple #[.slice none 0 0, .int .i64 q, .int .i64 1]) ∧ Below w.heap.size w w') := by
  have hmf : ∀ (fn : Fn) (first cap : Array Value) (w : World), (Instr.makeFunc fn first cap).run Tryd.prog w = .ok (.func fn first cap) w := fun _ _ _ _ => rfl
  have HR : Hid (RS (w.heap.size + 1) s 0 ((w.alloc (.cells #[.int .i64 0] 3)).alloc (.cells #[.string s, .int .i64 0] 84))) := by
    have := heap_alloc_new (w.alloc (.cells #[.int .i64 0] 3)) (.cells #[.string s, .int .i64 0] 84)
    rw [Hid, RS]; simpa using this
  go_enter_defers Tryd.func50, Tryd.ntmps50
  go_wp2_with fail
  refine (goals_rd n (w.heap.size + 1) s _ HR.out hs hn).mono ?_
  rintro e w1 (⟨T, us, q, hpt, hS, rfl, hP, hA, hG⟩ | ⟨q, hpt, rfl, hG⟩)
  · have HP : Hid (pGoals s.data.toList n = .ok us q ∧ BSim T us) := ⟨hpt, hS⟩
    obtain ⟨x0, f0, y0, hb⟩ := read_frame hG (.int .i64 0)
    have HB : Hid (Below w.heap.size w (w1.setCell ⟨w.heap.size, 0, none⟩ (.int .i64 0))) := hb
    have HPI : Hid (TIn (w1.setCell ⟨w.heap.size, 0, none⟩ (.int .i64 0)) T) := hP.grown (grown_set w.heap.size 0 _) (fun j hj => by obtain rfl := Option.some.inj hj; exact hA.nb (by simp; omega))
    have HA : Hid (Above w.heap.size T) := hA.mono (by simp; omega)
    clear hpt hS hP hA hG hb
    go_wp2_with fail
    refine leaves_cons (f := 62) (args := #[.pointer (some ⟨w.heap.size, 0, none⟩)]) (by simp) (by simp [go_sem]) ?_
    refine (catch62_i w.heap.size _).mono ?_
    rintro e u' w'' ⟨rfl, rfl, rfl⟩
    generalize w1.setCell ⟨w.heap.size, 0, none⟩ (.int .i64 0) = w2 at *
    refine ⟨.tuple #[.slice T.a T.len T.cap, .int .i64 0, .int .i64 0], ?_, .inl ⟨T, us, q, HP.out.1, HP.out.2, rfl, HPI.out, HA.out, HB.out⟩⟩
    simp [results, Tryd.results50, go_sem, y0]
  · obtain ⟨x0, f0, y0, hb⟩ := read_frame hG (.int .i64 q)
    have HB : Hid (Below w.heap.size w (w1.setCell ⟨w.heap.size, 0, none⟩ (.int .i64 q))) := hb
    have HP : Hid (pGoals s.data.toList n = .no q) := hpt
    clear hpt hG hb
    refine leaves_cons (f := 62) (args := #[.pointer (some ⟨w.heap.size, 0, none⟩)]) (by simp) (by simp [go_sem]) ?_
    refine (catch62_p w.heap.size 0 q [] w1 x0 f0).mono ?_
    rintro e u' w'' ⟨rfl, rfl, rfl⟩
    generalize w1.setCell ⟨w.heap.size, 0, none⟩ (.int .i64 q) = w2 at *
    simp [Leaves, settle, results, Tryd.results50, go_sem, y0]
    exact ⟨q, HP.out, rfl, HB.out⟩
end Go.Proofs.YtmggaclaoefdaaaDoor
