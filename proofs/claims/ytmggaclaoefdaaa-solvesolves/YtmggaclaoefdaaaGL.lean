/- A search in memory: its record; is, own, fit, ahead. fit: the first clause that fits. fit, walked; goals in memory, and ahead. -/
import Derived.Test.YtmggaclaoefdaaaGK
namespace Go.Proofs.Ytmggaclaoefdaaa
open Go.RowKit

/-- A search's cells. -/
structure Sr where
  av : Value
  fin : Int
  st : Int
  P : Pg
  limit : Int
  asked : Int
  last : Int
  b : Nat
  first : Value
  cv : Value
def Sr.cells (r : Sr) : Array Value := #[r.av, .int .i64 r.fin, .int .i64 r.st, .slice r.P.a r.P.len r.P.cap, .int .i64 r.limit, .int .i64 r.asked, .int .i64 r.last, .pointer (some ⟨r.b, 0, none⟩), r.first, r.cv]
def SBk (w : World) (s : Nat) (r : Sr) : Prop := w.heap[s]? = some (.cells r.cells 103)
theorem SBk.lt {w : World} {s : Nat} {r : Sr} (h : SBk w s r) : s < w.heap.size := (Array.getElem?_eq_some_iff.1 h).1
theorem SBk.get {w : World} {s : Nat} {r : Sr} (h : SBk w s r) : w.cell? ⟨s, 0, none⟩ = some r.av ∧ w.cell? ⟨s, 1, none⟩ = some (.int .i64 r.fin) ∧ w.cell? ⟨s, 2, none⟩ = some (.int .i64 r.st) ∧ w.cell? ⟨s, 3, none⟩ = some (.slice r.P.a r.P.len r.P.cap) ∧ w.cell? ⟨s, 4, none⟩ = some (.int .i64 r.limit) ∧ w.cell? ⟨s, 5, none⟩ = some (.int .i64 r.asked) ∧ w.cell? ⟨s, 6, none⟩ = some (.int .i64 r.last) ∧ w.cell? ⟨s, 7, none⟩ = some (.pointer (some ⟨r.b, 0, none⟩)) ∧ w.cell? ⟨s, 8, none⟩ = some r.first ∧ w.cell? ⟨s, 9, none⟩ = some r.cv ∧ ∀ i, w.frozen? ⟨s, i, none⟩ = false := by
  unfold SBk Sr.cells at h
  refine ⟨?_, ?_, ?_, ?_, ?_, ?_, ?_, ?_, ?_, ?_, fun i => ?_⟩ <;> simp [World.cell?, World.frozen?, h]
theorem SBk.kept {w w' : World} {s : Nat} {r : Sr} (h : SBk w s r) (hb : w'.heap[s]? = w.heap[s]?) : SBk w' s r := hb.trans h
theorem SBk.set {w : World} {s : Nat} {r r' : Sr} (i : Nat) (v : Value) (h : SBk w s r) (hr : r'.cells = r.cells.setIfInBounds i v) : SBk (w.setCell ⟨s, i, none⟩ v) s r' := by
  unfold SBk at *
  rw [hr]
  simp only [World.setCell, Array.getElem?_modify]
  simp [h]
set_option maxRecDepth 100000 in
theorem is_any (T : Tm) (nm : ByteArray) (n : Nat) (w : World) :
    Calls Try.prog 125 #[T.val, .string nm, .int .i64 n] w fun e w' => e = .returned (.bool (isT T nm n)) ∧ Below w.heap.size w w' := by
  show Calls Try.prog 125 #[.agg #[.int .i64 T.v, .string T.nm, .slice T.a T.len T.cap], .string nm, .int .i64 n] w _
  by_cases h1 : T.nm.toList = nm.toList
  · have h1b : (T.nm.toList == nm.toList) = true := beq_iff_eq.2 h1
    have HR : Hid (isT T nm n = ((T.len : Int) == (n : Int))) := by
      rw [Hid]; unfold isT; rw [h1b, Bool.true_and]
      by_cases h : T.len = n
      · rw [decide_eq_true h]; exact (beq_iff_eq.2 (by omega)).symm
      · rw [decide_eq_false h]; exact (beq_eq_false_iff_ne.2 (by omega)).symm
    clear h1
    go_enter Try.func125, Try.ntmps125
    go_wp2_with fail
    go_ret
    exact ⟨by rw [HR.out]; rfl, (Below.refl _ _).alloc (Nat.le_refl _) _⟩
  · have h1b : (T.nm.toList == nm.toList) = false := beq_eq_false_iff_ne.2 h1
    have HR : Hid (isT T nm n = false) := by rw [Hid]; unfold isT; rw [h1b, Bool.false_and]
    clear h1
    go_enter Try.func125, Try.ntmps125
    go_wp2_with fail
    go_ret
    exact ⟨by rw [HR.out]; rfl, (Below.refl _ _).alloc (Nat.le_refl _) _⟩
set_option maxRecDepth 100000 in
theorem own_any {s : Nat} {r : Sr} (w : World) (hr : SBk w s r) (hl : 0 ≤ r.last ∧ r.last ≤ 1000000) :
    Calls Try.prog 141 #[.pointer (some ⟨s, 0, none⟩)] w fun e w' => e = .returned (.func (.func 145) #[] #[.pointer (some ⟨w.heap.size, 0, none⟩)]) ∧ w' = (w.setCell ⟨s, 6, none⟩ (.int .i64 (r.last + 12))).alloc (.cells #[.int .i64 r.last] 3) := by
  have hmf : ∀ (fn : Fn) (first cap : Array Value) (w : World), (Instr.makeFunc fn first cap).run Try.prog w = .ok (.func fn first cap) w := fun _ _ _ _ => rfl
  have hs := hr.lt
  obtain ⟨_, _, _, _, _, _, c6, _, _, _, cf⟩ := hr.get
  have f6 := cf 6
  clear hr cf
  go_enter Try.func141, Try.ntmps141
  go_wp2_with fail
  go_ret
  exact ⟨rfl, rfl⟩
theorem can_vT (n : Int) : can (vT n) = vT n := by
  unfold vT
  rw [can_eq]
  show Tm.mk n ⟨#[]⟩ none 0 0 _ = _
  congr 1
/-- The function that own hands out. -/
def ownT (o : Nat) (last : Int) : Tell where
  S := Unit
  I := fun _ w => w.heap[o]? = some (.cells #[.int .i64 last] 3)
  nx := fun _ _ => ()
  le := fun _ _ => True
  O := fun _ v => ownV last v
  M := fun _ => False
  B := o + 1
theorem ownT_ok (o : Nat) (last : Int) : TellOk (ownT o last) :=
  ⟨fun _ => trivial, fun _ _ _ _ _ => trivial, fun _ _ => trivial, fun _ _ _ h hb => (hb.block o (Nat.lt_succ_self o)).trans h, fun _ h => h.elim⟩
set_option maxRecDepth 100000 in
theorem own1_any (o : Nat) (last v : Int) (hl : 0 ≤ last ∧ last ≤ 1000000) (hv : 0 ≤ v ∧ v ≤ 1000000) : TC (ownT o last) 145 #[.pointer (some ⟨o, 0, none⟩)] v := by
  intro s w hB hI
  have HI : Hid (w.heap[o]? = some (.cells #[.int .i64 last] 3)) := hI
  have hB : o < w.heap.size := hB
  have HZ : Hid (Below w.heap.size w (w.alloc (.cells #[.int .i64 0, .string ⟨#[]⟩, .slice none 0 0] 24))) := (Below.refl _ _).alloc (Nat.le_refl _) _
  have c0 : (w.alloc (.cells #[.int .i64 0, .string ⟨#[]⟩, .slice none 0 0] 24)).cell? ⟨o, 0, none⟩ = some (.int .i64 last) := by
    rw [HZ.out.cell (p := ⟨o, 0, none⟩) hB]; simp [World.cell?, HI.out]
  have hw : IntKind.i64.wrap (last + v) = last + v := by simp [IntKind.wrap, IntKind.bits, IntKind.signed]; omega
  clear hI
  show Calls Try.prog 145 #[.int .i64 v, .pointer (some ⟨o, 0, none⟩)] w _
  go_enter Try.func145, Try.ntmps145
  go_wp2_with fail
  refine bodyPost_ret (v := (vT (last + v)).val) ?_ rfl ⟨vT (last + v), rfl, Bw.ofBelow ((Below.refl _ _).alloc (Nat.le_refl _) _), (heap_alloc_old _ _ hB).trans HI.out, vT_in _ _, ⟨fun h => absurd h (Nat.lt_irrefl 0), fun i hi => absurd hi (Nat.not_lt_zero i)⟩, fun _ _ => can_vT _⟩
  simp [results, Try.results145, go_sem, Tm.val, vT, Tm.v, Tm.nm, Tm.a, Tm.len, Tm.cap]
theorem own1_ent : Ent 145 := ent_of Try.func145 rfl rfl
theorem vsT_okv {N : Int} {T : Tm} (h : Okv N T) : ∀ v ∈ vsT T, 0 ≤ v ∧ v ≤ N := by
  induction T with
  | nil => exact h.elim
  | mk v nm a len cap f ih =>
    intro u hu
    rw [vsT] at hu
    split at hu
    · obtain ⟨l, hl, hul⟩ := List.mem_flatten.1 hu
      obtain ⟨i, hi, rfl⟩ := List.mem_map.1 hl
      exact ih i (h.2.2.2.2 i (List.mem_range.1 hi)) u hul
    · rw [List.mem_singleton] at hu; subst hu; exact ⟨h.1, h.2.1⟩
/-- A term of a clause, with variables of its own. -/
theorem each_own {o : Nat} {last : Int} {T : Tm} (w : World) (hI : w.heap[o]? = some (.cells #[.int .i64 last] 3)) (hl : 0 ≤ last ∧ last ≤ 1000000) (hT : TIn w T) (hO : Okv 12 T) :
    Calls Try.prog 120 #[T.val, .func (.func 145) #[] #[.pointer (some ⟨o, 0, none⟩)]] w fun e w' => ∃ X : Tm, e = .returned X.val ∧ Below w.heap.size w w' ∧ TIn w' X ∧ Above w.heap.size X ∧ can X = ap (ownV last) T := by
  refine (each_gen (ownT_ok o last) own1_ent T hO.fo (fun v hv => own1_any o last v hl (by have := vsT_okv hO v hv; omega)) () w (Array.getElem?_eq_some_iff.1 hI).1 hI hT (NM.old hT (fun k h => h.elim))).mono ?_
  rintro e w' ⟨X, h1, h2, h3, h4, h5, h6⟩
  exact ⟨X, h1, ⟨h2.os, h2.tape, h2.output, h2.size, fun k hk => h2.block k hk (fun h => h)⟩, h4, h5, h6 () trivial⟩
end Go.Proofs.Ytmggaclaoefdaaa

namespace Go.Proofs.Ytmggaclaoefdaaa
open Go.RowKit

/-- Clauses, without places. -/
def cls (P : Pg) : Cls := (List.range P.len).map fun i => (can (P.hd i), (kidsL (P.bd i)).map can)
theorem cls_len (P : Pg) : (cls P).length = P.len := by simp [cls]
theorem cls_get (P : Pg) {i : Nat} (h : i < P.len) : (cls P).getD i (.nil, []) = (can (P.hd i), (kidsL (P.bd i)).map can) := by
  simp [cls, List.getD, h]
theorem isT_can (T : Tm) (nm : ByteArray) (n : Nat) : isT (can T) nm n = isT T nm n := by unfold isT; rw [can_nm, can_len]
def fitI : Option Nat → Int
  | none => -1
  | some j => j
theorem fit_none {P : Pg} {t : Tm} {i : Nat} (h : ∀ k, i ≤ k → k < P.len → isT (P.hd k) t.nm t.len = false) : fitP (cls P) t i = none := by
  unfold fitP
  rw [List.find?_eq_none]
  intro k hk
  rw [cls_len] at hk
  have hk := List.mem_range.1 hk
  rw [cls_get P hk, isT_can]
  by_cases hi : i ≤ k
  · rw [h k hi hk]; simp
  · simp [hi]
theorem fit_some {P : Pg} {t : Tm} {i j : Nat} (hi : i ≤ j) (hj : j < P.len) (hm : isT (P.hd j) t.nm t.len = true) (h : ∀ k, i ≤ k → k < j → isT (P.hd k) t.nm t.len = false) : fitP (cls P) t i = some j := by
  unfold fitP
  rw [List.find?_range_eq_some, cls_len, cls_get P hj, isT_can]
  refine ⟨by simp [hi, hm], List.mem_range.2 hj, fun k hk => ?_⟩
  rw [cls_get P (by omega), isT_can]
  by_cases hik : i ≤ k
  · rw [h k hik hk]; simp
  · simp [hik]
theorem Try.info82 : (Try.prog.info? 82).map (fun i => (i.zero, i.size, i.bytes)) = some (some (.agg #[.int .i64 0, .string ⟨#[]⟩, .slice none 0 0, .slice none 0 0]), 4, 72) := by kernel_rfl
theorem pfrom (a : Option Addr) (ln cp k : Nat) (h : k ≤ ln) (hc : ln ≤ cp) : ∃ a', (∀ W : World, (Instr.slice 26 (.slice a ln cp) (some (.int .i64 k)) none none).run Try.prog W = .ok (.slice a' (ln - k) (cp - k)) W) ∧ ∀ b o, a = some ⟨b, o, none⟩ → k < ln → a' = some ⟨b, o + k * 4, none⟩ := by
  obtain ⟨i0, hi, hz0, hz1, hz2⟩ := info_parts Try.info82
  have h' : (k : Int) ≤ (ln : Int) := by omega
  refine ⟨if cp = k then a else a.map fun ad => ad.add (k * 4), fun W => ?_, fun b o ha h1 => ?_⟩
  · simp [Instr.slice, run_underlying Try.underlying26, Instr.sliceBounds, run_sliceBound, sizeOf, typeInfo, hi, hz1, h']
  · rw [if_neg (by omega), ha]
    simp [Addr.add]
end Go.Proofs.Ytmggaclaoefdaaa

namespace Go.Proofs.Ytmggaclaoefdaaa
open Go.RowKit

set_option maxRecDepth 100000 in
set_option maxHeartbeats 4000000 in
theorem fit_any {s : Nat} {r : Sr} (T : Tm) (i : Nat) (w : World) (hr : SBk w s r) (hP : PIn w r.P) (hc : r.P.len ≤ r.P.cap) (hT : T.len ≤ maxLen) (hi : i ≤ r.P.len) :
    Calls Try.prog 139 #[.pointer (some ⟨s, 0, none⟩), T.val, .int .i64 i] w fun e w' => e = .returned (.int .i64 (fitI (fitP (cls r.P) T i))) ∧ Below w.heap.size w w' := by
  have HR : Hid (SBk w s r) := hr
  have HP : Hid (PIn w r.P) := hP
  have hs := hr.lt
  have hlen : r.P.len ≤ 2 ^ 63 - 1 := hP.1
  have hTl : T.len ≤ 2 ^ 63 - 1 := hT
  have HNo : Hid (∀ k, (∀ j, i ≤ j → j < r.P.len → isT (r.P.hd j) T.nm T.len = false) → k = r.P.len → fitP (cls r.P) T i = none) := fun k h _ => fit_none h
  have HYes : Hid (∀ j, i ≤ j → j < r.P.len → isT (r.P.hd j) T.nm T.len = true → (∀ k, i ≤ k → k < j → isT (r.P.hd k) T.nm T.len = false) → fitP (cls r.P) T i = some j) := fun j h1 h2 h3 h4 => fit_some h1 h2 h3 h4
  obtain ⟨a', hsl, hao⟩ := pfrom r.P.a r.P.len r.P.cap i hi hc
  have HAo : Hid (∀ b o, r.P.a = some ⟨b, o, none⟩ → i < r.P.len → a' = some ⟨b, o + i * 4, none⟩) := hao
  have HRow : Hid (∀ k, k < r.P.len → ∀ wr, Below w.heap.size w wr → ClAt wr r.P.a k (r.P.hd k) (r.P.bd k)) := fun k hk wr hb => ((HP.out.below hb).2 k hk).1
  have HBx : Hid (Below w.heap.size w (w.alloc (.cells #[.int .i64 T.v, .string T.nm, .slice T.a T.len T.cap] 24))) := (Below.refl _ _).alloc (Nat.le_refl _) _
  have HX0 : Hid ((w.alloc (.cells #[.int .i64 T.v, .string T.nm, .slice T.a T.len T.cap] 24)).heap[w.heap.size]? = some (.cells #[.int .i64 T.v, .string T.nm, .slice T.a T.len T.cap] 24)) := heap_alloc_new w _
  obtain ⟨_, _, _, c3, _, _, _, _, _, _, _⟩ := (hr.kept (HBx.out.block s hs)).get
  clear hr hP hT hao
  show Calls Try.prog 139 #[.pointer (some ⟨s, 0, none⟩), .agg #[.int .i64 T.v, .string T.nm, .slice T.a T.len T.cap], .int .i64 i] w _
  go_enter Try.func139, Try.ntmps139
  go_wp2_with fail
  generalize w.alloc (.cells #[.int .i64 T.v, .string T.nm, .slice T.a T.len T.cap] 24) = W at *
  have hW : w.heap.size < W.heap.size := (Array.getElem?_eq_some_iff.1 HX0.out).1
  go_loopw [16] (fun x wr => ∃ j : Nat, j ≤ r.P.len - i ∧ x = .int .i64 j ∧ (∀ k, i ≤ k → k < i + j → isT (r.P.hd k) T.nm T.len = false) ∧ Below W.heap.size W wr) (fun x _ => r.P.len - i - (intOf x).toNat)
  case atStart => exact ⟨0, Nat.zero_le _, rfl, fun k h1 h2 => absurd h1 (by omega), Below.refl _ _⟩
  case round =>
    obtain ⟨j, hj, rfl, hno, hB⟩ := hrel
    have HNj : Hid (∀ k, i ≤ k → k < i + j → isT (r.P.hd k) T.nm T.len = false) := hno
    have HB : Hid (Below W.heap.size W wr) := hB
    have HBw : Hid (Below w.heap.size w wr) := HBx.out.trans (hB.mono HBx.out.size)
    clear hno hB c3
    by_cases hlt : j < r.P.len - i
    case neg =>
      have HE : Hid (fitP (cls r.P) T i = none) := HNo.out _ (fun k h1 h2 => HNj.out k h1 (by omega)) rfl
      go_wp2_with fail
      go_ret
      exact ⟨by rw [HE.out]; rfl, HBw.out⟩
    obtain ⟨b, o, ha, c0, c1, c2, c3⟩ := HRow.out (i + j) (by omega) wr HBw.out
    have ha' := HAo.out b o ha (by omega)
    rw [show o + (i + j) * 4 = o + i * 4 + j * 4 from by rw [Nat.add_mul]; omega] at c0 c1 c2 c3
    clear ha
    subst ha'
    have hltI : (j : Int) < ((r.P.len - i : Nat) : Int) := by omega
    have HXr : Hid (wr.heap[w.heap.size]? = some (.cells #[.int .i64 T.v, .string T.nm, .slice T.a T.len T.cap] 24)) := (HB.out.block _ hW).trans HX0.out
    have hrs : w.heap.size < wr.heap.size := Nat.lt_of_lt_of_le hW HB.out.size
    have HM : Hid (isT (r.P.hd (i + j)) T.nm T.len = true → fitP (cls r.P) T i = some (i + j)) := fun h => HYes.out (i + j) (by omega) (by omega) h (fun k h1 h2 => HNj.out k h1 h2)
    have HNx : Hid (isT (r.P.hd (i + j)) T.nm T.len = false → ∀ k, i ≤ k → k < i + (j + 1) → isT (r.P.hd k) T.nm T.len = false) := fun h k h1 h2 => by
      by_cases e : k = i + j
      · rw [e]; exact h
      · exact HNj.out k h1 (by omega)
    generalize hH : r.P.hd (i + j) = H at *
    generalize hBd : r.P.bd (i + j) = Bd at *
    clear hH hBd
    have HBn : Hid (Below wr.heap.size wr (wr.alloc (.cells #[.int .i64 H.v, .string H.nm, .slice H.a H.len H.cap, .slice Bd.a Bd.len Bd.cap] 82))) := (Below.refl _ _).alloc (Nat.le_refl _) _
    obtain ⟨x0, x1, x2, _, _, _⟩ := block_cells ((HBn.out.block _ hrs).trans HXr.out)
    go_wp2_with fail
    refine (is_any H T.nm T.len _).mono ?_
    rintro e w1 ⟨rfl, hb1⟩
    have HB1 : Hid (Below wr.heap.size wr w1) := HBn.out.trans (hb1.mono HBn.out.size)
    have HBW1 : Hid (Below W.heap.size W w1) := HB.out.trans (HB1.out.mono HB.out.size)
    have HBw1 : Hid (Below w.heap.size w w1) := HBw.out.trans (HB1.out.mono HBw.out.size)
    clear hb1 c0 c1 c2 c3 x0 x1 x2
    cases hm : isT H T.nm T.len with
    | true =>
      have HE : Hid (fitP (cls r.P) T i = some (i + j)) := HM.out hm
      have hwr : IntKind.i64.wrap ((i : Int) + (j : Int)) = (i : Int) + (j : Int) := by simp [IntKind.wrap, IntKind.bits, IntKind.signed]; omega
      clear hm
      go_wp2_with fail
      go_ret
      exact ⟨by rw [HE.out]; show _ = Ending.returned (.int .i64 ((i + j : Nat) : Int)); rw [Int.natCast_add]; rfl, HBw1.out⟩
    | false =>
      have HN2 : Hid (∀ k, i ≤ k → k < i + (j + 1) → isT (r.P.hd k) T.nm T.len = false) := HNx.out hm
      clear hm
      go_wp2_with fail
      go_roundw
      case rel => exact ⟨j + 1, by omega, by go_num, HN2.out, HBW1.out⟩
      case measure => simp [intOf]; omega
/-- The blocks of a search itself that turn; all that turn. -/
def Ms (s : Nat) (cv av : Value) (k : Nat) : Prop := k = s ∨ cv.ownBlock = some k ∨ av.ownBlock = some k
def Mu (s b m : Nat) (tv cv av : Value) (k : Nat) : Prop := (k = b ∨ k = m ∨ tv.ownBlock = some k) ∨ Ms s cv av k
/-- Goals in memory, one behind the other; none of them turns. -/
def GL (w : World) (M : Nat → Prop) (N : Int) : Value → List Gl → Prop
  | p, [] => p = .pointer none
  | p, (T, c) :: r => ∃ (k : Nat) (q : Value), p = .pointer (some ⟨k, 0, none⟩) ∧ ¬ M k ∧ w.heap[k]? = some (.cells #[.int .i64 T.v, .string T.nm, .slice T.a T.len T.cap, .int .i64 c, q] 149) ∧ TIn w T ∧ NM M T ∧ Okv N T ∧ GL w M N q r
theorem GL.next {w w' : World} {M M' : Nat → Prop} {N : Int} : ∀ {gl : List Gl} {p : Value}, GL w M N p gl → Bw M w.heap.size w w' → (∀ k, k < w.heap.size → M' k → M k) → GL w' M' N p gl := by
  intro gl
  induction gl with
  | nil => intro p h _ _; exact h
  | cons g r ih =>
    intro p h hb hm
    obtain ⟨T, c⟩ := g
    obtain ⟨k, q, h1, h2, h3, h4, h5, h6, h7⟩ := h
    have hk : k < w.heap.size := (Array.getElem?_eq_some_iff.1 h3).1
    exact ⟨k, q, h1, fun e => h2 (hm k hk e), (hb.block k hk h2).trans h3, h4.bw hb (Nat.le_refl _) h5, h5.anti h4 hm, h6, ih h7 hb hm⟩
theorem GL.tail {w : World} {M : Nat → Prop} {N : Int} {p : Value} {g : Gl} {r : List Gl} (h : GL w M N p (g :: r)) : ∃ q, GL w M N q r := by
  obtain ⟨T, c⟩ := g
  obtain ⟨k, q, _, _, _, _, _, _, h7⟩ := h
  exact ⟨q, h7⟩
set_option maxRecDepth 100000 in
set_option maxHeartbeats 4000000 in
theorem ahead_any {M : Nat → Prop} {N : Int} (B : Tm) (cut : Nat) (p : Value) (gl : List Gl) (w : World) (hB : TIn w B) (hBM : NM M B) (hBO : ∀ i, i < B.len → Okv N (B.f i)) (hG : GL w M N p gl) (hM : ∀ k, M k → k < w.heap.size) (hp : ∃ ad, p = .pointer ad) :
    Calls Try.prog 70 #[.slice B.a B.len B.cap, .int .i64 cut, p] w fun e w' => ∃ q, e = .returned q ∧ (∃ ad, q = .pointer ad) ∧ GL w' M N q (((kidsL B).map fun t => (t, cut)) ++ gl) ∧ Below w.heap.size w w' := by
  have HB : Hid (TIn w B ∧ NM M B ∧ ∀ i, i < B.len → Okv N (B.f i)) := ⟨hB, hBM, hBO⟩
  have HG : Hid (GL w M N p gl) := hG
  have HM : Hid (∀ k, M k → k < w.heap.size) := hM
  have hlen : B.len ≤ 2 ^ 63 - 1 := hB.len
  obtain ⟨pa, rfl⟩ := hp
  have HRow : Hid (∀ k, k < B.len → ∀ wr, Below w.heap.size w wr → RowAt wr B.a k (B.f k) ∧ TIn wr (B.f k)) := fun k hk wr hb => ⟨(HB.out.1.row hk).below hb, (HB.out.1.kid hk).below hb⟩
  clear hB hBM hBO hG hM
  generalize hua : B.a = ua at *
  go_enter Try.func70, Try.ntmps70
  go_wp2_with fail
  go_loopw [2, 7] (fun g x wr => ∃ (j : Nat) (q : Option Addr), j ≤ B.len ∧ x = .int .i64 ((B.len : Int) - 1 - j) ∧ g = .pointer q ∧ GL wr M N (.pointer q) ((((kidsL B).drop (B.len - j)).map fun t => (t, cut)) ++ gl) ∧ Below w.heap.size w wr) (fun _ x _ => ((intOf x) + 1).toNat)
  case atStart =>
    refine ⟨0, pa, Nat.zero_le _, by simp, rfl, ?_, Below.refl _ _⟩
    rw [Nat.sub_zero, kidsL_end]; exact HG.out
  case round =>
    obtain ⟨j, q, hj, rfl, rfl, hGj, hBj⟩ := hrel
    have HGj : Hid (GL wr M N (.pointer q) ((((kidsL B).drop (B.len - j)).map fun t => (t, cut)) ++ gl)) := hGj
    have HBj : Hid (Below w.heap.size w wr) := hBj
    clear hGj hBj
    by_cases hlt : j < B.len
    case neg =>
      have hje : j = B.len := by omega
      have HGe : Hid (GL wr M N (.pointer q) (((kidsL B).map fun t => (t, cut)) ++ gl)) := by
        have := HGj.out
        rw [hje, Nat.sub_self, List.drop_zero] at this
        exact this
      have hd : decide ((B.len : Int) - 1 - (j : Int) ≥ 0) = false := decide_eq_false (by omega)
      clear hje
      go_wp2_with fail
      go_ret
      exact ⟨_, rfl, ⟨q, rfl⟩, HGe.out, HBj.out⟩
    obtain ⟨hr, hTk⟩ := HRow.out (B.len - (j + 1)) (by omega) wr HBj.out
    have HTk : Hid (TIn wr (B.f (B.len - (j + 1)))) := hTk
    obtain ⟨bb, o, ha, c0, c1, c2⟩ := hr
    have hx : ((B.len : Int) - 1 - (j : Int)) = ((B.len - (j + 1) : Nat) : Int) := by omega
    have hd : decide (((B.len - (j + 1) : Nat) : Int) ≥ 0) = true := decide_eq_true (by omega)
    have hk1 : ((B.len - (j + 1) : Nat) : Int) < (B.len : Int) := by omega
    have HNm : Hid (NM M (B.f (B.len - (j + 1))) ∧ Okv N (B.f (B.len - (j + 1)))) := ⟨HB.out.2.1.kid (by omega), HB.out.2.2 _ (by omega)⟩
    have HDr : Hid ((kidsL B).drop (B.len - (j + 1)) = B.f (B.len - (j + 1)) :: (kidsL B).drop (B.len - j)) := by
      rw [Hid, kidsL_drop (by omega), show B.len - (j + 1) + 1 = B.len - j from by omega]
    have hnx : ((B.len - (j + 1) : Nat) : Int) - 1 = (B.len : Int) - 1 - ((j + 1 : Nat) : Int) := by omega
    have HNX : Hid (((B.len - (j + 1) : Nat) : Int) - 1 = (B.len : Int) - 1 - ((j + 1 : Nat) : Int)) := hnx
    clear hTk hnx
    subst ha
    rw [hx]
    clear hx
    generalize hkk : B.len - (j + 1) = kk at *
    generalize hT : B.f kk = T at *
    go_wp2_with fail
    have HBn : Hid (Below wr.heap.size wr (wr.alloc (.cells #[.int .i64 T.v, .string T.nm, .slice T.a T.len T.cap, .int .i64 cut, .pointer q] 149))) := (Below.refl _ _).alloc (Nat.le_refl _) _
    have HGn : Hid (GL (wr.alloc (.cells #[.int .i64 T.v, .string T.nm, .slice T.a T.len T.cap, .int .i64 cut, .pointer q] 149)) M N (.pointer (some ⟨wr.heap.size, 0, none⟩)) ((((kidsL B).drop kk).map fun t => (t, cut)) ++ gl)) := by
      rw [Hid, HDr.out, List.map_cons, List.cons_append]
      exact ⟨wr.heap.size, .pointer q, rfl, fun e => by have := HM.out _ e; have := HBj.out.size; omega, heap_alloc_new wr _, HTk.out.below HBn.out, HNm.out.1, HNm.out.2, HGj.out.next (Bw.ofBelow HBn.out) (fun _ _ h => h)⟩
    go_roundw
    case rel => exact ⟨j + 1, some ⟨wr.heap.size, 0, none⟩, by omega, by rw [← HNX.out], by first | rfl | simp, by rw [hkk]; exact HGn.out, HBj.out.trans (HBn.out.mono HBj.out.size)⟩
    case measure => simp [intOf]
end Go.Proofs.Ytmggaclaoefdaaa
