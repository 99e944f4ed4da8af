/- A search: clauses are tried. -/
import Derived.Test.YtmggaclaoefdaaaGN
namespace Go.Proofs.Ytmggaclaoefdaaa
open Go.RowKit

theorem absP_last (r : Sr) (σ : Sg) (gl : List Gl) (ch : List Cr) (an : List Tm) : (absP r σ gl ch an).last = r.last := rfl
theorem boxA {W w1 : World} {o : Obj} (h : Below (W.alloc o).heap.size (W.alloc o) w1) : w1.heap[W.heap.size]? = some o := (h.block _ (by simp)).trans (heap_alloc_new W o)
theorem below_low {B : Nat} {w0 w3 W : World} (h3 : Below B w0 w3) (hW : Below B w0 W) (hs : w3.heap.size ≤ W.heap.size) : Below B w3 W := ⟨hW.os.trans h3.os.symm, hW.tape.trans h3.tape.symm, hW.output.trans h3.output.symm, hs, fun k hk => (hW.block k hk).trans (h3.block k hk).symm⟩
theorem SM.rebase {w0 w W : World} {s m : Nat} {r : Sr} {tv : Value} {n : Nat} {σ : Sg} {L : Nat} {tr : List Int} {gl : List Gl} {ch : List Cr} {an : List Tm} {A B : Tm} {e : Ending} {w' : World} (hW : Below w.heap.size w W) (h : SM w0 W s m r tv n σ L tr gl ch an A B e w') : SM w0 w s m r tv n σ L tr gl ch an A B e w' := by
  obtain ⟨ok, r', tv', n', σ', L', tr', h1, h2, h3, h4, h5, ⟨h6, h7⟩, h8⟩ := h
  exact ⟨ok, r', tv', n', σ', L', tr', h1, h2, h3, h4, h5, ⟨(Bw.ofBelow hW).trans (h6.mono hW.size), fun k hk => h7 k (Nat.lt_of_lt_of_le hk hW.size)⟩, h8⟩
theorem Try.info183 : (Try.prog.info? 183).map (fun i => (i.zero, i.size, i.bytes)) = some (some (.agg #[.pointer none, .int .i64 0, .int .i64 0]), 3, 24) := by kernel_rfl
theorem newsC (w : World) (c : Cr) : ∀ j u, (flatR [c])[j]? = some u → (w.alloc (.cells #[c.p, .int .i64 c.k, .int .i64 c.mark] 183)).cell? ((⟨w.heap.size, 0, none⟩ : Addr).add j) = some u := by
  intro j u hj
  have hb := heap_alloc_new w (.cells #[c.p, .int .i64 c.k, .int .i64 c.mark] 183)
  rw [addr_add, cell_of_row _ _ _ _ _ _ hb]
  simpa [flatR, cellsR] using hj
/-- A box that holds a term. -/
def Bx3 (w : World) (k : Nat) (T : Tm) : Prop := w.heap[k]? = some (.cells #[.int .i64 T.v, .string T.nm, .slice T.a T.len T.cap] 24)
set_option maxRecDepth 100000 in
set_option maxHeartbeats 8000000 in
theorem try_any {w0 : World} {s m : Nat} {r : Sr} {tv : Value} {n : Nat} {σ : Sg} {L : Nat} {tr : List Int} {gl : List Gl} {ch : List Cr} {an : List Tm} {p : Value} {T0 : Tm} {c0 : Nat} {rest : List Gl} (i : Nat) (w : World) (hPr : Prg w0 r.P) (h : SS w0 w s m r tv n σ L tr gl ch an) (hp : GL w (Mu s r.b m tv r.cv r.av) 1000000 p ((T0, c0) :: rest)) (hi : i ≤ r.P.len) (hL : L ≤ 4000) (hn : n + 130000 ≤ 1000000000) (hl : 0 ≤ r.last ∧ r.last + 12 * (r.P.len - i : Nat) ≤ 999000) (hf : r.fin = 0) (hc : ch.length ≤ 100000) :
    Calls Try.prog 127 #[.pointer (some ⟨s, 0, none⟩), p, .int .i64 i] w (TRes w0 w s m r n σ L gl ch an ((T0, c0) :: rest) i) := by
  have H : Hid (SS w0 w s m r tv n σ L tr gl ch an) := h
  have HPr : Hid (Prg w0 r.P) := hPr
  have HP : Hid (GL w (Mu s r.b m tv r.cv r.av) 1000000 p ((T0, c0) :: rest)) := hp
  obtain ⟨kp, qn, rfl, hpM, hpb, hpT, hpN, hpO, hpr⟩ := hp
  have HT0 : Hid (TIn w T0 ∧ Okv 1000000 T0 ∧ NM (Mu s r.b m tv r.cv r.av) T0) := ⟨hpT, hpO, hpN⟩
  obtain ⟨_, _, _, _, _, _, _, y7, _, _, _⟩ := h.blk.get
  obtain ⟨p0, p1, p2, _, _⟩ := block5 hpb
  have hplen : r.P.len ≤ 2 ^ 63 - 1 := by have := hPr.few; omega
  have hfew := hPr.few
  have hs := h.blk.lt
  clear h hPr hpM hpb hpT hpN hpO hpr
  go_enter Try.func127, Try.ntmps127
  go_wp2_with fail
  have HKp : Hid (∀ W, Below w.heap.size w W → W.cell? ⟨s, 7, none⟩ = some (.pointer (some ⟨r.b, 0, none⟩)) ∧ W.cell? ⟨kp, 0, none⟩ = some (.int .i64 T0.v) ∧ W.cell? ⟨kp, 1, none⟩ = some (.string T0.nm) ∧ W.cell? ⟨kp, 2, none⟩ = some (.slice T0.a T0.len T0.cap)) := fun W hW => ⟨(hW.cell (lt_of_cell y7)).trans y7, (hW.cell (lt_of_cell p0)).trans p0, (hW.cell (lt_of_cell p1)).trans p1, (hW.cell (lt_of_cell p2)).trans p2⟩
  go_cut [7] from 12 to 20 (fun x wx => ∃ kb, x = .pointer (some ⟨kb, 0, none⟩) ∧ w.heap.size ≤ kb ∧ Bx3 wx kb (wha σ T0) ∧ Below w.heap.size w wx)
  case first =>
    have HW : Hid (∀ W, Below w.heap.size w W → Calls Try.prog 93 #[.pointer (some ⟨r.b, 0, none⟩), .agg #[.int .i64 T0.v, .string T0.nm, .slice T0.a T0.len T0.cap]] W fun e w' => e = .returned (.agg #[.int .i64 (wha σ T0).v, .string (wha σ T0).nm, .slice (wha σ T0).a (wha σ T0).len (wha σ T0).cap]) ∧ Below W.heap.size W w' ∧ Okv 1000000 (wha σ T0)) := fun W hW => what_agg T0 W (H.out.below hW).vs HT0.out.2.1
    go_region_held3 (fun w' => w'.cell? ⟨s, 7, none⟩ = some (.pointer (some ⟨r.b, 0, none⟩)) ∧ w'.cell? ⟨kp, 0, none⟩ = some (.int .i64 T0.v) ∧ w'.cell? ⟨kp, 1, none⟩ = some (.string T0.nm) ∧ w'.cell? ⟨kp, 2, none⟩ = some (.slice T0.a T0.len T0.cap)) ((refine HKp.out _ ?_; repeat (first | exact HB1.out | exact Below.refl _ _ | refine Below.drew ?_ | refine Below.alloc ?_ (by first | exact Nat.le_refl _ | exact HB1.out.size | simp) _ | refine Below.setCell ?_ (by first | exact Nat.le_refl _ | exact HB1.out.size | simp) _))) (first
      | (go_at_call 93
         refine (HW.out _ (by repeat (first | exact Below.refl _ _ | refine Below.drew ?_ | refine Below.alloc ?_ (by first | exact Nat.le_refl _ | simp) _))).mono ?_
         rintro e w1 ⟨rfl, hb1, hO1⟩
         have HB1 : Hid (Below w.heap.size w w1) := Below.trans (by repeat (first | exact Below.refl _ _ | refine Below.drew ?_ | refine Below.alloc ?_ (by first | exact Nat.le_refl _ | simp) _)) (hb1.mono (by simp))
         first
           | (have hz : w1.heap[w.heap.size]? = some (.cells #[.int .i64 0, .string ⟨#[]⟩, .slice none 0 0] 24) := boxA (W := w) ⟨hb1.os, hb1.tape, hb1.output, hb1.size, hb1.block⟩
              have HZ : Hid (w1.heap[w.heap.size]? = some (.cells #[.int .i64 0, .string ⟨#[]⟩, .slice none 0 0] 24)) := hz
              obtain ⟨z0, z1, z2, zf0, zf1, zf2⟩ := block_cells hz
              clear hz)
           | skip
         clear hb1 hO1))
    all_goals
      generalize wha σ T0 = U at *
      go_wp2_with fail
      go_meet
      case rel =>
        first
          | (obtain ⟨W', hW', _, _, _, hB', _⟩ := fin3n (w := w) (r := w.heap.size) (Nat.le_refl _) HZ.out HB1.out (.int .i64 U.v) (.string U.nm) (.slice U.a U.len U.cap)
             have hx := set3 (a := .int .i64 U.v) (b := .string U.nm) (c := .slice U.a U.len U.cap) HZ.out
             rw [hW'] at hx ⊢
             exact ⟨w.heap.size, rfl, Nat.le_refl _, hx, hB'⟩)
          | exact ⟨w1.heap.size, rfl, HB1.out.size, heap_alloc_new w1 _, HB1.out.alloc HB1.out.size _⟩
  case rest =>
    obtain ⟨kb, rfl, hkb, hbx, hB⟩ := hcut
    have HBc : Hid (Below w.heap.size w wc) := hB
    have HSc : Hid (SS w0 wc s m r tv n σ L tr gl ch an) := H.out.below hB
    have HPc : Hid (GL wc (Mu s r.b m tv r.cv r.av) 1000000 (.pointer (some ⟨kp, 0, none⟩)) ((T0, c0) :: rest)) := HP.out.next (Bw.ofBelow hB) (fun _ _ e => e)
    have HUc : Hid (TIn wc (wha σ T0) ∧ Okv 1000000 (wha σ T0) ∧ NM (Mu s r.b m tv r.cv r.av) (wha σ T0)) := (H.out.below hB).wha ⟨HT0.out.1.below hB, HT0.out.2⟩
    have HHd : Hid (hdT (cs σ) (cgl ((T0, c0) :: rest)) = can (wha σ T0)) := hd_can σ T0 c0 rest
    have HXc : Hid (Bx3 wc kb (wha σ T0)) := hbx
    have hkm : ¬ Mu s r.b m tv r.cv r.av kb := fun e => by have := (H.out.mu e).2; omega
    have HPin : Hid (∀ W, Below w0.heap.size w0 W → PIn W r.P) := fun W hW => HPr.out.pin.below hW
    obtain ⟨x0, x1, x2, _, _, _⟩ := block_cells hbx
    clear hB hbx p0 p1 p2 y7 HKp
    generalize wha σ T0 = U at *
    have hUl : U.len ≤ maxLen := HUc.out.1.len
    have hUl2 : U.len ≤ 2 ^ 63 - 1 := hUl
    have HF0 : Hid (Calls Try.prog 139 #[.pointer (some ⟨s, 0, none⟩), .agg #[.int .i64 U.v, .string U.nm, .slice U.a U.len U.cap], .int .i64 i] wc fun e w' => e = .returned (.int .i64 (fitI (fitP (cls r.P) U i))) ∧ Below wc.heap.size wc w') := fit_any U i wc HSc.out.blk (HPin.out _ HSc.out.low) HPr.out.cap hUl hi
    go_wp2_with fail
    refine HF0.out.mono ?_
    rintro e w1 ⟨rfl, hb1⟩
    have hr0 : r = { r with last := r.last, fin := 0 } := by rw [← hf]
    have HS1 : Hid (SS w0 w1 s m { r with last := r.last, fin := 0 } tv n σ L tr gl ch an) := by rw [Hid, ← hr0]; exact HSc.out.below hb1
    have HP1 : Hid (GL w1 (Mu s r.b m tv r.cv r.av) 1000000 (.pointer (some ⟨kp, 0, none⟩)) ((T0, c0) :: rest)) := HPc.out.next (Bw.ofBelow hb1) (fun _ _ e => e)
    have HX1 : Hid (Bx3 w1 kb U) := (hb1.block kb (Array.getElem?_eq_some_iff.1 HXc.out).1).trans HXc.out
    have HU1 : Hid (TIn w1 U ∧ Okv 1000000 U ∧ NM (Mu s r.b m tv r.cv r.av) U) := ⟨HUc.out.1.below hb1, HUc.out.2⟩
    have hsz1 : w.heap.size ≤ w1.heap.size := Nat.le_trans HBc.out.size hb1.size
    have HX0 : Hid (absP r σ gl ch an = absP { r with last := r.last, fin := 0 } σ gl ch an) := congrArg (fun r => absP r σ gl ch an) hr0
    clear hb1 x0 x1 x2 hr0 HF0
    go_wp2_with fail
    go_loopw [8] (fun x wr => ∃ (j : Nat) (l1 f1 : Int) (tv1 : Value) (n1 : Nat) (L1 : Int), i ≤ j ∧ j ≤ r.P.len ∧ x = .int .i64 (fitI (fitP (cls r.P) U j)) ∧ SS w0 wr s m { r with last := l1, fin := f1 } tv1 n1 σ L1 tr gl ch an ∧ GL wr (Mu s r.b m tv1 r.cv r.av) 1000000 (.pointer (some ⟨kp, 0, none⟩)) ((T0, c0) :: rest) ∧ Bx3 wr kb U ∧ ¬ Mu s r.b m tv1 r.cv r.av kb ∧ (TIn wr U ∧ Okv 1000000 U ∧ NM (Mu s r.b m tv1 r.cv r.av) U) ∧ n1 ≤ n + 4000 * (j - i) ∧ w.heap.size ≤ wr.heap.size ∧ r.last ≤ l1 ∧ l1 ≤ r.last + 12 * (j - i : Nat) ∧ ((f1 = 0 ∧ ∃ f L' : Nat, L1 = L' ∧ L' ≤ L ∧ r.P.len - j < f ∧ tryP (cls r.P) (cgl ((T0, c0) :: rest)) (can U) (r.P.len + 1) i (absP r σ gl ch an) L = tryP (cls r.P) (cgl ((T0, c0) :: rest)) (can U) f j (absP { r with last := l1, fin := 0 } σ gl ch an) L') ∨ (f1 = 3 ∧ tryP (cls r.P) (cgl ((T0, c0) :: rest)) (can U) (r.P.len + 1) i (absP r σ gl ch an) L = (absP { r with last := l1, fin := 3 } σ gl ch an, false)))) (fun x _ => if intOf x < 0 then 0 else r.P.len + 1 - (intOf x).toNat)
    case atStart => exact ⟨i, r.last, 0, tv, n, L, Nat.le_refl _, hi, rfl, HS1.out, HP1.out, HX1.out, hkm, HU1.out, by omega, hsz1, Int.le_refl _, by simp, .inl ⟨rfl, r.P.len + 1, L, rfl, Nat.le_refl _, by omega, by rw [HX0.out]⟩⟩
    case round =>
      clear HS1 HP1 HX1 HU1
      obtain ⟨j, l1, f1, tv1, n1, L1, hij, hjP, rfl, hSr, hPr, hXr, hkr, hUr, hnr, hszr, hl1, hl2, hA⟩ := hrel
      have HSr : Hid (SS w0 wr s m { r with last := l1, fin := f1 } tv1 n1 σ L1 tr gl ch an) := hSr
      have HPw : Hid (GL wr (Mu s r.b m tv1 r.cv r.av) 1000000 (.pointer (some ⟨kp, 0, none⟩)) ((T0, c0) :: rest)) := hPr
      have HXr : Hid (Bx3 wr kb U) := hXr
      have HUr : Hid (TIn wr U ∧ Okv 1000000 U ∧ NM (Mu s r.b m tv1 r.cv r.av) U) := hUr
      have HA : Hid ((f1 = 0 ∧ ∃ f L' : Nat, L1 = L' ∧ L' ≤ L ∧ r.P.len - j < f ∧ tryP (cls r.P) (cgl ((T0, c0) :: rest)) (can U) (r.P.len + 1) i (absP r σ gl ch an) L = tryP (cls r.P) (cgl ((T0, c0) :: rest)) (can U) f j (absP { r with last := l1, fin := 0 } σ gl ch an) L') ∨ (f1 = 3 ∧ tryP (cls r.P) (cgl ((T0, c0) :: rest)) (can U) (r.P.len + 1) i (absP r σ gl ch an) L = (absP { r with last := l1, fin := 3 } σ gl ch an, false))) := hA
      have HKr : Hid (¬ Mu s r.b m tv1 r.cv r.av kb) := hkr
      obtain ⟨_, y1, _, _, _, _, _, y7, _, _, _⟩ := hSr.blk.get
      have y1 : wr.cell? ⟨s, 1, none⟩ = some (.int .i64 f1) := y1
      have y7 : wr.cell? ⟨s, 7, none⟩ = some (.pointer (some ⟨r.b, 0, none⟩)) := y7
      clear hSr hPr hXr hUr hA hkr
      cases hfit : fitP (cls r.P) U j with
      | none =>
        have HRes : Hid (tryP (cls r.P) (cgl ((T0, c0) :: rest)) (can U) (r.P.len + 1) i (absP r σ gl ch an) L = (absP { r with last := l1, fin := f1 } σ gl ch an, false) ∧ 0 ≤ f1) := by
          rcases HA.out with ⟨rfl, f, L', _, _, hf2, he⟩ | ⟨rfl, he⟩
          · obtain ⟨f', rfl⟩ : ∃ f', f = f' + 1 := ⟨f - 1, by omega⟩
            exact ⟨by rw [he, try_none hfit], Int.le_refl _⟩
          · exact ⟨he, by omega⟩
        rw [show fitI none = -1 from rfl]
        clear hfit
        go_wp2_with fail
        go_ret
        exact ⟨false, _, tv1, n1, σ, L1, tr, gl, ch, rfl, HSr.out, by rw [HHd.out]; exact HRes.out.1, ⟨rfl, rfl, rfl, rfl⟩, HRes.out.2, by omega, hl1, by show l1 ≤ _; omega, by omega, hszr⟩
      | some k =>
        have hjk := fit_lt hfit
        rw [show fitI (some k) = (k : Int) from rfl]
        have hge : decide ((k : Int) ≥ 0) = true := decide_eq_true (by omega)
        rcases HA.out with ⟨rfl, f, L', rfl, hLL, hf2, he⟩ | ⟨rfl, he⟩
        case inr =>
          have HE : Hid (tryP (cls r.P) (cgl ((T0, c0) :: rest)) (can U) (r.P.len + 1) i (absP r σ gl ch an) L = (absP { r with last := l1, fin := 3 } σ gl ch an, false)) := he
          clear he hfit
          go_wp2_with fail
          go_ret
          exact ⟨false, _, tv1, n1, σ, L1, tr, gl, ch, rfl, HSr.out, by rw [HHd.out]; exact HE.out, ⟨rfl, rfl, rfl, rfl⟩, by show (0 : Int) ≤ 3; omega, by omega, hl1, by show l1 ≤ _; omega, by omega, hszr⟩
        obtain ⟨f', rfl⟩ : ∃ f', f = f' + 1 := ⟨f - 1, by omega⟩
        have HE : Hid (∀ A : Tm, can A = ap (ownV l1) (r.P.hd k) → tryP (cls r.P) (cgl ((T0, c0) :: rest)) (can U) (r.P.len + 1) i (absP r σ gl ch an) L = match meetF (L' + 1) σ L' [(A, U)] with
          | .over => ({ absP { r with last := l1, fin := 0 } σ gl ch an with last := l1 + 12, fin := 3 }, false)
          | .no L2 => tryP (cls r.P) (cgl ((T0, c0) :: rest)) (can U) f' (k + 1) { absP { r with last := l1, fin := 0 } σ gl ch an with last := l1 + 12 } L2
          | .yes _ σ' => ({ absP { r with last := l1, fin := 0 } σ gl ch an with last := l1 + 12, σ := cs σ', gl := ((kidsL (r.P.bd k)).map fun b => (ap (ownV l1) b, (ch.map cch).length)) ++ (cgl ((T0, c0) :: rest)).tail, ch := match fitP (cls r.P) U (k + 1) with
                | none => ch.map cch
                | some q => ch.map cch ++ [⟨cgl ((T0, c0) :: rest), q, cs σ⟩] }, true)) := fun A hA => by
          rw [he]; exact try_some (X := absP { r with last := l1, fin := 0 } σ gl ch an) rfl hfit hA
        have HFit : Hid (fitP (cls r.P) U j = some k) := hfit
        clear he hfit
        have HMk : Hid (Calls Try.prog 140 #[.pointer (some ⟨r.b, 0, none⟩)] wr fun e w' => e = .returned (.int .i64 tr.length) ∧ w' = wr) := mark_any wr HSr.out.vs HSr.out.trk
        go_wp2_with fail
        refine HMk.out.mono ?_
        rintro e w2 ⟨rfl, rfl⟩
        have HOw : Hid (Calls Try.prog 141 #[.pointer (some ⟨s, 0, none⟩)] w2 fun e w' => e = .returned (.func (.func 145) #[] #[.pointer (some ⟨w2.heap.size, 0, none⟩)]) ∧ w' = (w2.setCell ⟨s, 6, none⟩ (.int .i64 (l1 + 12))).alloc (.cells #[.int .i64 l1] 3)) := own_any w2 HSr.out.blk (by show 0 ≤ l1 ∧ l1 ≤ 1000000; omega)
        clear y1 y7 HMk
        go_wp2_with fail
        refine HOw.out.mono ?_
        rintro e w3 ⟨rfl, hw3⟩
        have hsr := HSr.out.blk.lt
        have hbn : Below w2.heap.size (w2.setCell ⟨s, 6, none⟩ (.int .i64 (l1 + 12))) w3 := by rw [hw3]; exact (Below.refl _ _).alloc (by simp [World.setCell]) _
        have hbn' : Below (w2.setCell ⟨s, 6, none⟩ (.int .i64 (l1 + 12))).heap.size (w2.setCell ⟨s, 6, none⟩ (.int .i64 (l1 + 12))) w3 := by rw [hw3]; exact (Below.refl _ _).alloc (Nat.le_refl _) _
        have hbw3 : Bw (Mu s r.b m tv1 r.cv r.av) w2.heap.size w2 w3 := ((Bw.refl _ _ w2).grown (grown_set s 6 _) (Nat.le_refl _) (fun k hk => .inr (.inr (.inl (Option.some.inj hk).symm)))).trans (Bw.ofBelow hbn)
        have HS3 : Hid (SS w0 w3 s m { r with last := l1 + 12, fin := 0 } tv1 n1 σ L' tr gl ch an) := (HSr.out.put 6 (.int .i64 (l1 + 12)) (r' := { r with last := l1 + 12, fin := 0 }) rfl rfl rfl rfl HSr.out.gls).below hbn'
        have HP3 : Hid (GL w3 (Mu s r.b m tv1 r.cv r.av) 1000000 (.pointer (some ⟨kp, 0, none⟩)) ((T0, c0) :: rest)) := HPw.out.next hbw3 (fun _ _ e => e)
        have HX3 : Hid (Bx3 w3 kb U) := (hbw3.block kb (Array.getElem?_eq_some_iff.1 HXr.out).1 HKr.out).trans HXr.out
        have HU3 : Hid (TIn w3 U ∧ Okv 1000000 U ∧ NM (Mu s r.b m tv1 r.cv r.av) U) := ⟨HUr.out.1.bw hbw3 (Nat.le_refl _) HUr.out.2.2, HUr.out.2⟩
        have HI3 : Hid (w3.heap[w2.heap.size]? = some (.cells #[.int .i64 l1] 3)) := by
          have := heap_alloc_new (w2.setCell ⟨s, 6, none⟩ (.int .i64 (l1 + 12))) (.cells #[.int .i64 l1] 3)
          rw [show (w2.setCell ⟨s, 6, none⟩ (.int .i64 (l1 + 12))).heap.size = w2.heap.size from by simp [World.setCell]] at this
          rw [Hid, hw3]; exact this
        have hsz3 : w2.heap.size < w3.heap.size := (Array.getElem?_eq_some_iff.1 HI3.out).1
        have HSw : Hid (∀ {q : Nat}, Mu s r.b m tv1 r.cv r.av q → q < w2.heap.size) := fun e => (HSr.out.mu e).2
        generalize ho : w2.heap.size = o at *
        clear hw3 hbn hbn' hbw3 HOw HSr HPw HXr HUr
        have hkP := hjk.2
        obtain ⟨⟨cb, co, hca, c0', c1', c2', c3'⟩, hTH, hTB⟩ := (HPin.out w3 HS3.out.low).2 k hkP
        have HTH : Hid (TIn w3 (r.P.hd k)) := hTH
        have hcb : cb < w0.heap.size := by
          obtain ⟨cb', co', hca', d0, _⟩ := (HPr.out.pin.2 k hkP).1
          rw [hca] at hca'
          cases hca'
          exact lt_of_cell d0
        obtain ⟨_, _, _, z3, _, _, _, _, _, _, _⟩ := HS3.out.blk.get
        have z3 : w3.cell? ⟨s, 3, none⟩ = some (.slice r.P.a r.P.len r.P.cap) := z3
        have HKq : Hid (∀ W, SS w0 W s m { r with last := l1 + 12, fin := 0 } tv1 n1 σ L' tr gl ch an → True) := fun _ _ => trivial
        obtain ⟨x0, x1, x2, _, _, _⟩ := block_cells HX3.out
        clear hTH hTB
        rw [hca] at z3
        have HKp : Hid (∀ W, Below w0.heap.size w3 W → W.cell? ⟨s, 3, none⟩ = some (.slice (some ⟨cb, co, none⟩) r.P.len r.P.cap) → Bx3 W kb U → W.cell? ⟨s, 3, none⟩ = some (.slice (some ⟨cb, co, none⟩) r.P.len r.P.cap) ∧ W.cell? ⟨cb, co + k * 4, none⟩ = some (.int .i64 (r.P.hd k).v) ∧ W.cell? ⟨cb, co + k * 4 + 1, none⟩ = some (.string (r.P.hd k).nm) ∧ W.cell? ⟨cb, co + k * 4 + 2, none⟩ = some (.slice (r.P.hd k).a (r.P.hd k).len (r.P.hd k).cap) ∧ W.cell? ⟨kb, 0, none⟩ = some (.int .i64 U.v) ∧ W.cell? ⟨kb, 1, none⟩ = some (.string U.nm) ∧ W.cell? ⟨kb, 2, none⟩ = some (.slice U.a U.len U.cap)) := fun W hW h3 hx => by
          obtain ⟨q0, q1, q2, _, _, _⟩ := block_cells hx
          exact ⟨h3, (hW.cell (p := ⟨cb, co + k * 4, none⟩) hcb).trans c0', (hW.cell (p := ⟨cb, co + k * 4 + 1, none⟩) hcb).trans c1', (hW.cell (p := ⟨cb, co + k * 4 + 2, none⟩) hcb).trans c2', q0, q1, q2⟩
        have HK3 : Hid (∀ W, Below w3.heap.size w3 W → W.cell? ⟨s, 3, none⟩ = some (.slice (some ⟨cb, co, none⟩) r.P.len r.P.cap) ∧ W.cell? ⟨cb, co + k * 4, none⟩ = some (.int .i64 (r.P.hd k).v) ∧ W.cell? ⟨cb, co + k * 4 + 1, none⟩ = some (.string (r.P.hd k).nm) ∧ W.cell? ⟨cb, co + k * 4 + 2, none⟩ = some (.slice (r.P.hd k).a (r.P.hd k).len (r.P.hd k).cap) ∧ W.cell? ⟨kb, 0, none⟩ = some (.int .i64 U.v) ∧ W.cell? ⟨kb, 1, none⟩ = some (.string U.nm) ∧ W.cell? ⟨kb, 2, none⟩ = some (.slice U.a U.len U.cap)) := fun W hW => HKp.out W (hW.mono HS3.out.low.size) ((hW.cell (lt_of_cell z3)).trans z3) ((hW.block kb (Array.getElem?_eq_some_iff.1 HX3.out).1).trans HX3.out)
        have HEa : Hid (∀ W, Below w3.heap.size w3 W → Calls Try.prog 120 #[.agg #[.int .i64 (r.P.hd k).v, .string (r.P.hd k).nm, .slice (r.P.hd k).a (r.P.hd k).len (r.P.hd k).cap], .func (.func 145) #[] #[.pointer (some ⟨o, 0, none⟩)]] W fun e w' => ∃ X : Tm, e = .returned X.val ∧ Below w3.heap.size w3 w' ∧ (TIn w' X ∧ Okv 1000000 X ∧ NM (Mu s r.b m tv1 r.cv r.av) X) ∧ can X = ap (ownV l1) (r.P.hd k)) := fun W hW =>
          (each_own W ((hW.block o hsz3).trans HI3.out) (by omega) (HTH.out.below hW) (HPr.out.hd k hkP)).mono fun e w' ⟨X, h1, h2, h3, h4, h5⟩ => ⟨X, h1, hW.trans (h2.mono hW.size), ⟨h3, okv_of_can h3 (by rw [h5]; exact okv_own (by omega) (by omega) (HPr.out.hd k hkP)), h4.nm (fun q hq => Nat.lt_of_lt_of_le (HS3.out.mu hq).2 hW.size)⟩, h5⟩
        have hkI : (k : Int) < (r.P.len : Int) := by omega
        clear c0' c1' c2' c3' z3 x0 x1 x2
        have tok1 : True := trivial
        go_wp2_with fail
        go_region_held3 (fun w' => w'.cell? ⟨s, 3, none⟩ = some (.slice (some ⟨cb, co, none⟩) r.P.len r.P.cap) ∧ w'.cell? ⟨cb, co + k * 4, none⟩ = some (.int .i64 (r.P.hd k).v) ∧ w'.cell? ⟨cb, co + k * 4 + 1, none⟩ = some (.string (r.P.hd k).nm) ∧ w'.cell? ⟨cb, co + k * 4 + 2, none⟩ = some (.slice (r.P.hd k).a (r.P.hd k).len (r.P.hd k).cap) ∧ w'.cell? ⟨kb, 0, none⟩ = some (.int .i64 U.v) ∧ w'.cell? ⟨kb, 1, none⟩ = some (.string U.nm) ∧ w'.cell? ⟨kb, 2, none⟩ = some (.slice U.a U.len U.cap)) (first | exact HK5.out | (refine HK3.out _ ?_; repeat (first | exact HB4.out | exact Below.refl _ _ | refine Below.drew ?_))) (first
          | (have _t := tok1
             go_at_call 120
             refine (HEa.out _ (by repeat (first | exact Below.refl _ _ | refine Below.drew ?_))).mono ?_
             rintro e w4 ⟨A, rfl, hb4, hA4, hc4⟩
             rw [show A.val = .agg #[.int .i64 A.v, .string A.nm, .slice A.a A.len A.cap] from rfl]
             have HB4 : Hid (Below w3.heap.size w3 w4) := hb4
             have HA4 : Hid ((TIn w4 A ∧ Okv 1000000 A ∧ NM (Mu s r.b m tv1 r.cv r.av) A) ∧ can A = ap (ownV l1) (r.P.hd k)) := ⟨hA4, hc4⟩
             have HSm : Hid (∀ W, Below w4.heap.size w4 W → Calls Try.prog 126 #[.pointer (some ⟨s, 0, none⟩), .agg #[.int .i64 A.v, .string A.nm, .slice A.a A.len A.cap], .agg #[.int .i64 U.v, .string U.nm, .slice U.a U.len U.cap]] W (SM w0 w4 s m { r with last := l1 + 12, fin := 0 } tv1 n1 σ L' tr gl ch an A U)) := fun W hW =>
               (ssame_any A U W ((HS3.out.below hb4).below hW) (by omega) (by omega) ⟨hA4.1.below hW, hA4.2⟩ ⟨(HU3.out.1.below hb4).below hW, HU3.out.2⟩).mono fun e w' h => h.rebase hW
             clear tok1 hb4 hA4 hc4)
          | (go_at_call 126
             refine (HSm.out _ (by repeat (first | exact Below.refl _ _ | refine Below.drew ?_))).mono ?_
             rintro e w5 ⟨ok, r5, tv5, n5, σ5, L5, tr5, rfl, h5, h6⟩
             have H5 : Hid (SS w0 w5 s m r5 tv5 n5 σ5 L5 tr5 gl ch an) := h5
             have H6 : Hid ((tr.length ≤ tr5.length ∧ tr5.take tr.length = tr) ∧ rst σ5 (tr5.take tr.length) = σ ∧ n5 ≤ n1 + L' ∧ (Bw (Mu s r.b m tv1 r.cv r.av) w4.heap.size w4 w5 ∧ ∀ k, k < w4.heap.size → Mu s r.b m tv5 r.cv r.av k → Mu s r.b m tv1 r.cv r.av k) ∧ ((ok = true ∧ r5 = { r with last := l1 + 12, fin := 0 } ∧ ∃ k : Nat, k ≤ L' ∧ L5 = k ∧ n5 + k ≤ n1 + L' ∧ meetF (L' + 1) σ L' [(A, U)] = .yes k σ5) ∨ (ok = false ∧ r5 = { r with last := l1 + 12, fin := 0 } ∧ ∃ k : Nat, k ≤ L' ∧ L5 = k ∧ meetF (L' + 1) σ L' [(A, U)] = .no k) ∨ (ok = false ∧ r5 = { r with last := l1 + 12, fin := 3 } ∧ L5 = -1 ∧ meetF (L' + 1) σ L' [(A, U)] = .over))) := h6
             have hP5 : r5.P = r.P := by rcases h6.2.2.2.2 with ⟨_, e, _⟩ | ⟨_, e, _⟩ | ⟨_, e, _⟩ <;> rw [e]
             have HX5 : Hid (Bx3 w5 kb U) := (h6.2.2.2.1.1.block kb (Nat.lt_of_lt_of_le (Array.getElem?_eq_some_iff.1 HX3.out).1 HB4.out.size) HKr.out).trans ((HB4.out.block kb (Array.getElem?_eq_some_iff.1 HX3.out).1).trans HX3.out)
             have HK5 : Hid (w5.cell? ⟨s, 3, none⟩ = some (.slice (some ⟨cb, co, none⟩) r.P.len r.P.cap) ∧ w5.cell? ⟨cb, co + k * 4, none⟩ = some (.int .i64 (r.P.hd k).v) ∧ w5.cell? ⟨cb, co + k * 4 + 1, none⟩ = some (.string (r.P.hd k).nm) ∧ w5.cell? ⟨cb, co + k * 4 + 2, none⟩ = some (.slice (r.P.hd k).a (r.P.hd k).len (r.P.hd k).cap) ∧ w5.cell? ⟨kb, 0, none⟩ = some (.int .i64 U.v) ∧ w5.cell? ⟨kb, 1, none⟩ = some (.string U.nm) ∧ w5.cell? ⟨kb, 2, none⟩ = some (.slice U.a U.len U.cap)) := HKp.out w5 (below_low HS3.out.low h5.low (Nat.le_trans HB4.out.size h6.2.2.2.1.1.size)) (by have := h5.blk.get.2.2.2.1; rw [hP5, hca] at this; exact this) HX5.out
             clear h5 h6 hP5))
        all_goals
          have HP5 : Hid (GL w5 (Mu s r.b m tv5 r.cv r.av) 1000000 (.pointer (some ⟨kp, 0, none⟩)) ((T0, c0) :: rest)) := (HP3.out.next (Bw.ofBelow HB4.out) (fun _ _ e => e)).next H6.out.2.2.2.1.1 H6.out.2.2.2.1.2
          have HU5 : Hid (TIn w5 U ∧ Okv 1000000 U ∧ NM (Mu s r.b m tv5 r.cv r.av) U) := ⟨(HU3.out.1.below HB4.out).bw H6.out.2.2.2.1.1 (Nat.le_refl _) HU3.out.2.2, HU3.out.2.1, HU3.out.2.2.anti (HU3.out.1.below HB4.out) H6.out.2.2.2.1.2⟩
          have HK5b : Hid (¬ Mu s r.b m tv5 r.cv r.av kb) := fun e => HKr.out (H6.out.2.2.2.1.2 kb (Nat.lt_of_lt_of_le (Array.getElem?_eq_some_iff.1 HX3.out).1 HB4.out.size) e)
          have HI5 : Hid (w5.heap[o]? = some (.cells #[.int .i64 l1] 3)) := (H6.out.2.2.2.1.1.block o (Nat.lt_of_lt_of_le hsz3 HB4.out.size) (fun e => by have := (HSw.out e); omega)).trans ((HB4.out.block o hsz3).trans HI3.out)
          have hsz5 : w.heap.size ≤ w5.heap.size := Nat.le_trans (by omega) (Nat.le_trans HB4.out.size H6.out.2.2.2.1.1.size)
          have hEA := HE.out A HA4.out.2
          clear HK5
          by_cases hok : ok = true
          case pos =>
            have hyes : r5 = { r with last := l1 + 12, fin := 0 } ∧ ∃ k2 : Nat, k2 ≤ L' ∧ L5 = k2 ∧ meetF (L' + 1) σ L' [(A, U)] = .yes k2 σ5 := by
              rcases H6.out.2.2.2.2 with ⟨_, e, k2, h1, h2, _, h3⟩ | ⟨e, _⟩ | ⟨e, _⟩
              · exact ⟨e, k2, h1, h2, h3⟩
              · rw [hok] at e; simp at e
              · rw [hok] at e; simp at e
            subst hok
            obtain ⟨rfl, k2, hk2, rfl, hm2⟩ := hyes
            rw [hm2] at hEA
            have HEy : Hid (tryP (cls r.P) (cgl ((T0, c0) :: rest)) (can U) (r.P.len + 1) i (absP r σ gl ch an) L = ({ absP { r with last := l1, fin := 0 } σ gl ch an with last := l1 + 12, σ := cs σ5, gl := ((kidsL (r.P.bd k)).map fun b => (ap (ownV l1) b, (ch.map cch).length)) ++ (cgl ((T0, c0) :: rest)).tail, ch := match fitP (cls r.P) U (k + 1) with
                | none => ch.map cch
                | some q => ch.map cch ++ [⟨cgl ((T0, c0) :: rest), q, cs σ⟩] }, true)) := hEA
            clear hEA hm2
            obtain ⟨⟨cb', co', hca', _, _, _, d3⟩, _, hTB⟩ := (HPin.out w5 H5.out.low).2 k hkP
            have y3 : w5.cell? ⟨s, 3, none⟩ = some (.slice r.P.a r.P.len r.P.cap) := H5.out.blk.get.2.2.2.1
            rw [hca] at hca' y3
            cases hca'
            have HEn : Hid (Calls Try.prog 142 #[.pointer (some ⟨s, 0, none⟩), .pointer (some ⟨kp, 0, none⟩), .slice (r.P.bd k).a (r.P.bd k).len (r.P.bd k).cap, .func (.func 145) #[] #[.pointer (some ⟨o, 0, none⟩)]] w5 fun e w' => e = .returned (.tuple #[]) ∧ ∃ (q : Value) (gl' : List Gl), SS w0 w' s m { r with last := l1 + 12, fin := 0, first := q } tv5 n5 σ5 k2 tr5 gl' ch an ∧ cgl gl' = ((kidsL (r.P.bd k)).map fun b => (ap (ownV l1) b, ch.length)) ++ cgl rest ∧ w5.heap.size ≤ w'.heap.size ∧ (∀ k, w0.heap.size ≤ k → k < w5.heap.size → k ≠ s → w'.heap[k]? = w5.heap[k]?)) := enter_any (r.P.bd k) w5 H5.out HP5.out hTB (HPr.out.bd k hkP).1 (HPr.out.bd k hkP).2 HI5.out (by omega)
            clear hTB
            go_wp2_with fail
            refine HEn.out.mono ?_
            rintro e w6 ⟨rfl, q, gl', h6s, h6g, h6z, h6f⟩
            have hbw6 : Bw (Mu s r.b m tv5 r.cv r.av) w5.heap.size w5 w6 := ⟨h6s.low.os.trans H5.out.low.os.symm, h6s.low.tape.trans H5.out.low.tape.symm, h6s.low.output.trans H5.out.low.output.symm, h6z, fun x hx hm => by
              by_cases hlo : x < w0.heap.size
              · exact (h6s.low.block x hlo).trans (H5.out.low.block x hlo).symm
              · exact h6f x (by omega) hx (fun e => hm (.inr (.inl e)))⟩
            have HS6 : Hid (SS w0 w6 s m { r with last := l1 + 12, fin := 0, first := q } tv5 n5 σ5 k2 tr5 gl' ch an) := h6s
            have HG6 : Hid (cgl gl' = ((kidsL (r.P.bd k)).map fun b => (ap (ownV l1) b, ch.length)) ++ cgl rest) := h6g
            have HP6 : Hid (GL w6 (Mu s r.b m tv5 r.cv r.av) 1000000 (.pointer (some ⟨kp, 0, none⟩)) ((T0, c0) :: rest)) := HP5.out.next hbw6 (fun _ _ e => e)
            have HX6 : Hid (Bx3 w6 kb U) := (hbw6.block kb (Array.getElem?_eq_some_iff.1 HX5.out).1 HK5b.out).trans HX5.out
            have hsz6 : w.heap.size ≤ w6.heap.size := Nat.le_trans hsz5 h6z
            clear h6s h6g h6z h6f hbw6 HEn y3 d3
            have HFt : Hid (Calls Try.prog 139 #[.pointer (some ⟨s, 0, none⟩), .agg #[.int .i64 U.v, .string U.nm, .slice U.a U.len U.cap], .int .i64 ((k : Int) + 1)] w6 fun e w' => e = .returned (.int .i64 (fitI (fitP (cls r.P) U (k + 1)))) ∧ Below w6.heap.size w6 w') := by
              have h := fit_any U (k + 1) w6 HS6.out.blk (HPin.out _ HS6.out.low) HPr.out.cap hUl (show k + 1 ≤ r.P.len by omega)
              rw [Int.natCast_add] at h
              exact h
            obtain ⟨v0, v1, v2, _, _, _⟩ := block_cells HX6.out
            go_wp2_with fail
            refine HFt.out.mono ?_
            rintro e w7 ⟨rfl, hb7⟩
            have HS7 : Hid (SS w0 w7 s m { r with last := l1 + 12, fin := 0, first := q } tv5 n5 σ5 k2 tr5 gl' ch an) := HS6.out.below hb7
            have HP7 : Hid (GL w7 (Mu s r.b m tv5 r.cv r.av) 1000000 (.pointer (some ⟨kp, 0, none⟩)) ((T0, c0) :: rest)) := HP6.out.next (Bw.ofBelow hb7) (fun _ _ e => e)
            have hsz7 : w.heap.size ≤ w7.heap.size := Nat.le_trans hsz6 hb7.size
            have hn5 : n5 ≤ n + 130000 := by have := H6.out.2.2.1; omega
            clear hb7 v0 v1 v2 HFt
            cases hf7 : fitP (cls r.P) U (k + 1) with
            | none =>
              have HRe : Hid (tryP (cls r.P) (cgl ((T0, c0) :: rest)) (can U) (r.P.len + 1) i (absP r σ gl ch an) L = (absP { r with last := l1 + 12, fin := 0, first := q } σ5 gl' ch an, true)) := by
                rw [Hid, HEy.out, hf7]
                unfold absP
                rw [HG6.out, List.length_map]
                rfl
              rw [show fitI none = -1 from rfl]
              clear hf7
              go_wp2_with fail
              go_ret
              exact ⟨true, _, tv5, n5, σ5, k2, tr5, gl', ch, rfl, HS7.out, by rw [HHd.out]; exact HRe.out, ⟨rfl, rfl, rfl, rfl⟩, Int.le_refl _, hn5, by show r.last ≤ l1 + 12; omega, by show l1 + 12 ≤ _; omega, by omega, hsz7⟩
            | some q2 =>
              have HRe : Hid (∀ cv', tryP (cls r.P) (cgl ((T0, c0) :: rest)) (can U) (r.P.len + 1) i (absP r σ gl ch an) L = (absP { r with last := l1 + 12, fin := 0, first := q, cv := cv' } σ5 gl' (ch ++ [⟨.pointer (some ⟨kp, 0, none⟩), (T0, c0) :: rest, q2, tr.length, σ⟩]) an, true)) := fun cv' => by
                rw [HEy.out, hf7]
                unfold absP
                rw [HG6.out, List.length_map, List.map_append]
                rfl
              rw [show fitI (some q2) = (q2 : Int) from rfl]
              have hge2 : decide ((q2 : Int) ≥ 0) = true := decide_eq_true (by omega)
              clear hf7
              have HBn : Hid (Below w7.heap.size w7 (w7.alloc (.cells #[.pointer (some ⟨kp, 0, none⟩), .int .i64 q2, .int .i64 tr.length] 183))) := (Below.refl _ _).alloc (Nat.le_refl _) _
              have HS8 : Hid (SS w0 (w7.alloc (.cells #[.pointer (some ⟨kp, 0, none⟩), .int .i64 q2, .int .i64 tr.length] 183)) s m { r with last := l1 + 12, fin := 0, first := q } tv5 n5 σ5 k2 tr5 gl' ch an) := HS7.out.below HBn.out
              have HP8 : Hid (GL (w7.alloc (.cells #[.pointer (some ⟨kp, 0, none⟩), .int .i64 q2, .int .i64 tr.length] 183)) (Mu s r.b m tv5 r.cv r.av) 1000000 (.pointer (some ⟨kp, 0, none⟩)) ((T0, c0) :: rest)) := HP7.out.next (Bw.ofBelow HBn.out) (fun _ _ e => e)
              have hNw := newsC w7 ⟨.pointer (some ⟨kp, 0, none⟩), (T0, c0) :: rest, q2, tr.length, σ⟩
              have HNw : Hid (∀ j u, (flatR [⟨.pointer (some ⟨kp, 0, none⟩), (T0, c0) :: rest, q2, tr.length, σ⟩])[j]? = some u → (w7.alloc (.cells #[.pointer (some ⟨kp, 0, none⟩), .int .i64 q2, .int .i64 tr.length] 183)).cell? ((⟨w7.heap.size, 0, none⟩ : Addr).add j) = some u) := hNw
              clear hNw
              obtain ⟨i0, hi0, hz0, hz1, hz2⟩ := info_parts Try.info183
              have hlo8 : w0.heap.size ≤ (w7.alloc (.cells #[.pointer (some ⟨kp, 0, none⟩), .int .i64 q2, .int .i64 tr.length] 183)).heap.size := HS8.out.low.size
              obtain ⟨_, _, _, _, _, _, _, _, _, y9, yf⟩ := HS7.out.blk.get
              have y9 : w7.cell? ⟨s, 9, none⟩ = some r.cv := y9
              obtain ⟨_, _, _, _, _, _, _, _, _, z9, zf⟩ := HS8.out.blk.get
              have z9 : (w7.alloc (.cells #[.pointer (some ⟨kp, 0, none⟩), .int .i64 q2, .int .i64 tr.length] 183)).cell? ⟨s, 9, none⟩ = some r.cv := z9
              have zf9 := zf 9
              have hsl8 := HS8.out.blk.lt
              clear yf zf
              generalize hcvv : r.cv = cvv at *
              go_wp2_with (at_builtin; refine wpList_append_own_at _ rfl (.tmp 83) (.tmp 88) 101 rfl w0.heap.size 183 i0 (.agg #[.pointer none, .int .i64 0, .int .i64 0]) 3 24 Try.underlying101 hi0 hz0 hz1 hz2 rfl (by decide) cvv ch.length (flatR ch) rfl (hcvv ▸ HS8.out.chr) ⟨w7.heap.size, 0, none⟩ 1 1 (flatR [⟨.pointer (some ⟨kp, 0, none⟩), (T0, c0) :: rest, q2, tr.length, σ⟩]) rfl rfl HNw.out (by intro u hu; simp [flatR, cellsR] at hu; rcases hu with rfl | rfl | rfl <;> rfl) (by unfold maxLen; omega) (by omega) hlo8 ?_; intro v' w8 hown' hgrow hnil hat; have hv' : ∃ g' cap', v' = .slice (some ⟨g', 0, none⟩) (ch.length + 1) cap' := (by rcases hown'.2 with ⟨_, h0⟩ | ⟨g', cap', _, h, _⟩; (· omega); (· exact ⟨g', cap', h⟩)); obtain ⟨g', cap', rfl⟩ := hv'; have hst : w8.heap[s]? = (w7.alloc (.cells #[.pointer (some ⟨kp, 0, none⟩), .int .i64 q2, .int .i64 tr.length] 183)).heap[s]? := hgrow.block s hsl8 (fun e => (HS8.out.dcv s (hcvv ▸ e.symm)).1 rfl); have q9 : w8.cell? ⟨s, 9, none⟩ = some cvv := (World.cell?_of_block hst).trans z9; have qf9 : w8.frozen? ⟨s, 9, none⟩ = false := (World.frozen?_of_block hst).trans zf9)
              subst hcvv
              have HSF : Hid (SS w0 (w8.setCell ⟨s, 9, none⟩ (.slice (some ⟨g', 0, none⟩) (ch.length + 1) cap')) s m { r with last := l1 + 12, fin := 0, first := q, cv := .slice (some ⟨g', 0, none⟩) (ch.length + 1) cap' } tv5 n5 σ5 k2 tr5 gl' (ch ++ [⟨.pointer (some ⟨kp, 0, none⟩), (T0, c0) :: rest, q2, tr.length, σ⟩]) an) := HS8.out.push hown' hgrow hat HP8.out ⟨H6.out.1.1, H6.out.2.1.symm⟩ (fun d hd => (HS3.out.chs d hd).1)
              have hszF : w.heap.size ≤ (w8.setCell ⟨s, 9, none⟩ (.slice (some ⟨g', 0, none⟩) (ch.length + 1) cap')).heap.size := by have := hgrow.size; simp [World.setCell] at *; omega
              clear hown' hgrow hnil hat hst q9 qf9
              go_wp2_with fail
              go_ret
              exact ⟨true, _, tv5, n5, σ5, k2, tr5, gl', _, rfl, HSF.out, by rw [HHd.out]; exact HRe.out _, ⟨rfl, rfl, rfl, rfl⟩, Int.le_refl _, hn5, by show r.last ≤ l1 + 12; omega, by show l1 + 12 ≤ _; omega, by simp, hszF⟩
          have hfl : ok = false ∧ ∃ f5 : Int, r5 = { r with last := l1 + 12, fin := f5 } ∧ ((f5 = 0 ∧ ∃ f L2 : Nat, L5 = L2 ∧ L2 ≤ L ∧ r.P.len - (k + 1) < f ∧ tryP (cls r.P) (cgl ((T0, c0) :: rest)) (can U) (r.P.len + 1) i (absP r σ gl ch an) L = tryP (cls r.P) (cgl ((T0, c0) :: rest)) (can U) f (k + 1) (absP { r with last := l1 + 12, fin := 0 } σ gl ch an) L2) ∨ (f5 = 3 ∧ tryP (cls r.P) (cgl ((T0, c0) :: rest)) (can U) (r.P.len + 1) i (absP r σ gl ch an) L = (absP { r with last := l1 + 12, fin := 3 } σ gl ch an, false))) := by
            rcases H6.out.2.2.2.2 with ⟨e, _⟩ | ⟨e, e2, k2, hk2, e3, e4⟩ | ⟨e, e2, e3, e4⟩
            · exact absurd e hok
            · rw [e4] at hEA
              exact ⟨e, 0, e2, .inl ⟨rfl, f', k2, e3, by omega, by omega, hEA⟩⟩
            · rw [e4] at hEA
              exact ⟨e, 3, e2, .inr ⟨rfl, hEA⟩⟩
          obtain ⟨rfl, f5, rfl, hres⟩ := hfl
          have HRes : Hid ((f5 = 0 ∧ ∃ f L2 : Nat, L5 = L2 ∧ L2 ≤ L ∧ r.P.len - (k + 1) < f ∧ tryP (cls r.P) (cgl ((T0, c0) :: rest)) (can U) (r.P.len + 1) i (absP r σ gl ch an) L = tryP (cls r.P) (cgl ((T0, c0) :: rest)) (can U) f (k + 1) (absP { r with last := l1 + 12, fin := 0 } σ gl ch an) L2) ∨ (f5 = 3 ∧ tryP (cls r.P) (cgl ((T0, c0) :: rest)) (can U) (r.P.len + 1) i (absP r σ gl ch an) L = (absP { r with last := l1 + 12, fin := 3 } σ gl ch an, false))) := hres
          clear hres hEA hok
          have y7 : w5.cell? ⟨s, 7, none⟩ = some (.pointer (some ⟨r.b, 0, none⟩)) := H5.out.blk.get.2.2.2.2.2.2.2.1
          have HBk : Hid (Calls Try.prog 138 #[.pointer (some ⟨r.b, 0, none⟩), .int .i64 tr.length] w5 fun e w' => e = .returned (.tuple #[]) ∧ ∃ tv6 : Value, SS w0 w' s m { r with last := l1 + 12, fin := f5 } tv6 n5 σ L5 tr gl ch an ∧ tv6.ownBlock = tv5.ownBlock ∧ GF r.b m tv5 w5 w') := (back_any tr.length w5 H5.out.vs H5.out.trk H6.out.1.1).mono fun e w' ⟨h1, tv6, h2, h3, h4, h5⟩ => by
            have hu := H5.out.undo H6.out.1.1 (fun c hc => (HS3.out.chs c hc).1) h2 h3 h4 h5
            rw [H6.out.1.2] at hu
            have h7 := H6.out.2.1
            rw [H6.out.1.2] at h7
            rw [h7] at hu
            exact ⟨h1, tv6, hu, h2, h5⟩
          go_wp2_with fail
          refine HBk.out.mono ?_
          rintro e w6 ⟨rfl, tv6, h6s, h6t, h6g⟩
          have hmu6 : ∀ k, Mu s r.b m tv6 r.cv r.av k → Mu s r.b m tv5 r.cv r.av k := fun k e => by
            rcases e with (e | e | e) | e
            · exact .inl (.inl e)
            · exact .inl (.inr (.inl e))
            · exact .inl (.inr (.inr (h6t ▸ e)))
            · exact .inr e
          have hbw6 : Bw (Mu s r.b m tv5 r.cv r.av) w5.heap.size w5 w6 := SS.ofGF h6g
          have HS6 : Hid (SS w0 w6 s m { r with last := l1 + 12, fin := f5 } tv6 n5 σ L5 tr gl ch an) := h6s
          have HP6 : Hid (GL w6 (Mu s r.b m tv6 r.cv r.av) 1000000 (.pointer (some ⟨kp, 0, none⟩)) ((T0, c0) :: rest)) := HP5.out.next hbw6 (fun k _ e => hmu6 k e)
          have HU6 : Hid (TIn w6 U ∧ Okv 1000000 U ∧ NM (Mu s r.b m tv6 r.cv r.av) U) := ⟨HU5.out.1.bw hbw6 (Nat.le_refl _) HU5.out.2.2, HU5.out.2.1, HU5.out.2.2.anti HU5.out.1 (fun k _ e => hmu6 k e)⟩
          have HX6 : Hid (Bx3 w6 kb U) := (hbw6.block kb (Array.getElem?_eq_some_iff.1 HX5.out).1 HK5b.out).trans HX5.out
          have HK6b : Hid (¬ Mu s r.b m tv6 r.cv r.av kb) := fun e => HK5b.out (hmu6 kb e)
          have hsz6 : w.heap.size ≤ w6.heap.size := Nat.le_trans hsz5 h6g.size
          clear h6s h6t h6g hmu6 hbw6 HBk y7
          have HFt : Hid (Calls Try.prog 139 #[.pointer (some ⟨s, 0, none⟩), .agg #[.int .i64 U.v, .string U.nm, .slice U.a U.len U.cap], .int .i64 ((k : Int) + 1)] w6 fun e w' => e = .returned (.int .i64 (fitI (fitP (cls r.P) U (k + 1)))) ∧ Below w6.heap.size w6 w') := by
            have h := fit_any U (k + 1) w6 HS6.out.blk (HPin.out _ HS6.out.low) HPr.out.cap hUl (show k + 1 ≤ r.P.len by omega)
            rw [Int.natCast_add] at h
            exact h
          obtain ⟨v0, v1, v2, _, _, _⟩ := block_cells HX6.out
          go_wp2_with fail
          refine HFt.out.mono ?_
          rintro e w7 ⟨rfl, hb7⟩
          have HS7 : Hid (SS w0 w7 s m { r with last := l1 + 12, fin := f5 } tv6 n5 σ L5 tr gl ch an) := HS6.out.below hb7
          have HP7 : Hid (GL w7 (Mu s r.b m tv6 r.cv r.av) 1000000 (.pointer (some ⟨kp, 0, none⟩)) ((T0, c0) :: rest)) := HP6.out.next (Bw.ofBelow hb7) (fun _ _ e => e)
          have HX7 : Hid (Bx3 w7 kb U) := (hb7.block kb (Array.getElem?_eq_some_iff.1 HX6.out).1).trans HX6.out
          have HU7 : Hid (TIn w7 U ∧ Okv 1000000 U ∧ NM (Mu s r.b m tv6 r.cv r.av) U) := ⟨HU6.out.1.below hb7, HU6.out.2⟩
          have hsz7 : w.heap.size ≤ w7.heap.size := Nat.le_trans hsz6 hb7.size
          clear hb7 v0 v1 v2 HFt
          have hn5 : n5 ≤ n + 4000 * (k + 1 - i) := by have := H6.out.2.2.1; omega
          have HMs : Hid ((if intOf (.int .i64 (fitI (fitP (cls r.P) U (k + 1)))) < 0 then 0 else r.P.len + 1 - (intOf (.int .i64 (fitI (fitP (cls r.P) U (k + 1))))).toNat) < (if intOf (.int .i64 (k : Int)) < 0 then 0 else r.P.len + 1 - (intOf (.int .i64 (k : Int))).toNat)) := by
            have hk0 : ¬ (intOf (.int .i64 (k : Int)) < 0) := by simp [intOf]
            have hk1 : (intOf (.int .i64 (k : Int))).toNat = k := by simp [intOf]
            rw [Hid, if_neg hk0, hk1]
            cases hf : fitP (cls r.P) U (k + 1) with
            | none =>
              have h0 : intOf (.int .i64 (fitI none)) < 0 := by simp [fitI, intOf]
              rw [if_pos h0]; omega
            | some q =>
              have h0 : ¬ (intOf (.int .i64 (fitI (some q))) < 0) := by simp [fitI, intOf]
              have h1 : (intOf (.int .i64 (fitI (some q)))).toNat = q := by simp [fitI, intOf]
              have := fit_lt hf
              rw [if_neg h0, h1]; omega
          go_wp2_with fail
          go_roundw
          case rel => exact ⟨k + 1, l1 + 12, f5, tv6, n5, L5, by omega, by omega, rfl, HS7.out, HP7.out, HX7.out, HK6b.out, HU7.out, hn5, hsz7, by omega, by omega, HRes.out⟩
          case measure => exact HMs.out
end Go.Proofs.Ytmggaclaoefdaaa
