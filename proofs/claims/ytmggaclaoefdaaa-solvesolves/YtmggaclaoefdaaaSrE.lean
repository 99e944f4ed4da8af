/- The reference's SolveOf, walked. -/
import Derived.Test.YtmggaclaoefdaaaSrD
import Derived.Test.YtmggaclaoefdaaaSvV
import Derived.Test.YtmggaclaoefdaaaLaw
namespace Go.Proofs.Ytmggaclaoefdaaa
open Go.RowKit

def rr0 (P : Pg) (a : Int) (td : Value) : Rr := ⟨P, td, .slice none 0 0, a, .slice none 0 0, 0, 0⟩
def τ0 : Int → Tm := fun v => vT (((0 : Nat) : Int) + v)
theorem vT_gdk {K : Nat → Prop} {w : World} {b m : Nat} {V : Value} {N v : Int} (h0 : 0 ≤ v) (h1 : v ≤ N) : GdK K w b m V N (vT v) := by
  have hn : ∀ k, NB k (vT v) := fun k => ⟨fun h => absurd h (Nat.lt_irrefl 0), fun i hi => absurd hi (Nat.not_lt_zero i)⟩
  exact ⟨vT_in _ _, vT_ok h0 h1, hn _, hn _, fun g _ => hn g⟩
/-- The reference's search, as it begins. -/
theorem rs_begin {w w2 : World} {P : Pg} {a : Int} {g cap : Nat} (hlow : Below w.heap.size w w2) (ho : w2.ownsRow w.heap.size 24 3 (.slice (some ⟨g, 0, none⟩) 13 cap) 13 (flat (newV 0 13))) :
    RS w (w2.alloc (bxR (rr0 P a (.slice none 0 0)) (.slice (some ⟨g, 0, none⟩) 13 cap) (.int .i64 0))) w2.heap.size (rr0 P a (.slice none 0 0)) g cap 13 12 τ0 τ0 (fun _ => 0) σ0 0 [] [] [] := by
  have hg := (ho.lt g rfl).2
  have hv : ∀ v : Int, (τ0 v).v = v := fun v => by show ((0 : Nat) : Int) + v = v; omega
  have hok : ∀ v : Int, 0 ≤ v → v ≤ 12 → Okv 12 (τ0 v) := fun v h0 h1 => vT_ok (by omega) (by omega)
  have hB : Below w2.heap.size w2 (w2.alloc (bxR (rr0 P a (.slice none 0 0)) (.slice (some ⟨g, 0, none⟩) 13 cap) (.int .i64 0))) := (Below.refl _ _).alloc (Nat.le_refl _) _
  refine ⟨⟨⟨bxR_bx _, heap_alloc_new _ _, ho.kept (grown_of_below hB none) (.inr (fun e => by cases e)), fun q hq => by obtain rfl := Option.some.inj hq; exact Nat.ne_of_lt hg, hlow.size⟩, rfl, by decide, fun v h0 h1 => ⟨hok v (by omega) h1, .inl ⟨hv v, hv v⟩⟩, rel0 12 _ (fun v h0 h1 => ⟨hv v, hok v (by omega) h1⟩), fun v U h => by simp [σ0] at h, fun v U h => by simp [σ0] at h, fun v h0 h1 => vT_gdk (by omega) (by omega)⟩, Int.le_refl _, ⟨none, 0, rfl, Nat.le_refl _, Nat.zero_le _, fun i hi => absurd hi (Nat.not_lt_zero i)⟩, World.ownsRow_nil _ _ _ _, fun c hc => absurd hc (by simp), fun c hc => absurd hc (by simp), World.ownsRow_nil _ _ _ _, fun A hA => absurd hA (by simp), hlow.trans (hB.mono hlow.size), fun q hq => (by cases hq), fun q hq => (by cases hq)⟩
/-- The goals are others, and lie in new memory. -/
theorem RS.todoTo {w0 w : World} {s : Nat} {r : Rr} {g cap len : Nat} {N : Int} {τ ρ : Int → Tm} {rk : Int → Nat} {σ : Sg} {wk : Int} {gl : List Gl} {ch : List Kr} {an : List Tm} (h : RS w0 w s r g cap len N τ ρ rk σ wk gl ch an) {w' : World} {v : Value} {gl' : List Gl} (hB : Bw (fun k => k = s) w.heap.size w w') (hb : w'.heap[s]? = some (bxR { r with todo := v } (.slice (some ⟨g, 0, none⟩) len cap) (.int .i64 wk))) (ht : TD w' (Mq s g r.kept r.av) N v gl') : RS w0 w' s { r with todo := v } g cap len N τ ρ rk σ wk gl' ch an := by
  have hw : Bw (Mq s g r.kept r.av) w.heap.size w w' := hB.wide (fun k _ e => .inl e)
  have hrow : ∀ {lo sz : Nat} {t : TypeId} {x : Value} {n : Nat} {xs : List Value}, w.ownsRow lo t sz x n xs → (∀ q, x.ownBlock = some q → q ≠ s) → w'.ownsRow lo t sz x n xs := fun h1 h2 => rowk h1 (fun q hq => hB.block q (h1.lt q hq).2 (h2 q hq))
  refine ⟨h.rf.re (bxR_bx _) hb (hB.block g h.rf.lt.2.1 (fun e => by have := h.rf.lt.2.2; omega)) (fun u h0 h1 => ?_), h.n12, ht, hrow h.kr (fun q hq => (h.dk q hq).1), h.hd, fun c hc => ⟨(h.kt c hc).1.next hw (fun _ _ e => e), (h.kt c hc).2.next hw (fun _ _ e => e)⟩, hrow h.anr (fun q hq => (h.da q hq).1), fun A hA => ⟨(h.ant A hA).1.bw hw (Nat.le_refl _) (h.ant A hA).2, (h.ant A hA).2⟩, h.lows hw, h.dk, h.da⟩
  obtain ⟨t1, t2, t3⟩ := gd_nm (h.rf.trm u h0 h1)
  exact nm_gd ⟨t1.bw hw (Nat.le_refl _) t3, t2, t3⟩
def goalsQ (Q : Tm) (k : Nat) : List Gl := ((kidsL Q).take k).map fun t => (t, 0)
theorem goals_more {Q : Tm} {k : Nat} (h : k < Q.len) : goalsQ Q (k + 1) = goalsQ Q k ++ [(Q.f k, 0)] := by
  unfold goalsQ
  rw [List.take_succ_eq_append_getElem (by rw [kidsL_len]; exact h), kidsL_get, List.map_append]; rfl
theorem goals_len {Q : Tm} {k : Nat} (h : k ≤ Q.len) : (goalsQ Q k).length = k := by
  unfold goalsQ; rw [List.length_map, List.length_take, kidsL_len]; omega
/-- What SolveOf says. -/
def SOf (P : Pg) (a limit : Nat) (X : QS) (w : World) (e : Ending) (w' : World) : Prop := Below w.heap.size w w' ∧
  ∃ (sa : Option Addr) (ca : Nat) (an : List Tm) (fin st : Int), e = .returned (rsV sa an.length ca fin st) ∧ (AR w' sa an ∧ ∀ b o, sa = some ⟨b, o, none⟩ → w.heap.size < b) ∧ an.length ≤ ca ∧ an.length ≤ 40 ∧ 0 < fin ∧ 0 ≤ st ∧ (runQ (cls P) a limit 442 X).ans = an.map ansC ∧ (runQ (cls P) a limit 442 X).fin = fin.toNat ∧ (runQ (cls P) a limit 442 X).st = st.toNat
theorem runQ_fin {P : Cls} {n limit : Nat} {X : QS} (h : X.fin ≠ 0) (f : Nat) : runQ P n limit f X = X := by
  cases f with
  | zero => rfl
  | succ f => rw [runQ, if_pos h]
theorem runQ_nil {P : Cls} {n limit f : Nat} {X : QS} (h : X.fin = 0) (hg : X.gl = []) : runQ P n limit (f + 1) X = runQ P n limit f (answerQ P n X) := by
  rw [runQ, if_neg (by simpa using h), hg]
theorem runQ_over {P : Cls} {n limit f : Nat} {X : QS} {g : Gl} {r : List Gl} (h : X.fin = 0) (hg : X.gl = g :: r) (hl : X.st = limit) : runQ P n limit (f + 1) X = { X with fin := 2 } := by
  rw [runQ, if_neg (by simpa using h), hg]
  simp only
  rw [if_pos hl]
theorem runQ_step {P : Cls} {n limit f : Nat} {X : QS} {g : Gl} {r : List Gl} (h : X.fin = 0) (hg : X.gl = g :: r) (hl : X.st ≠ limit) : runQ P n limit (f + 1) X = runQ P n limit f (stepQ P { X with st := X.st + 1 }) := by
  rw [runQ, if_neg (by simpa using h), hg]
  simp only
  rw [if_neg hl]
set_option maxRecDepth 100000 in
set_option maxHeartbeats 8000000 in
theorem solveOf_any (P : Pg) (Q : Tm) (limit : Nat) (w : World) (hP : PIn w P) (hc : P.len ≤ P.cap) (hQ : TIn w Q) (hp : progV P = 0) (hq : queryV Q = 0) (hl4 : limit ≤ 400) :
    Calls Try.prog 29 #[.slice P.a P.len P.cap, .slice Q.a Q.len Q.cap, .int .i64 limit] w (SOf P (varsV Q).toNat limit (absQ (rr0 P (varsV Q) (.slice none 0 0)) 12 σ0 (goalsQ Q Q.len) [] []) w) := by
  obtain ⟨a, ha, ha12⟩ := vars_12 hq
  have hgr : grs Q = (a : Int) := by rw [varsV, if_pos hq] at ha; exact ha
  have HQk : Hid (Q.len ≤ 6 ∧ ∀ i, i < Q.len → Okv 12 (Q.f i)) := query_okv hq
  have hQl : Q.len ≤ 6 := HQk.out.1
  have HA : Hid ((varsV Q).toNat = a ∧ varsV Q = a) := ⟨by rw [ha]; rfl, ha⟩
  have hta : (varsV Q).toNat = a := HA.out.1
  rw [hta, ha]
  have HZ : Hid ((w.alloc (.cells #[.slice none 0 0, .int .i64 0, .int .i64 0] 44)).heap[w.heap.size]? = some (.cells #[.slice none 0 0, .int .i64 0, .int .i64 0] 44)) := heap_alloc_new w _
  have HBz : Hid (Below w.heap.size w (w.alloc (.cells #[.slice none 0 0, .int .i64 0, .int .i64 0] 44))) := (Below.refl _ _).alloc (Nat.le_refl _) _
  have HPr : Hid (Prg (w.alloc (.cells #[.slice none 0 0, .int .i64 0, .int .i64 0] 44)) P) := prog_ok (hP.below HBz.out) hc hp
  have HQ : Hid (TIn (w.alloc (.cells #[.slice none 0 0, .int .i64 0, .int .i64 0] 44)) Q ∧ queryV Q = 0) := ⟨hQ.below HBz.out, hq⟩
  have HVs : Hid (∀ W, Below w.heap.size w W → Calls Try.prog 14 #[.slice Q.a Q.len Q.cap] W fun e w' => e = .returned (.int .i64 (a : Int)) ∧ Below W.heap.size W w') := fun W hW => by
    have := varsOf_any Q W (hQ.below hW) (small_of_query Q hq)
    rw [hgr] at this
    exact this
  clear hP hc hQ hp hq ha hgr hta
  go_enter Try.func29, Try.ntmps29
  go_wp2_with fail
  generalize w.alloc (.cells #[.slice none 0 0, .int .i64 0, .int .i64 0] 44) = wz at *
  have hzz : w.heap.size < wz.heap.size := (Array.getElem?_eq_some_iff.1 HZ.out).1
  refine (begin_any wz).mono ?_
  rintro e w1 ⟨g, cap, rfl, ho, hb1⟩
  have HB1 : Hid (Below w.heap.size w w1) := HBz.out.trans (hb1.mono HBz.out.size)
  have HZ1 : Hid (w1.heap[w.heap.size]? = some (.cells #[.slice none 0 0, .int .i64 0, .int .i64 0] 44)) := (hb1.block _ hzz).trans HZ.out
  have HO1 : Hid (w1.ownsRow wz.heap.size 24 3 (.slice (some ⟨g, 0, none⟩) 13 cap) 13 (flat (newV 0 13))) := ho
  have HB1z : Hid (Below wz.heap.size wz w1) := hb1
  clear ho hb1
  go_wp2_with fail
  refine (HVs.out w1 HB1.out).mono ?_
  rintro e w2 ⟨rfl, hb2⟩
  have HB2 : Hid (Below w.heap.size w w2) := HB1.out.trans (hb2.mono HB1.out.size)
  have HO2 : Hid (w2.ownsRow wz.heap.size 24 3 (.slice (some ⟨g, 0, none⟩) 13 cap) 13 (flat (newV 0 13))) := HO1.out.kept (grown_of_below hb2 none) (.inr (fun e => by cases e))
  have HB2z : Hid (Below wz.heap.size wz w2) := HB1z.out.trans (hb2.mono HB1z.out.size)
  have hz1 : w.heap.size < w1.heap.size := (Array.getElem?_eq_some_iff.1 HZ1.out).1
  have HZ2 : Hid (w2.heap[w.heap.size]? = some (.cells #[.slice none 0 0, .int .i64 0, .int .i64 0] 44)) := (hb2.block _ hz1).trans HZ1.out
  have hS3 := rs_begin (P := P) (a := (a : Int)) HB2z.out HO2.out
  have HS3 : Hid (RS wz (w2.alloc (.cells #[.slice P.a P.len P.cap, .slice (some ⟨g, 0, none⟩) 13 cap, .int .i64 0, .slice none 0 0, .slice none 0 0, .int .i64 a, .slice none 0 0, .int .i64 0, .int .i64 0] 108)) w2.heap.size (rr0 P a (.slice none 0 0)) g cap 13 12 τ0 τ0 (fun _ => 0) σ0 0 [] [] []) := hS3
  have HZ3 : Hid ((w2.alloc (.cells #[.slice P.a P.len P.cap, .slice (some ⟨g, 0, none⟩) 13 cap, .int .i64 0, .slice none 0 0, .slice none 0 0, .int .i64 a, .slice none 0 0, .int .i64 0, .int .i64 0] 108)).heap[w.heap.size]? = some (.cells #[.slice none 0 0, .int .i64 0, .int .i64 0] 44)) := (heap_alloc_old _ _ (Array.getElem?_eq_some_iff.1 HZ2.out).1).trans HZ2.out
  have hz2 : w.heap.size < w2.heap.size := (Array.getElem?_eq_some_iff.1 HZ2.out).1
  have HGm : Hid (w.heap.size < g) := by have := (HO1.out.lt g rfl).1; rw [Hid]; omega
  clear hb2 hS3
  go_wp2_with fail
  generalize w2.alloc (.cells #[.slice P.a P.len P.cap, .slice (some ⟨g, 0, none⟩) 13 cap, .int .i64 0, .slice none 0 0, .slice none 0 0, .int .i64 a, .slice none 0 0, .int .i64 0, .int .i64 0] 108) = w3 at *
  generalize w2.heap.size = s at *
  obtain ⟨i1, hi1, hy0, hy1, hy2⟩ := info_parts Try.info110
  have hs3 : s < w3.heap.size := HS3.out.rf.lt.1
  have hw3 : w.heap.size < w3.heap.size := (Array.getElem?_eq_some_iff.1 HZ3.out).1
  have hwz3 : wz.heap.size ≤ w3.heap.size := HS3.out.low.size
  go_loopw [8] (fun iv wr => ∃ (k : Nat) (v : Value), k ≤ Q.len ∧ iv = .int .i64 k ∧ wr.heap[s]? = some (bxR (rr0 P a v) (.slice (some ⟨g, 0, none⟩) 13 cap) (.int .i64 0)) ∧ Bw (fun q => q = s) w3.heap.size w3 wr ∧ wr.ownsRow w3.heap.size 110 4 v k (flatT (goalsQ Q k))) (fun iv _ => Q.len - (intOf iv).toNat)
  case atStart => exact ⟨0, .slice none 0 0, Nat.zero_le _, rfl, HS3.out.rf.blk, Bw.refl _ _ _, World.ownsRow_nil _ _ _ _⟩
  case round =>
    obtain ⟨k, v, hk, rfl, hb, hB, hO⟩ := hrel
    have HO : Hid (wr.ownsRow w3.heap.size 110 4 v k (flatT (goalsQ Q k))) := hO
    have HBr : Hid (Bw (fun q => q = s) w3.heap.size w3 wr) := hB
    have HBs : Hid (wr.heap[s]? = some (bxR (rr0 P a v) (.slice (some ⟨g, 0, none⟩) 13 cap) (.int .i64 0))) := hb
    have hzr : w3.heap.size ≤ wr.heap.size := hB.size
    have hlow : Below wz.heap.size wz wr := ⟨hB.os.trans HS3.out.low.os, hB.tape.trans HS3.out.low.tape, hB.output.trans HS3.out.low.output, Nat.le_trans HS3.out.low.size hB.size, fun q hq => (hB.block q (by omega) (fun e => by have := HS3.out.los; omega)).trans (HS3.out.low.block q hq)⟩
    have HLw : Hid (Below wz.heap.size wz wr) := hlow
    have hsr : s < wr.heap.size := by omega
    by_cases hkl : k < Q.len
    case pos =>
      have hkI : (k : Int) < (Q.len : Int) := by omega
      obtain ⟨_, _, _, y3, _, _, _, _, _, yf⟩ := bxR_get hb
      have y3 : wr.cell? ⟨s, 3, none⟩ = some v := y3
      have yf3 := yf 3
      obtain ⟨bq, oq, hqa, d0, d1, d2⟩ := (HQ.out.1.below hlow).row hkl
      have hbq : bq < wr.heap.size := lt_of_cell d0
      have HQa : Hid (Q.a = some ⟨bq, oq, none⟩) := hqa
      have hBa : Below wr.heap.size wr (wr.alloc (.cells #[.int .i64 (Q.f k).v, .string (Q.f k).nm, .slice (Q.f k).a (Q.f k).len (Q.f k).cap, .int .i64 0] 110)) := (Below.refl _ _).alloc (Nat.le_refl _) _
      have HBa : Hid (Below wr.heap.size wr (wr.alloc (.cells #[.int .i64 (Q.f k).v, .string (Q.f k).nm, .slice (Q.f k).a (Q.f k).len (Q.f k).cap, .int .i64 0] 110))) := hBa
      have z3 := (hBa.cell (lt_of_cell y3)).trans y3
      have z0 := (hBa.cell (lt_of_cell d0)).trans d0
      have z1 := (hBa.cell (lt_of_cell d1)).trans d1
      have z2 := (hBa.cell (lt_of_cell d2)).trans d2
      have HOa : Hid ((wr.alloc (.cells #[.int .i64 (Q.f k).v, .string (Q.f k).nm, .slice (Q.f k).a (Q.f k).len (Q.f k).cap, .int .i64 0] 110)).ownsRow w3.heap.size 110 4 v k (flatT (goalsQ Q k))) := HO.out.kept (grown_of_below hBa none) (by
        cases v.ownBlock with
        | none => exact .inl rfl
        | some q => exact .inr (by simp))
      have HNa : Hid (∀ j u, (flatT [(Q.f k, 0)])[j]? = some u → (wr.alloc (.cells #[.int .i64 (Q.f k).v, .string (Q.f k).nm, .slice (Q.f k).a (Q.f k).len (Q.f k).cap, .int .i64 0] 110)).cell? ((⟨wr.heap.size, 0, none⟩ : Addr).add j) = some u) := newsT wr (Q.f k, 0)
      have hlo : w3.heap.size ≤ (wr.alloc (.cells #[.int .i64 (Q.f k).v, .string (Q.f k).nm, .slice (Q.f k).a (Q.f k).len (Q.f k).cap, .int .i64 0] 110)).heap.size := Nat.le_trans hzr hBa.size
      have HDv : Hid (∀ q, v.ownBlock = some q → w3.heap.size ≤ q) := fun q hq => (HO.out.lt q hq).1
      rw [hqa]
      clear hb hB hO hlow yf hBa hqa HS3 HZ3
      go_wp2_with fail
      go_region_law (refine step_append_own_at rfl (.tmp 21) (.tmp 27) 105 rfl w3.heap.size 110 i1 (.agg #[.int .i64 0, .string ⟨#[]⟩, .slice none 0 0, .int .i64 0]) 4 56 Try.underlying105 hi1 hy0 hy1 hy2 rfl (by decide) v k (flatT (goalsQ Q k)) (by first | rfl | simp [Act.eval, Act.put]) HOa.out ⟨wr.heap.size, 0, none⟩ 1 1 (flatT [(Q.f k, 0)]) (by first | rfl | simp [Act.eval, Act.put]) rfl HNa.out (flatT_one _) (by unfold maxLen; omega) (by omega) hlo (by omega) ?_
                     intro g9 cap9 w9 hown9 hg9 hat9
                     have HG9 : Hid ((wr.alloc (.cells #[.int .i64 (Q.f k).v, .string (Q.f k).nm, .slice (Q.f k).a (Q.f k).len (Q.f k).cap, .int .i64 0] 110)).grownBy w9 v.ownBlock) := ⟨hg9.os, hg9.tape, hg9.output, hg9.size, hg9.block⟩
                     have HO9 : Hid (w9.ownsRow w3.heap.size 110 4 (.slice (some ⟨g9, 0, none⟩) (k + 1) cap9) (k + 1) (flatT (goalsQ Q k) ++ flatT [(Q.f k, 0)])) := hown9
                     have hst9 : w9.heap[s]? = wr.heap[s]? := (hg9.block s (by simp; omega) (fun e => by have := HDv.out s e.symm; omega)).trans (heap_alloc_old _ _ hsr)
                     have HST : Hid (w9.heap[s]? = some (bxR (rr0 P a v) (.slice (some ⟨g, 0, none⟩) 13 cap) (.int .i64 0))) := hst9.trans HBs.out
                     have q3 : w9.cell? ⟨s, 3, none⟩ = some v := (World.cell?_of_block hst9).trans y3
                     have qf3 : w9.frozen? ⟨s, 3, none⟩ = false := (World.frozen?_of_block hst9).trans yf3
                     clear hown9 hg9 hat9 hst9)
      all_goals
        have hset := G.set s w9 3 (.slice (some ⟨g9, 0, none⟩) (k + 1) cap9)
        have hB' : Bw (fun q => q = s) w3.heap.size w3 (w9.setCell ⟨s, 3, none⟩ (.slice (some ⟨g9, 0, none⟩) (k + 1) cap9)) := ((HBr.out.trans (Bw.ofBelow (HBa.out.mono hzr))).grown HG9.out hlo (fun q hq => .inl (HDv.out q hq))).grown hset (Nat.le_trans hlo HG9.out.size) (fun q hq => .inr (Option.some.inj hq).symm)
        have hb' : (w9.setCell ⟨s, 3, none⟩ (.slice (some ⟨g9, 0, none⟩) (k + 1) cap9)).heap[s]? = some (bxR (rr0 P a (.slice (some ⟨g9, 0, none⟩) (k + 1) cap9)) (.slice (some ⟨g, 0, none⟩) 13 cap) (.int .i64 0)) := by
          have h0 := HST.out
          unfold bxR rr0 at h0 ⊢
          simp only [World.setCell, Array.getElem?_modify]
          rw [h0]
          simp
        have hO' : (w9.setCell ⟨s, 3, none⟩ (.slice (some ⟨g9, 0, none⟩) (k + 1) cap9)).ownsRow w3.heap.size 110 4 (.slice (some ⟨g9, 0, none⟩) (k + 1) cap9) (k + 1) (flatT (goalsQ Q (k + 1))) := by
          rw [goals_more hkl, flatT_append]
          exact HO9.out.kept hset (row_ne (fun q hq => by have := (HO9.out.lt q hq).1; omega))
        have HB' : Hid ((w9.setCell ⟨s, 3, none⟩ (.slice (some ⟨g9, 0, none⟩) (k + 1) cap9)).heap[s]? = some (bxR (rr0 P a (.slice (some ⟨g9, 0, none⟩) (k + 1) cap9)) (.slice (some ⟨g, 0, none⟩) 13 cap) (.int .i64 0)) ∧ Bw (fun q => q = s) w3.heap.size w3 (w9.setCell ⟨s, 3, none⟩ (.slice (some ⟨g9, 0, none⟩) (k + 1) cap9)) ∧ (w9.setCell ⟨s, 3, none⟩ (.slice (some ⟨g9, 0, none⟩) (k + 1) cap9)).ownsRow w3.heap.size 110 4 (.slice (some ⟨g9, 0, none⟩) (k + 1) cap9) (k + 1) (flatT (goalsQ Q (k + 1)))) := ⟨hb', hB', hO'⟩
        clear hb' hB' hO' hset
        go_wp2_with fail
        go_roundw
        case rel => exact ⟨k + 1, (.slice (some ⟨g9, 0, none⟩) (k + 1) cap9), by omega, by go_num, HB'.out.1, HB'.out.2.1, HB'.out.2.2⟩
        case measure => simp [intOf]; omega
    have hkI : ¬ ((k : Int) < (Q.len : Int)) := by omega
    obtain rfl : k = Q.len := by omega
    have hSq : RS wz wr s (rr0 P a v) g cap 13 12 τ0 τ0 (fun _ => 0) σ0 0 (goalsQ Q Q.len) [] [] := by
      refine HS3.out.todoTo hB hb (td_own (lo := w3.heap.size) (by rw [goals_len (Nat.le_refl _)]; exact hO) (fun q hq e => ?_) (fun q hq => ?_))
      · have h1 := (hO.lt q hq).1
        have h2 := (HS3.out.mu e).2
        omega
      · obtain ⟨t, ht, rfl⟩ := List.mem_map.1 hq
        obtain ⟨i, hi, rfl⟩ := List.mem_map.1 (List.mem_of_mem_take ht)
        have hi' := List.mem_range.1 hi
        exact ⟨(HQ.out.1.below hlow).kid hi', NM.old (HQ.out.1.kid hi') (fun q hq => (HS3.out.mu hq).1), HQk.out.2 i hi'⟩
    have HSq : Hid (RS wz wr s (rr0 P a v) g cap 13 12 τ0 τ0 (fun _ => 0) σ0 0 (goalsQ Q Q.len) [] []) := hSq
    have HAq : Hid (∀ N' σ' gl' ch' an', absQ (rr0 P a v) N' σ' gl' ch' an' = absQ (rr0 P a (.slice none 0 0)) N' σ' gl' ch' an') := fun _ _ _ _ _ => rfl
    clear hb hB hO hlow hSq HS3 HZ3 HO HBr HBs HLw
    go_wp2_with fail
    clear hwz3 hw3 hs3 hzr hsr hk hkI
    go_loopg [] 441 (fun fu wr => ∃ (r1 : Rr) (g1 cap1 len1 : Nat) (N1 Ny : Int) (τ1 ρ1 : Int → Tm) (rk1 : Int → Nat) (σ1 σy : Sg) (wk1 : Int) (gl1 gly : List Gl) (ch1 : List Kr) (an1 : List Tm) (st1 : Nat), RS wz wr s r1 g1 cap1 len1 N1 τ1 ρ1 rk1 σ1 wk1 gl1 ch1 an1 ∧ (∃ F', fu < F' ∧ runQ (cls P) a limit 442 (absQ (rr0 P (a : Int) (.slice none 0 0)) 12 σ0 (goalsQ Q Q.len) [] []) = runQ (cls P) a limit F' (absQ r1 Ny σy gly ch1 an1)) ∧ fu ≤ 441 ∧ (r1.P = P ∧ r1.query = a) ∧ r1.st = st1 ∧ st1 ≤ limit ∧ 0 ≤ r1.fin ∧ an1.length ≤ 40 ∧ (r1.fin = 0 → (Ny = N1 ∧ σy = σ1 ∧ gly = gl1) ∧ (∀ v U, σ1 v = some U → 0 < v ∧ v ≤ N1) ∧ an1.length < 40 ∧ (N1 ≤ 12 + 12 * ((441 - fu : Nat) : Int) ∧ gl1.length ≤ 6 + 6 * (441 - fu)) ∧ 1 + (limit - st1) + (40 - an1.length) ≤ fu) ∧ (∀ c ∈ ch1, c.N ≤ 12 + 12 * ((441 - fu : Nat) : Int) ∧ c.gl.length ≤ 6 + 6 * (441 - fu)) ∧ ch1.length ≤ 441 - fu)
    case atStart =>
      refine ⟨rr0 P a v, g, cap, 13, 12, 12, τ0, τ0, fun _ => 0, σ0, σ0, 0, goalsQ Q Q.len, goalsQ Q Q.len, [], [], 0, HSq.out, ⟨442, by omega, rfl⟩, Nat.le_refl _, ⟨rfl, rfl⟩, rfl, Nat.zero_le _, Int.le_refl _, Nat.zero_le _, fun _ => ⟨⟨rfl, rfl, rfl⟩, fun v U h => by simp [σ0] at h, by decide, ⟨by decide, by rw [goals_len (Nat.le_refl _)]; omega⟩, by simp; omega⟩, fun c hc => absurd hc (by simp), by simp⟩
    case round =>
      obtain ⟨r1, g1, cap1, len1, N1, Ny, τ1, ρ1, rk1, σ1, σy, wk1, gl1, gly, ch1, an1, st1, hS, ⟨F', hF', hE⟩, hgk, hEq, hst1, hstl, hf0, han, hgo, hcb, hcl⟩ := hrel
      have HS : Hid (RS wz wr s r1 g1 cap1 len1 N1 τ1 ρ1 rk1 σ1 wk1 gl1 ch1 an1) := hS
      have HE : Hid (runQ (cls P) a limit 442 (absQ (rr0 P (a : Int) (.slice none 0 0)) 12 σ0 (goalsQ Q Q.len) [] []) = runQ (cls P) a limit F' (absQ r1 Ny σy gly ch1 an1)) := hE
      have HEq : Hid (r1.P = P ∧ r1.query = a) := hEq
      have HSt : Hid (r1.st = st1) := hst1
      have HCb : Hid (∀ c ∈ ch1, c.N ≤ 12 + 12 * ((441 - gk : Nat) : Int) ∧ c.gl.length ≤ 6 + 6 * (441 - gk)) := hcb
      have y7 : wr.cell? ⟨s, 7, none⟩ = some (.int .i64 r1.fin) := hS.get.2.2.2.2.2.2.2.1
      by_cases hfin : r1.fin = 0
      case neg =>
        have hfb : (r1.fin == 0) = false := beq_eq_false_iff_ne.2 hfin
        have hR : runQ (cls P) a limit 442 (absQ (rr0 P (a : Int) (.slice none 0 0)) 12 σ0 (goalsQ Q Q.len) [] []) = absQ r1 Ny σy gly ch1 an1 := by
          rw [HE.out]; exact runQ_fin (by show r1.fin.toNat ≠ 0; omega) F'
        have hpos : 0 < r1.fin := by omega
        have h0s : 0 ≤ r1.st := by omega
        obtain ⟨sa, ca, hav, hle, hAR⟩ := ans_form hS.anr (fun A hA => (hS.ant A hA).1)
        have HZ7 : Hid (wr.heap[w.heap.size]? = some (.cells #[.slice none 0 0, .int .i64 0, .int .i64 0] 44)) := (hS.low.block _ hzz).trans HZ.out
        have HBw7 : Hid (Below w.heap.size w wr) := HBz.out.trans (hS.low.mono HBz.out.size)
        have HAR : Hid (AR wr sa an1 ∧ (∀ b o, sa = some ⟨b, o, none⟩ → w.heap.size < b) ∧ ∀ A ∈ an1, NB w.heap.size A) := ⟨hAR, fun b o e => by
          have := hS.anr.lt b (by rw [hav, e]; rfl)
          omega, fun A hA => nb_res HZ7.out (hS.ant A hA).1⟩
        have HSo : Hid ((runQ (cls P) a limit 442 (absQ (rr0 P (a : Int) (.slice none 0 0)) 12 σ0 (goalsQ Q Q.len) [] [])).ans = an1.map ansC ∧ (runQ (cls P) a limit 442 (absQ (rr0 P (a : Int) (.slice none 0 0)) 12 σ0 (goalsQ Q Q.len) [] [])).fin = r1.fin.toNat ∧ (runQ (cls P) a limit 442 (absQ (rr0 P (a : Int) (.slice none 0 0)) 12 σ0 (goalsQ Q Q.len) [] [])).st = r1.st.toNat) := by
          rw [Hid, hR]
          exact ⟨rfl, rfl, rfl⟩
        obtain ⟨_, _, _, _, _, _, u6, u7, u8, _⟩ := hS.get
        rw [hav] at u6
        obtain ⟨z0, z1, z2, zf0, zf1, zf2⟩ := block_cells HZ7.out
        clear hfin hgo hS hE hEq hst1 hcb hR hav hAR y7 HSt
        generalize r1.fin = fin at *
        generalize r1.st = st at *
        go_wp2_with fail
        obtain ⟨W', hW', e0, e1, e2, hB', hG'⟩ := fin3t (r := w.heap.size) (Nat.le_refl _) HZ7.out HBw7.out (.slice sa an1.length ca) (.int .i64 fin) (.int .i64 st)
        rw [hW']
        refine bodyPost_ret (v := rsV sa an1.length ca fin st) ?_ rfl ⟨hB', sa, ca, an1, fin, st, rfl, ⟨HAR.out.1.at hG' (fun b o e hb => by have := HAR.out.2.1 b o e; omega) HAR.out.2.2, HAR.out.2.1⟩, hle, han, hpos, h0s, HSo.out⟩
        simp [results, Try.results29, go_sem, e0, e1, e2, rsV]
      obtain ⟨⟨rfl, rfl, rfl⟩, hD, han1, ⟨hNb, hGb⟩, hmu⟩ := hgo hfin
      have HD : Hid (∀ v U, σy v = some U → 0 < v ∧ v ≤ Ny) := hD
      have HFin : Hid (r1.fin = 0) := hfin
      have HX0 : Hid ((absQ r1 Ny σy gly ch1 an1).fin = 0) := by show r1.fin.toNat = 0; rw [hfin]; rfl
      obtain ⟨F2, hF2⟩ : ∃ F2, F' = F2 + 1 := ⟨F' - 1, by omega⟩
      subst hF2
      have HPr1 : Hid (Prg wz r1.P) := by rw [Hid, hEq.1]; exact HPr.out
      rw [hfin] at y7
      have yf7 := hS.get.2.2.2.2.2.2.2.2.2 7
      have y8 : wr.cell? ⟨s, 8, none⟩ = some (.int .i64 (st1 : Int)) := by have := hS.get.2.2.2.2.2.2.2.2.1; rwa [hst1] at this
      have y3 := hS.get.2.2.2.1
      have htd := hS.td
      clear hgo hE hEq hst1 hcb hfin hS hD
      cases hgl : gly with
      | nil =>
        subst hgl
        obtain ⟨ta, tc, hte, _, _, _⟩ := htd
        have hte : r1.todo = .slice ta 0 tc := hte
        rw [hte] at y3
        have HTl : Hid (Calls Try.prog 72 #[.pointer (some ⟨s, 0, none⟩)] wr (TlR wz wr s a r1 (absQ r1 Ny σy [] ch1 an1) an1 (12 + 12 * ((441 - gk : Nat) : Int)) (6 + 6 * (441 - gk)) ch1.length)) := tell_any a (12 + 12 * ((441 - gk : Nat) : Int)) (6 + 6 * (441 - gk)) wr HPr1.out HS.out HEq.out.2 ha12 HFin.out ⟨hNb, hGb⟩ HCb.out (by omega) (by omega) (by omega) han1
        clear hte
        go_wp2_with fail
        refine HTl.out.mono ?_
        rintro e w7 ⟨r7, g7, cap7, len7, N7, Nx7, τ7, ρ7, rk7, σ7, σx7, wk7, gl7, glx7, ch7, an7, rfl, hs7, he7, hx7, hq7, hf7, hn7, hg7, hc7, hl7, hz7, ha7, hb7⟩
        have HR7 : Hid (RS wz w7 s r7 g7 cap7 len7 N7 τ7 ρ7 rk7 σ7 wk7 gl7 ch7 an7) := hs7
        have HE7 : Hid (runQ (cls P) a limit 442 (absQ (rr0 P (a : Int) (.slice none 0 0)) 12 σ0 (goalsQ Q Q.len) [] []) = runQ (cls P) a limit F2 (absQ r7 Nx7 σx7 glx7 ch7 an7)) := by
          rw [Hid, HE.out, runQ_nil HX0.out rfl, ← he7, HEq.out.1]
        have HQ7 : Hid ((r7.P = P ∧ r7.query = a) ∧ r7.st = st1) := ⟨⟨hq7.1.trans HEq.out.1, hq7.2.1.trans HEq.out.2⟩, hq7.2.2.trans HSt.out⟩
        have HX7 : Hid (r7.fin = 0 → (Nx7 = N7 ∧ σx7 = σ7 ∧ glx7 = gl7) ∧ (∀ v U, σ7 v = some U → 0 < v ∧ v ≤ N7) ∧ an7.length < 40 ∧ (N7 ≤ 12 + 12 * ((441 - (gk - 1) : Nat) : Int) ∧ gl7.length ≤ 6 + 6 * (441 - (gk - 1))) ∧ 1 + (limit - st1) + (40 - an7.length) ≤ gk - 1) := fun h0 => by
          obtain ⟨h1, h2, h3, h4⟩ := hx7 h0
          obtain ⟨h5, h6⟩ := hb7 h0
          exact ⟨⟨h1, h2, h3⟩, h4, h6, ⟨by omega, by omega⟩, by omega⟩
        have HC7 : Hid (∀ c ∈ ch7, c.N ≤ 12 + 12 * ((441 - (gk - 1) : Nat) : Int) ∧ c.gl.length ≤ 6 + 6 * (441 - (gk - 1))) := fun c hc => by
          have := hc7 c hc
          omega
        clear hs7 he7 hx7 hq7 hc7 hb7 HTl
        go_wp2_with fail
        go_roundg (gk - 1)
        case measure => omega
        case rel => exact ⟨r7, g7, cap7, len7, N7, Nx7, τ7, ρ7, rk7, σ7, σx7, wk7, gl7, glx7, ch7, an7, st1, HR7.out, ⟨F2, by omega, HE7.out⟩, by omega, HQ7.out.1, HQ7.out.2, hstl, hf7, ha7, HX7.out, HC7.out, by omega⟩
      | cons q0 rest =>
        subst hgl
        obtain ⟨T0, c0⟩ := q0
        obtain ⟨bt, ot, ct, hte, _, _, _, _, _, _⟩ := htd.first
        rw [hte] at y3
        have hln : ((rest.length : Int) + 1 == 0) = false := beq_eq_false_iff_ne.2 (by omega)
        have hrl : rest.length + 1 ≤ (6 + 6 * (441 - gk)) := hGb
        by_cases hsl : st1 = limit
        case pos =>
          have hsb : ((st1 : Int) == (limit : Int)) = true := beq_iff_eq.2 (by omega)
          have HE7 : Hid (runQ (cls P) a limit 442 (absQ (rr0 P (a : Int) (.slice none 0 0)) 12 σ0 (goalsQ Q Q.len) [] []) = runQ (cls P) a limit F2 (absQ { r1 with fin := 2 } Ny σy ((T0, c0) :: rest) ch1 an1)) := by
            rw [Hid, HE.out, runQ_over (g := (can T0, c0)) (r := cgl rest) HX0.out rfl (by show r1.st.toNat = limit; rw [HSt.out]; simpa using hsl)]
            rw [runQ_fin (X := absQ { r1 with fin := 2 } Ny σy ((T0, c0) :: rest) ch1 an1) (by show (2 : Int).toNat ≠ 0; decide)]
            rfl
          have HP7 : Hid (RS wz (wr.setCell ⟨s, 7, none⟩ (.int .i64 2)) s { r1 with fin := 2 } g1 cap1 len1 Ny τ1 ρ1 rk1 σy wk1 ((T0, c0) :: rest) ch1 an1) := HS.out.put 7 _ rfl rfl rfl rfl HS.out.td
          have HC7 : Hid (∀ c ∈ ch1, c.N ≤ 12 + 12 * ((441 - (gk - 1) : Nat) : Int) ∧ c.gl.length ≤ 6 + 6 * (441 - (gk - 1))) := fun c hc => by
            have := HCb.out c hc
            omega
          clear hte htd hsl
          go_wp2_with fail
          go_roundg (gk - 1)
          case measure => omega
          case rel => exact ⟨{ r1 with fin := 2 }, g1, cap1, len1, Ny, Ny, τ1, ρ1, rk1, σy, σy, wk1, _, _, ch1, an1, st1, HP7.out, ⟨F2, by omega, HE7.out⟩, by omega, HEq.out, HSt.out, hstl, by show (0 : Int) ≤ 2; omega, han, fun h => absurd (show (2 : Int) = 0 from h) (by omega), HC7.out, by omega⟩
        have hsb : ((st1 : Int) == (limit : Int)) = false := beq_eq_false_iff_ne.2 (by omega)
        have HTk : Hid (Calls Try.prog 73 #[.pointer (some ⟨s, 0, none⟩)] wr (TkR wz wr s r1 (absQ { r1 with st := r1.st + 1 } Ny σy ((T0, c0) :: rest) ch1 an1) an1 (12 + 12 * ((441 - gk : Nat) : Int)) (6 + 6 * (441 - gk)) (ch1.length + 1))) := take_any (12 + 12 * ((441 - gk : Nat) : Int)) (6 + 6 * (441 - gk)) wr HPr1.out HS.out HD.out HFin.out (by rw [HSt.out]; omega) ⟨hNb, hrl⟩ HCb.out (by omega) (by omega) (by omega)
        have HXs : Hid (runQ (cls P) a limit 442 (absQ (rr0 P (a : Int) (.slice none 0 0)) 12 σ0 (goalsQ Q Q.len) [] []) = runQ (cls P) a limit F2 (stepQ (cls P) (absQ { r1 with st := r1.st + 1 } Ny σy ((T0, c0) :: rest) ch1 an1))) := by
          rw [Hid, HE.out, runQ_step (g := (can T0, c0)) (r := cgl rest) HX0.out rfl (by show r1.st.toNat ≠ limit; rw [HSt.out]; simpa using hsl)]
          have e : (r1.st + 1).toNat = r1.st.toNat + 1 := by rw [HSt.out]; omega
          unfold absQ
          simp only [e]
        clear hte htd
        go_wp2_with fail
        refine HTk.out.mono ?_
        rintro e w7 ⟨r7, g7, cap7, len7, N7, Nx7, τ7, ρ7, rk7, σ7, σx7, wk7, gl7, glx7, ch7, rfl, hs7, he7, hx7, hq7, hf7, hn7, hg7, hc7, hl7, hz7⟩
        have HR7 : Hid (RS wz w7 s r7 g7 cap7 len7 N7 τ7 ρ7 rk7 σ7 wk7 gl7 ch7 an1) := hs7
        have HE7 : Hid (runQ (cls P) a limit 442 (absQ (rr0 P (a : Int) (.slice none 0 0)) 12 σ0 (goalsQ Q Q.len) [] []) = runQ (cls P) a limit F2 (absQ r7 Nx7 σx7 glx7 ch7 an1)) := by
          rw [Hid, HXs.out, ← he7, HEq.out.1]
        have HQ7 : Hid ((r7.P = P ∧ r7.query = a) ∧ r7.st = ((st1 + 1 : Nat) : Int)) := ⟨⟨hq7.1.trans HEq.out.1, hq7.2.1.trans HEq.out.2⟩, by rw [hq7.2.2, HSt.out]; omega⟩
        have HX7 : Hid (r7.fin = 0 → (Nx7 = N7 ∧ σx7 = σ7 ∧ glx7 = gl7) ∧ (∀ v U, σ7 v = some U → 0 < v ∧ v ≤ N7) ∧ an1.length < 40 ∧ (N7 ≤ 12 + 12 * ((441 - (gk - 1) : Nat) : Int) ∧ gl7.length ≤ 6 + 6 * (441 - (gk - 1))) ∧ 1 + (limit - (st1 + 1)) + (40 - an1.length) ≤ gk - 1) := fun h0 => by
          obtain ⟨h1, h2, h3, h4⟩ := hx7 h0
          exact ⟨⟨h1, h2, h3⟩, h4, han1, ⟨by omega, by omega⟩, by omega⟩
        have HC7 : Hid (∀ c ∈ ch7, c.N ≤ 12 + 12 * ((441 - (gk - 1) : Nat) : Int) ∧ c.gl.length ≤ 6 + 6 * (441 - (gk - 1))) := fun c hc => by
          have := hc7 c hc
          omega
        clear hs7 he7 hx7 hq7 hc7 HTk
        go_wp2_with fail
        go_roundg (gk - 1)
        case measure => omega
        case rel => exact ⟨r7, g7, cap7, len7, N7, Nx7, τ7, ρ7, rk7, σ7, σx7, wk7, gl7, glx7, ch7, an1, st1 + 1, HR7.out, ⟨F2, by omega, HE7.out⟩, by omega, HQ7.out.1, HQ7.out.2, by omega, hf7, han, HX7.out, HC7.out, by omega⟩
end Go.Proofs.Ytmggaclaoefdaaa
