/- A search: back to the last choice at which a clause fits. -/
import Derived.Test.YtmggaclaoefdaaaSvE
namespace Go.Proofs.Ytmggaclaoefdaaa
open Go.RowKit

theorem try_false {P : Cls} {gs : List Gl} {t : Tm} : ∀ {f i : Nat} {X Y : PS} {L : Nat}, tryP P gs t f i X L = (Y, false) → Y.ch = X.ch ∧ Y.gl = X.gl ∧ Y.σ = X.σ := by
  intro f
  induction f with
  | zero => intro i X Y L h; rw [tryP] at h; cases h; exact ⟨rfl, rfl, rfl⟩
  | succ f ih =>
    intro i X Y L h
    rw [tryP] at h
    split at h
    · cases h; exact ⟨rfl, rfl, rfl⟩
    · split at h
      · cases h; exact ⟨rfl, rfl, rfl⟩
      · have h2 := ih h
        exact ⟨h2.1, h2.2.1, h2.2.2⟩
      · simp at h
theorem back_fin {P : Cls} {f : Nat} {X : PS} (h : X.fin ≠ 0) : backP P (f + 1) X = X := by rw [backP, if_pos h]
theorem back_none {P : Cls} {f : Nat} {X : PS} (h : X.fin = 0) (hc : X.ch = []) : backP P (f + 1) X = { X with fin := 1 } := by
  rw [backP, if_neg (by simpa using h), hc]; rfl
theorem back_some {P : Cls} {f : Nat} {X : PS} {l : List Chc} {c : Chc} (h : X.fin = 0) (hc : X.ch = l ++ [c]) : backP P (f + 1) X = match tryP P c.gl (hdT c.σ c.gl) (P.length + 1) c.k { X with ch := l, σ := c.σ } 4000 with
    | (Y, true) => Y
    | (Y, false) => backP P f Y := by
  rw [backP, if_neg (by simpa using h)]
  simp only [hc, List.getLast?_append, List.getLast?_singleton, List.dropLast_concat]
  rfl
theorem to_runC (g ln cp k : Nat) (h : k ≤ ln) (hc : ln ≤ cp) (W : World) : (Instr.slice 101 (.slice (some ⟨g, 0, none⟩) ln cp) none (some (.int .i64 k)) none).run Try.prog W = .ok (.slice (some ⟨g, 0, none⟩) k cp) W := by
  obtain ⟨i0, hi, hz0, hz1, hz2⟩ := info_parts Try.info183
  have h' : (k : Int) ≤ (cp : Int) := by omega
  simp [Instr.slice, run_underlying Try.underlying101, Instr.sliceBounds, run_sliceBound, sizeOf, typeInfo, hi, h', Addr.add]
/-- What back says. -/
def BRes (w0 w : World) (s m : Nat) (r : Sr) (X : PS) (an : List Tm) (Lb Nb : Nat) (e : Ending) (w' : World) : Prop :=
  ∃ (r' : Sr) (tv' : Value) (n' : Nat) (σ' σx : Sg) (L' : Int) (tr' : List Int) (gl' : List Gl) (ch' : List Cr), e = .returned (.tuple #[]) ∧ SS w0 w' s m r' tv' n' σ' L' tr' gl' ch' an ∧
    bk (cls r.P) X = absP r' σx gl' ch' an ∧ (r'.fin = 0 → σx = σ') ∧ (r'.P = r.P ∧ r'.limit = r.limit ∧ r'.asked = r.asked ∧ r'.st = r.st) ∧ 0 ≤ r'.fin ∧ 0 ≤ r'.last ∧ r'.last + 360 * ch'.length ≤ Lb + 360 ∧ n' + 130000 * ch'.length ≤ Nb + 130000 ∧ w.heap.size ≤ w'.heap.size
set_option maxRecDepth 100000 in
set_option maxHeartbeats 8000000 in
theorem sback_any {w0 : World} {s m : Nat} {r : Sr} {tv : Value} {n : Nat} {σ σx : Sg} {L : Int} {tr : List Int} {gl : List Gl} {ch : List Cr} {an : List Tm} (Lb Nb : Nat) (w : World) (hPr : Prg w0 r.P) (h : SS w0 w s m r tv n σ L tr gl ch an) (hW : ∀ c ∈ ch, c.gl ≠ [] ∧ c.k ≤ r.P.len) (hl : 0 ≤ r.last ∧ r.last + 360 * ch.length ≤ Lb) (hLb : Lb ≤ 990000) (hn : n + 130000 * ch.length ≤ Nb) (hNb : Nb ≤ 900000000) (hf : 0 ≤ r.fin) (hc : ch.length ≤ 5000) :
    Calls Try.prog 123 #[.pointer (some ⟨s, 0, none⟩)] w (BRes w0 w s m r (absP r σx gl ch an) an Lb Nb) := by
  have H : Hid (SS w0 w s m r tv n σ L tr gl ch an) := h
  have HPr : Hid (Prg w0 r.P) := hPr
  have HW : Hid (∀ c ∈ ch, c.gl ≠ [] ∧ c.k ≤ r.P.len) := hW
  have hfew := hPr.few
  clear h hPr hW
  go_enter Try.func123, Try.ntmps123
  go_wp2_with fail
  go_loopg [] ch.length (fun fu wr => ∃ (r1 : Sr) (tv1 : Value) (n1 : Nat) (σ1 σy : Sg) (L1 : Int) (tr1 : List Int) (gl1 : List Gl) (ch1 : List Cr), SS w0 wr s m r1 tv1 n1 σ1 L1 tr1 gl1 ch1 an ∧ bk (cls r.P) (absP r σx gl ch an) = backP (cls r.P) (fu + 1) (absP r1 σy gl1 ch1 an) ∧ ch1.length ≤ fu ∧ (∀ c ∈ ch1, c.gl ≠ [] ∧ c.k ≤ r.P.len) ∧ (r1.P = r.P ∧ r1.limit = r.limit ∧ r1.asked = r.asked ∧ r1.st = r.st) ∧ 0 ≤ r1.fin ∧ 0 ≤ r1.last ∧ r1.last + 360 * ch1.length ≤ Lb ∧ n1 + 130000 * ch1.length ≤ Nb ∧ w.heap.size ≤ wr.heap.size ∧ ch1.length ≤ 5000)
  case atStart =>
    exact ⟨r, tv, n, σ, σx, L, tr, gl, ch, H.out, by unfold bk; rw [show (absP r σx gl ch an).ch.length = ch.length from by simp [absP]], Nat.le_refl _, HW.out, ⟨rfl, rfl, rfl, rfl⟩, hf, hl.1, hl.2, hn, Nat.le_refl _, hc⟩
  case round =>
    obtain ⟨r1, tv1, n1, σ1, σy, L1, tr1, gl1, ch1, hS, hE, hle, hW1, hEq, hf1, hl0, hl1, hn1, hsz, hc1⟩ := hrel
    have HS : Hid (SS w0 wr s m r1 tv1 n1 σ1 L1 tr1 gl1 ch1 an) := hS
    have HE : Hid (bk (cls r.P) (absP r σx gl ch an) = backP (cls r.P) (gk + 1) (absP r1 σy gl1 ch1 an)) := hE
    have HW1 : Hid (∀ c ∈ ch1, c.gl ≠ [] ∧ c.k ≤ r.P.len) := hW1
    have HEq : Hid (r1.P = r.P ∧ r1.limit = r.limit ∧ r1.asked = r.asked ∧ r1.st = r.st) := hEq
    obtain ⟨_, y1, _, _, _, _, _, y7, _, y9, yf⟩ := hS.blk.get
    obtain ⟨ca, cp, hcv, hcp1, hcp2, hcell⟩ := ch_form hS.chr
    have yf1 := yf 1
    have yf9 := yf 9
    have hslt := hS.blk.lt
    clear hS hE hW1 hEq yf
    by_cases hfin : r1.fin = 0
    case neg =>
      have hfb : (r1.fin == 0) = false := beq_eq_false_iff_ne.2 hfin
      have HF : Hid (bk (cls r.P) (absP r σx gl ch an) = absP r1 σy gl1 ch1 an) := by
        rw [Hid, HE.out]; exact back_fin (by show r1.fin.toNat ≠ 0; omega)
      have HN : Hid (r1.fin = 0 → σy = σ1) := fun h => absurd h hfin
      clear hfin hcell
      go_wp2_with fail
      go_end0
      exact ⟨r1, tv1, n1, σ1, σy, L1, tr1, gl1, ch1, rfl, HS.out, HF.out, HN.out, HEq.out, hf1, hl0, by omega, by omega, hsz⟩
    have hfb : (r1.fin == 0) = true := beq_iff_eq.2 hfin
    have HFin : Hid (r1.fin = 0) := hfin
    rw [hcv] at y9
    by_cases hch : ch1 = []
    case pos =>
      have HF : Hid (bk (cls r.P) (absP r σx gl ch an) = absP { r1 with fin := 1 } σy gl1 ch1 an) := by
        rw [Hid, HE.out, back_none (by show r1.fin.toNat = 0; omega) (by rw [hch]; rfl)]; rfl
      have hz : ch1.length = 0 := by rw [hch]; rfl
      rw [hz] at y9
      clear hfin hch hcell hcv
      go_wp2_with fail
      go_end0
      exact ⟨{ r1 with fin := 1 }, tv1, n1, σ1, σy, L1, tr1, gl1, ch1, rfl, HS.out.put 1 _ rfl rfl rfl rfl HS.out.gls, HF.out, fun h => absurd (show (1 : Int) = 0 from h) (by omega), HEq.out, by show (0 : Int) ≤ 1; omega, hl0, by show r1.last + _ ≤ _; omega, by omega, by simpa [World.setCell] using hsz⟩
    obtain ⟨l, c, hlc⟩ : ∃ l c, ch1 = l ++ [c] := by
      rcases List.eq_nil_or_concat ch1 with h | ⟨l, c, h⟩
      · exact absurd h hch
      · exact ⟨l, c, by rw [h, List.concat_eq_append]⟩
    subst hlc
    have hln : (l ++ [c]).length = l.length + 1 := by simp
    have HcW := HW1.out c (by simp)
    obtain ⟨⟨T0, c0⟩, rest, hgl⟩ : ∃ g rest, c.gl = g :: rest := by
      cases hg : c.gl with
      | nil => exact absurd hg HcW.1
      | cons g rest => exact ⟨g, rest, rfl⟩
    obtain ⟨g, rfl, d0, d1, d2⟩ := hcell l.length (by omega)
    rw [show (l ++ [c])[l.length]'(by omega) = c from by simp] at d0 d1 d2
    have HCk : Hid (c.k ≤ r.P.len) := HcW.2
    have HCs : Hid (c.mark ≤ tr1.length ∧ c.σ = rst σ1 (tr1.take c.mark)) := HS.out.chs c (by simp)
    have HCm : Hid (∀ d ∈ l, d.mark ≤ c.mark) := fun d hd => (List.pairwise_append.1 HS.out.chm).2.2 d hd c (by simp)
    have HCg : Hid (GL wr (Mu s r1.b m tv1 r1.cv r1.av) 1000000 c.p ((T0, c0) :: rest)) := by rw [Hid, ← hgl]; exact HS.out.chg c (by simp)
    obtain ⟨pa, hpa⟩ := HCg.out.ptr
    rw [hpa] at d0
    replace HCg : Hid (GL wr (Mu s r1.b m tv1 r1.cv r1.av) 1000000 (.pointer pa) ((T0, c0) :: rest)) := hpa ▸ HCg.out
    have HEb : Hid (bk (cls r.P) (absP r σx gl ch an) = match tryP (cls r.P) (cgl ((T0, c0) :: rest)) (hdT (cs c.σ) (cgl ((T0, c0) :: rest))) (r.P.len + 1) c.k (absP { r1 with cv := .slice (some ⟨g, 0, none⟩) l.length cp } c.σ gl1 l an) 4000 with
      | (Y, true) => Y
      | (Y, false) => backP (cls r.P) gk Y) := by
      rw [Hid, HE.out, back_some (l := l.map cch) (c := cch c) (by show r1.fin.toNat = 0; omega) (by simp [absP])]
      rw [cls_len, show (cch c).gl = cgl ((T0, c0) :: rest) from by rw [← hgl]; rfl]
      rfl
    have HS0 : Hid (SS w0 wr s m r1 tv1 n1 σ1 L1 tr1 gl1 (l ++ [c]) an) := HS.out
    have HW1l : Hid (∀ d ∈ l, d.gl ≠ [] ∧ d.k ≤ r.P.len) := fun d hd => HW1.out d (by simp [hd])
    rw [hln] at hle hl1 hn1 hc1 hcp1 y9
    have hcvl : r1.cv = .slice (some ⟨g, 0, none⟩) (l ++ [c]).length cp := hcv
    have HCv : Hid (r1.cv = .slice (some ⟨g, 0, none⟩) (l ++ [c]).length cp) := hcvl
    clear hcvl hcv hcell HcW hgl hch hfin HS HE HW1
    have hto := to_runC g (l.length + 1) cp l.length (by omega) hcp1
    have hkk : ((l.length + 1 : Nat) : Int) - 1 = (l.length : Int) := by omega
    have hd : decide ((l.length : Int) < 0) = false := decide_eq_false (by omega)
    have hKI : (l.length : Int) < ((l.length + 1 : Nat) : Int) := by omega
    have HBn : Hid (Below wr.heap.size wr (wr.alloc (.cells #[.pointer pa, .int .i64 c.k, .int .i64 c.mark] 183))) := (Below.refl _ _).alloc (Nat.le_refl _) _
    have HN0 : Hid ((wr.alloc (.cells #[.pointer pa, .int .i64 c.k, .int .i64 c.mark] 183)).heap[wr.heap.size]? = some (.cells #[.pointer pa, .int .i64 c.k, .int .i64 c.mark] 183)) := heap_alloc_new wr _
    have z9 : (wr.alloc (.cells #[.pointer pa, .int .i64 c.k, .int .i64 c.mark] 183)).cell? ⟨s, 9, none⟩ = some (.slice (some ⟨g, 0, none⟩) (l.length + 1) cp) := (HBn.out.cell (lt_of_cell y9)).trans y9
    have zf9 : (wr.alloc (.cells #[.pointer pa, .int .i64 c.k, .int .i64 c.mark] 183)).frozen? ⟨s, 9, none⟩ = false := (HBn.out.frozen (p := ⟨s, 9, none⟩) hslt).trans yf9
    clear hpa
    go_wp2_with fail
    have hz9 : (wr.setCell ⟨s, 9, none⟩ (.slice (some ⟨g, 0, none⟩) l.length cp)).heap.size = wr.heap.size := by simp [World.setCell]
    have hbe : Below wr.heap.size (wr.setCell ⟨s, 9, none⟩ (.slice (some ⟨g, 0, none⟩) l.length cp)) ((wr.setCell ⟨s, 9, none⟩ (.slice (some ⟨g, 0, none⟩) l.length cp)).alloc (.cells #[.pointer pa, .int .i64 c.k, .int .i64 c.mark] 183)) := (Below.refl _ _).alloc (by omega) _
    have HSd : Hid (SS w0 ((wr.setCell ⟨s, 9, none⟩ (.slice (some ⟨g, 0, none⟩) l.length cp)).alloc (.cells #[.pointer pa, .int .i64 c.k, .int .i64 c.mark] 183)) s m { r1 with cv := .slice (some ⟨g, 0, none⟩) l.length cp } tv1 n1 σ1 L1 tr1 gl1 l an) := by
      have := HS0.out.cut (k := l.length) (by simp) HCv.out
      rw [List.take_left] at this
      exact this.below ((Below.refl _ _).alloc (Nat.le_refl _) _)
    have hob : ∀ q, Mu s r1.b m tv1 (.slice (some ⟨g, 0, none⟩) l.length cp) r1.av q → Mu s r1.b m tv1 r1.cv r1.av q := fun q e => by
      rw [HCv.out]
      exact e
    have hbw1 : Bw (Mu s r1.b m tv1 r1.cv r1.av) wr.heap.size wr ((wr.setCell ⟨s, 9, none⟩ (.slice (some ⟨g, 0, none⟩) l.length cp)).alloc (.cells #[.pointer pa, .int .i64 c.k, .int .i64 c.mark] 183)) := ((Bw.refl _ _ wr).grown (grown_set s 9 _) (Nat.le_refl _) (fun k hk => .inr (.inr (.inl (Option.some.inj hk).symm)))).trans (Bw.ofBelow hbe)
    have HGd : Hid (GL ((wr.setCell ⟨s, 9, none⟩ (.slice (some ⟨g, 0, none⟩) l.length cp)).alloc (.cells #[.pointer pa, .int .i64 c.k, .int .i64 c.mark] 183)) (Mu s r1.b m tv1 (.slice (some ⟨g, 0, none⟩) l.length cp) r1.av) 1000000 (.pointer pa) ((T0, c0) :: rest)) := HCg.out.next hbw1 (fun q _ e => hob q e)
    have HNd : Hid (((wr.setCell ⟨s, 9, none⟩ (.slice (some ⟨g, 0, none⟩) l.length cp)).alloc (.cells #[.pointer pa, .int .i64 c.k, .int .i64 c.mark] 183)).heap[wr.heap.size]? = some (.cells #[.pointer pa, .int .i64 c.k, .int .i64 c.mark] 183)) := by
      have := heap_alloc_new (wr.setCell ⟨s, 9, none⟩ (.slice (some ⟨g, 0, none⟩) l.length cp)) (.cells #[.pointer pa, .int .i64 c.k, .int .i64 c.mark] 183)
      rwa [hz9] at this
    clear hz9 hbe
    generalize ((wr.setCell ⟨s, 9, none⟩ (.slice (some ⟨g, 0, none⟩) l.length cp)).alloc (.cells #[.pointer pa, .int .i64 c.k, .int .i64 c.mark] 183)) = wd at *
    have hszd : wr.heap.size < wd.heap.size := (Array.getElem?_eq_some_iff.1 HNd.out).1
    have HMd : Hid (¬ Mu s r1.b m tv1 (.slice (some ⟨g, 0, none⟩) l.length cp) r1.av wr.heap.size) := fun e => by have := (HS0.out.mu (hob _ e)).2; omega
    obtain ⟨_, _, _, _, _, _, _, x7, _, _, _⟩ := HSd.out.blk.get
    have x7 : wd.cell? ⟨s, 7, none⟩ = some (.pointer (some ⟨r1.b, 0, none⟩)) := x7
    obtain ⟨e0, e1, e2, _, _, _⟩ := block_cells HNd.out
    have HKp : Hid (∀ W, Below wd.heap.size wd W → W.cell? ⟨s, 7, none⟩ = some (.pointer (some ⟨r1.b, 0, none⟩)) ∧ W.cell? ⟨wr.heap.size, 2, none⟩ = some (.int .i64 c.mark)) := fun W hW => ⟨(hW.cell (lt_of_cell x7)).trans x7, (hW.cell (lt_of_cell e2)).trans e2⟩
    have HBk : Hid (∀ W, Below wd.heap.size wd W → Calls Try.prog 138 #[.pointer (some ⟨r1.b, 0, none⟩), .int .i64 c.mark] W fun e w' => e = .returned (.tuple #[]) ∧ (w'.cell? ⟨s, 7, none⟩ = some (.pointer (some ⟨r1.b, 0, none⟩)) ∧ w'.cell? ⟨wr.heap.size, 2, none⟩ = some (.int .i64 c.mark)) ∧ w'.heap[wr.heap.size]? = some (.cells #[.pointer pa, .int .i64 c.k, .int .i64 c.mark] 183) ∧ ∃ (tv5 : Value) (tr5 : List Int), SS w0 w' s m { r1 with cv := .slice (some ⟨g, 0, none⟩) l.length cp } tv5 n1 c.σ L1 tr5 gl1 l an ∧ GL w' (Mu s r1.b m tv5 (.slice (some ⟨g, 0, none⟩) l.length cp) r1.av) 1000000 (.pointer pa) ((T0, c0) :: rest) ∧ ¬ Mu s r1.b m tv5 (.slice (some ⟨g, 0, none⟩) l.length cp) r1.av wr.heap.size ∧ wr.heap.size ≤ w'.heap.size) := fun W hW => by
      have hSW := HSd.out.below hW
      refine (back_any c.mark W hSW.vs hSW.trk HCs.out.1).mono ?_
      rintro e w' ⟨h1, tv5, h2, h3, h4, h5⟩
      have hu := hSW.undo HCs.out.1 HCm.out h2 h3 h4 h5
      rw [← HCs.out.2] at hu
      have hmu : ∀ q, Mu s r1.b m tv5 (.slice (some ⟨g, 0, none⟩) l.length cp) r1.av q → Mu s r1.b m tv1 (.slice (some ⟨g, 0, none⟩) l.length cp) r1.av q := fun q e => by
        rcases e with (e | e | e) | e
        · exact .inl (.inl e)
        · exact .inl (.inr (.inl e))
        · exact .inl (.inr (.inr (h2 ▸ e)))
        · exact .inr e
      have hbw : Bw (Mu s r1.b m tv1 (.slice (some ⟨g, 0, none⟩) l.length cp) r1.av) W.heap.size W w' := SS.ofGF (r := { r1 with cv := .slice (some ⟨g, 0, none⟩) l.length cp }) h5
      have hbx : w'.heap[wr.heap.size]? = some (.cells #[.pointer pa, .int .i64 c.k, .int .i64 c.mark] 183) := (hbw.block _ (Nat.lt_of_lt_of_le hszd hW.size) HMd.out).trans ((hW.block _ hszd).trans HNd.out)
      exact ⟨h1, ⟨hu.blk.get.2.2.2.2.2.2.2.1, (block_cells hbx).2.2.1⟩, hbx, tv5, _, hu, (HGd.out.next (Bw.ofBelow hW) (fun _ _ e => e)).next hbw (fun q _ e => hmu q e), fun e => HMd.out (hmu _ e), Nat.le_trans (Nat.le_of_lt hszd) (Nat.le_trans hW.size hbw.size)⟩
    clear y1 y7 y9 d0 d1 d2 z9 zf9 yf1 yf9 hbw1 x7 e0 e1 e2
    go_wp2_with fail
    go_region_held3 (fun w' => w'.cell? ⟨s, 7, none⟩ = some (.pointer (some ⟨r1.b, 0, none⟩)) ∧ w'.cell? ⟨wr.heap.size, 2, none⟩ = some (.int .i64 c.mark)) (first | exact HK5.out | (refine HKp.out _ ?_; repeat (first | exact Below.refl _ _ | refine Below.drew ?_))) (first
      | (go_at_call 138
         refine (HBk.out _ (by repeat (first | exact Below.refl _ _ | refine Below.drew ?_))).mono ?_
         rintro e w5 ⟨rfl, hk5, hb5, tv5, tr5, hs5, hg5, hm5, hz5⟩
         have HK5 : Hid (w5.cell? ⟨s, 7, none⟩ = some (.pointer (some ⟨r1.b, 0, none⟩)) ∧ w5.cell? ⟨wr.heap.size, 2, none⟩ = some (.int .i64 c.mark)) := hk5
         have HN5 : Hid (w5.heap[wr.heap.size]? = some (.cells #[.pointer pa, .int .i64 c.k, .int .i64 c.mark] 183)) := hb5
         have HS5 : Hid (SS w0 w5 s m { r1 with cv := .slice (some ⟨g, 0, none⟩) l.length cp } tv5 n1 c.σ L1 tr5 gl1 l an) := hs5
         have HG5 : Hid (GL w5 (Mu s r1.b m tv5 (.slice (some ⟨g, 0, none⟩) l.length cp) r1.av) 1000000 (.pointer pa) ((T0, c0) :: rest)) := hg5
         have HM5 : Hid (¬ Mu s r1.b m tv5 (.slice (some ⟨g, 0, none⟩) l.length cp) r1.av wr.heap.size) := hm5
         have HZ5 : Hid (wr.heap.size ≤ w5.heap.size) := hz5
         clear hk5 hb5 hs5 hg5 hm5 hz5))
    all_goals
      have x7 : w5.cell? ⟨s, 7, none⟩ = some (.pointer (some ⟨r1.b, 0, none⟩)) := HK5.out.1
      have HRn : Hid (Calls Try.prog 124 #[.pointer (some ⟨r1.b, 0, none⟩)] w5 fun e w' => e = .returned (.tuple #[]) ∧ VS w' r1.b m tv5 1000000 w0.heap.size n1 c.σ (4000 : Nat) ∧ G r1.b w5 w') := renew_any w5 HS5.out.vs
      clear HK5
      go_wp2_with fail
      refine HRn.out.mono ?_
      rintro e w6 ⟨rfl, hv6, hg6⟩
      obtain ⟨tr6, hs6, _, _, _⟩ := HS5.out.vars hv6 (GF.ofG hg6) (TX.ofG hg6 (fun q hq => (HS5.out.vs.tb q hq).1)) HS5.out.sg
      obtain ⟨L4, hL4⟩ : ∃ L4 : Nat, L4 = 4000 := ⟨_, rfl⟩
      have HL4 : Hid (L4 = 4000) := hL4
      have hL5 : L4 ≤ 4000 := by omega
      have HS6 : Hid (SS w0 w6 s m { r1 with cv := .slice (some ⟨g, 0, none⟩) l.length cp } tv5 n1 c.σ (L4 : Nat) tr6 gl1 l an) := by rw [Hid, hL4]; exact hs6
      clear hL4
      have HG6 : Hid (GL w6 (Mu s r1.b m tv5 (.slice (some ⟨g, 0, none⟩) l.length cp) r1.av) 1000000 (.pointer pa) ((T0, c0) :: rest)) := HG5.out.next (SS.ofGF (s := s) (r := { r1 with cv := .slice (some ⟨g, 0, none⟩) l.length cp }) (m := m) (tv := tv5) (GF.ofG hg6)) (fun _ _ e => e)
      have HN6 : Hid (w6.heap[wr.heap.size]? = some (.cells #[.pointer pa, .int .i64 c.k, .int .i64 c.mark] 183)) := (hg6.block _ (Array.getElem?_eq_some_iff.1 HN5.out).1 (fun e => HM5.out (.inl (.inl (Option.some.inj e))))).trans HN5.out
      have hz6 : w.heap.size ≤ w6.heap.size := Nat.le_trans hsz (Nat.le_trans HZ5.out hg6.size)
      have hn6 : n1 + 130000 ≤ 1000000000 := Nat.le_trans (Nat.le_trans (Nat.add_le_add_left (Nat.le_mul_of_pos_right 130000 (Nat.succ_pos l.length)) n1) hn1) (Nat.le_trans hNb (by decide))
      have hl6 : 0 ≤ r1.last ∧ r1.last + 12 * ((r.P.len - c.k : Nat) : Int) ≤ 999000 := by omega
      have hc6 : l.length ≤ 100000 := by omega
      have HTr : Hid (Calls Try.prog 127 #[.pointer (some ⟨s, 0, none⟩), .pointer pa, .int .i64 c.k] w6 (TRes w0 w6 s m { r1 with cv := .slice (some ⟨g, 0, none⟩) l.length cp } n1 c.σ L4 gl1 l an ((T0, c0) :: rest) c.k)) :=
        try_any (L := L4) c.k w6 (by show Prg w0 r1.P; rw [HEq.out.1]; exact HPr.out) HS6.out HG6.out (by show c.k ≤ r1.P.len; rw [HEq.out.1]; exact HCk.out) hL5 hn6 (by show 0 ≤ r1.last ∧ r1.last + 12 * ((r1.P.len - c.k : Nat) : Int) ≤ 999000; rw [HEq.out.1]; exact hl6) HFin.out hc6
      obtain ⟨e0, e1, _, _, _, _⟩ := block_cells HN6.out
      clear hs6 hv6 hg6 x7 HRn
      go_wp2_with fail
      refine HTr.out.mono ?_
      rintro e w7 ⟨ok, r7, tv7, n7, σ7, L7, tr7, gl7, ch7, rfl, hs7, ht7, he7, hf7, hn7, hl7, hl8, hc7, hz7⟩
      have he7 : r7.P = r1.P ∧ r7.limit = r1.limit ∧ r7.asked = r1.asked ∧ r7.st = r1.st := he7
      have hl7 : r1.last ≤ r7.last := hl7
      have hl8 : r7.last ≤ r1.last + 12 * ((r1.P.len - c.k : Nat) : Int) := hl8
      rw [HEq.out.1] at hl8
      have ht7' : tryP (cls r.P) (cgl ((T0, c0) :: rest)) (hdT (cs c.σ) (cgl ((T0, c0) :: rest))) (r.P.len + 1) c.k (absP { r1 with cv := .slice (some ⟨g, 0, none⟩) l.length cp } c.σ gl1 l an) 4000 = (absP r7 σ7 gl7 ch7 an, ok) := by
        have := ht7
        rw [HL4.out] at this
        simp only [HEq.out.1] at this
        exact this
      have HS7 : Hid (SS w0 w7 s m r7 tv7 n7 σ7 L7 tr7 gl7 ch7 an) := hs7
      have HE7 : Hid (r7.P = r.P ∧ r7.limit = r.limit ∧ r7.asked = r.asked ∧ r7.st = r.st) := ⟨he7.1.trans HEq.out.1, he7.2.1.trans HEq.out.2.1, he7.2.2.1.trans HEq.out.2.2.1, he7.2.2.2.trans HEq.out.2.2.2⟩
      have hzf : w.heap.size ≤ w7.heap.size := Nat.le_trans hz6 hz7
      have hBb := HEb.out
      rw [ht7'] at hBb
      clear hs7 ht7 he7 e0 e1
      cases ok with
      | true =>
        have HB7 : Hid (bk (cls r.P) (absP r σx gl ch an) = absP r7 σ7 gl7 ch7 an) := hBb
        clear hBb ht7'
        go_wp2_with fail
        go_end0
        exact ⟨r7, tv7, n7, σ7, σ7, L7, tr7, gl7, ch7, rfl, HS7.out, HB7.out, fun _ => rfl, HE7.out, hf7, by omega, by omega, by omega, hzf⟩
      | false =>
        have hfc := try_false ht7'
        have hlc : ch7.length = l.length := by
          have := congrArg List.length hfc.1
          simpa [absP] using this
        have HW7 : Hid (∀ d ∈ ch7, d.gl ≠ [] ∧ d.k ≤ r.P.len) := fun d hd => by
          have h1 : ch7.map cch = l.map cch := hfc.1
          have h2 : cch d ∈ l.map cch := by rw [← h1]; exact List.mem_map.2 ⟨d, hd, rfl⟩
          obtain ⟨d', hd', e⟩ := List.mem_map.1 h2
          have hw := HW1l.out d' hd'
          have ek : d'.k = d.k := congrArg Chc.k e
          have eg : cgl d'.gl = cgl d.gl := congrArg Chc.gl e
          refine ⟨fun h0 => hw.1 ?_, by rw [← ek]; exact hw.2⟩
          rw [h0] at eg
          simpa [cgl] using eg
        have HB7 : Hid (bk (cls r.P) (absP r σx gl ch an) = backP (cls r.P) (gk - 1 + 1) (absP r7 σ7 gl7 ch7 an)) := by rw [Hid, show gk - 1 + 1 = gk from by omega]; exact hBb
        clear hBb ht7' hfc
        go_wp2_with fail
        go_roundg (gk - 1)
        case measure => omega
        case rel => exact ⟨r7, tv7, n7, σ7, σ7, L7, tr7, gl7, ch7, HS7.out, HB7.out, by omega, HW7.out, HE7.out, hf7, by omega, by omega, by omega, hzf, by omega⟩
end Go.Proofs.Ytmggaclaoefdaaa
