/- A search: no goals are left: an answer. -/
import Derived.Test.YtmggaclaoefdaaaSvS
namespace Go.Proofs.Ytmggaclaoefdaaa
open Go.RowKit

theorem Try.info112 : (Try.prog.info? 112).map (fun i => (i.zero, i.size, i.bytes)) = some (some (.slice none 0 0), 1, 24) := by kernel_rfl
theorem newsA (w : World) (A : Tm) : ∀ j u, [slA A][j]? = some u → (w.alloc (.cells #[.slice A.a A.len A.cap] 112)).cell? ((⟨w.heap.size, 0, none⟩ : Addr).add j) = some u := by
  intro j u hj
  have hb := heap_alloc_new w (.cells #[.slice A.a A.len A.cap] 112)
  rw [addr_add, cell_of_row _ _ _ _ _ _ hb]
  simpa [slA] using hj
/-- What answer says. -/
def ARes (w0 w : World) (s m : Nat) (r : Sr) (X : PS) (an : List Tm) (a Lb Nb : Nat) (e : Ending) (w' : World) : Prop :=
  ∃ (r' : Sr) (tv' : Value) (n' : Nat) (σ' σx : Sg) (L' : Int) (tr' : List Int) (gl' : List Gl) (ch' : List Cr) (an' : List Tm), e = .returned (.tuple #[]) ∧ SS w0 w' s m r' tv' n' σ' L' tr' gl' ch' an' ∧
    answerP (cls r.P) a X = absP r' σx gl' ch' an' ∧ (r'.fin = 0 → σx = σ') ∧ (r'.P = r.P ∧ r'.limit = r.limit ∧ r'.asked = r.asked ∧ r'.st = r.st) ∧ 0 ≤ r'.fin ∧ 0 ≤ r'.last ∧ r'.last + 360 * ch'.length ≤ Lb + 360 ∧ n' + 130000 * ch'.length ≤ Nb + 130000 ∧ w.heap.size ≤ w'.heap.size ∧ an'.length ≤ 40 ∧ (r'.fin = 0 → an'.length = an.length + 1 ∧ an'.length < 40)
set_option maxRecDepth 100000 in
set_option maxHeartbeats 4000000 in
theorem answer_any {w0 : World} {s m : Nat} {r : Sr} {tv : Value} {n : Nat} {σ : Sg} {L : Int} {tr : List Int} {gl : List Gl} {ch : List Cr} {an : List Tm} (a Lb Nb : Nat) (w : World) (hPr : Prg w0 r.P) (h : SS w0 w s m r tv n σ L tr gl ch an) (hW : ∀ c ∈ ch, c.gl ≠ [] ∧ c.k ≤ r.P.len) (hl : 0 ≤ r.last ∧ r.last + 360 * ch.length ≤ Lb) (hLb : Lb ≤ 980000) (hn : n + 130000 * ch.length ≤ Nb) (hNb : Nb ≤ 800000000) (hf : r.fin = 0) (hc : ch.length ≤ 4000) (ha : r.asked = a) (ha12 : a ≤ 12) (han : an.length < 40) :
    Calls Try.prog 101 #[.pointer (some ⟨s, 0, none⟩)] w (ARes w0 w s m r (absP r σ gl ch an) an a Lb Nb) := by
  have H : Hid (SS w0 w s m r tv n σ L tr gl ch an) := h
  have HPr : Hid (Prg w0 r.P) := hPr
  have HW : Hid (∀ c ∈ ch, c.gl ≠ [] ∧ c.k ≤ r.P.len) := hW
  have HF : Hid (Calls Try.prog 122 #[.pointer (some ⟨s, 0, none⟩)] w (FRes w0 w s m r tv n σ L tr gl ch an a)) := found_any a w h ha ha12
  have HFin : Hid (r.fin = 0) := hf
  clear h hPr hW ha
  go_enter Try.func101, Try.ntmps101
  go_wp2_with fail
  refine HF.out.mono ?_
  rintro e w1 (⟨hR, rfl, hS1, hz1⟩ | ⟨hR, A, rfl, hb1, hA, hAb, hE⟩)
  case inl =>
    have HS1 : Hid (SS w0 w1 s m { r with fin := 3 } tv n σ L tr gl ch an) := hS1
    have HE : Hid (answerP (cls r.P) a (absP r σ gl ch an) = absP { r with fin := 3 } σ gl ch an) := by
      rw [Hid]; unfold answerP
      rw [show (absP r σ gl ch an).σ = cs σ from rfl, roomN_cs, hR]; rfl
    have y1 : w1.cell? ⟨s, 1, none⟩ = some (.int .i64 3) := hS1.blk.get.2.1
    clear hS1 hR hf
    go_wp2_with fail
    go_end0
    exact ⟨{ r with fin := 3 }, tv, n, σ, σ, L, tr, gl, ch, an, rfl, HS1.out, HE.out, fun _ => rfl, ⟨rfl, rfl, rfl, rfl⟩, by show (0 : Int) ≤ 3; omega, hl.1, by show r.last + _ ≤ _; omega, by omega, hz1, by omega, fun h => absurd (show (3 : Int) = 0 from h) (by omega)⟩
  have HS1 : Hid (SS w0 w1 s m r tv n σ L tr gl ch an) := H.out.below hb1
  have HA1 : Hid (TIn w1 A ∧ NM (Mu s r.b m tv r.cv r.av) A) := ⟨hA, hAb.nm (fun k hk => (H.out.mu hk).2)⟩
  have HE : Hid (∀ av', answerP (cls r.P) a (absP r σ gl ch an) = if an.length + 1 = 40 then absP { r with av := av', fin := 1 } σ gl ch (an ++ [A]) else bk (cls r.P) (absP { r with av := av' } σ gl ch (an ++ [A]))) := fun av' => by
    obtain ⟨k, hk⟩ := hR
    unfold answerP
    rw [show (absP r σ gl ch an).σ = cs σ from rfl, roomN_cs, hk, found_cs, ← hE]
    simp only
    rw [show (absP r σ gl ch an).ans.length = an.length from by simp [absP]]
    unfold absP
    rw [List.map_append]
    rfl
  have hz1 : w.heap.size ≤ w1.heap.size := hb1.size
  have y1 : w1.cell? ⟨s, 1, none⟩ = some (.int .i64 0) := by have := HS1.out.blk.get.2.1; rwa [hf] at this
  have HBn : Hid (Below w1.heap.size w1 (w1.alloc (.cells #[.slice A.a A.len A.cap] 112))) := (Below.refl _ _).alloc (Nat.le_refl _) _
  have HS2 : Hid (SS w0 (w1.alloc (.cells #[.slice A.a A.len A.cap] 112)) s m r tv n σ L tr gl ch an) := HS1.out.below HBn.out
  have HA2 : Hid (TIn (w1.alloc (.cells #[.slice A.a A.len A.cap] 112)) A ∧ NM (Mu s r.b m tv r.cv r.av) A) := ⟨HA1.out.1.below HBn.out, HA1.out.2⟩
  have HNw : Hid (∀ j u, [slA A][j]? = some u → (w1.alloc (.cells #[.slice A.a A.len A.cap] 112)).cell? ((⟨w1.heap.size, 0, none⟩ : Addr).add j) = some u) := newsA w1 A
  obtain ⟨i0, hi0, hz0, hz1', hz2⟩ := info_parts Try.info112
  have hlo2 : w0.heap.size ≤ (w1.alloc (.cells #[.slice A.a A.len A.cap] 112)).heap.size := HS2.out.low.size
  have y0 : w1.cell? ⟨s, 0, none⟩ = some r.av := HS1.out.blk.get.1
  have z0 : (w1.alloc (.cells #[.slice A.a A.len A.cap] 112)).cell? ⟨s, 0, none⟩ = some r.av := HS2.out.blk.get.1
  have zf0 : (w1.alloc (.cells #[.slice A.a A.len A.cap] 112)).frozen? ⟨s, 0, none⟩ = false := HS2.out.blk.get.2.2.2.2.2.2.2.2.2.2 0
  have hsl2 := HS2.out.blk.lt
  rw [show slA A = .slice A.a A.len A.cap from rfl]
  clear hb1 hA hAb hE hR
  have z1 : (w1.alloc (.cells #[.slice A.a A.len A.cap] 112)).cell? ⟨s, 1, none⟩ = some (.int .i64 0) := by have := HS2.out.blk.get.2.1; rwa [hf] at this
  have zf1 : (w1.alloc (.cells #[.slice A.a A.len A.cap] 112)).frozen? ⟨s, 1, none⟩ = false := HS2.out.blk.get.2.2.2.2.2.2.2.2.2.2 1
  generalize hav : r.av = avv at *
  have HZs : Hid (w1.heap.size < (w1.alloc (.cells #[.slice A.a A.len A.cap] 112)).heap.size) := by rw [Hid]; simp
  by_cases hm : an.length + 1 = 40
  case pos =>
    have hmb : ((an.length : Int) + 1 == 40) = true := beq_iff_eq.2 (by omega)
    have HM : Hid (an.length + 1 = 40) := hm
    clear hm
    go_wp2_with (at_builtin; refine wpList_append_own_at _ rfl (.tmp 16) (.tmp 18) 42 rfl w0.heap.size 112 i0 (.slice none 0 0) 1 24 Try.underlying42 hi0 hz0 hz1' hz2 rfl (by decide) avv an.length (an.map slA) rfl (hav ▸ HS2.out.anr) ⟨w1.heap.size, 0, none⟩ 1 1 [slA A] rfl rfl HNw.out (by intro u hu; simp [slA] at hu; rw [hu]; rfl) (by unfold maxLen; omega) (by omega) hlo2 ?_; intro v' w8 hown' hgrow hnil hat; have hv' : ∃ g' cap', v' = .slice (some ⟨g', 0, none⟩) (an.length + 1) cap' := (by rcases hown'.2 with ⟨_, h0⟩ | ⟨g', cap', _, h, _⟩; (· omega); (· exact ⟨g', cap', h⟩)); obtain ⟨g', cap', rfl⟩ := hv'; have hst : w8.heap[s]? = (w1.alloc (.cells #[.slice A.a A.len A.cap] 112)).heap[s]? := hgrow.block s hsl2 (fun e => (HS2.out.dav s (hav ▸ e.symm)).1 rfl); have q0 : w8.cell? ⟨s, 0, none⟩ = some avv := (World.cell?_of_block hst).trans z0; have qf0 : w8.frozen? ⟨s, 0, none⟩ = false := (World.frozen?_of_block hst).trans zf0; have q1 : w8.cell? ⟨s, 1, none⟩ = some (.int .i64 0) := (World.cell?_of_block hst).trans z1; have qf1 : w8.frozen? ⟨s, 1, none⟩ = false := (World.frozen?_of_block hst).trans zf1)
    subst hav
    have HSF : Hid (SS w0 (w8.setCell ⟨s, 0, none⟩ (.slice (some ⟨g', 0, none⟩) (an.length + 1) cap')) s m { r with av := .slice (some ⟨g', 0, none⟩) (an.length + 1) cap' } tv n σ L tr gl ch (an ++ [A])) := HS2.out.ans hown' hgrow hat HA2.out
    have hszF : w.heap.size ≤ w8.heap.size := by have := hgrow.size; have := HZs.out; omega
    clear hown' hgrow hnil hat hst q0 qf0
    go_end0
    refine ⟨{ r with av := .slice (some ⟨g', 0, none⟩) (an.length + 1) cap', fin := 1 }, tv, n, σ, σ, L, tr, gl, ch, an ++ [A], rfl, HSF.out.put 1 _ rfl rfl rfl rfl HSF.out.gls, ?_, fun _ => rfl, ⟨rfl, rfl, rfl, rfl⟩, by show (0 : Int) ≤ 1; omega, hl.1, by show r.last + _ ≤ _; omega, by omega, by simpa [World.setCell] using hszF, by rw [List.length_append]; have := HM.out; simp; omega, fun h => absurd (show (1 : Int) = 0 from h) (by omega)⟩
    rw [HE.out (.slice (some ⟨g', 0, none⟩) (an.length + 1) cap'), if_pos HM.out]
  have hmb : ((an.length : Int) + 1 == 40) = false := beq_eq_false_iff_ne.2 (by omega)
  have HM : Hid (¬ an.length + 1 = 40) := hm
  clear hm
  go_wp2_with (at_builtin; refine wpList_append_own_at _ rfl (.tmp 16) (.tmp 18) 42 rfl w0.heap.size 112 i0 (.slice none 0 0) 1 24 Try.underlying42 hi0 hz0 hz1' hz2 rfl (by decide) avv an.length (an.map slA) rfl (hav ▸ HS2.out.anr) ⟨w1.heap.size, 0, none⟩ 1 1 [slA A] rfl rfl HNw.out (by intro u hu; simp [slA] at hu; rw [hu]; rfl) (by unfold maxLen; omega) (by omega) hlo2 ?_; intro v' w8 hown' hgrow hnil hat; have hv' : ∃ g' cap', v' = .slice (some ⟨g', 0, none⟩) (an.length + 1) cap' := (by rcases hown'.2 with ⟨_, h0⟩ | ⟨g', cap', _, h, _⟩; (· omega); (· exact ⟨g', cap', h⟩)); obtain ⟨g', cap', rfl⟩ := hv'; have hst : w8.heap[s]? = (w1.alloc (.cells #[.slice A.a A.len A.cap] 112)).heap[s]? := hgrow.block s hsl2 (fun e => (HS2.out.dav s (hav ▸ e.symm)).1 rfl); have q0 : w8.cell? ⟨s, 0, none⟩ = some avv := (World.cell?_of_block hst).trans z0; have qf0 : w8.frozen? ⟨s, 0, none⟩ = false := (World.frozen?_of_block hst).trans zf0; have q1 : w8.cell? ⟨s, 1, none⟩ = some (.int .i64 0) := (World.cell?_of_block hst).trans z1; have qf1 : w8.frozen? ⟨s, 1, none⟩ = false := (World.frozen?_of_block hst).trans zf1)
  subst hav
  have HSF : Hid (SS w0 (w8.setCell ⟨s, 0, none⟩ (.slice (some ⟨g', 0, none⟩) (an.length + 1) cap')) s m { r with av := .slice (some ⟨g', 0, none⟩) (an.length + 1) cap' } tv n σ L tr gl ch (an ++ [A])) := HS2.out.ans hown' hgrow hat HA2.out
  have hszF : w.heap.size ≤ (w8.setCell ⟨s, 0, none⟩ (.slice (some ⟨g', 0, none⟩) (an.length + 1) cap')).heap.size := by have := hgrow.size; have := HZs.out; simp [World.setCell]; omega
  have HBk : Hid (Calls Try.prog 123 #[.pointer (some ⟨s, 0, none⟩)] (w8.setCell ⟨s, 0, none⟩ (.slice (some ⟨g', 0, none⟩) (an.length + 1) cap')) (BRes w0 (w8.setCell ⟨s, 0, none⟩ (.slice (some ⟨g', 0, none⟩) (an.length + 1) cap')) s m { r with av := .slice (some ⟨g', 0, none⟩) (an.length + 1) cap' } (absP { r with av := .slice (some ⟨g', 0, none⟩) (an.length + 1) cap' } σ gl ch (an ++ [A])) (an ++ [A]) Lb Nb)) := sback_any (r := { r with av := .slice (some ⟨g', 0, none⟩) (an.length + 1) cap' }) Lb Nb _ HPr.out HSF.out HW.out hl (by omega) hn (by omega) (by show 0 ≤ r.fin; rw [HFin.out]; exact Int.le_refl _) (by omega)
  clear hown' hgrow hnil hat hst q0 qf0 q1 qf1
  refine HBk.out.mono ?_
  rintro e w9 ⟨r', tv', n', σ', σx, L', tr', gl', ch', rfl, hS9, hE9, hσ9, hQ9, hf9, hl9, hb9, hn9, hz9⟩
  have HR : Hid (ARes w0 w s m r (absP r σ gl ch an) an a Lb Nb (.returned (.tuple #[])) w9) := by
    refine ⟨r', tv', n', σ', σx, L', tr', gl', ch', an ++ [A], rfl, hS9, ?_, hσ9, hQ9, hf9, hl9, hb9, hn9, Nat.le_trans hszF hz9, by rw [List.length_append]; simp; omega, fun _ => ?_⟩
    · rw [HE.out (.slice (some ⟨g', 0, none⟩) (an.length + 1) cap'), if_neg HM.out]; exact hE9
    · have := HM.out
      rw [List.length_append]
      simp
      omega
  clear hS9 hE9 hσ9 hQ9 hf9 hl9 hb9 hn9 hz9
  go_wp2_with fail
  go_end0
  exact HR.out
end Go.Proofs.Ytmggaclaoefdaaa
