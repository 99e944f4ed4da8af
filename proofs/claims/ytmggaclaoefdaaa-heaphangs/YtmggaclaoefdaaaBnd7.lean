/- A term with all that its variables are: Whole, by closures. -/
import Derived.Test.YtmggaclaoefdaaaGAH
namespace Go.Proofs.Ytmggaclaoefdaaa
open Go.RowKit

/-- So deep at most it is, through and through. -/
def Fin (σ : Sg) : Nat → Tm → Prop
  | 0, _ => False
  | d + 1, T => ∀ i, i < (wha σ T).len → Fin σ d ((wha σ T).f i)
/-- The term, through and through. -/
def ex (σ : Sg) : Nat → Tm → Tm
  | 0, _ => .nil
  | d + 1, T => if (wha σ T).v = 0 then .mk 0 (wha σ T).nm none (wha σ T).len 0 (fun i => ex σ d ((wha σ T).f i)) else .mk (wha σ T).v ⟨#[]⟩ none 0 0 (fun _ => .nil)
theorem Fin.mono {σ : Sg} : ∀ {d : Nat} {T : Tm}, Fin σ d T → Fin σ (d + 1) T := by
  intro d
  induction d with
  | zero => intro T h; exact False.elim h
  | succ d ih => intro T h i hi; exact ih (h i hi)
theorem room_fin {σ : Sg} : ∀ (n : Nat) (ts : List Tm) (k : Nat), roomF σ n ts = some k → ∀ t ∈ ts, Fin σ n t := by
  intro n
  induction n with
  | zero =>
    intro ts k h t ht
    cases ts with
    | nil => simp at ht
    | cons x r => simp [roomF] at h
  | succ n ih =>
    intro ts k h t ht
    cases ts with
    | nil => simp at ht
    | cons x r =>
      have h : roomF σ n (kidsL (wha σ x) ++ r) = some k := h
      have h2 := ih _ _ h
      rcases List.mem_cons.1 ht with rfl | ht
      · intro i hi
        exact h2 _ (List.mem_append.2 (.inl (by simp [kidsL]; exact ⟨i, hi, rfl⟩)))
      · exact (h2 t (List.mem_append.2 (.inr ht))).mono
theorem ex_bound {σ : Sg} (hd : Dec σ) {T U : Tm} (h0 : 0 ≤ T.v) (hv : T.v ≠ 0) (h : σ T.v = some U) (d : Nat) : ex σ d T = ex σ d U ∧ (Fin σ d T → Fin σ d U) := by
  cases d with
  | zero => exact ⟨rfl, fun h => h⟩
  | succ d =>
    have e := wha_some hd h0 hv h
    refine ⟨by rw [ex, ex, e], fun hF i hi => ?_⟩
    have := hF i (by rw [e]; exact hi)
    rwa [e] at this

set_option maxRecDepth 100000 in
theorem number_any (n : Int) (w : World) : Calls Try.prog 98 #[.int .i64 n] w fun e w' => e = .returned (.int .i64 n) ∧ w' = w := by
  go_enter Try.func98, Try.ntmps98
  go_wp2_with fail
  go_ret
  exact ⟨rfl, rfl⟩

def EP (σ : Sg) (d : Nat) (T : Tm) (w : World) (e : Ending) (w' : World) : Prop := ∃ X : Tm, e = .returned X.val ∧ Below w.heap.size w w' ∧ TIn w' X ∧ Above w.heap.size X ∧ Sim X (ex σ d T)
def EC (σ : Sg) (d : Nat) (T : Tm) : Prop := ∀ (w : World) (b m : Nat) (tv : Value) (N : Int) (lo nn : Nat) (L : Int) (pv pn : Nat), VS w b m tv N lo nn σ L → w.heap[pv]? = some (.cells #[.pointer (some ⟨b, 0, none⟩)] 89) → w.heap[pn]? = some (.cells #[.func (.func 98) #[] #[]] 116) → Okv N T → TIn w T → Fin σ d T →
    Calls Try.prog 120 #[T.val, .func (.func 121) #[] #[.pointer (some ⟨pv, 0, none⟩), .pointer (some ⟨pn, 0, none⟩)]] w (EP σ d T w)
def WC (σ : Sg) (d : Nat) (T : Tm) : Prop := ∀ (w : World) (b m : Nat) (tv : Value) (N : Int) (lo nn : Nat) (L : Int), VS w b m tv N lo nn σ L → Okv N T → TIn w T → Fin σ d T →
    Calls Try.prog 97 #[.pointer (some ⟨b, 0, none⟩), T.val, .func (.func 98) #[] #[]] w (EP σ d T w)
theorem fin3w {w W : World} {r : Nat} {x y z : Value} {X : Tm} (hr : w.heap.size ≤ r) (hX : W.heap[r]? = some (.cells #[x, y, z] 24)) (hB : Below w.heap.size w W) (hT : TIn W X) (hN : NB r X) :
    ∃ W', ((W.setCell ⟨r, 0, none⟩ (.int .i64 X.v)).setCell ⟨r, 1, none⟩ (.string X.nm)).setCell ⟨r, 2, none⟩ (.slice X.a X.len X.cap) = W' ∧ W'.cell? ⟨r, 0, none⟩ = some (.int .i64 X.v) ∧ W'.cell? ⟨r, 1, none⟩ = some (.string X.nm) ∧ W'.cell? ⟨r, 2, none⟩ = some (.slice X.a X.len X.cap) ∧ Below w.heap.size w W' ∧ TIn W' X := by
  obtain ⟨W', h1, h2, h3, h4, h5, h6⟩ := fin3n hr hX hB (.int .i64 X.v) (.string X.nm) (.slice X.a X.len X.cap)
  exact ⟨W', h1, h2, h3, h4, h5, hT.grown h6 (fun k hk => by obtain rfl := Option.some.inj hk; exact hN)⟩

theorem alloc4 (w : World) (o0 o1 o2 o3 : Obj) : ((((w.alloc o0).alloc o1).alloc o2).alloc o3).heap[w.heap.size]? = some o0 ∧ ((((w.alloc o0).alloc o1).alloc o2).alloc o3).heap[w.heap.size + 2]? = some o2 ∧ ((((w.alloc o0).alloc o1).alloc o2).alloc o3).heap[w.heap.size + 3]? = some o3 ∧ Below w.heap.size w ((((w.alloc o0).alloc o1).alloc o2).alloc o3) := by
  have s1 : (w.alloc o0).heap.size = w.heap.size + 1 := by simp
  have s2 : ((w.alloc o0).alloc o1).heap.size = w.heap.size + 2 := by simp
  have s3 : (((w.alloc o0).alloc o1).alloc o2).heap.size = w.heap.size + 3 := by simp
  refine ⟨?_, ?_, ?_, (((((Below.refl _ _).alloc (Nat.le_refl _) _).alloc (by omega) _).alloc (by omega) _).alloc (by omega) _)⟩
  · rw [heapOld _ _ (by omega), heapOld _ _ (by omega), heapOld _ _ (by omega)]; exact heap_alloc_new w _
  · rw [heapOld _ _ (by omega), ← s2]; exact heap_alloc_new _ _
  · rw [← s3]; exact heap_alloc_new _ _

set_option maxRecDepth 100000 in
set_option maxHeartbeats 2000000 in
theorem whole_of {σ : Sg} {d : Nat} {T : Tm} (hE : EC σ d T) : WC σ d T := by
  intro w b m tv N lo nn L hS hO hT hF
  have hmf : ∀ (fn : Fn) (first cap : Array Value) (w : World), (Instr.makeFunc fn first cap).run Try.prog w = .ok (.func fn first cap) w := fun _ _ _ _ => rfl
  have HC : Hid (∀ W, Below w.heap.size w W → W.heap[w.heap.size]? = some (.cells #[.pointer (some ⟨b, 0, none⟩)] 89) → W.heap[w.heap.size + 2]? = some (.cells #[.func (.func 98) #[] #[]] 116) → Calls Try.prog 120 #[.agg #[.int .i64 T.v, .string T.nm, .slice T.a T.len T.cap], .func (.func 121) #[] #[.pointer (some ⟨w.heap.size, 0, none⟩), .pointer (some ⟨w.heap.size + 2, 0, none⟩)]] W (EP σ d T W)) := fun W hW h1 h2 =>
    hE W b m tv N lo nn L _ _ (hS.below hW) h1 h2 hO (hT.below hW) hF
  clear hS hO hT hF hE
  show Calls Try.prog 97 #[.pointer (some ⟨b, 0, none⟩), .agg #[.int .i64 T.v, .string T.nm, .slice T.a T.len T.cap], .func (.func 98) #[] #[]] w _
  go_enter Try.func97, Try.ntmps97
  go_wp2_with fail
  obtain ⟨a0, a2, a3, aB⟩ := alloc4 w (.cells #[.pointer (some ⟨b, 0, none⟩)] 89) (.cells #[.int .i64 T.v, .string T.nm, .slice T.a T.len T.cap] 24) (.cells #[.func (.func 98) #[] #[]] 116) (.cells #[.int .i64 0, .string ⟨#[]⟩, .slice none 0 0] 24)
  refine (HC.out _ aB a0 a2).mono ?_
  rintro e w1 ⟨X, rfl, hb1, hX1, hA1, hS1⟩
  have HX3 : Hid (w1.heap[w.heap.size + 3]? = some (.cells #[.int .i64 0, .string ⟨#[]⟩, .slice none 0 0] 24)) := (hb1.block _ (Array.getElem?_eq_some_iff.1 a3).1).trans a3
  have HB1 : Hid (Below w.heap.size w w1) := aB.trans (hb1.mono aB.size)
  have HX : Hid (TIn w1 X ∧ NB (w.heap.size + 3) X ∧ Above w.heap.size X ∧ Sim X (ex σ d T)) := ⟨hX1, hA1.nb (Array.getElem?_eq_some_iff.1 a3).1, hA1.mono aB.size, hS1⟩
  clear hb1 hX1 hA1 hS1 a0 a2 a3 aB
  obtain ⟨x0, x1, x2, f0, f1, f2⟩ := block_cells HX3.out
  rw [show X.val = .agg #[.int .i64 X.v, .string X.nm, .slice X.a X.len X.cap] from rfl]
  go_wp2_with fail
  obtain ⟨W', hW, z0, z1, z2, hB', hT'⟩ := fin3w (r := w.heap.size + 3) (by omega) HX3.out HB1.out HX.out.1 HX.out.2.1
  rw [hW]
  refine bodyPost_ret (v := X.val) ?_ rfl ⟨X, rfl, hB', hT', HX.out.2.2.1, HX.out.2.2.2⟩
  simp [results, Try.results97, go_sem, z0, z1, z2, Tm.val]

set_option maxRecDepth 100000 in
set_option maxHeartbeats 2000000 in
/-- A variable, by the closure. -/
theorem each_var {σ : Sg} {d : Nat} {T : Tm} (hv : T.v ≠ 0) (hW : ∀ U, σ T.v = some U → WC σ (d + 1) U) : EC σ (d + 1) T := by
  intro w b m tv N lo nn L pv pn hS h1 h2 hO hT hF
  have HS : Hid (VS w b m tv N lo nn σ L) := hS
  have HF : Hid (Fin σ (d + 1) T) := hF
  have o0 := hO.top.1
  have o1 := hO.top.2.1
  have hN := hS.big
  have hpv : pv < w.heap.size := (Array.getElem?_eq_some_iff.1 h1).1
  have hpn : pn < w.heap.size := (Array.getElem?_eq_some_iff.1 h2).1
  have HP : Hid (w.heap[pv]? = some (.cells #[.pointer (some ⟨b, 0, none⟩)] 89) ∧ w.heap[pn]? = some (.cells #[.func (.func 98) #[] #[]] 116)) := ⟨h1, h2⟩
  -- the closure
  have HC : Hid (∀ W, Below w.heap.size w W → Calls Try.prog 121 #[.int .i64 T.v, .pointer (some ⟨pv, 0, none⟩), .pointer (some ⟨pn, 0, none⟩)] W (EP σ (d + 1) T W)) := by
    intro W hBW
    have hSW := hS.below hBW
    have HSW : Hid (VS W b m tv N lo nn σ L) := hSW
    have p0 : W.cell? ⟨pv, 0, none⟩ = some (.pointer (some ⟨b, 0, none⟩)) := by have := (hBW.block pv hpv).trans h1; simp [World.cell?, this]
    have p1 : W.cell? ⟨pn, 0, none⟩ = some (.func (.func 98) #[] #[]) := by have := (hBW.block pn hpn).trans h2; simp [World.cell?, this]
    obtain ⟨v0, _, _, _, _, _⟩ := block_cells hSW.blk
    obtain ⟨o, ho, hMW⟩ := hSW.map.looks
    have hm : m < W.heap.size := hSW.map.lt
    have hbW := hSW.lt
    have hpvW : pv < W.heap.size := Nat.lt_of_lt_of_le hpv hBW.size
    have hpnW : pn < W.heap.size := Nat.lt_of_lt_of_le hpn hBW.size
    have HZ : Hid ((W.alloc (.cells #[.int .i64 0, .string ⟨#[]⟩, .slice none 0 0] 24)).heap[W.heap.size]? = some (.cells #[.int .i64 0, .string ⟨#[]⟩, .slice none 0 0] 24)) := heap_alloc_new W _
    have HBZ : Hid (Below W.heap.size W (W.alloc (.cells #[.int .i64 0, .string ⟨#[]⟩, .slice none 0 0] 24))) := (Below.refl _ _).alloc (Nat.le_refl _) _
    clear hSW hBW
    have q0 : (W.alloc (.cells #[.int .i64 0, .string ⟨#[]⟩, .slice none 0 0] 24)).cell? ⟨pv, 0, none⟩ = some (.pointer (some ⟨b, 0, none⟩)) := (HBZ.out.cell (p := ⟨pv, 0, none⟩) hpvW).trans p0
    have q1 : (W.alloc (.cells #[.int .i64 0, .string ⟨#[]⟩, .slice none 0 0] 24)).cell? ⟨b, 0, none⟩ = some (.map (some m)) := (HBZ.out.cell (p := ⟨b, 0, none⟩) hbW).trans v0
    have hoz : (W.alloc (.cells #[.int .i64 0, .string ⟨#[]⟩, .slice none 0 0] 24)).heap[m]? = some o := (HBZ.out.block m hm).trans ho
    cases hs : σ T.v with
    | none =>
      have hl := ((hMW _ hoz).look o0 (Int.le_trans o1 hN)).2 hs
      have HX : Hid (ex σ (d + 1) T = .mk T.v ⟨#[]⟩ none 0 0 (fun _ => .nil)) := by rw [Hid, ex, wha_none hs, if_neg hv]
      clear hs hMW
      go_enter Try.func121, Try.ntmps121
      go_wp2_with fail
      refine (number_any _ _).mono ?_
      rintro e w1 ⟨rfl, rfl⟩
      go_wp2_with fail
      refine bodyPost_ret (v := Tm.val (.mk T.v ⟨#[]⟩ none 0 0 (fun _ => .nil))) ?_ rfl ⟨.mk T.v ⟨#[]⟩ none 0 0 (fun _ => .nil), rfl, ((Below.refl _ _).alloc (Nat.le_refl _) _).alloc (by simp) _, ⟨Nat.zero_le _, Nat.zero_le _, fun i hi => absurd hi (Nat.not_lt_zero i)⟩, ⟨fun h => absurd h (Nat.lt_irrefl 0), fun i hi => absurd hi (Nat.not_lt_zero i)⟩, by rw [HX.out]; exact ⟨rfl, rfl, rfl, fun i hi => absurd hi (Nat.not_lt_zero i)⟩⟩
      simp [results, Try.results121, go_sem, Tm.val, Tm.v, Tm.nm, Tm.a, Tm.len, Tm.cap]
    | some U =>
      have hl := ((hMW _ hoz).look o0 (Int.le_trans o1 hN)).1 U hs
      obtain ⟨hTU, hOU, _⟩ := HSW.out.trm _ _ hs
      obtain ⟨hex, hfin⟩ := ex_bound HSW.out.dec o0 hv hs (d + 1)
      have HX : Hid (ex σ (d + 1) T = ex σ (d + 1) U) := hex
      have HCU : Hid (∀ W', Below W.heap.size W W' → Calls Try.prog 97 #[.pointer (some ⟨b, 0, none⟩), .agg #[.int .i64 U.v, .string U.nm, .slice U.a U.len U.cap], .func (.func 98) #[] #[]] W' (EP σ (d + 1) U W')) := fun W' hW' => hW U hs W' b m tv N lo nn L (HSW.out.below hW') hOU (hTU.below hW') (hfin hF)
      have r0 : ((W.alloc (.cells #[.int .i64 0, .string ⟨#[]⟩, .slice none 0 0] 24)).alloc (.cells #[.int .i64 U.v, .string U.nm, .slice U.a U.len U.cap] 24)).cell? ⟨pv, 0, none⟩ = some (.pointer (some ⟨b, 0, none⟩)) := (((Below.refl _ _).alloc (Nat.le_refl _) _).cell (B := (W.alloc (.cells #[.int .i64 0, .string ⟨#[]⟩, .slice none 0 0] 24)).heap.size) (p := ⟨pv, 0, none⟩) (by simp; omega)).trans q0
      have r1 : ((W.alloc (.cells #[.int .i64 0, .string ⟨#[]⟩, .slice none 0 0] 24)).alloc (.cells #[.int .i64 U.v, .string U.nm, .slice U.a U.len U.cap] 24)).cell? ⟨pn, 0, none⟩ = some (.func (.func 98) #[] #[]) := (((Below.refl _ _).alloc (Nat.le_refl _) _).cell (B := (W.alloc (.cells #[.int .i64 0, .string ⟨#[]⟩, .slice none 0 0] 24)).heap.size) (p := ⟨pn, 0, none⟩) (by simp; omega)).trans ((HBZ.out.cell (p := ⟨pn, 0, none⟩) hpnW).trans p1)
      clear hs hMW hTU hOU hex hfin
      go_enter Try.func121, Try.ntmps121
      go_wp2_with fail
      refine (HCU.out _ (((Below.refl _ _).alloc (Nat.le_refl _) _).alloc (by simp) _)).mono ?_
      rintro e w1 ⟨X, rfl, hb1, hX1, hA1, hS1⟩
      have HBA : Hid (Below W.heap.size W ((W.alloc (.cells #[.int .i64 0, .string ⟨#[]⟩, .slice none 0 0] 24)).alloc (.cells #[.int .i64 U.v, .string U.nm, .slice U.a U.len U.cap] 24))) := ((Below.refl _ _).alloc (Nat.le_refl _) _).alloc (by simp) _
      have hsz : W.heap.size < ((W.alloc (.cells #[.int .i64 0, .string ⟨#[]⟩, .slice none 0 0] 24)).alloc (.cells #[.int .i64 U.v, .string U.nm, .slice U.a U.len U.cap] 24)).heap.size := by simp; omega
      have HX3 : Hid (w1.heap[W.heap.size]? = some (.cells #[.int .i64 0, .string ⟨#[]⟩, .slice none 0 0] 24)) := by
        refine (hb1.block _ hsz).trans ?_
        rw [heapOld _ _ (by simp)]; exact HZ.out
      have HB1 : Hid (Below W.heap.size W w1) := HBA.out.trans (hb1.mono HBA.out.size)
      have HXX : Hid (TIn w1 X ∧ NB W.heap.size X ∧ Above W.heap.size X ∧ Sim X (ex σ (d + 1) T)) := ⟨hX1, hA1.nb hsz, hA1.mono HBA.out.size, by rw [HX.out]; exact hS1⟩
      clear hb1 hX1 hA1 hS1 hl q0 q1 p0 p1 r0 r1
      obtain ⟨x0, x1, x2, f0, f1, f2⟩ := block_cells HX3.out
      rw [show X.val = .agg #[.int .i64 X.v, .string X.nm, .slice X.a X.len X.cap] from rfl]
      go_wp2_with fail
      obtain ⟨W', hW', z0, z1, z2, hB', hT'⟩ := fin3w (r := W.heap.size) (Nat.le_refl _) HX3.out HB1.out HXX.out.1 HXX.out.2.1
      rw [hW']
      refine bodyPost_ret (v := X.val) ?_ rfl ⟨X, rfl, hB', hT', HXX.out.2.2.1, HXX.out.2.2.2⟩
      simp [results, Try.results121, go_sem, z0, z1, z2, Tm.val]
  have hvb : (T.v != 0) = true := bne_iff_ne.2 hv
  clear hS hF hO hT hW h1 h2 HP hpv hpn
  show Calls Try.prog 120 #[.agg #[.int .i64 T.v, .string T.nm, .slice T.a T.len T.cap], .func (.func 121) #[] #[.pointer (some ⟨pv, 0, none⟩), .pointer (some ⟨pn, 0, none⟩)]] w _
  go_enter Try.func120, Try.ntmps120
  go_wp2_with fail
  refine (HC.out _ (((Below.refl _ _).alloc (Nat.le_refl _) _).alloc (by simp) _)).mono ?_
  rintro e w1 ⟨X, rfl, hb1, hX1, hA1, hS1⟩
  have HBA : Hid (Below w.heap.size w ((w.alloc (.cells #[.int .i64 T.v, .string T.nm, .slice T.a T.len T.cap] 24)).alloc (.cells #[.int .i64 0, .string ⟨#[]⟩, .slice none 0 0] 24))) := ((Below.refl _ _).alloc (Nat.le_refl _) _).alloc (by simp) _
  have hsz : w.heap.size + 1 < ((w.alloc (.cells #[.int .i64 T.v, .string T.nm, .slice T.a T.len T.cap] 24)).alloc (.cells #[.int .i64 0, .string ⟨#[]⟩, .slice none 0 0] 24)).heap.size := by simp
  have HX3 : Hid (w1.heap[w.heap.size + 1]? = some (.cells #[.int .i64 0, .string ⟨#[]⟩, .slice none 0 0] 24)) := by
    refine (hb1.block _ hsz).trans ?_
    have := heap_alloc_new (w.alloc (.cells #[.int .i64 T.v, .string T.nm, .slice T.a T.len T.cap] 24)) (.cells #[.int .i64 0, .string ⟨#[]⟩, .slice none 0 0] 24)
    rwa [show (w.alloc (.cells #[.int .i64 T.v, .string T.nm, .slice T.a T.len T.cap] 24)).heap.size = w.heap.size + 1 from by simp] at this
  have HB1 : Hid (Below w.heap.size w w1) := HBA.out.trans (hb1.mono HBA.out.size)
  have HXX : Hid (TIn w1 X ∧ NB (w.heap.size + 1) X ∧ Above w.heap.size X ∧ Sim X (ex σ (d + 1) T)) := ⟨hX1, hA1.nb hsz, hA1.mono HBA.out.size, hS1⟩
  clear hb1 hX1 hA1 hS1
  obtain ⟨x0, x1, x2, f0, f1, f2⟩ := block_cells HX3.out
  rw [show X.val = .agg #[.int .i64 X.v, .string X.nm, .slice X.a X.len X.cap] from rfl]
  go_wp2_with fail
  obtain ⟨W', hW', z0, z1, z2, hB', hT'⟩ := fin3w (r := w.heap.size + 1) (by omega) HX3.out HB1.out HXX.out.1 HXX.out.2.1
  rw [hW']
  refine bodyPost_ret (v := X.val) ?_ rfl ⟨X, rfl, hB', hT', HXX.out.2.2.1, HXX.out.2.2.2⟩
  simp [results, Try.results120, go_sem, z0, z1, z2, Tm.val]
end Go.Proofs.Ytmggaclaoefdaaa
