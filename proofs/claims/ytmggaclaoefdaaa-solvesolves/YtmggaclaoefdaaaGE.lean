/- New, Over, Work, Room. A term with all that its variables are: Whole, by closures. Each of a name with arguments. -/
import Derived.Test.YtmggaclaoefdaaaGD
import Derived.Deep.RegionLaw
namespace Go.Proofs.Ytmggaclaoefdaaa
open Go.RowKit

set_option maxRecDepth 100000 in
set_option maxHeartbeats 1000000 in
theorem new_any (w : World) (N : Int) (hN : N ≤ 1000000) :
    Calls Try.prog 60 #[] w fun e w' => ∃ b m, e = .returned (.pointer (some ⟨b, 0, none⟩)) ∧ VS w' b m (.slice none 0 0) N w.heap.size 0 (fun _ => none) (4000 : Nat) ∧ Below w.heap.size w w' := by
  have hmm := @run_makeMap Try.prog
  go_enter Try.func60, Try.ntmps60
  go_wp2_with fail
  go_ret
  refine ⟨w.heap.size + 1, w.heap.size, by simp, ⟨?_, ?_, ⟨[], World.ownsRow_nil _ _ _ _, Nat.zero_le _⟩, by omega, fun g hg => by simp [Value.ownBlock] at hg, by omega, fun v T h => by simp at h, fun v T h => by simp at h, hN⟩, ((Below.refl _ _).alloc (Nat.le_refl _) _).alloc (by simp) _⟩
  · have := heap_alloc_new (w.alloc (.map #[] 0)) (.cells #[.map (some w.heap.size), .slice none 0 0, .int .i64 4000] 142)
    rwa [show (w.alloc (.map #[] 0)).heap.size = w.heap.size + 1 from by simp] at this
  · have h1 : MapIs (w.alloc (.map #[] 0)) w.heap.size 0 (fun _ => none) := ⟨.map [], World.ownsMap_made w _ _ _, Maps.isMap_empty, fun i _ _ => ⟨rfl, fun T h => by simp at h⟩⟩
    exact h1.kept (World.grownBy_alloc _ _ none) (by simp)

set_option maxRecDepth 100000 in
theorem over_any {b m : Nat} {tv : Value} {N : Int} {lo n : Nat} {σ : Sg} {L : Int} (w : World) (hS : VS w b m tv N lo n σ L) :
    Calls Try.prog 62 #[.pointer (some ⟨b, 0, none⟩)] w fun e w' => e = .returned (.bool (decide (L < 0))) ∧ w' = w := by
  obtain ⟨v0, v1, v2, k0, k1, k2⟩ := block_cells hS.blk
  clear hS
  go_enter Try.func62, Try.ntmps62
  go_wp2_with fail
  go_ret
  exact ⟨rfl, rfl⟩

set_option maxRecDepth 100000 in
theorem work_any {b m : Nat} {tv : Value} {N : Int} {lo n : Nat} {σ : Sg} {L : Nat} (w : World) (hS : VS w b m tv N lo n σ L) (hL : L ≤ 4000) :
    Calls Try.prog 63 #[.pointer (some ⟨b, 0, none⟩)] w fun e w' => e = .returned (.int .i64 (4000 - L : Int)) ∧ w' = w := by
  obtain ⟨v0, v1, v2, k0, k1, k2⟩ := block_cells hS.blk
  clear hS
  go_enter Try.func63, Try.ntmps63
  go_wp2_with fail
  go_ret
  exact ⟨rfl, rfl⟩

/-- How much room is left behind all parts of terms; none: there are more. -/
def roomF (σ : Sg) : Nat → List Tm → Option Nat
  | n, [] => some n
  | 0, _ :: _ => none
  | n + 1, t :: ts => roomF σ n (kidsL (wha σ t) ++ ts)
theorem roomF_nil (σ : Sg) (n : Nat) : roomF σ n [] = some n := by cases n <;> rfl
theorem field2 (x y z : Value) (w : World) : (Instr.field 24 (.agg #[x, y, z]) 2).run Try.prog w = .ok z w := by kernel_rfl
def RMP (σ : Sg) (n : Nat) (T : Tm) (r : Int) : Prop := (∃ k : Nat, r = k ∧ k ≤ n ∧ ∀ ts, roomF σ n (kidsL T ++ ts) = roomF σ k ts) ∨ (r = -1 ∧ ∀ ts, roomF σ n (kidsL T ++ ts) = none)
def RM (n : Nat) : Prop := ∀ (b m : Nat) (tv : Value) (N : Int) (lo nn : Nat) (σ : Sg) (L : Int) (T : Tm) (w : World), VS w b m tv N lo nn σ L → n ≤ 200 → TIn w T → (∀ i, i < T.len → Okv N (T.f i)) →
    Calls Try.prog 96 #[.pointer (some ⟨b, 0, none⟩), .int .i64 n, .slice T.a T.len T.cap] w fun e w' => ∃ r : Int, e = .returned (.int .i64 r) ∧ Below w.heap.size w w' ∧ RMP σ n T r

set_option maxRecDepth 100000 in
set_option maxHeartbeats 4000000 in
theorem room_step (n : Nat) (hall : ∀ k, k < n → RM k) : RM n := by
  intro b m tv N lo nn σ L T w hS hn hT hO
  have HAll : Hid (∀ k, k < n → RM k) := hall
  have HS : Hid (VS w b m tv N lo nn σ L) := hS
  have HT : Hid (TIn w T) := hT
  have HO : Hid (∀ i, i < T.len → Okv N (T.f i)) := hO
  have hlen : T.len ≤ 2 ^ 63 - 1 := hT.len
  have HKid : Hid (∀ i, i < T.len → ∀ W, Below w.heap.size w W → RowAt W T.a i (T.f i) ∧ TIn W (T.f i)) := fun i hi W hW => ⟨(hT.row hi).below hW, (hT.kid hi).below hW⟩
  clear hall hS hT hO
  generalize hua : T.a = ua at *
  go_enter Try.func96, Try.ntmps96
  go_wp2_with fail
  go_loopw [1, 11] (fun a i wr => ∃ j k : Nat, j ≤ T.len ∧ i = .int .i64 j ∧ a = .int .i64 k ∧ k ≤ n ∧ Below w.heap.size w wr ∧ ∀ ts, roomF σ n (kidsL T ++ ts) = roomF σ k ((kidsL T).drop j ++ ts)) (fun _ i _ => T.len - (intOf i).toNat)
  case atStart => exact ⟨0, n, Nat.zero_le _, rfl, rfl, Nat.le_refl _, Below.refl _ _, fun _ => rfl⟩
  case round =>
    obtain ⟨j, k, hj, rfl, rfl, hk, hB, hR⟩ := hrel
    have HB : Hid (Below w.heap.size w wr) := hB
    have HR : Hid (∀ ts, roomF σ n (kidsL T ++ ts) = roomF σ k ((kidsL T).drop j ++ ts)) := hR
    clear hB hR
    by_cases hlt : j < T.len
    case neg =>
      have hje : j = T.len := by omega
      have HQ : Hid (∀ ts, roomF σ n (kidsL T ++ ts) = roomF σ k ts) := fun ts => by rw [HR.out ts, hje, kidsL_end]; rfl
      clear hje
      go_wp2_with fail
      go_ret
      exact ⟨k, rfl, HB.out, .inl ⟨k, rfl, hk, HQ.out⟩⟩
    obtain ⟨hr, hTj⟩ := HKid.out j hlt wr HB.out
    have HTj : Hid (TIn wr (T.f j)) := hTj
    have HRj : Hid (∀ ts, roomF σ n (kidsL T ++ ts) = roomF σ k (T.f j :: ((kidsL T).drop (j + 1) ++ ts))) := fun ts => by rw [HR.out ts, kidsL_drop hlt]; rfl
    obtain ⟨bb, o, ha, c0, c1, c2⟩ := hr
    clear hTj
    subst ha
    by_cases hk0 : k = 0
    · subst hk0
      have HQ : Hid (∀ ts, roomF σ n (kidsL T ++ ts) = none) := fun ts => by rw [HRj.out ts]; rfl
      go_wp2_with fail
      go_ret
      exact ⟨-1, rfl, HB.out.alloc HB.out.size _, .inr ⟨rfl, HQ.out⟩⟩
    have hkb : ((k : Int) == 0) = false := beq_eq_false_iff_ne.2 (by omega)
    have hSw : ∀ W, Below wr.heap.size wr W → VS W b m tv N lo nn σ L := fun W hW => (HS.out.below HB.out).below hW
    have HSw : Hid (∀ W, Below wr.heap.size wr W → VS W b m tv N lo nn σ L) := hSw
    clear hSw
    go_wp2_with fail
    refine (what_any (T.f j) _ (HSw.out _ ((Below.refl _ _).alloc (Nat.le_refl _) _)) (HO.out j hlt)).mono ?_
    rintro e w5 ⟨rfl, hb5, hO5⟩
    have HB5 : Hid (Below wr.heap.size wr w5) := ((Below.refl _ _).alloc (Nat.le_refl _) _).trans (hb5.mono (by simp))
    have HRu : Hid (∀ ts, roomF σ n (kidsL T ++ ts) = roomF σ (k - 1) (kidsL (wha σ (T.f j)) ++ ((kidsL T).drop (j + 1) ++ ts))) := fun ts => by
      rw [HRj.out ts]
      obtain ⟨q, rfl⟩ : ∃ q, k = q + 1 := ⟨k - 1, by omega⟩
      rfl
    have HU : Hid (TIn w5 (wha σ (T.f j))) := by
      rcases wh_from σ ((T.f j).v.toNat + 1) (T.f j) with h | ⟨v, h⟩
      · rw [Hid]; unfold wha; rw [h]; exact HTj.out.below HB5.out
      · exact ((HSw.out _ HB5.out).trm v _ h).1
    have HOu : Hid (Okv N (wha σ (T.f j))) := hO5
    clear hb5 hO5
    generalize wha σ (T.f j) = U at *
    rw [show U.val = .agg #[.int .i64 U.v, .string U.nm, .slice U.a U.len U.cap] from rfl]
    have HC : Hid (Calls Try.prog 96 #[.pointer (some ⟨b, 0, none⟩), .int .i64 ((k : Int) - 1), .slice U.a U.len U.cap] w5 fun e w' => ∃ r : Int, e = .returned (.int .i64 r) ∧ Below w5.heap.size w5 w' ∧ RMP σ (k - 1) U r) := by
      have := HAll.out (k - 1) (by omega) b m tv N lo nn σ L U w5 (HSw.out _ HB5.out) (by omega) HU.out (fun i hi => HOu.out.kid hi)
      rwa [show ((k - 1 : Nat) : Int) = (k : Int) - 1 from by omega] at this
    have hfd := field2 (.int .i64 U.v) (.string U.nm) (.slice U.a U.len U.cap)
    go_wp2_with fail
    refine HC.out.mono ?_
    rintro e w6 ⟨r, rfl, hb6, hP⟩
    have HB6 : Hid (Below w.heap.size w w6) := HB.out.trans ((HB5.out.trans (hb6.mono HB5.out.size)).mono HB.out.size)
    clear hb6
    rcases hP with ⟨q, rfl, hq, hw⟩ | ⟨rfl, hw⟩
    · have HQ : Hid (∀ ts, roomF σ n (kidsL T ++ ts) = roomF σ q ((kidsL T).drop (j + 1) ++ ts)) := fun ts => by rw [HRu.out ts, hw]
      have hqb : decide ((q : Int) < 0) = false := decide_eq_false (by omega)
      clear hw
      go_wp2_with fail
      go_roundw
      case rel => exact ⟨j + 1, q, by omega, by go_num, rfl, by omega, HB6.out, HQ.out⟩
      case measure => simp [intOf]; omega
    · have HQ : Hid (∀ ts, roomF σ n (kidsL T ++ ts) = none) := fun ts => by rw [HRu.out ts, hw]
      clear hw
      go_wp2_with fail
      go_ret
      exact ⟨-1, rfl, HB6.out, .inr ⟨rfl, HQ.out⟩⟩
theorem room_all : ∀ n, RM n := by
  intro n
  induction n using Nat.strongRecOn with
  | _ n ih => exact room_step n ih
end Go.Proofs.Ytmggaclaoefdaaa

namespace Go.Proofs.Ytmggaclaoefdaaa
open Go.RowKit

/-- So deep at most it is, through and through. -/
def Fin (σ : Sg) : Nat → Tm → Prop
  | 0, _ => False
  | d + 1, T => ∀ i, i < (wha σ T).len → Fin σ d ((wha σ T).f i)
/-- The term, through and through. -/
def ex (σ : Sg) : Nat → Tm → Tm
  | 0, _ => .nil
  | d + 1, T => if (wha σ T).v = 0 then .mk 0 (wha σ T).nm none (wha σ T).len 0 (fun i => ex σ d ((wha σ T).f i)) else .mk (wha σ T).v ⟨#[]⟩ none 0 0 (fun _ => .nil)
theorem Fin.mono {σ : Sg} : ∀ {d : Nat} {T : Tm}, Fin σ d T → Fin σ (d + 1) T := by
  intro d
  induction d with
  | zero => intro T h; exact False.elim h
  | succ d ih => intro T h i hi; exact ih (h i hi)
theorem room_fin {σ : Sg} : ∀ (n : Nat) (ts : List Tm) (k : Nat), roomF σ n ts = some k → ∀ t ∈ ts, Fin σ n t := by
  intro n
  induction n with
  | zero =>
    intro ts k h t ht
    cases ts with
    | nil => simp at ht
    | cons x r => simp [roomF] at h
  | succ n ih =>
    intro ts k h t ht
    cases ts with
    | nil => simp at ht
    | cons x r =>
      have h : roomF σ n (kidsL (wha σ x) ++ r) = some k := h
      have h2 := ih _ _ h
      rcases List.mem_cons.1 ht with rfl | ht
      · intro i hi
        exact h2 _ (List.mem_append.2 (.inl (by simp [kidsL]; exact ⟨i, hi, rfl⟩)))
      · exact (h2 t (List.mem_append.2 (.inr ht))).mono
theorem ex_bound {σ : Sg} (hd : Dec σ) {T U : Tm} (h0 : 0 ≤ T.v) (hv : T.v ≠ 0) (h : σ T.v = some U) (d : Nat) : ex σ d T = ex σ d U ∧ (Fin σ d T → Fin σ d U) := by
  cases d with
  | zero => exact ⟨rfl, fun h => h⟩
  | succ d =>
    have e := wha_some hd h0 hv h
    refine ⟨by rw [ex, ex, e], fun hF i hi => ?_⟩
    have := hF i (by rw [e]; exact hi)
    rwa [e] at this

set_option maxRecDepth 100000 in
theorem number_any (n : Int) (w : World) : Calls Try.prog 98 #[.int .i64 n] w fun e w' => e = .returned (.int .i64 n) ∧ w' = w := by
  go_enter Try.func98, Try.ntmps98
  go_wp2_with fail
  go_ret
  exact ⟨rfl, rfl⟩

def EP (σ : Sg) (d : Nat) (T : Tm) (w : World) (e : Ending) (w' : World) : Prop := ∃ X : Tm, e = .returned X.val ∧ Below w.heap.size w w' ∧ TIn w' X ∧ Above w.heap.size X ∧ Sim X (ex σ d T)
theorem EP.rebase {σ : Sg} {d : Nat} {T : Tm} {w W : World} {e : Ending} {w' : World} (hW : Below w.heap.size w W) (h : EP σ d T W e w') : EP σ d T w e w' := by
  obtain ⟨X, h1, h2, h3, h4, h5⟩ := h
  exact ⟨X, h1, hW.trans (h2.mono hW.size), h3, h4.mono hW.size, h5⟩
def EC (σ : Sg) (d : Nat) (T : Tm) : Prop := ∀ (w : World) (b m : Nat) (tv : Value) (N : Int) (lo nn : Nat) (L : Int) (pv pn : Nat), VS w b m tv N lo nn σ L → w.heap[pv]? = some (.cells #[.pointer (some ⟨b, 0, none⟩)] 89) → w.heap[pn]? = some (.cells #[.func (.func 98) #[] #[]] 116) → Okv N T → TIn w T → Fin σ d T →
    Calls Try.prog 120 #[T.val, .func (.func 121) #[] #[.pointer (some ⟨pv, 0, none⟩), .pointer (some ⟨pn, 0, none⟩)]] w (EP σ d T w)
def WC (σ : Sg) (d : Nat) (T : Tm) : Prop := ∀ (w : World) (b m : Nat) (tv : Value) (N : Int) (lo nn : Nat) (L : Int), VS w b m tv N lo nn σ L → Okv N T → TIn w T → Fin σ d T →
    Calls Try.prog 97 #[.pointer (some ⟨b, 0, none⟩), T.val, .func (.func 98) #[] #[]] w (EP σ d T w)
theorem fin3w {w W : World} {r : Nat} {x y z : Value} {X : Tm} (hr : w.heap.size ≤ r) (hX : W.heap[r]? = some (.cells #[x, y, z] 24)) (hB : Below w.heap.size w W) (hT : TIn W X) (hN : NB r X) :
    ∃ W', ((W.setCell ⟨r, 0, none⟩ (.int .i64 X.v)).setCell ⟨r, 1, none⟩ (.string X.nm)).setCell ⟨r, 2, none⟩ (.slice X.a X.len X.cap) = W' ∧ W'.cell? ⟨r, 0, none⟩ = some (.int .i64 X.v) ∧ W'.cell? ⟨r, 1, none⟩ = some (.string X.nm) ∧ W'.cell? ⟨r, 2, none⟩ = some (.slice X.a X.len X.cap) ∧ Below w.heap.size w W' ∧ TIn W' X := by
  obtain ⟨W', h1, h2, h3, h4, h5, h6⟩ := fin3n hr hX hB (.int .i64 X.v) (.string X.nm) (.slice X.a X.len X.cap)
  exact ⟨W', h1, h2, h3, h4, h5, hT.grown h6 (fun k hk => by obtain rfl := Option.some.inj hk; exact hN)⟩

theorem alloc4 (w : World) (o0 o1 o2 o3 : Obj) : ((((w.alloc o0).alloc o1).alloc o2).alloc o3).heap[w.heap.size]? = some o0 ∧ ((((w.alloc o0).alloc o1).alloc o2).alloc o3).heap[w.heap.size + 2]? = some o2 ∧ ((((w.alloc o0).alloc o1).alloc o2).alloc o3).heap[w.heap.size + 3]? = some o3 ∧ Below w.heap.size w ((((w.alloc o0).alloc o1).alloc o2).alloc o3) := by
  have s1 : (w.alloc o0).heap.size = w.heap.size + 1 := by simp
  have s2 : ((w.alloc o0).alloc o1).heap.size = w.heap.size + 2 := by simp
  have s3 : (((w.alloc o0).alloc o1).alloc o2).heap.size = w.heap.size + 3 := by simp
  refine ⟨?_, ?_, ?_, (((((Below.refl _ _).alloc (Nat.le_refl _) _).alloc (by omega) _).alloc (by omega) _).alloc (by omega) _)⟩
  · rw [heap_alloc_old _ _ (by omega), heap_alloc_old _ _ (by omega), heap_alloc_old _ _ (by omega)]; exact heap_alloc_new w _
  · rw [heap_alloc_old _ _ (by omega), ← s2]; exact heap_alloc_new _ _
  · rw [← s3]; exact heap_alloc_new _ _

set_option maxRecDepth 100000 in
set_option maxHeartbeats 2000000 in
theorem whole_of {σ : Sg} {d : Nat} {T : Tm} (hE : EC σ d T) : WC σ d T := by
  intro w b m tv N lo nn L hS hO hT hF
  have hmf : ∀ (fn : Fn) (first cap : Array Value) (w : World), (Instr.makeFunc fn first cap).run Try.prog w = .ok (.func fn first cap) w := fun _ _ _ _ => rfl
  have HC : Hid (∀ W, Below w.heap.size w W → W.heap[w.heap.size]? = some (.cells #[.pointer (some ⟨b, 0, none⟩)] 89) → W.heap[w.heap.size + 2]? = some (.cells #[.func (.func 98) #[] #[]] 116) → Calls Try.prog 120 #[.agg #[.int .i64 T.v, .string T.nm, .slice T.a T.len T.cap], .func (.func 121) #[] #[.pointer (some ⟨w.heap.size, 0, none⟩), .pointer (some ⟨w.heap.size + 2, 0, none⟩)]] W (EP σ d T W)) := fun W hW h1 h2 =>
    hE W b m tv N lo nn L _ _ (hS.below hW) h1 h2 hO (hT.below hW) hF
  clear hS hO hT hF hE
  show Calls Try.prog 97 #[.pointer (some ⟨b, 0, none⟩), .agg #[.int .i64 T.v, .string T.nm, .slice T.a T.len T.cap], .func (.func 98) #[] #[]] w _
  go_enter Try.func97, Try.ntmps97
  go_wp2_with fail
  obtain ⟨a0, a2, a3, aB⟩ := alloc4 w (.cells #[.pointer (some ⟨b, 0, none⟩)] 89) (.cells #[.int .i64 T.v, .string T.nm, .slice T.a T.len T.cap] 24) (.cells #[.func (.func 98) #[] #[]] 116) (.cells #[.int .i64 0, .string ⟨#[]⟩, .slice none 0 0] 24)
  refine (HC.out _ aB a0 a2).mono ?_
  rintro e w1 ⟨X, rfl, hb1, hX1, hA1, hS1⟩
  have HX3 : Hid (w1.heap[w.heap.size + 3]? = some (.cells #[.int .i64 0, .string ⟨#[]⟩, .slice none 0 0] 24)) := (hb1.block _ (Array.getElem?_eq_some_iff.1 a3).1).trans a3
  have HB1 : Hid (Below w.heap.size w w1) := aB.trans (hb1.mono aB.size)
  have HX : Hid (TIn w1 X ∧ NB (w.heap.size + 3) X ∧ Above w.heap.size X ∧ Sim X (ex σ d T)) := ⟨hX1, hA1.nb (Array.getElem?_eq_some_iff.1 a3).1, hA1.mono aB.size, hS1⟩
  clear hb1 hX1 hA1 hS1 a0 a2 a3 aB
  obtain ⟨x0, x1, x2, f0, f1, f2⟩ := block_cells HX3.out
  rw [show X.val = .agg #[.int .i64 X.v, .string X.nm, .slice X.a X.len X.cap] from rfl]
  go_wp2_with fail
  obtain ⟨W', hW, z0, z1, z2, hB', hT'⟩ := fin3w (r := w.heap.size + 3) (by omega) HX3.out HB1.out HX.out.1 HX.out.2.1
  rw [hW]
  refine bodyPost_ret (v := X.val) ?_ rfl ⟨X, rfl, hB', hT', HX.out.2.2.1, HX.out.2.2.2⟩
  simp [results, Try.results97, go_sem, z0, z1, z2, Tm.val]

set_option maxRecDepth 100000 in
set_option maxHeartbeats 2000000 in
/-- A variable, by the closure. -/
theorem each_var {σ : Sg} {d : Nat} {T : Tm} (hv : T.v ≠ 0) (hW : ∀ U, σ T.v = some U → WC σ (d + 1) U) : EC σ (d + 1) T := by
  intro w b m tv N lo nn L pv pn hS h1 h2 hO hT hF
  have HS : Hid (VS w b m tv N lo nn σ L) := hS
  have HF : Hid (Fin σ (d + 1) T) := hF
  have o0 := hO.top.1
  have o1 := hO.top.2.1
  have hN := hS.big
  have hpv : pv < w.heap.size := (Array.getElem?_eq_some_iff.1 h1).1
  have hpn : pn < w.heap.size := (Array.getElem?_eq_some_iff.1 h2).1
  have HP : Hid (w.heap[pv]? = some (.cells #[.pointer (some ⟨b, 0, none⟩)] 89) ∧ w.heap[pn]? = some (.cells #[.func (.func 98) #[] #[]] 116)) := ⟨h1, h2⟩
  -- the closure
  have HC : Hid (∀ W, Below w.heap.size w W → Calls Try.prog 121 #[.int .i64 T.v, .pointer (some ⟨pv, 0, none⟩), .pointer (some ⟨pn, 0, none⟩)] W (EP σ (d + 1) T W)) := by
    intro W hBW
    have hSW := hS.below hBW
    have HSW : Hid (VS W b m tv N lo nn σ L) := hSW
    have p0 : W.cell? ⟨pv, 0, none⟩ = some (.pointer (some ⟨b, 0, none⟩)) := by have := (hBW.block pv hpv).trans h1; simp [World.cell?, this]
    have p1 : W.cell? ⟨pn, 0, none⟩ = some (.func (.func 98) #[] #[]) := by have := (hBW.block pn hpn).trans h2; simp [World.cell?, this]
    obtain ⟨v0, _, _, _, _, _⟩ := block_cells hSW.blk
    obtain ⟨o, ho, hMW⟩ := hSW.map.looks
    have hm : m < W.heap.size := hSW.map.lt
    have hbW := hSW.lt
    have hpvW : pv < W.heap.size := Nat.lt_of_lt_of_le hpv hBW.size
    have hpnW : pn < W.heap.size := Nat.lt_of_lt_of_le hpn hBW.size
    have HZ : Hid ((W.alloc (.cells #[.int .i64 0, .string ⟨#[]⟩, .slice none 0 0] 24)).heap[W.heap.size]? = some (.cells #[.int .i64 0, .string ⟨#[]⟩, .slice none 0 0] 24)) := heap_alloc_new W _
    have HBZ : Hid (Below W.heap.size W (W.alloc (.cells #[.int .i64 0, .string ⟨#[]⟩, .slice none 0 0] 24))) := (Below.refl _ _).alloc (Nat.le_refl _) _
    clear hSW hBW
    have q0 : (W.alloc (.cells #[.int .i64 0, .string ⟨#[]⟩, .slice none 0 0] 24)).cell? ⟨pv, 0, none⟩ = some (.pointer (some ⟨b, 0, none⟩)) := (HBZ.out.cell (p := ⟨pv, 0, none⟩) hpvW).trans p0
    have q1 : (W.alloc (.cells #[.int .i64 0, .string ⟨#[]⟩, .slice none 0 0] 24)).cell? ⟨b, 0, none⟩ = some (.map (some m)) := (HBZ.out.cell (p := ⟨b, 0, none⟩) hbW).trans v0
    have hoz : (W.alloc (.cells #[.int .i64 0, .string ⟨#[]⟩, .slice none 0 0] 24)).heap[m]? = some o := (HBZ.out.block m hm).trans ho
    cases hs : σ T.v with
    | none =>
      have hl := ((hMW _ hoz).look o0 (Int.le_trans o1 hN)).2 hs
      have HX : Hid (ex σ (d + 1) T = .mk T.v ⟨#[]⟩ none 0 0 (fun _ => .nil)) := by rw [Hid, ex, wha_none hs, if_neg hv]
      clear hs hMW
      go_enter Try.func121, Try.ntmps121
      go_wp2_with fail
      refine (number_any _ _).mono ?_
      rintro e w1 ⟨rfl, rfl⟩
      go_wp2_with fail
      refine bodyPost_ret (v := Tm.val (.mk T.v ⟨#[]⟩ none 0 0 (fun _ => .nil))) ?_ rfl ⟨.mk T.v ⟨#[]⟩ none 0 0 (fun _ => .nil), rfl, ((Below.refl _ _).alloc (Nat.le_refl _) _).alloc (by simp) _, ⟨Nat.zero_le _, Nat.zero_le _, fun i hi => absurd hi (Nat.not_lt_zero i)⟩, ⟨fun h => absurd h (Nat.lt_irrefl 0), fun i hi => absurd hi (Nat.not_lt_zero i)⟩, by rw [HX.out]; exact ⟨rfl, rfl, rfl, fun i hi => absurd hi (Nat.not_lt_zero i)⟩⟩
      simp [results, Try.results121, go_sem, Tm.val, Tm.v, Tm.nm, Tm.a, Tm.len, Tm.cap]
    | some U =>
      have hl := ((hMW _ hoz).look o0 (Int.le_trans o1 hN)).1 U hs
      obtain ⟨hTU, hOU, _⟩ := HSW.out.trm _ _ hs
      obtain ⟨hex, hfin⟩ := ex_bound HSW.out.dec o0 hv hs (d + 1)
      have HX : Hid (ex σ (d + 1) T = ex σ (d + 1) U) := hex
      have HCU : Hid (∀ W', Below W.heap.size W W' → Calls Try.prog 97 #[.pointer (some ⟨b, 0, none⟩), .agg #[.int .i64 U.v, .string U.nm, .slice U.a U.len U.cap], .func (.func 98) #[] #[]] W' (EP σ (d + 1) U W')) := fun W' hW' => hW U hs W' b m tv N lo nn L (HSW.out.below hW') hOU (hTU.below hW') (hfin hF)
      have r0 : ((W.alloc (.cells #[.int .i64 0, .string ⟨#[]⟩, .slice none 0 0] 24)).alloc (.cells #[.int .i64 U.v, .string U.nm, .slice U.a U.len U.cap] 24)).cell? ⟨pv, 0, none⟩ = some (.pointer (some ⟨b, 0, none⟩)) := (((Below.refl _ _).alloc (Nat.le_refl _) _).cell (B := (W.alloc (.cells #[.int .i64 0, .string ⟨#[]⟩, .slice none 0 0] 24)).heap.size) (p := ⟨pv, 0, none⟩) (by simp; omega)).trans q0
      have r1 : ((W.alloc (.cells #[.int .i64 0, .string ⟨#[]⟩, .slice none 0 0] 24)).alloc (.cells #[.int .i64 U.v, .string U.nm, .slice U.a U.len U.cap] 24)).cell? ⟨pn, 0, none⟩ = some (.func (.func 98) #[] #[]) := (((Below.refl _ _).alloc (Nat.le_refl _) _).cell (B := (W.alloc (.cells #[.int .i64 0, .string ⟨#[]⟩, .slice none 0 0] 24)).heap.size) (p := ⟨pn, 0, none⟩) (by simp; omega)).trans ((HBZ.out.cell (p := ⟨pn, 0, none⟩) hpnW).trans p1)
      clear hs hMW hTU hOU hex hfin
      go_enter Try.func121, Try.ntmps121
      go_wp2_with fail
      refine (HCU.out _ (((Below.refl _ _).alloc (Nat.le_refl _) _).alloc (by simp) _)).mono ?_
      rintro e w1 ⟨X, rfl, hb1, hX1, hA1, hS1⟩
      have HBA : Hid (Below W.heap.size W ((W.alloc (.cells #[.int .i64 0, .string ⟨#[]⟩, .slice none 0 0] 24)).alloc (.cells #[.int .i64 U.v, .string U.nm, .slice U.a U.len U.cap] 24))) := ((Below.refl _ _).alloc (Nat.le_refl _) _).alloc (by simp) _
      have hsz : W.heap.size < ((W.alloc (.cells #[.int .i64 0, .string ⟨#[]⟩, .slice none 0 0] 24)).alloc (.cells #[.int .i64 U.v, .string U.nm, .slice U.a U.len U.cap] 24)).heap.size := by simp; omega
      have HX3 : Hid (w1.heap[W.heap.size]? = some (.cells #[.int .i64 0, .string ⟨#[]⟩, .slice none 0 0] 24)) := by
        refine (hb1.block _ hsz).trans ?_
        rw [heap_alloc_old _ _ (by simp)]; exact HZ.out
      have HB1 : Hid (Below W.heap.size W w1) := HBA.out.trans (hb1.mono HBA.out.size)
      have HXX : Hid (TIn w1 X ∧ NB W.heap.size X ∧ Above W.heap.size X ∧ Sim X (ex σ (d + 1) T)) := ⟨hX1, hA1.nb hsz, hA1.mono HBA.out.size, by rw [HX.out]; exact hS1⟩
      clear hb1 hX1 hA1 hS1 hl q0 q1 p0 p1 r0 r1
      obtain ⟨x0, x1, x2, f0, f1, f2⟩ := block_cells HX3.out
      rw [show X.val = .agg #[.int .i64 X.v, .string X.nm, .slice X.a X.len X.cap] from rfl]
      go_wp2_with fail
      obtain ⟨W', hW', z0, z1, z2, hB', hT'⟩ := fin3w (r := W.heap.size) (Nat.le_refl _) HX3.out HB1.out HXX.out.1 HXX.out.2.1
      rw [hW']
      refine bodyPost_ret (v := X.val) ?_ rfl ⟨X, rfl, hB', hT', HXX.out.2.2.1, HXX.out.2.2.2⟩
      simp [results, Try.results121, go_sem, z0, z1, z2, Tm.val]
  have hvb : (T.v != 0) = true := bne_iff_ne.2 hv
  clear hS hF hO hT hW h1 h2 HP hpv hpn
  show Calls Try.prog 120 #[.agg #[.int .i64 T.v, .string T.nm, .slice T.a T.len T.cap], .func (.func 121) #[] #[.pointer (some ⟨pv, 0, none⟩), .pointer (some ⟨pn, 0, none⟩)]] w _
  go_enter Try.func120, Try.ntmps120
  go_wp2_with fail
  refine (HC.out _ (((Below.refl _ _).alloc (Nat.le_refl _) _).alloc (by simp) _)).mono ?_
  rintro e w1 ⟨X, rfl, hb1, hX1, hA1, hS1⟩
  have HBA : Hid (Below w.heap.size w ((w.alloc (.cells #[.int .i64 T.v, .string T.nm, .slice T.a T.len T.cap] 24)).alloc (.cells #[.int .i64 0, .string ⟨#[]⟩, .slice none 0 0] 24))) := ((Below.refl _ _).alloc (Nat.le_refl _) _).alloc (by simp) _
  have hsz : w.heap.size + 1 < ((w.alloc (.cells #[.int .i64 T.v, .string T.nm, .slice T.a T.len T.cap] 24)).alloc (.cells #[.int .i64 0, .string ⟨#[]⟩, .slice none 0 0] 24)).heap.size := by simp
  have HX3 : Hid (w1.heap[w.heap.size + 1]? = some (.cells #[.int .i64 0, .string ⟨#[]⟩, .slice none 0 0] 24)) := by
    refine (hb1.block _ hsz).trans ?_
    have := heap_alloc_new (w.alloc (.cells #[.int .i64 T.v, .string T.nm, .slice T.a T.len T.cap] 24)) (.cells #[.int .i64 0, .string ⟨#[]⟩, .slice none 0 0] 24)
    rwa [show (w.alloc (.cells #[.int .i64 T.v, .string T.nm, .slice T.a T.len T.cap] 24)).heap.size = w.heap.size + 1 from by simp] at this
  have HB1 : Hid (Below w.heap.size w w1) := HBA.out.trans (hb1.mono HBA.out.size)
  have HXX : Hid (TIn w1 X ∧ NB (w.heap.size + 1) X ∧ Above w.heap.size X ∧ Sim X (ex σ (d + 1) T)) := ⟨hX1, hA1.nb hsz, hA1.mono HBA.out.size, hS1⟩
  clear hb1 hX1 hA1 hS1
  obtain ⟨x0, x1, x2, f0, f1, f2⟩ := block_cells HX3.out
  rw [show X.val = .agg #[.int .i64 X.v, .string X.nm, .slice X.a X.len X.cap] from rfl]
  go_wp2_with fail
  obtain ⟨W', hW', z0, z1, z2, hB', hT'⟩ := fin3w (r := w.heap.size + 1) (by omega) HX3.out HB1.out HXX.out.1 HXX.out.2.1
  rw [hW']
  refine bodyPost_ret (v := X.val) ?_ rfl ⟨X, rfl, hB', hT', HXX.out.2.2.1, HXX.out.2.2.2⟩
  simp [results, Try.results120, go_sem, z0, z1, z2, Tm.val]
end Go.Proofs.Ytmggaclaoefdaaa

namespace Go.Proofs.Ytmggaclaoefdaaa
open Go.RowKit

/-- An append to a row of the call's own, as one step of a region that draws. -/
theorem step_append_own_at {P : Program} {ops : Array Oper} {o : Oper} {a : Act} {w : World} {K : Act → World → Prop} {Q : Exit → Act → World → Prop} {E : Prop}
    (hg : o.guard = none) (s x : Operand) (t : TypeId) (hop : o.op = Op.call { callee := Callee.builtin Builtin.append, args := #[s, x], argTypes := #[t, t] })
    (base : Nat) (e : TypeId) (i : TypeInfo) (z : Value) (size bytes : Nat) (ht : P.underlying t = some (.slice e)) (hi : P.info? e = some i) (hz : i.zero = some z)
    (hsize : i.size = size) (hby : i.bytes = bytes) (hzs : z.cells.size = size) (hsz : 0 < size)
    (v : Value) (n : Nat) (xs : List Value) (hs : a.eval s = v) (hown : w.ownsRow base e size v n xs)
    (ad : Addr) (m c : Nat) (news : List Value) (hx : a.eval x = .slice (some ad) m c) (hl : news.length = m * size) (hnews : ∀ j u, news[j]? = some u → w.cell? (ad.add j) = some u) (h1 : ∀ u ∈ news, u.oneCell' = true)
    (h63 : n + m ≤ maxLen) (hbytes : (n + m) * bytes ≤ 140737488355328) (hbase : base ≤ w.heap.size) (hm : 0 < m)
    (h : ∀ g cap' w', w'.ownsRow base e size (.slice (some ⟨g, 0, none⟩) (n + m) cap') (n + m) (xs ++ news) → w.grownBy w' v.ownBlock → (some g = v.ownBlock ∨ g = w.heap.size) → K (a.put o.dst (.slice (some ⟨g, 0, none⟩) (n + m) cap')) w') :
    if Region.wanted o (yielded ops a.tmps) = true then Oper.wp P o a w K Q else E := by
  have hw : Region.wanted o (yielded ops a.tmps) = true := by simp [Region.wanted, hg]
  rw [if_pos hw]
  obtain ⟨v', w', hr, h2, h3, h4, h5⟩ := run_append_own_at (P := P) w base t o.type e i z size bytes ht hi hz hsize hby hzs hsz v n xs hown ad m c news hl hnews h1 h63 hbytes hbase
  rcases h2.2 with ⟨h6, _⟩ | ⟨g, cap', cur, rfl, _⟩
  · have := (h4.1 h6).2; omega
  unfold Oper.wp
  simp [execOp, hop, resolve, invoke, builtin, hs, hx, hr, Result.andThen]
  refine h g cap' w' h2 h3 ?_
  rcases h5 with e | e
  · exact .inl (by rw [← e]; rfl)
  · exact .inr (Option.some.inj e)

theorem alloc3 (w : World) (o0 o1 o2 : Obj) : (((w.alloc o0).alloc o1).alloc o2).heap[w.heap.size + 1]? = some o1 ∧ (((w.alloc o0).alloc o1).alloc o2).heap[w.heap.size + 2]? = some o2 ∧ Below w.heap.size w (((w.alloc o0).alloc o1).alloc o2) := by
  have s1 : (w.alloc o0).heap.size = w.heap.size + 1 := by simp
  have s2 : ((w.alloc o0).alloc o1).heap.size = w.heap.size + 2 := by simp
  refine ⟨?_, ?_, ((((Below.refl _ _).alloc (Nat.le_refl _) _).alloc (by omega) _).alloc (by omega) _)⟩
  · rw [heap_alloc_old _ _ (by omega), ← s1]; exact heap_alloc_new _ _
  · rw [← s2]; exact heap_alloc_new _ _
theorem news1 (w : World) (X : Tm) : ∀ j u, (flat [X])[j]? = some u → (w.alloc (.cells #[.int .i64 X.v, .string X.nm, .slice X.a X.len X.cap] 24)).cell? ((⟨w.heap.size, 0, none⟩ : Addr).add j) = some u := by
  intro j u hj
  have hb := heap_alloc_new w (.cells #[.int .i64 X.v, .string X.nm, .slice X.a X.len X.cap] 24)
  rw [addr_add, cell_of_row _ _ _ _ _ _ hb]
  simpa [flat, cells3] using hj

set_option maxRecDepth 100000 in
set_option maxHeartbeats 4000000 in
theorem each_fn {σ : Sg} {d : Nat} {T : Tm} (hv : T.v = 0) (hk : ∀ i, i < T.len → EC σ d (T.f i)) : EC σ (d + 1) T := by
  intro w b m tv N lo nn L pv pn hS h1 h2 hO hT hF
  have hpv : pv < w.heap.size := (Array.getElem?_eq_some_iff.1 h1).1
  have hpn : pn < w.heap.size := (Array.getElem?_eq_some_iff.1 h2).1
  have HC : Hid (∀ i, i < T.len → ∀ W, Below w.heap.size w W → Calls Try.prog 120 #[.agg #[.int .i64 (T.f i).v, .string (T.f i).nm, .slice (T.f i).a (T.f i).len (T.f i).cap], .func (.func 121) #[] #[.pointer (some ⟨pv, 0, none⟩), .pointer (some ⟨pn, 0, none⟩)]] W (EP σ d (T.f i) W)) := fun i hi W hW =>
    hk i hi W b m tv N lo nn L pv pn (hS.below hW) ((hW.block pv hpv).trans h1) ((hW.block pn hpn).trans h2) (hO.kid hi) ((hT.kid hi).below hW) (by
      have := hF i (by rw [wha_fn hv]; exact hi)
      rwa [wha_fn hv] at this)
  have HKid : Hid (∀ i, i < T.len → ∀ W, Below w.heap.size w W → RowAt W T.a i (T.f i)) := fun i hi W hW => (hT.row hi).below hW
  have HX : Hid (ex σ (d + 1) T = .mk 0 T.nm none T.len 0 (fun i => ex σ d (T.f i))) := by rw [Hid, ex, wha_fn hv, if_pos hv]
  have hlen : T.len ≤ 2 ^ 63 - 1 := hT.len
  have hlen4 : T.len ≤ 4 := hO.four
  have hnm := hT.name
  have hvb : (T.v != 0) = false := by rw [hv]; rfl
  obtain ⟨i0, hi, hz0, hz1, hz2⟩ := info_parts Try.info24
  clear hk hS h1 h2 hO hT hF hv
  generalize hua : T.a = ua at *
  show Calls Try.prog 120 #[.agg #[.int .i64 T.v, .string T.nm, .slice T.a T.len T.cap], .func (.func 121) #[] #[.pointer (some ⟨pv, 0, none⟩), .pointer (some ⟨pn, 0, none⟩)]] w _
  rw [hua]
  go_enter Try.func120, Try.ntmps120
  go_wp2_with fail
  obtain ⟨a1, a2, aB⟩ := alloc3 w (.cells #[.int .i64 T.v, .string T.nm, .slice ua T.len T.cap] 24) (.cells #[.int .i64 0, .string ⟨#[]⟩, .slice none 0 0] 24) (.cells #[.int .i64 0, .string T.nm, .slice none 0 0] 24)
  go_loopw [21] (fun i wr => ∃ (j : Nat) (ts : List Tm) (v : Value), j ≤ T.len ∧ i = .int .i64 j ∧ LstR (w.heap.size + 3) wr v ts ((List.range j).map fun i => ex σ d (T.f i)) ∧ wr.heap[w.heap.size + 2]? = some (.cells #[.int .i64 0, .string T.nm, v] 24) ∧ wr.heap[w.heap.size + 1]? = some (.cells #[.int .i64 0, .string ⟨#[]⟩, .slice none 0 0] 24) ∧ w.heap.size + 3 ≤ wr.heap.size ∧ Below w.heap.size w wr) (fun i _ => T.len - (intOf i).toNat)
  case atStart => exact ⟨0, [], _, Nat.zero_le _, rfl, ⟨World.ownsRow_nil _ _ _ _, fun c hc => absurd hc (by simp), rfl, fun i hi => absurd hi (Nat.not_lt_zero i)⟩, a2, a1, by simp, aB⟩
  case round =>
    clear a1 a2 aB
    obtain ⟨j, ts, v, hj, rfl, hL, hC2, hZ1, hsz, hB⟩ := hrel
    have HL : Hid (LstR (w.heap.size + 3) wr v ts ((List.range j).map fun i => ex σ d (T.f i))) := hL
    have HC2 : Hid (wr.heap[w.heap.size + 2]? = some (.cells #[.int .i64 0, .string T.nm, v] 24)) := hC2
    have HZ1 : Hid (wr.heap[w.heap.size + 1]? = some (.cells #[.int .i64 0, .string ⟨#[]⟩, .slice none 0 0] 24)) := hZ1
    have HB : Hid (Below w.heap.size w wr) := hB
    have HTL : Hid (ts.length = j) := by have := hL.len; rw [Hid]; simpa using this
    have hts4 : ts.length ≤ 4 := by have := HTL.out; omega
    clear hL hC2 hZ1 hB
    by_cases hlt : j < T.len
    case neg =>
      have hje : j = T.len := by omega
      obtain ⟨Q, hvQ, hQ, hQA, hQS⟩ := HL.out.terms
      have HQ : Hid (TIn wr Q ∧ Above (w.heap.size + 3) Q ∧ BSim Q ((List.range T.len).map fun i => ex σ d (T.f i))) := ⟨hQ, hQA, hje ▸ hQS⟩
      subst hvQ
      clear hQ hQA hQS hje
      obtain ⟨c0, c1, c2, _, _, _⟩ := block_cells HC2.out
      obtain ⟨y0, y1, y2, f0, f1, f2⟩ := block_cells HZ1.out
      go_wp2_with fail
      obtain ⟨W', hW', z0, z1, z2, hB', hgr⟩ := fin3n (r := w.heap.size + 1) (by omega) HZ1.out HB.out (.int .i64 0) (.string T.nm) (.slice Q.a Q.len Q.cap)
      rw [hW']
      have hT' : TIn W' Q := HQ.out.1.grown hgr (fun k hk => by obtain rfl := Option.some.inj hk; exact HQ.out.2.1.nb (by omega))
      refine bodyPost_ret (v := Tm.val (.mk 0 T.nm Q.a Q.len Q.cap Q.f)) ?_ rfl ⟨.mk 0 T.nm Q.a Q.len Q.cap Q.f, rfl, hB', hT'.retop hnm, (HQ.out.2.1.mono (by omega)).retop, ?_⟩
      · simp [results, Try.results120, go_sem, z0, z1, z2, Tm.val, Tm.v, Tm.nm, Tm.a, Tm.len, Tm.cap]
      · rw [HX.out]
        have hl : Q.len = T.len := by have := HQ.out.2.2.1; simpa using this
        refine ⟨rfl, rfl, hl, fun i hi => ?_⟩
        have := HQ.out.2.2.2 i hi
        have e : ((List.range T.len).map fun i => ex σ d (T.f i)).getD i .nil = ex σ d (T.f i) := by simp [List.getD, show i < T.len by omega]
        rwa [e] at this
    have hr := HKid.out j hlt wr HB.out
    obtain ⟨bb, o, ha, c0, c1, c2⟩ := hr
    subst ha
    have HBe : Hid (Below wr.heap.size wr (wr.alloc (.cells #[.int .i64 (T.f j).v, .string (T.f j).nm, .slice (T.f j).a (T.f j).len (T.f j).cap] 24))) := (Below.refl _ _).alloc (Nat.le_refl _) _
    have HBa : Hid (Below w.heap.size w (wr.alloc (.cells #[.int .i64 (T.f j).v, .string (T.f j).nm, .slice (T.f j).a (T.f j).len (T.f j).cap] 24))) := HB.out.trans (HBe.out.mono HB.out.size)
    have HAa : Hid ((wr.alloc (.cells #[.int .i64 (T.f j).v, .string (T.f j).nm, .slice (T.f j).a (T.f j).len (T.f j).cap] 24)).heap[wr.heap.size]? = some (.cells #[.int .i64 (T.f j).v, .string (T.f j).nm, .slice (T.f j).a (T.f j).len (T.f j).cap] 24)) := heap_alloc_new wr _
    go_wp2_with fail
    generalize wr.alloc (.cells #[.int .i64 (T.f j).v, .string (T.f j).nm, .slice (T.f j).a (T.f j).len (T.f j).cap] 24) = wa at *
    obtain ⟨d0, d1, d2, k0, k1, k2⟩ := block_cells ((HBe.out.block _ (by omega)).trans HC2.out)
    obtain ⟨e0, e1, e2, _, _, _⟩ := block_cells HAa.out
    have hwa : wr.heap.size < wa.heap.size := lt_of_cell e0
    have tok1 : True := trivial
    go_region_law (first
      | (have _t := tok1
         go_simp
         go_at_call 120
         refine (HC.out j hlt _ (by repeat (first | exact HBa.out | refine Below.drew ?_))).mono ?_
         rintro e w5 ⟨X, rfl, hb5, hX5, hA5, hS5⟩
         have HB5 : Hid (Below wa.heap.size wa w5) := Below.trans (by repeat (first | exact Below.refl _ _ | refine Below.drew ?_)) (hb5.mono (Nat.le_refl _))
         have HX5 : Hid (TIn w5 X ∧ Above wa.heap.size X ∧ Sim X (ex σ d (T.f j))) := ⟨hX5, hA5, hS5⟩
         have g2 : w5.cell? ⟨w.heap.size + 2, 2, none⟩ = some v := (HB5.out.cell (p := ⟨w.heap.size + 2, 2, none⟩) (by show w.heap.size + 2 < wa.heap.size; omega)).trans d2
         have gf2 : w5.frozen? ⟨w.heap.size + 2, 2, none⟩ = false := (HB5.out.frozen (p := ⟨w.heap.size + 2, 2, none⟩) (by show w.heap.size + 2 < wa.heap.size; omega)).trans k2
         have HL5 : Hid (LstR (w.heap.size + 3) (w5.alloc (.cells #[.int .i64 X.v, .string X.nm, .slice X.a X.len X.cap] 24)) v ts ((List.range j).map fun i => ex σ d (T.f i))) := (HL.out.keep (HBe.out.trans (HB5.out.mono (Nat.le_of_lt hwa)))).keep ((Below.refl _ _).alloc (Nat.le_refl _) _)
         rw [show X.val = .agg #[.int .i64 X.v, .string X.nm, .slice X.a X.len X.cap] from rfl]
         have g2b : (w5.alloc (.cells #[.int .i64 X.v, .string X.nm, .slice X.a X.len X.cap] 24)).cell? ⟨w.heap.size + 2, 2, none⟩ = some v := (((Below.refl _ w5).alloc (Nat.le_refl _) (.cells #[.int .i64 X.v, .string X.nm, .slice X.a X.len X.cap] 24)).cell (p := ⟨w.heap.size + 2, 2, none⟩) (lt_of_cell g2)).trans g2
         clear hb5 hX5 hA5 hS5 tok1)
      | (refine step_append_own_at rfl (.tmp 26) (.tmp 30) 22 rfl (w.heap.size + 3) 24 i0 (.agg #[.int .i64 0, .string ByteArray.empty, .slice none 0 0]) 3 48 Try.underlying22 hi hz0 hz1 hz2 rfl (by decide) v ts.length (flat ts) (by simp [Act.eval]) HL5.out.own ⟨w5.heap.size, 0, none⟩ 1 1 (flat [X]) (by simp [Act.eval]) rfl (news1 w5 X) (flat_one _) (by unfold maxLen; omega) (by omega) (by have := HB5.out.size; simp; omega) (by omega) ?_
         intro g cap' w6 hown6 hg6 hat6
         have HO6 : Hid (w6.ownsRow (w.heap.size + 3) 24 3 (.slice (some ⟨g, 0, none⟩) (ts.length + 1) cap') (ts.length + 1) (flat ts ++ flat [X])) := hown6
         have HG6 : Hid ((w5.alloc (.cells #[.int .i64 X.v, .string X.nm, .slice X.a X.len X.cap] 24)).grownBy w6 v.ownBlock) := hg6
         have HA6 : Hid (some g = v.ownBlock ∨ g = (w5.alloc (.cells #[.int .i64 X.v, .string X.nm, .slice X.a X.len X.cap] 24)).heap.size) := hat6
         have hne6 : some (w.heap.size + 2) ≠ v.ownBlock := fun e => by have := (HL.out.own.lt _ e.symm).1; omega
         have q2 : w6.cell? ⟨w.heap.size + 2, 2, none⟩ = some v := hg6.cell ((((Below.refl _ w5).alloc (Nat.le_refl _) (.cells #[.int .i64 X.v, .string X.nm, .slice X.a X.len X.cap] 24)).cell (p := ⟨w.heap.size + 2, 2, none⟩) (lt_of_cell g2)).trans g2) hne6
         have qf2 : w6.frozen? ⟨w.heap.size + 2, 2, none⟩ = false := (World.frozen?_of_block (hg6.block _ (by have := lt_of_cell g2; simp; have h : w.heap.size + 2 < w5.heap.size := this; omega) hne6)).trans ((((Below.refl _ w5).alloc (Nat.le_refl _) (.cells #[.int .i64 X.v, .string X.nm, .slice X.a X.len X.cap] 24)).frozen (p := ⟨w.heap.size + 2, 2, none⟩) (lt_of_cell g2)).trans gf2)
         clear hown6 hg6 hat6))
    all_goals
      have hgs := grown_set (W := w6) (w.heap.size + 2) 2 (.slice (some ⟨g, 0, none⟩) (ts.length + 1) cap')
      have hwr5 : Below wr.heap.size wr w5 := HBe.out.trans (HB5.out.mono (Nat.le_of_lt hwa))
      have hB6 : Below w.heap.size w w6 := ((HB.out.trans (hwr5.mono HB.out.size)).alloc (by have := hwr5.size; omega) _).grown HG6.out (by have := hwr5.size; simp; omega) (fun q hq => by have := (HL.out.own.lt q hq).1; omega)
      have HBF : Hid (Below w.heap.size w (w6.setCell ⟨w.heap.size + 2, 2, none⟩ (.slice (some ⟨g, 0, none⟩) (ts.length + 1) cap'))) := hB6.grown hgs (by have := hwr5.size; have := HG6.out.size; simp at this; omega) (fun q hq => by have := Option.some.inj hq; omega)
      have hL6 : LstR (w.heap.size + 3) w6 (.slice (some ⟨g, 0, none⟩) (ts.length + 1) cap') (ts ++ [X]) (((List.range j).map fun i => ex σ d (T.f i)) ++ [ex σ d (T.f j)]) := HL5.out.more (HX5.out.1.below ((Below.refl _ _).alloc (Nat.le_refl _) _)) (HX5.out.2.1.mono (by omega)) (fun q hq => HX5.out.2.1.nb (by have := (HL.out.own.lt q hq).2; omega)) HX5.out.2.2 HO6.out HG6.out (by
        rcases HA6.out with e | e
        · exact .inl e
        · exact .inr (by rw [e]; rfl))
      have HLF : Hid (LstR (w.heap.size + 3) (w6.setCell ⟨w.heap.size + 2, 2, none⟩ (.slice (some ⟨g, 0, none⟩) (ts.length + 1) cap')) (.slice (some ⟨g, 0, none⟩) (ts.length + 1) cap') (ts ++ [X]) ((List.range (j + 1)).map fun i => ex σ d (T.f i))) := by
        rw [Hid, List.range_succ, List.map_append]
        refine ⟨hL6.own.kept hgs (.inr (fun e => by have h1 := (hL6.own.lt g rfl).1; have h2 : g = w.heap.size + 2 := Option.some.inj e; omega)), fun U hU => ?_, hL6.len, hL6.sim⟩
        obtain ⟨h1, h2, h3⟩ := hL6.all U hU
        exact ⟨h1.grown hgs (fun q hq => by obtain rfl := Option.some.inj hq; exact h2.nb (by omega)), h2, h3⟩
      have hne6 : some (w.heap.size + 2) ≠ v.ownBlock := fun e => by have := (HL.out.own.lt _ e.symm).1; omega
      have hne7 : some (w.heap.size + 1) ≠ v.ownBlock := fun e => by have := (HL.out.own.lt _ e.symm).1; omega
      have h56 : ∀ q, q < wr.heap.size → some q ≠ v.ownBlock → w6.heap[q]? = wr.heap[q]? := fun q hq hn => (HG6.out.block q (by have := hwr5.size; simp; omega) hn).trans ((heap_alloc_old _ _ (by have := hwr5.size; omega)).trans (hwr5.block q hq))
      have HCF : Hid ((w6.setCell ⟨w.heap.size + 2, 2, none⟩ (.slice (some ⟨g, 0, none⟩) (ts.length + 1) cap')).heap[w.heap.size + 2]? = some (.cells #[.int .i64 0, .string T.nm, .slice (some ⟨g, 0, none⟩) (ts.length + 1) cap'] 24)) := setL ((h56 _ (by omega) hne6).trans HC2.out)
      have HZF : Hid ((w6.setCell ⟨w.heap.size + 2, 2, none⟩ (.slice (some ⟨g, 0, none⟩) (ts.length + 1) cap')).heap[w.heap.size + 1]? = some (.cells #[.int .i64 0, .string ⟨#[]⟩, .slice none 0 0] 24)) := (hgs.block _ (by have := hwr5.size; have := HG6.out.size; simp at this; omega) (by simp)).trans ((h56 _ (by omega) hne7).trans HZ1.out)
      have hszF : w.heap.size + 3 ≤ (w6.setCell ⟨w.heap.size + 2, 2, none⟩ (.slice (some ⟨g, 0, none⟩) (ts.length + 1) cap')).heap.size := by have := hwr5.size; have := HG6.out.size; have := hgs.size; simp at *; omega
      clear hgs hwr5 hB6 hL6 hne6 hne7 h56
      go_wp2_with fail
      go_roundw
      case rel => exact ⟨j + 1, ts ++ [X], _, by omega, by go_num, HLF.out, HCF.out, HZF.out, hszF, HBF.out⟩
      case measure => simp [intOf]; omega
theorem each_all (σ : Sg) (hd : Dec σ) : ∀ (d k : Nat) (T : Tm), 0 ≤ T.v → T.v.toNat ≤ k → (∀ N, Okv N T → EC σ d T) := by
  intro d
  induction d with
  | zero => intro k T _ _ N _ w b m tv N' lo nn L pv pn hS h1 h2 hO hT hF; exact False.elim hF
  | succ d ihd =>
    intro k
    induction k with
    | zero =>
      intro T h0 hk N hO
      exact each_fn (by omega) (fun i hi => ihd _ (T.f i) (hO.kid hi).top.1 (Nat.le_refl _) N (hO.kid hi))
    | succ k ihk =>
      intro T h0 hk N hO
      by_cases hv : T.v = 0
      · exact each_fn hv (fun i hi => ihd _ (T.f i) (hO.kid hi).top.1 (Nat.le_refl _) N (hO.kid hi))
      · refine each_var hv (fun U hU => whole_of ?_)
        intro w b m tv N' lo nn L pv pn hS h1 h2 hO' hT hF
        rcases hd _ _ hU with h | ⟨h3, h4⟩
        · exact ihk U (by omega) (by omega) N' hO' w b m tv N' lo nn L pv pn hS h1 h2 hO' hT hF
        · exact ihk U (by omega) (by omega) N' hO' w b m tv N' lo nn L pv pn hS h1 h2 hO' hT hF
theorem whole_any {σ : Sg} {d : Nat} {T : Tm} (w : World) {b m : Nat} {tv : Value} {N : Int} {lo nn : Nat} {L : Int} (hS : VS w b m tv N lo nn σ L) (hO : Okv N T) (hT : TIn w T) (hF : Fin σ d T) :
    Calls Try.prog 97 #[.pointer (some ⟨b, 0, none⟩), T.val, .func (.func 98) #[] #[]] w (EP σ d T w) :=
  whole_of (each_all σ hS.dec d _ T hO.top.1 (Nat.le_refl _) N hO) w b m tv N lo nn L hS hO hT hF
end Go.Proofs.Ytmggaclaoefdaaa
