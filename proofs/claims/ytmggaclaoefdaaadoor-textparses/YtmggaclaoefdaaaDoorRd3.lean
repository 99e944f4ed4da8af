/- The reader's small steps: one. -/
import Derived.Test.YtmggaclaoefdaaaDoorRd2
namespace Go.Proofs.YtmggaclaoefdaaaDoor
open Go.RowKit

set_option maxRecDepth 100000 in
set_option maxHeartbeats 1000000 in
theorem one76_yes (b : Nat) (s : ByteArray) (p : Nat) (w : World) (hr : RS b s p w) (hs : s.size ≤ 6000) (hlt : p < s.size) (hy : btw (s[p].toNat : Int) 48 57 = true) :
    Calls Tryd.prog 68 #[.pointer (some ⟨b, 0, none⟩), .func (.func 76) #[] #[]] w fun e w' => e = .returned (.int .u8 (s[p].toNat : Int)) ∧ RS b s (p + 1) w' ∧ G b w w' := by
  have HR : Hid (RS b s p w) := hr
  have HC := sees76_in b s p w hr hlt
  have HCC : Hid (Calls Tryd.prog 78 #[.pointer (some ⟨b, 0, none⟩), .func (.func 76) #[] #[]] w fun e w' => e = .returned (.bool (btw (s[p].toNat : Int) 48 57)) ∧ ∃ n, w' = w.drewN n) := HC
  have HY : Hid (btw (s[p].toNat : Int) 48 57 = true) := hy
  clear HC hr hy 
  go_enter Tryd.func68, Tryd.ntmps68
  go_wp2_with fail
  refine (HCC.out).mono ?_
  rintro e w1 ⟨rfl, n, rfl⟩
  rw [HY.out]
  have HR1 : Hid (RS b s p (w.drewN n)) := HR.out.drew n
  have HG1 : Hid (G b w (w.drewN n)) := G.drewN b w n
  generalize w.drewN n = w1 at *
  have c0 := HR1.out.c0
  have c1 := HR1.out.c1
  have f1 := HR1.out.fz 1
  have HR2 : Hid (RS b s (p + 1) (w1.setCell ⟨b, 1, none⟩ (.int .i64 (p + 1 : Nat)))) := HR1.out.set (p + 1)
  have HG2 : Hid (G b w (w1.setCell ⟨b, 1, none⟩ (.int .i64 (p + 1 : Nat)))) := HG1.out.trans (G.set b w1 1 _)
  have hce : ((p + 1 : Nat) : Int) = (p : Int) + 1 := by omega
  rw [hce] at HR2 HG2
  clear hce
  have d0 : (w1.setCell ⟨b, 1, none⟩ (.int .i64 ((p : Int) + 1))).cell? ⟨b, 0, none⟩ = some (.string s) := HR2.out.c0
  have d1 : (w1.setCell ⟨b, 1, none⟩ (.int .i64 ((p : Int) + 1))).cell? ⟨b, 1, none⟩ = some (.int .i64 ((p : Int) + 1)) := by have := HR2.out.c1; simpa using this
  have hlt2 : (p : Int) < (s.size : Int) := by omega
  go_wp2_with fail
  generalize w1.setCell ⟨b, 1, none⟩ (.int .i64 ((p : Int) + 1)) = W at *
  go_quiet (fail)
  go_wp2_with fail
  go_ret
  exact ⟨by simp, HR2.out.drew _, HG2.out.trans (G.drewN b W _)⟩
set_option maxRecDepth 100000 in
set_option maxHeartbeats 1000000 in
theorem one76_no (b : Nat) (s : ByteArray) (p : Nat) (w : World) (hr : RS b s p w) (hno : (hlt : p < s.size) → btw (s[p].toNat : Int) 48 57 = false) :
    Calls Tryd.prog 68 #[.pointer (some ⟨b, 0, none⟩), .func (.func 76) #[] #[]] w fun e w' => e = .panicked [pent p] ∧ G b w w' := by
  have HR : Hid (RS b s p w) := hr
  have HCC : Hid (Calls Tryd.prog 78 #[.pointer (some ⟨b, 0, none⟩), .func (.func 76) #[] #[]] w fun e w' => e = .returned (.bool false) ∧ ∃ n, w' = w.drewN n) := by
    by_cases hlt : p < s.size
    · have := sees76_in b s p w hr hlt
      rw [hno hlt] at this; exact this
    · exact sees76_out b s p w hr hlt
  clear hr hno 
  go_enter Tryd.func68, Tryd.ntmps68
  go_wp2_with fail
  refine (HCC.out).mono ?_
  rintro e w1 ⟨rfl, n, rfl⟩
  go_wp2_with fail
  refine (giveUp_any b s p _ (HR.out.drew n)).mono ?_
  rintro e w2 ⟨rfl, rfl⟩
  exact ⟨rfl, rfl, G.drewN b w n⟩

set_option maxRecDepth 100000 in
set_option maxHeartbeats 1000000 in
theorem one79_yes (b : Nat) (s : ByteArray) (p : Nat) (w : World) (hr : RS b s p w) (hs : s.size ≤ 6000) (hlt : p < s.size) (hy : btw (s[p].toNat : Int) 97 122 = true) :
    Calls Tryd.prog 68 #[.pointer (some ⟨b, 0, none⟩), .func (.func 79) #[] #[]] w fun e w' => e = .returned (.int .u8 (s[p].toNat : Int)) ∧ RS b s (p + 1) w' ∧ G b w w' := by
  have HR : Hid (RS b s p w) := hr
  have HC := sees79_in b s p w hr hlt
  have HCC : Hid (Calls Tryd.prog 78 #[.pointer (some ⟨b, 0, none⟩), .func (.func 79) #[] #[]] w fun e w' => e = .returned (.bool (btw (s[p].toNat : Int) 97 122)) ∧ ∃ n, w' = w.drewN n) := HC
  have HY : Hid (btw (s[p].toNat : Int) 97 122 = true) := hy
  clear HC hr hy 
  go_enter Tryd.func68, Tryd.ntmps68
  go_wp2_with fail
  refine (HCC.out).mono ?_
  rintro e w1 ⟨rfl, n, rfl⟩
  rw [HY.out]
  have HR1 : Hid (RS b s p (w.drewN n)) := HR.out.drew n
  have HG1 : Hid (G b w (w.drewN n)) := G.drewN b w n
  generalize w.drewN n = w1 at *
  have c0 := HR1.out.c0
  have c1 := HR1.out.c1
  have f1 := HR1.out.fz 1
  have HR2 : Hid (RS b s (p + 1) (w1.setCell ⟨b, 1, none⟩ (.int .i64 (p + 1 : Nat)))) := HR1.out.set (p + 1)
  have HG2 : Hid (G b w (w1.setCell ⟨b, 1, none⟩ (.int .i64 (p + 1 : Nat)))) := HG1.out.trans (G.set b w1 1 _)
  have hce : ((p + 1 : Nat) : Int) = (p : Int) + 1 := by omega
  rw [hce] at HR2 HG2
  clear hce
  have d0 : (w1.setCell ⟨b, 1, none⟩ (.int .i64 ((p : Int) + 1))).cell? ⟨b, 0, none⟩ = some (.string s) := HR2.out.c0
  have d1 : (w1.setCell ⟨b, 1, none⟩ (.int .i64 ((p : Int) + 1))).cell? ⟨b, 1, none⟩ = some (.int .i64 ((p : Int) + 1)) := by have := HR2.out.c1; simpa using this
  have hlt2 : (p : Int) < (s.size : Int) := by omega
  go_wp2_with fail
  generalize w1.setCell ⟨b, 1, none⟩ (.int .i64 ((p : Int) + 1)) = W at *
  go_quiet (fail)
  go_wp2_with fail
  go_ret
  exact ⟨by simp, HR2.out.drew _, HG2.out.trans (G.drewN b W _)⟩
set_option maxRecDepth 100000 in
set_option maxHeartbeats 1000000 in
theorem one79_no (b : Nat) (s : ByteArray) (p : Nat) (w : World) (hr : RS b s p w) (hno : (hlt : p < s.size) → btw (s[p].toNat : Int) 97 122 = false) :
    Calls Tryd.prog 68 #[.pointer (some ⟨b, 0, none⟩), .func (.func 79) #[] #[]] w fun e w' => e = .panicked [pent p] ∧ G b w w' := by
  have HR : Hid (RS b s p w) := hr
  have HCC : Hid (Calls Tryd.prog 78 #[.pointer (some ⟨b, 0, none⟩), .func (.func 79) #[] #[]] w fun e w' => e = .returned (.bool false) ∧ ∃ n, w' = w.drewN n) := by
    by_cases hlt : p < s.size
    · have := sees79_in b s p w hr hlt
      rw [hno hlt] at this; exact this
    · exact sees79_out b s p w hr hlt
  clear hr hno 
  go_enter Tryd.func68, Tryd.ntmps68
  go_wp2_with fail
  refine (HCC.out).mono ?_
  rintro e w1 ⟨rfl, n, rfl⟩
  go_wp2_with fail
  refine (giveUp_any b s p _ (HR.out.drew n)).mono ?_
  rintro e w2 ⟨rfl, rfl⟩
  exact ⟨rfl, rfl, G.drewN b w n⟩

set_option maxRecDepth 100000 in
set_option maxHeartbeats 1000000 in
theorem one77_yes (b : Nat) (s : ByteArray) (p : Nat) (d : Nat) (w : World) (hc : w.cell? ⟨d, 0, none⟩ = some (.func (.func 76) #[] #[])) (hr : RS b s p w) (hs : s.size ≤ 6000) (hlt : p < s.size) (hy : dig0 (s[p].toNat : Int) = true) :
    Calls Tryd.prog 68 #[.pointer (some ⟨b, 0, none⟩), .func (.func 77) #[] #[.pointer (some ⟨d, 0, none⟩)]] w fun e w' => e = .returned (.int .u8 (s[p].toNat : Int)) ∧ RS b s (p + 1) w' ∧ G b w w' := by
  have HR : Hid (RS b s p w) := hr
  have HC := sees77_in b s p d w hc hr hlt
  have HCC : Hid (Calls Tryd.prog 78 #[.pointer (some ⟨b, 0, none⟩), .func (.func 77) #[] #[.pointer (some ⟨d, 0, none⟩)]] w fun e w' => e = .returned (.bool (dig0 (s[p].toNat : Int))) ∧ ∃ n, w' = w.drewN n) := HC
  have HY : Hid (dig0 (s[p].toNat : Int) = true) := hy
  clear HC hr hy hc 
  go_enter Tryd.func68, Tryd.ntmps68
  go_wp2_with fail
  refine (HCC.out).mono ?_
  rintro e w1 ⟨rfl, n, rfl⟩
  rw [HY.out]
  have HR1 : Hid (RS b s p (w.drewN n)) := HR.out.drew n
  have HG1 : Hid (G b w (w.drewN n)) := G.drewN b w n
  generalize w.drewN n = w1 at *
  have c0 := HR1.out.c0
  have c1 := HR1.out.c1
  have f1 := HR1.out.fz 1
  have HR2 : Hid (RS b s (p + 1) (w1.setCell ⟨b, 1, none⟩ (.int .i64 (p + 1 : Nat)))) := HR1.out.set (p + 1)
  have HG2 : Hid (G b w (w1.setCell ⟨b, 1, none⟩ (.int .i64 (p + 1 : Nat)))) := HG1.out.trans (G.set b w1 1 _)
  have hce : ((p + 1 : Nat) : Int) = (p : Int) + 1 := by omega
  rw [hce] at HR2 HG2
  clear hce
  have d0 : (w1.setCell ⟨b, 1, none⟩ (.int .i64 ((p : Int) + 1))).cell? ⟨b, 0, none⟩ = some (.string s) := HR2.out.c0
  have d1 : (w1.setCell ⟨b, 1, none⟩ (.int .i64 ((p : Int) + 1))).cell? ⟨b, 1, none⟩ = some (.int .i64 ((p : Int) + 1)) := by have := HR2.out.c1; simpa using this
  have hlt2 : (p : Int) < (s.size : Int) := by omega
  go_wp2_with fail
  generalize w1.setCell ⟨b, 1, none⟩ (.int .i64 ((p : Int) + 1)) = W at *
  go_quiet (fail)
  go_wp2_with fail
  go_ret
  exact ⟨by simp, HR2.out.drew _, HG2.out.trans (G.drewN b W _)⟩
set_option maxRecDepth 100000 in
set_option maxHeartbeats 1000000 in
theorem one77_no (b : Nat) (s : ByteArray) (p : Nat) (d : Nat) (w : World) (hc : w.cell? ⟨d, 0, none⟩ = some (.func (.func 76) #[] #[])) (hr : RS b s p w) (hno : (hlt : p < s.size) → dig0 (s[p].toNat : Int) = false) :
    Calls Tryd.prog 68 #[.pointer (some ⟨b, 0, none⟩), .func (.func 77) #[] #[.pointer (some ⟨d, 0, none⟩)]] w fun e w' => e = .panicked [pent p] ∧ G b w w' := by
  have HR : Hid (RS b s p w) := hr
  have HCC : Hid (Calls Tryd.prog 78 #[.pointer (some ⟨b, 0, none⟩), .func (.func 77) #[] #[.pointer (some ⟨d, 0, none⟩)]] w fun e w' => e = .returned (.bool false) ∧ ∃ n, w' = w.drewN n) := by
    by_cases hlt : p < s.size
    · have := sees77_in b s p d w hc hr hlt
      rw [hno hlt] at this; exact this
    · exact sees77_out b s p d w hr hlt
  clear hr hno hc 
  go_enter Tryd.func68, Tryd.ntmps68
  go_wp2_with fail
  refine (HCC.out).mono ?_
  rintro e w1 ⟨rfl, n, rfl⟩
  go_wp2_with fail
  refine (giveUp_any b s p _ (HR.out.drew n)).mono ?_
  rintro e w2 ⟨rfl, rfl⟩
  exact ⟨rfl, rfl, G.drewN b w n⟩

set_option maxRecDepth 100000 in
set_option maxHeartbeats 1000000 in
theorem one81_yes (b : Nat) (s : ByteArray) (p : Nat) (d : Nat) (w : World) (hc : w.cell? ⟨d, 0, none⟩ = some (.func (.func 79) #[] #[])) (hr : RS b s p w) (hs : s.size ≤ 6000) (hlt : p < s.size) (hy : innerI (s[p].toNat : Int) = true) :
    Calls Tryd.prog 68 #[.pointer (some ⟨b, 0, none⟩), .func (.func 81) #[] #[.pointer (some ⟨d, 0, none⟩)]] w fun e w' => e = .returned (.int .u8 (s[p].toNat : Int)) ∧ RS b s (p + 1) w' ∧ G b w w' := by
  have HR : Hid (RS b s p w) := hr
  have HC := sees81_in b s p d w hc hr hlt
  have HCC : Hid (Calls Tryd.prog 78 #[.pointer (some ⟨b, 0, none⟩), .func (.func 81) #[] #[.pointer (some ⟨d, 0, none⟩)]] w fun e w' => e = .returned (.bool (innerI (s[p].toNat : Int))) ∧ ∃ n, w' = w.drewN n) := HC
  have HY : Hid (innerI (s[p].toNat : Int) = true) := hy
  clear HC hr hy hc 
  go_enter Tryd.func68, Tryd.ntmps68
  go_wp2_with fail
  refine (HCC.out).mono ?_
  rintro e w1 ⟨rfl, n, rfl⟩
  rw [HY.out]
  have HR1 : Hid (RS b s p (w.drewN n)) := HR.out.drew n
  have HG1 : Hid (G b w (w.drewN n)) := G.drewN b w n
  generalize w.drewN n = w1 at *
  have c0 := HR1.out.c0
  have c1 := HR1.out.c1
  have f1 := HR1.out.fz 1
  have HR2 : Hid (RS b s (p + 1) (w1.setCell ⟨b, 1, none⟩ (.int .i64 (p + 1 : Nat)))) := HR1.out.set (p + 1)
  have HG2 : Hid (G b w (w1.setCell ⟨b, 1, none⟩ (.int .i64 (p + 1 : Nat)))) := HG1.out.trans (G.set b w1 1 _)
  have hce : ((p + 1 : Nat) : Int) = (p : Int) + 1 := by omega
  rw [hce] at HR2 HG2
  clear hce
  have d0 : (w1.setCell ⟨b, 1, none⟩ (.int .i64 ((p : Int) + 1))).cell? ⟨b, 0, none⟩ = some (.string s) := HR2.out.c0
  have d1 : (w1.setCell ⟨b, 1, none⟩ (.int .i64 ((p : Int) + 1))).cell? ⟨b, 1, none⟩ = some (.int .i64 ((p : Int) + 1)) := by have := HR2.out.c1; simpa using this
  have hlt2 : (p : Int) < (s.size : Int) := by omega
  go_wp2_with fail
  generalize w1.setCell ⟨b, 1, none⟩ (.int .i64 ((p : Int) + 1)) = W at *
  go_quiet (fail)
  go_wp2_with fail
  go_ret
  exact ⟨by simp, HR2.out.drew _, HG2.out.trans (G.drewN b W _)⟩
set_option maxRecDepth 100000 in
set_option maxHeartbeats 1000000 in
theorem one81_no (b : Nat) (s : ByteArray) (p : Nat) (d : Nat) (w : World) (hc : w.cell? ⟨d, 0, none⟩ = some (.func (.func 79) #[] #[])) (hr : RS b s p w) (hno : (hlt : p < s.size) → innerI (s[p].toNat : Int) = false) :
    Calls Tryd.prog 68 #[.pointer (some ⟨b, 0, none⟩), .func (.func 81) #[] #[.pointer (some ⟨d, 0, none⟩)]] w fun e w' => e = .panicked [pent p] ∧ G b w w' := by
  have HR : Hid (RS b s p w) := hr
  have HCC : Hid (Calls Tryd.prog 78 #[.pointer (some ⟨b, 0, none⟩), .func (.func 81) #[] #[.pointer (some ⟨d, 0, none⟩)]] w fun e w' => e = .returned (.bool false) ∧ ∃ n, w' = w.drewN n) := by
    by_cases hlt : p < s.size
    · have := sees81_in b s p d w hc hr hlt
      rw [hno hlt] at this; exact this
    · exact sees81_out b s p d w hr hlt
  clear hr hno hc 
  go_enter Tryd.func68, Tryd.ntmps68
  go_wp2_with fail
  refine (HCC.out).mono ?_
  rintro e w1 ⟨rfl, n, rfl⟩
  go_wp2_with fail
  refine (giveUp_any b s p _ (HR.out.drew n)).mono ?_
  rintro e w2 ⟨rfl, rfl⟩
  exact ⟨rfl, rfl, G.drewN b w n⟩

set_option maxRecDepth 100000 in
set_option maxHeartbeats 1000000 in
theorem one69_yes (b : Nat) (s : ByteArray) (p : Nat) (d e : Nat) (x : ByteArray) (i : Nat) (hi : i < x.size) (w : World) (hc : w.cell? ⟨d, 0, none⟩ = some (.string x)) (he : w.cell? ⟨e, 0, none⟩ = some (.int .i64 i)) (hr : RS b s p w) (hs : s.size ≤ 6000) (hlt : p < s.size) (hy : ((s[p].toNat : Int) == (x[i].toNat : Int)) = true) :
    Calls Tryd.prog 68 #[.pointer (some ⟨b, 0, none⟩), .func (.func 69) #[] #[.pointer (some ⟨d, 0, none⟩), .pointer (some ⟨e, 0, none⟩)]] w fun e w' => e = .returned (.int .u8 (s[p].toNat : Int)) ∧ RS b s (p + 1) w' ∧ G b w w' := by
  have HR : Hid (RS b s p w) := hr
  have HC := sees69_in b s p d e x i hi w hc he hr hlt
  have HCC : Hid (Calls Tryd.prog 78 #[.pointer (some ⟨b, 0, none⟩), .func (.func 69) #[] #[.pointer (some ⟨d, 0, none⟩), .pointer (some ⟨e, 0, none⟩)]] w fun e w' => e = .returned (.bool (((s[p].toNat : Int) == (x[i].toNat : Int)))) ∧ ∃ n, w' = w.drewN n) := HC
  have HY : Hid (((s[p].toNat : Int) == (x[i].toNat : Int)) = true) := hy
  clear HC hr hy hc he 
  go_enter Tryd.func68, Tryd.ntmps68
  go_wp2_with fail
  refine (HCC.out).mono ?_
  rintro e w1 ⟨rfl, n, rfl⟩
  rw [HY.out]
  have HR1 : Hid (RS b s p (w.drewN n)) := HR.out.drew n
  have HG1 : Hid (G b w (w.drewN n)) := G.drewN b w n
  generalize w.drewN n = w1 at *
  have c0 := HR1.out.c0
  have c1 := HR1.out.c1
  have f1 := HR1.out.fz 1
  have HR2 : Hid (RS b s (p + 1) (w1.setCell ⟨b, 1, none⟩ (.int .i64 (p + 1 : Nat)))) := HR1.out.set (p + 1)
  have HG2 : Hid (G b w (w1.setCell ⟨b, 1, none⟩ (.int .i64 (p + 1 : Nat)))) := HG1.out.trans (G.set b w1 1 _)
  have hce : ((p + 1 : Nat) : Int) = (p : Int) + 1 := by omega
  rw [hce] at HR2 HG2
  clear hce
  have d0 : (w1.setCell ⟨b, 1, none⟩ (.int .i64 ((p : Int) + 1))).cell? ⟨b, 0, none⟩ = some (.string s) := HR2.out.c0
  have d1 : (w1.setCell ⟨b, 1, none⟩ (.int .i64 ((p : Int) + 1))).cell? ⟨b, 1, none⟩ = some (.int .i64 ((p : Int) + 1)) := by have := HR2.out.c1; simpa using this
  have hlt2 : (p : Int) < (s.size : Int) := by omega
  go_wp2_with fail
  generalize w1.setCell ⟨b, 1, none⟩ (.int .i64 ((p : Int) + 1)) = W at *
  go_quiet (fail)
  go_wp2_with fail
  go_ret
  exact ⟨by simp, HR2.out.drew _, HG2.out.trans (G.drewN b W _)⟩
set_option maxRecDepth 100000 in
set_option maxHeartbeats 1000000 in
theorem one69_no (b : Nat) (s : ByteArray) (p : Nat) (d e : Nat) (x : ByteArray) (i : Nat) (hi : i < x.size) (w : World) (hc : w.cell? ⟨d, 0, none⟩ = some (.string x)) (he : w.cell? ⟨e, 0, none⟩ = some (.int .i64 i)) (hr : RS b s p w) (hno : (hlt : p < s.size) → ((s[p].toNat : Int) == (x[i].toNat : Int)) = false) :
    Calls Tryd.prog 68 #[.pointer (some ⟨b, 0, none⟩), .func (.func 69) #[] #[.pointer (some ⟨d, 0, none⟩), .pointer (some ⟨e, 0, none⟩)]] w fun e w' => e = .panicked [pent p] ∧ G b w w' := by
  have HR : Hid (RS b s p w) := hr
  have HCC : Hid (Calls Tryd.prog 78 #[.pointer (some ⟨b, 0, none⟩), .func (.func 69) #[] #[.pointer (some ⟨d, 0, none⟩), .pointer (some ⟨e, 0, none⟩)]] w fun e w' => e = .returned (.bool false) ∧ ∃ n, w' = w.drewN n) := by
    by_cases hlt : p < s.size
    · have := sees69_in b s p d e x i hi w hc he hr hlt
      rw [hno hlt] at this; exact this
    · exact sees69_out b s p d e w hr hlt
  clear hr hno hc he 
  go_enter Tryd.func68, Tryd.ntmps68
  go_wp2_with fail
  refine (HCC.out).mono ?_
  rintro e w1 ⟨rfl, n, rfl⟩
  go_wp2_with fail
  refine (giveUp_any b s p _ (HR.out.drew n)).mono ?_
  rintro e w2 ⟨rfl, rfl⟩
  exact ⟨rfl, rfl, G.drewN b w n⟩
end Go.Proofs.YtmggaclaoefdaaaDoor
