/-
  NARROWER THAN 'FOR EVERY INPUT', by the rows' own cells (each row's printed sentence says how): MachineChecks: loops · MachineSteps: loops · MachineRuns: loops · CollectTells: loops · CollectSame: loops.
  DERIVED. THE GIVEN ROWS OF THIS SEAT. 5 by the template 'for every input the law returns true; each argument reads behind the call as it read before'; 0 by the template 'total and deterministic' (their statements: YtmggaclaoefdaabGreatTotals.lean).
  GIVEN WITH THE SEED: the statements are not yours to turn. If you find one false, say at which input.
  Laid BY PROGRAM, IN A SANDBOX (cutbox-rows.mjs): the forced cells as the released guide's own fill.sh prints them over the translation a30101925b863d6c… (all of the seat's roots in one cut). By AI agents, Wed Nov 11 2026. No macro, syntax, notation, axiom, sorry.
-/
import Derived.Test.YtmggaclaoefdaabGreatChecked
import GoSem.Claim
import GoSem.ClaimJoined
import GoSem.ClaimMapViews
import Derived.JoinedTies
import Derived.KernelRfl
namespace Go.Proofs.YtmggaclaoefdaabGreat
/- THE CELL 'sum', in the pinned program and in every row, IS THE sha256 OF THE DUMP (.gsa) THAT YtmggaclaoefdaabGreatProg.lean LOADS. Nothing in Lean hashes anything: it is a label: what it is worth is what the hold of that sum in a sandbox is worth. -/
noncomputable def Tryz.pinned : Pinned := { name := "ytmggaclaoefdaabgreat", sum := "a30101925b863d6c65442c896bd07f64168d61f32ceb7b6e9c5b4507ee8589c6", checked := Tryz.checked }
namespace Rows
def none {H : Type} : Left H := { results := [], args := [] }

/-- 'palisadelaw.MachineChecks': WHATEVER THE INPUT: true; the input reads as it did. -/
def machineChecksSpec : ChangeSpec := { name := "machineChecks", fn := fun _ => fun
  | [d1, d2, d3] => { results := [.lit (.bool true)], args := [d1, d2, d3] }
  | _ => none }
def machineChecksRow : OpenClaim := { program := "ytmggaclaoefdaabgreat", sum := "a30101925b863d6c65442c896bd07f64168d61f32ceb7b6e9c5b4507ee8589c6", func := "palisade/palisadelaw.MachineChecks", spec := "machineChecks", unfollowed := true, recurses := true, loops := true, apart := false }
def MachineChecksSaid : Prop := machineChecksRow.holds Tryz.pinned (OpenSpec.ofChange machineChecksSpec)

/-- ITS FALSE NEIGHBOUR: 'it returns false'. Refute it at one input. -/
def machineChecksWrong : ChangeSpec := { name := "machineChecks", fn := fun _ => fun
  | [d1, d2, d3] => { results := [.lit (.bool false)], args := [d1, d2, d3] }
  | _ => none }
def MachineChecksWrongFalsely : Prop := machineChecksRow.holds Tryz.pinned (OpenSpec.ofChange machineChecksWrong)

/-- 'palisadelaw.MachineSteps': WHATEVER THE INPUT: true; the input reads as it did. -/
def machineStepsSpec : ChangeSpec := { name := "machineSteps", fn := fun _ => fun
  | [d1, d2] => { results := [.lit (.bool true)], args := [d1, d2] }
  | _ => none }
def machineStepsRow : OpenClaim := { program := "ytmggaclaoefdaabgreat", sum := "a30101925b863d6c65442c896bd07f64168d61f32ceb7b6e9c5b4507ee8589c6", func := "palisade/palisadelaw.MachineSteps", spec := "machineSteps", unfollowed := true, recurses := true, loops := true, apart := false }
def MachineStepsSaid : Prop := machineStepsRow.holds Tryz.pinned (OpenSpec.ofChange machineStepsSpec)

/-- ITS FALSE NEIGHBOUR: 'it returns false'. Refute it at one input. -/
def machineStepsWrong : ChangeSpec := { name := "machineSteps", fn := fun _ => fun
  | [d1, d2] => { results := [.lit (.bool false)], args := [d1, d2] }
  | _ => none }
def MachineStepsWrongFalsely : Prop := machineStepsRow.holds Tryz.pinned (OpenSpec.ofChange machineStepsWrong)

/-- 'palisadelaw.MachineRuns': WHATEVER THE INPUT: true; the input reads as it did. -/
def machineRunsSpec : ChangeSpec := { name := "machineRuns", fn := fun _ => fun
  | [d1, d2, d3] => { results := [.lit (.bool true)], args := [d1, d2, d3] }
  | _ => none }
def machineRunsRow : OpenClaim := { program := "ytmggaclaoefdaabgreat", sum := "a30101925b863d6c65442c896bd07f64168d61f32ceb7b6e9c5b4507ee8589c6", func := "palisade/palisadelaw.MachineRuns", spec := "machineRuns", unfollowed := true, recurses := true, loops := true, apart := false }
def MachineRunsSaid : Prop := machineRunsRow.holds Tryz.pinned (OpenSpec.ofChange machineRunsSpec)

/-- ITS FALSE NEIGHBOUR: 'it returns false'. Refute it at one input. -/
def machineRunsWrong : ChangeSpec := { name := "machineRuns", fn := fun _ => fun
  | [d1, d2, d3] => { results := [.lit (.bool false)], args := [d1, d2, d3] }
  | _ => none }
def MachineRunsWrongFalsely : Prop := machineRunsRow.holds Tryz.pinned (OpenSpec.ofChange machineRunsWrong)

/-- 'palisadelaw.CollectTells': WHATEVER THE INPUT: true; the input reads as it did. -/
def collectTellsSpec : ChangeSpec := { name := "collectTells", fn := fun _ => fun
  | [d1, d2] => { results := [.lit (.bool true)], args := [d1, d2] }
  | _ => none }
def collectTellsRow : OpenClaim := { program := "ytmggaclaoefdaabgreat", sum := "a30101925b863d6c65442c896bd07f64168d61f32ceb7b6e9c5b4507ee8589c6", func := "palisade/palisadelaw.CollectTells", spec := "collectTells", unfollowed := true, recurses := true, loops := true, apart := false }
def CollectTellsSaid : Prop := collectTellsRow.holds Tryz.pinned (OpenSpec.ofChange collectTellsSpec)

/-- ITS FALSE NEIGHBOUR: 'it returns false'. Refute it at one input. -/
def collectTellsWrong : ChangeSpec := { name := "collectTells", fn := fun _ => fun
  | [d1, d2] => { results := [.lit (.bool false)], args := [d1, d2] }
  | _ => none }
def CollectTellsWrongFalsely : Prop := collectTellsRow.holds Tryz.pinned (OpenSpec.ofChange collectTellsWrong)

/-- 'palisadelaw.CollectSame': WHATEVER THE INPUT: true; the input reads as it did. -/
def collectSameSpec : ChangeSpec := { name := "collectSame", fn := fun _ => fun
  | [d1, d2, d3] => { results := [.lit (.bool true)], args := [d1, d2, d3] }
  | _ => none }
def collectSameRow : OpenClaim := { program := "ytmggaclaoefdaabgreat", sum := "a30101925b863d6c65442c896bd07f64168d61f32ceb7b6e9c5b4507ee8589c6", func := "palisade/palisadelaw.CollectSame", spec := "collectSame", unfollowed := true, recurses := true, loops := true, apart := false }
def CollectSameSaid : Prop := collectSameRow.holds Tryz.pinned (OpenSpec.ofChange collectSameSpec)

/-- ITS FALSE NEIGHBOUR: 'it returns false'. Refute it at one input. -/
def collectSameWrong : ChangeSpec := { name := "collectSame", fn := fun _ => fun
  | [d1, d2, d3] => { results := [.lit (.bool false)], args := [d1, d2, d3] }
  | _ => none }
def CollectSameWrongFalsely : Prop := collectSameRow.holds Tryz.pinned (OpenSpec.ofChange collectSameWrong)

/- THE SECOND FORM. 'bulk': how many values and letters a reading holds, each counted each time it is reached (what is shared counts as often as it is met; a slice's spare places count too). A statement '..UptoSaid' is the law's where the arguments, and the package variables that the reading takes, are together of bulk at most 1048576: NARROWER than '..Said'. Prove '..Said' where nothing that the law and all that it calls make is longer than what came in: it says more and counts as full. Else prove '..UptoSaid'. A law counts once. -/
mutual
def uptoBulk {H : Type} : DataW H → Nat
  | .lit (.string bytes) => bytes.length + 1
  | .lit _ => 1
  | .nil => 1
  | .ptr d => uptoBulk d + 1
  | .slice elems spare => uptoBulkAll elems + uptoBulkAll spare + 1
  | .agg parts => uptoBulkAll parts + 1
  | .iface _ d => uptoBulk d + 1
  | .map entries => uptoBulkEntries entries + 1
  | .held _ => 1
def uptoBulkAll {H : Type} : List (DataW H) → Nat
  | [] => 0
  | d :: r => uptoBulk d + uptoBulkAll r
def uptoBulkEntries {H : Type} : List (Lit × DataW H) → Nat
  | [] => 0
  | x :: r => uptoBulkEntry x + uptoBulkEntries r
def uptoBulkEntry {H : Type} : Lit × DataW H → Nat
  | (.string bytes, d) => bytes.length + uptoBulk d + 1
  | (_, d) => uptoBulk d + 1
 end
def uptoSmall : (H : Type) → List (DataW H) → Bool := fun _ ds => decide (uptoBulkAll ds ≤ 1048576)
def OpenSpec.upto (s : _root_.Go.ChangeSpec) : _root_.Go.OpenSpec := { _root_.Go.OpenSpec.ofChange s with cond := some uptoSmall }

/-- 'palisadelaw.MachineChecks', WHERE WHAT IT READS IS OF BULK AT MOST 1048576: true; the input reads as it did. -/
def machineChecksUptoRow : OpenClaim := { program := "ytmggaclaoefdaabgreat", sum := "a30101925b863d6c65442c896bd07f64168d61f32ceb7b6e9c5b4507ee8589c6", func := "palisade/palisadelaw.MachineChecks", spec := "machineChecks", unfollowed := true, recurses := true, loops := true, apart := false, narrowed := true }
def MachineChecksUptoSaid : Prop := machineChecksUptoRow.holds Tryz.pinned (OpenSpec.upto machineChecksSpec)

/-- 'palisadelaw.MachineSteps', WHERE WHAT IT READS IS OF BULK AT MOST 1048576: true; the input reads as it did. -/
def machineStepsUptoRow : OpenClaim := { program := "ytmggaclaoefdaabgreat", sum := "a30101925b863d6c65442c896bd07f64168d61f32ceb7b6e9c5b4507ee8589c6", func := "palisade/palisadelaw.MachineSteps", spec := "machineSteps", unfollowed := true, recurses := true, loops := true, apart := false, narrowed := true }
def MachineStepsUptoSaid : Prop := machineStepsUptoRow.holds Tryz.pinned (OpenSpec.upto machineStepsSpec)

/-- 'palisadelaw.MachineRuns', WHERE WHAT IT READS IS OF BULK AT MOST 1048576: true; the input reads as it did. -/
def machineRunsUptoRow : OpenClaim := { program := "ytmggaclaoefdaabgreat", sum := "a30101925b863d6c65442c896bd07f64168d61f32ceb7b6e9c5b4507ee8589c6", func := "palisade/palisadelaw.MachineRuns", spec := "machineRuns", unfollowed := true, recurses := true, loops := true, apart := false, narrowed := true }
def MachineRunsUptoSaid : Prop := machineRunsUptoRow.holds Tryz.pinned (OpenSpec.upto machineRunsSpec)

/-- 'palisadelaw.CollectTells', WHERE WHAT IT READS IS OF BULK AT MOST 1048576: true; the input reads as it did. -/
def collectTellsUptoRow : OpenClaim := { program := "ytmggaclaoefdaabgreat", sum := "a30101925b863d6c65442c896bd07f64168d61f32ceb7b6e9c5b4507ee8589c6", func := "palisade/palisadelaw.CollectTells", spec := "collectTells", unfollowed := true, recurses := true, loops := true, apart := false, narrowed := true }
def CollectTellsUptoSaid : Prop := collectTellsUptoRow.holds Tryz.pinned (OpenSpec.upto collectTellsSpec)

/-- 'palisadelaw.CollectSame', WHERE WHAT IT READS IS OF BULK AT MOST 1048576: true; the input reads as it did. -/
def collectSameUptoRow : OpenClaim := { program := "ytmggaclaoefdaabgreat", sum := "a30101925b863d6c65442c896bd07f64168d61f32ceb7b6e9c5b4507ee8589c6", func := "palisade/palisadelaw.CollectSame", spec := "collectSame", unfollowed := true, recurses := true, loops := true, apart := false, narrowed := true }
def CollectSameUptoSaid : Prop := collectSameUptoRow.holds Tryz.pinned (OpenSpec.upto collectSameSpec)

end Rows
end Go.Proofs.YtmggaclaoefdaabGreat
