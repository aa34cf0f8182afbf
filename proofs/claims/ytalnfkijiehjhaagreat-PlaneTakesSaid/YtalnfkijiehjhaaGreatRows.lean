/-
  No cell of these rows narrows 'for every input' (looked for: loops, veiled, ifaces, maps, wideKeys, modest, calm, conditions, laid).
  DERIVED. THE GIVEN ROWS OF THIS SEAT. 5 by the template 'for every input the law returns true; each argument reads behind the call as it read before'; 0 by the template 'total and deterministic' (their statements: YtalnfkijiehjhaaGreatTotals.lean).
  GIVEN WITH THE SEED: the statements are not yours to turn. If you find one false, say at which input.
  Laid BY PROGRAM, IN A SANDBOX (cutbox-rows.mjs): the forced cells as the released guide's own fill.sh prints them over the translation 13df4921c82acc94… (all of the seat's roots in one cut). By AI agents, Wed Nov 11 2026. No macro, syntax, notation, axiom, sorry.
-/
import Derived.Test.YtalnfkijiehjhaaGreatChecked
import GoSem.Claim
import GoSem.ClaimJoined
import GoSem.ClaimMapViews
import Derived.JoinedTies
import Derived.KernelRfl
namespace Go.Proofs.YtalnfkijiehjhaaGreat
/- THE CELL 'sum', in the pinned program and in every row, IS THE sha256 OF THE DUMP (.gsa) THAT YtalnfkijiehjhaaGreatProg.lean LOADS. Nothing in Lean hashes anything: it is a label: what it is worth is what the hold of that sum in a sandbox is worth. -/
noncomputable def Tryz.pinned : Pinned := { name := "ytalnfkijiehjhaagreat", sum := "13df4921c82acc947fdd85b77e85f85348cc1b4935cbd6909b68af611464f7b0", checked := Tryz.checked }
namespace Rows
def none {H : Type} : Left H := { results := [], args := [] }

/-- 'roundhouselaw9.PlaneTakes': WHATEVER THE INPUT: true; the input reads as it did. -/
def planeTakesSpec : ChangeSpec := { name := "planeTakes", fn := fun _ => fun
  | [d1, d2, d3, d4] => { results := [.lit (.bool true)], args := [d1, d2, d3, d4] }
  | _ => none }
def planeTakesRow : OpenClaim := { program := "ytalnfkijiehjhaagreat", sum := "13df4921c82acc947fdd85b77e85f85348cc1b4935cbd6909b68af611464f7b0", func := "roundhouse/roundhouselaw9.PlaneTakes", spec := "planeTakes", unfollowed := true, recurses := true, apart := false }
def PlaneTakesSaid : Prop := planeTakesRow.holds Tryz.pinned (OpenSpec.ofChange planeTakesSpec)

/-- ITS FALSE NEIGHBOUR: 'it returns false'. Refute it at one input. -/
def planeTakesWrong : ChangeSpec := { name := "planeTakes", fn := fun _ => fun
  | [d1, d2, d3, d4] => { results := [.lit (.bool false)], args := [d1, d2, d3, d4] }
  | _ => none }
def PlaneTakesWrongFalsely : Prop := planeTakesRow.holds Tryz.pinned (OpenSpec.ofChange planeTakesWrong)

/-- 'roundhouselaw9.PlaneSame': WHATEVER THE INPUT: true; the input reads as it did. -/
def planeSameSpec : ChangeSpec := { name := "planeSame", fn := fun _ => fun
  | [d1, d2, d3, d4, d5] => { results := [.lit (.bool true)], args := [d1, d2, d3, d4, d5] }
  | _ => none }
def planeSameRow : OpenClaim := { program := "ytalnfkijiehjhaagreat", sum := "13df4921c82acc947fdd85b77e85f85348cc1b4935cbd6909b68af611464f7b0", func := "roundhouse/roundhouselaw9.PlaneSame", spec := "planeSame", unfollowed := true, recurses := true, apart := false }
def PlaneSameSaid : Prop := planeSameRow.holds Tryz.pinned (OpenSpec.ofChange planeSameSpec)

/-- ITS FALSE NEIGHBOUR: 'it returns false'. Refute it at one input. -/
def planeSameWrong : ChangeSpec := { name := "planeSame", fn := fun _ => fun
  | [d1, d2, d3, d4, d5] => { results := [.lit (.bool false)], args := [d1, d2, d3, d4, d5] }
  | _ => none }
def PlaneSameWrongFalsely : Prop := planeSameRow.holds Tryz.pinned (OpenSpec.ofChange planeSameWrong)

/-- 'roundhouselaw9.PlaneTrue': WHATEVER THE INPUT: true; the input reads as it did. -/
def planeTrueSpec : ChangeSpec := { name := "planeTrue", fn := fun _ => fun
  | [d1, d2, d3] => { results := [.lit (.bool true)], args := [d1, d2, d3] }
  | _ => none }
def planeTrueRow : OpenClaim := { program := "ytalnfkijiehjhaagreat", sum := "13df4921c82acc947fdd85b77e85f85348cc1b4935cbd6909b68af611464f7b0", func := "roundhouse/roundhouselaw9.PlaneTrue", spec := "planeTrue", unfollowed := true, recurses := true, apart := false }
def PlaneTrueSaid : Prop := planeTrueRow.holds Tryz.pinned (OpenSpec.ofChange planeTrueSpec)

/-- ITS FALSE NEIGHBOUR: 'it returns false'. Refute it at one input. -/
def planeTrueWrong : ChangeSpec := { name := "planeTrue", fn := fun _ => fun
  | [d1, d2, d3] => { results := [.lit (.bool false)], args := [d1, d2, d3] }
  | _ => none }
def PlaneTrueWrongFalsely : Prop := planeTrueRow.holds Tryz.pinned (OpenSpec.ofChange planeTrueWrong)

/-- 'roundhouselaw9.PlaneCrash': WHATEVER THE INPUT: true; the input reads as it did. -/
def planeCrashSpec : ChangeSpec := { name := "planeCrash", fn := fun _ => fun
  | [d1, d2, d3, d4, d5] => { results := [.lit (.bool true)], args := [d1, d2, d3, d4, d5] }
  | _ => none }
def planeCrashRow : OpenClaim := { program := "ytalnfkijiehjhaagreat", sum := "13df4921c82acc947fdd85b77e85f85348cc1b4935cbd6909b68af611464f7b0", func := "roundhouse/roundhouselaw9.PlaneCrash", spec := "planeCrash", unfollowed := true, recurses := true, apart := false }
def PlaneCrashSaid : Prop := planeCrashRow.holds Tryz.pinned (OpenSpec.ofChange planeCrashSpec)

/-- ITS FALSE NEIGHBOUR: 'it returns false'. Refute it at one input. -/
def planeCrashWrong : ChangeSpec := { name := "planeCrash", fn := fun _ => fun
  | [d1, d2, d3, d4, d5] => { results := [.lit (.bool false)], args := [d1, d2, d3, d4, d5] }
  | _ => none }
def PlaneCrashWrongFalsely : Prop := planeCrashRow.holds Tryz.pinned (OpenSpec.ofChange planeCrashWrong)

/-- 'roundhouselaw9.PlaneOwn': WHATEVER THE INPUT: true; the input reads as it did. -/
def planeOwnSpec : ChangeSpec := { name := "planeOwn", fn := fun _ => fun
  | [d1, d2, d3] => { results := [.lit (.bool true)], args := [d1, d2, d3] }
  | _ => none }
def planeOwnRow : OpenClaim := { program := "ytalnfkijiehjhaagreat", sum := "13df4921c82acc947fdd85b77e85f85348cc1b4935cbd6909b68af611464f7b0", func := "roundhouse/roundhouselaw9.PlaneOwn", spec := "planeOwn", unfollowed := true, recurses := true, apart := false }
def PlaneOwnSaid : Prop := planeOwnRow.holds Tryz.pinned (OpenSpec.ofChange planeOwnSpec)

/-- ITS FALSE NEIGHBOUR: 'it returns false'. Refute it at one input. -/
def planeOwnWrong : ChangeSpec := { name := "planeOwn", fn := fun _ => fun
  | [d1, d2, d3] => { results := [.lit (.bool false)], args := [d1, d2, d3] }
  | _ => none }
def PlaneOwnWrongFalsely : Prop := planeOwnRow.holds Tryz.pinned (OpenSpec.ofChange planeOwnWrong)

/- THE SECOND FORM. 'bulk': how many values and letters a reading holds, each counted each time it is reached (what is shared counts as often as it is met; a slice's spare places count too). A statement '..UptoSaid' is the law's where the arguments, and the package variables that the reading takes, are together of bulk at most 1048576: NARROWER than '..Said'. Prove '..Said' where nothing that the law and all that it calls make is longer than what came in: it says more and counts as full. Else prove '..UptoSaid'. A law counts once. -/
mutual
def uptoBulk {H : Type} : DataW H → Nat
  | .lit (.string bytes) => bytes.length + 1
  | .lit _ => 1
  | .nil => 1
  | .ptr d => uptoBulk d + 1
  | .slice elems spare => uptoBulkAll elems + uptoBulkAll spare + 1
  | .agg parts => uptoBulkAll parts + 1
  | .iface _ d => uptoBulk d + 1
  | .map entries => uptoBulkEntries entries + 1
  | .held _ => 1
def uptoBulkAll {H : Type} : List (DataW H) → Nat
  | [] => 0
  | d :: r => uptoBulk d + uptoBulkAll r
def uptoBulkEntries {H : Type} : List (Lit × DataW H) → Nat
  | [] => 0
  | x :: r => uptoBulkEntry x + uptoBulkEntries r
def uptoBulkEntry {H : Type} : Lit × DataW H → Nat
  | (.string bytes, d) => bytes.length + uptoBulk d + 1
  | (_, d) => uptoBulk d + 1
 end
def uptoSmall : (H : Type) → List (DataW H) → Bool := fun _ ds => decide (uptoBulkAll ds ≤ 1048576)
def OpenSpec.upto (s : _root_.Go.ChangeSpec) : _root_.Go.OpenSpec := { _root_.Go.OpenSpec.ofChange s with cond := some uptoSmall }

/-- 'roundhouselaw9.PlaneTakes', WHERE WHAT IT READS IS OF BULK AT MOST 1048576: true; the input reads as it did. -/
def planeTakesUptoRow : OpenClaim := { program := "ytalnfkijiehjhaagreat", sum := "13df4921c82acc947fdd85b77e85f85348cc1b4935cbd6909b68af611464f7b0", func := "roundhouse/roundhouselaw9.PlaneTakes", spec := "planeTakes", unfollowed := true, recurses := true, apart := false, narrowed := true }
def PlaneTakesUptoSaid : Prop := planeTakesUptoRow.holds Tryz.pinned (OpenSpec.upto planeTakesSpec)

/-- 'roundhouselaw9.PlaneSame', WHERE WHAT IT READS IS OF BULK AT MOST 1048576: true; the input reads as it did. -/
def planeSameUptoRow : OpenClaim := { program := "ytalnfkijiehjhaagreat", sum := "13df4921c82acc947fdd85b77e85f85348cc1b4935cbd6909b68af611464f7b0", func := "roundhouse/roundhouselaw9.PlaneSame", spec := "planeSame", unfollowed := true, recurses := true, apart := false, narrowed := true }
def PlaneSameUptoSaid : Prop := planeSameUptoRow.holds Tryz.pinned (OpenSpec.upto planeSameSpec)

/-- 'roundhouselaw9.PlaneTrue', WHERE WHAT IT READS IS OF BULK AT MOST 1048576: true; the input reads as it did. -/
def planeTrueUptoRow : OpenClaim := { program := "ytalnfkijiehjhaagreat", sum := "13df4921c82acc947fdd85b77e85f85348cc1b4935cbd6909b68af611464f7b0", func := "roundhouse/roundhouselaw9.PlaneTrue", spec := "planeTrue", unfollowed := true, recurses := true, apart := false, narrowed := true }
def PlaneTrueUptoSaid : Prop := planeTrueUptoRow.holds Tryz.pinned (OpenSpec.upto planeTrueSpec)

/-- 'roundhouselaw9.PlaneCrash', WHERE WHAT IT READS IS OF BULK AT MOST 1048576: true; the input reads as it did. -/
def planeCrashUptoRow : OpenClaim := { program := "ytalnfkijiehjhaagreat", sum := "13df4921c82acc947fdd85b77e85f85348cc1b4935cbd6909b68af611464f7b0", func := "roundhouse/roundhouselaw9.PlaneCrash", spec := "planeCrash", unfollowed := true, recurses := true, apart := false, narrowed := true }
def PlaneCrashUptoSaid : Prop := planeCrashUptoRow.holds Tryz.pinned (OpenSpec.upto planeCrashSpec)

/-- 'roundhouselaw9.PlaneOwn', WHERE WHAT IT READS IS OF BULK AT MOST 1048576: true; the input reads as it did. -/
def planeOwnUptoRow : OpenClaim := { program := "ytalnfkijiehjhaagreat", sum := "13df4921c82acc947fdd85b77e85f85348cc1b4935cbd6909b68af611464f7b0", func := "roundhouse/roundhouselaw9.PlaneOwn", spec := "planeOwn", unfollowed := true, recurses := true, apart := false, narrowed := true }
def PlaneOwnUptoSaid : Prop := planeOwnUptoRow.holds Tryz.pinned (OpenSpec.upto planeOwnSpec)

end Rows
end Go.Proofs.YtalnfkijiehjhaaGreat
