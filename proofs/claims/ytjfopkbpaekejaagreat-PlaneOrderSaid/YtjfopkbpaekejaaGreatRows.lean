/-
  No cell of these rows narrows 'for every input' (looked for: loops, veiled, ifaces, maps, wideKeys, modest, calm, conditions, laid).
  DERIVED. THE GIVEN ROWS OF THIS SEAT. 4 by the template 'for every input the law returns true; each argument reads behind the call as it read before'; 0 by the template 'total and deterministic' (their statements: YtjfopkbpaekejaaGreatTotals.lean).
  GIVEN WITH THE SEED: the statements are not yours to turn. If you find one false, say at which input.
  Laid BY PROGRAM, IN A SANDBOX (cutbox-rows.mjs): the forced cells as the released guide's own fill.sh prints them over the translation 979571a1f69b714a… (all of the seat's roots in one cut). By AI agents, Wed Nov 11 2026. No macro, syntax, notation, axiom, sorry.
-/
import Derived.Test.YtjfopkbpaekejaaGreatChecked
import GoSem.Claim
import GoSem.ClaimJoined
import GoSem.ClaimMapViews
import Derived.JoinedTies
import Derived.KernelRfl
namespace Go.Proofs.YtjfopkbpaekejaaGreat
/- THE CELL 'sum', in the pinned program and in every row, IS THE sha256 OF THE DUMP (.gsa) THAT YtjfopkbpaekejaaGreatProg.lean LOADS. Nothing in Lean hashes anything: it is a label: what it is worth is what the hold of that sum in a sandbox is worth. -/
noncomputable def Tryz.pinned : Pinned := { name := "ytjfopkbpaekejaagreat", sum := "979571a1f69b714adce251f339c7921700e56aa24e9f04f01f050cb054643903", checked := Tryz.checked }
namespace Rows
def none {H : Type} : Left H := { results := [], args := [] }

/-- 'roundhouselaw9.PlaneOrder': WHATEVER THE INPUT: true; the input reads as it did. -/
def planeOrderSpec : ChangeSpec := { name := "planeOrder", fn := fun _ => fun
  | [d1, d2, d3, d4] => { results := [.lit (.bool true)], args := [d1, d2, d3, d4] }
  | _ => none }
def planeOrderRow : OpenClaim := { program := "ytjfopkbpaekejaagreat", sum := "979571a1f69b714adce251f339c7921700e56aa24e9f04f01f050cb054643903", func := "roundhouse/roundhouselaw9.PlaneOrder", spec := "planeOrder", unfollowed := true, recurses := true, apart := false }
def PlaneOrderSaid : Prop := planeOrderRow.holds Tryz.pinned (OpenSpec.ofChange planeOrderSpec)

/-- ITS FALSE NEIGHBOUR: 'it returns false'. Refute it at one input. -/
def planeOrderWrong : ChangeSpec := { name := "planeOrder", fn := fun _ => fun
  | [d1, d2, d3, d4] => { results := [.lit (.bool false)], args := [d1, d2, d3, d4] }
  | _ => none }
def PlaneOrderWrongFalsely : Prop := planeOrderRow.holds Tryz.pinned (OpenSpec.ofChange planeOrderWrong)

/-- 'roundhouselaw9.PlaneOpens': WHATEVER THE INPUT: true; the input reads as it did. -/
def planeOpensSpec : ChangeSpec := { name := "planeOpens", fn := fun _ => fun
  | [d1, d2, d3, d4, d5] => { results := [.lit (.bool true)], args := [d1, d2, d3, d4, d5] }
  | _ => none }
def planeOpensRow : OpenClaim := { program := "ytjfopkbpaekejaagreat", sum := "979571a1f69b714adce251f339c7921700e56aa24e9f04f01f050cb054643903", func := "roundhouse/roundhouselaw9.PlaneOpens", spec := "planeOpens", unfollowed := true, recurses := true, apart := false }
def PlaneOpensSaid : Prop := planeOpensRow.holds Tryz.pinned (OpenSpec.ofChange planeOpensSpec)

/-- ITS FALSE NEIGHBOUR: 'it returns false'. Refute it at one input. -/
def planeOpensWrong : ChangeSpec := { name := "planeOpens", fn := fun _ => fun
  | [d1, d2, d3, d4, d5] => { results := [.lit (.bool false)], args := [d1, d2, d3, d4, d5] }
  | _ => none }
def PlaneOpensWrongFalsely : Prop := planeOpensRow.holds Tryz.pinned (OpenSpec.ofChange planeOpensWrong)

/-- 'roundhouselaw9.PlaneShut': WHATEVER THE INPUT: true; the input reads as it did. -/
def planeShutSpec : ChangeSpec := { name := "planeShut", fn := fun _ => fun
  | [d1, d2, d3] => { results := [.lit (.bool true)], args := [d1, d2, d3] }
  | _ => none }
def planeShutRow : OpenClaim := { program := "ytjfopkbpaekejaagreat", sum := "979571a1f69b714adce251f339c7921700e56aa24e9f04f01f050cb054643903", func := "roundhouse/roundhouselaw9.PlaneShut", spec := "planeShut", unfollowed := true, recurses := true, apart := false }
def PlaneShutSaid : Prop := planeShutRow.holds Tryz.pinned (OpenSpec.ofChange planeShutSpec)

/-- ITS FALSE NEIGHBOUR: 'it returns false'. Refute it at one input. -/
def planeShutWrong : ChangeSpec := { name := "planeShut", fn := fun _ => fun
  | [d1, d2, d3] => { results := [.lit (.bool false)], args := [d1, d2, d3] }
  | _ => none }
def PlaneShutWrongFalsely : Prop := planeShutRow.holds Tryz.pinned (OpenSpec.ofChange planeShutWrong)

/-- 'roundhouselaw9.PlaneNears': WHATEVER THE INPUT: true; the input reads as it did. -/
def planeNearsSpec : ChangeSpec := { name := "planeNears", fn := fun _ => fun
  | [d1, d2, d3, d4] => { results := [.lit (.bool true)], args := [d1, d2, d3, d4] }
  | _ => none }
def planeNearsRow : OpenClaim := { program := "ytjfopkbpaekejaagreat", sum := "979571a1f69b714adce251f339c7921700e56aa24e9f04f01f050cb054643903", func := "roundhouse/roundhouselaw9.PlaneNears", spec := "planeNears", unfollowed := true, recurses := true, apart := false }
def PlaneNearsSaid : Prop := planeNearsRow.holds Tryz.pinned (OpenSpec.ofChange planeNearsSpec)

/-- ITS FALSE NEIGHBOUR: 'it returns false'. Refute it at one input. -/
def planeNearsWrong : ChangeSpec := { name := "planeNears", fn := fun _ => fun
  | [d1, d2, d3, d4] => { results := [.lit (.bool false)], args := [d1, d2, d3, d4] }
  | _ => none }
def PlaneNearsWrongFalsely : Prop := planeNearsRow.holds Tryz.pinned (OpenSpec.ofChange planeNearsWrong)

/- THE SECOND FORM. 'bulk': how many values and letters a reading holds, each counted each time it is reached (what is shared counts as often as it is met; a slice's spare places count too). A statement '..UptoSaid' is the law's where the arguments, and the package variables that the reading takes, are together of bulk at most 1048576: NARROWER than '..Said'. Prove '..Said' where nothing that the law and all that it calls make is longer than what came in: it says more and counts as full. Else prove '..UptoSaid'. A law counts once. -/
mutual
def uptoBulk {H : Type} : DataW H → Nat
  | .lit (.string bytes) => bytes.length + 1
  | .lit _ => 1
  | .nil => 1
  | .ptr d => uptoBulk d + 1
  | .slice elems spare => uptoBulkAll elems + uptoBulkAll spare + 1
  | .agg parts => uptoBulkAll parts + 1
  | .iface _ d => uptoBulk d + 1
  | .map entries => uptoBulkEntries entries + 1
  | .held _ => 1
def uptoBulkAll {H : Type} : List (DataW H) → Nat
  | [] => 0
  | d :: r => uptoBulk d + uptoBulkAll r
def uptoBulkEntries {H : Type} : List (Lit × DataW H) → Nat
  | [] => 0
  | x :: r => uptoBulkEntry x + uptoBulkEntries r
def uptoBulkEntry {H : Type} : Lit × DataW H → Nat
  | (.string bytes, d) => bytes.length + uptoBulk d + 1
  | (_, d) => uptoBulk d + 1
 end
def uptoSmall : (H : Type) → List (DataW H) → Bool := fun _ ds => decide (uptoBulkAll ds ≤ 1048576)
def OpenSpec.upto (s : _root_.Go.ChangeSpec) : _root_.Go.OpenSpec := { _root_.Go.OpenSpec.ofChange s with cond := some uptoSmall }

/-- 'roundhouselaw9.PlaneOrder', WHERE WHAT IT READS IS OF BULK AT MOST 1048576: true; the input reads as it did. -/
def planeOrderUptoRow : OpenClaim := { program := "ytjfopkbpaekejaagreat", sum := "979571a1f69b714adce251f339c7921700e56aa24e9f04f01f050cb054643903", func := "roundhouse/roundhouselaw9.PlaneOrder", spec := "planeOrder", unfollowed := true, recurses := true, apart := false, narrowed := true }
def PlaneOrderUptoSaid : Prop := planeOrderUptoRow.holds Tryz.pinned (OpenSpec.upto planeOrderSpec)

/-- 'roundhouselaw9.PlaneOpens', WHERE WHAT IT READS IS OF BULK AT MOST 1048576: true; the input reads as it did. -/
def planeOpensUptoRow : OpenClaim := { program := "ytjfopkbpaekejaagreat", sum := "979571a1f69b714adce251f339c7921700e56aa24e9f04f01f050cb054643903", func := "roundhouse/roundhouselaw9.PlaneOpens", spec := "planeOpens", unfollowed := true, recurses := true, apart := false, narrowed := true }
def PlaneOpensUptoSaid : Prop := planeOpensUptoRow.holds Tryz.pinned (OpenSpec.upto planeOpensSpec)

/-- 'roundhouselaw9.PlaneShut', WHERE WHAT IT READS IS OF BULK AT MOST 1048576: true; the input reads as it did. -/
def planeShutUptoRow : OpenClaim := { program := "ytjfopkbpaekejaagreat", sum := "979571a1f69b714adce251f339c7921700e56aa24e9f04f01f050cb054643903", func := "roundhouse/roundhouselaw9.PlaneShut", spec := "planeShut", unfollowed := true, recurses := true, apart := false, narrowed := true }
def PlaneShutUptoSaid : Prop := planeShutUptoRow.holds Tryz.pinned (OpenSpec.upto planeShutSpec)

/-- 'roundhouselaw9.PlaneNears', WHERE WHAT IT READS IS OF BULK AT MOST 1048576: true; the input reads as it did. -/
def planeNearsUptoRow : OpenClaim := { program := "ytjfopkbpaekejaagreat", sum := "979571a1f69b714adce251f339c7921700e56aa24e9f04f01f050cb054643903", func := "roundhouse/roundhouselaw9.PlaneNears", spec := "planeNears", unfollowed := true, recurses := true, apart := false, narrowed := true }
def PlaneNearsUptoSaid : Prop := planeNearsUptoRow.holds Tryz.pinned (OpenSpec.upto planeNearsSpec)

end Rows
end Go.Proofs.YtjfopkbpaekejaaGreat
