/-
  No cell of these rows narrows 'for every input' (looked for: loops, veiled, ifaces, maps, wideKeys, modest, calm, conditions, laid).
  DERIVED. THE GIVEN ROWS OF THIS SEAT. 6 by the template 'for every input the law returns true; each argument reads behind the call as it read before'; 0 by the template 'total and deterministic' (their statements: YtomlpkojnipkhaaGreatTotals.lean).
  GIVEN WITH THE SEED: the statements are not yours to turn. If you find one false, say at which input.
  Laid BY PROGRAM, IN A SANDBOX (cutbox-rows.mjs): the forced cells as the released guide's own fill.sh prints them over the translation cab0d437e9184577… (all of the seat's roots in one cut). By AI agents, Wed Nov 11 2026. No macro, syntax, notation, axiom, sorry.
-/
import Derived.Test.YtomlpkojnipkhaaGreatChecked
import GoSem.Claim
import GoSem.ClaimJoined
import GoSem.ClaimMapViews
import Derived.JoinedTies
import Derived.KernelRfl
namespace Go.Proofs.YtomlpkojnipkhaaGreat
/- THE CELL 'sum', in the pinned program and in every row, IS THE sha256 OF THE DUMP (.gsa) THAT YtomlpkojnipkhaaGreatProg.lean LOADS. Nothing in Lean hashes anything: it is a label: what it is worth is what the hold of that sum in a sandbox is worth. -/
noncomputable def Tryz.pinned : Pinned := { name := "ytomlpkojnipkhaagreat", sum := "cab0d437e91845774831ce6e878f6406877c4fcda425f04f29f3d80a4bdbca06", checked := Tryz.checked }
namespace Rows
def none {H : Type} : Left H := { results := [], args := [] }

/-- 'roundhousetop.TopWays': WHATEVER THE INPUT: true; the input reads as it did. -/
def topWaysSpec : ChangeSpec := { name := "topWays", fn := fun _ => fun
  | [d1, d2, d3] => { results := [.lit (.bool true)], args := [d1, d2, d3] }
  | _ => none }
def topWaysRow : OpenClaim := { program := "ytomlpkojnipkhaagreat", sum := "cab0d437e91845774831ce6e878f6406877c4fcda425f04f29f3d80a4bdbca06", func := "roundhouse/roundhousetop.TopWays", spec := "topWays", unfollowed := true, recurses := true, apart := false }
def TopWaysSaid : Prop := topWaysRow.holds Tryz.pinned (OpenSpec.ofChange topWaysSpec)

/-- ITS FALSE NEIGHBOUR: 'it returns false'. Refute it at one input. -/
def topWaysWrong : ChangeSpec := { name := "topWays", fn := fun _ => fun
  | [d1, d2, d3] => { results := [.lit (.bool false)], args := [d1, d2, d3] }
  | _ => none }
def TopWaysWrongFalsely : Prop := topWaysRow.holds Tryz.pinned (OpenSpec.ofChange topWaysWrong)

/-- 'roundhousetop.TopSwap': WHATEVER THE INPUT: true; the input reads as it did. -/
def topSwapSpec : ChangeSpec := { name := "topSwap", fn := fun _ => fun
  | [d1, d2, d3, d4, d5] => { results := [.lit (.bool true)], args := [d1, d2, d3, d4, d5] }
  | _ => none }
def topSwapRow : OpenClaim := { program := "ytomlpkojnipkhaagreat", sum := "cab0d437e91845774831ce6e878f6406877c4fcda425f04f29f3d80a4bdbca06", func := "roundhouse/roundhousetop.TopSwap", spec := "topSwap", unfollowed := true, recurses := true, apart := false }
def TopSwapSaid : Prop := topSwapRow.holds Tryz.pinned (OpenSpec.ofChange topSwapSpec)

/-- ITS FALSE NEIGHBOUR: 'it returns false'. Refute it at one input. -/
def topSwapWrong : ChangeSpec := { name := "topSwap", fn := fun _ => fun
  | [d1, d2, d3, d4, d5] => { results := [.lit (.bool false)], args := [d1, d2, d3, d4, d5] }
  | _ => none }
def TopSwapWrongFalsely : Prop := topSwapRow.holds Tryz.pinned (OpenSpec.ofChange topSwapWrong)

/-- 'roundhousetop.TopReturn': WHATEVER THE INPUT: true; the input reads as it did. -/
def topReturnSpec : ChangeSpec := { name := "topReturn", fn := fun _ => fun
  | [d1, d2, d3, d4, d5] => { results := [.lit (.bool true)], args := [d1, d2, d3, d4, d5] }
  | _ => none }
def topReturnRow : OpenClaim := { program := "ytomlpkojnipkhaagreat", sum := "cab0d437e91845774831ce6e878f6406877c4fcda425f04f29f3d80a4bdbca06", func := "roundhouse/roundhousetop.TopReturn", spec := "topReturn", unfollowed := true, recurses := true, apart := false }
def TopReturnSaid : Prop := topReturnRow.holds Tryz.pinned (OpenSpec.ofChange topReturnSpec)

/-- ITS FALSE NEIGHBOUR: 'it returns false'. Refute it at one input. -/
def topReturnWrong : ChangeSpec := { name := "topReturn", fn := fun _ => fun
  | [d1, d2, d3, d4, d5] => { results := [.lit (.bool false)], args := [d1, d2, d3, d4, d5] }
  | _ => none }
def TopReturnWrongFalsely : Prop := topReturnRow.holds Tryz.pinned (OpenSpec.ofChange topReturnWrong)

/-- 'roundhousetop.TopChain': WHATEVER THE INPUT: true; the input reads as it did. -/
def topChainSpec : ChangeSpec := { name := "topChain", fn := fun _ => fun
  | [d1, d2, d3, d4, d5] => { results := [.lit (.bool true)], args := [d1, d2, d3, d4, d5] }
  | _ => none }
def topChainRow : OpenClaim := { program := "ytomlpkojnipkhaagreat", sum := "cab0d437e91845774831ce6e878f6406877c4fcda425f04f29f3d80a4bdbca06", func := "roundhouse/roundhousetop.TopChain", spec := "topChain", unfollowed := true, recurses := true, apart := false }
def TopChainSaid : Prop := topChainRow.holds Tryz.pinned (OpenSpec.ofChange topChainSpec)

/-- ITS FALSE NEIGHBOUR: 'it returns false'. Refute it at one input. -/
def topChainWrong : ChangeSpec := { name := "topChain", fn := fun _ => fun
  | [d1, d2, d3, d4, d5] => { results := [.lit (.bool false)], args := [d1, d2, d3, d4, d5] }
  | _ => none }
def TopChainWrongFalsely : Prop := topChainRow.holds Tryz.pinned (OpenSpec.ofChange topChainWrong)

/-- 'roundhousetop.TopYard': WHATEVER THE INPUT: true; the input reads as it did. -/
def topYardSpec : ChangeSpec := { name := "topYard", fn := fun _ => fun
  | [d1, d2, d3, d4, d5, d6, d7] => { results := [.lit (.bool true)], args := [d1, d2, d3, d4, d5, d6, d7] }
  | _ => none }
def topYardRow : OpenClaim := { program := "ytomlpkojnipkhaagreat", sum := "cab0d437e91845774831ce6e878f6406877c4fcda425f04f29f3d80a4bdbca06", func := "roundhouse/roundhousetop.TopYard", spec := "topYard", unfollowed := true, recurses := true, apart := false }
def TopYardSaid : Prop := topYardRow.holds Tryz.pinned (OpenSpec.ofChange topYardSpec)

/-- ITS FALSE NEIGHBOUR: 'it returns false'. Refute it at one input. -/
def topYardWrong : ChangeSpec := { name := "topYard", fn := fun _ => fun
  | [d1, d2, d3, d4, d5, d6, d7] => { results := [.lit (.bool false)], args := [d1, d2, d3, d4, d5, d6, d7] }
  | _ => none }
def TopYardWrongFalsely : Prop := topYardRow.holds Tryz.pinned (OpenSpec.ofChange topYardWrong)

/-- 'roundhousetop.TopHead': WHATEVER THE INPUT: true; the input reads as it did. -/
def topHeadSpec : ChangeSpec := { name := "topHead", fn := fun _ => fun
  | [d1, d2] => { results := [.lit (.bool true)], args := [d1, d2] }
  | _ => none }
def topHeadRow : OpenClaim := { program := "ytomlpkojnipkhaagreat", sum := "cab0d437e91845774831ce6e878f6406877c4fcda425f04f29f3d80a4bdbca06", func := "roundhouse/roundhousetop.TopHead", spec := "topHead", unfollowed := true, recurses := true, apart := false }
def TopHeadSaid : Prop := topHeadRow.holds Tryz.pinned (OpenSpec.ofChange topHeadSpec)

/-- ITS FALSE NEIGHBOUR: 'it returns false'. Refute it at one input. -/
def topHeadWrong : ChangeSpec := { name := "topHead", fn := fun _ => fun
  | [d1, d2] => { results := [.lit (.bool false)], args := [d1, d2] }
  | _ => none }
def TopHeadWrongFalsely : Prop := topHeadRow.holds Tryz.pinned (OpenSpec.ofChange topHeadWrong)

/- THE SECOND FORM. 'bulk': how many values and letters a reading holds, each counted each time it is reached (what is shared counts as often as it is met; a slice's spare places count too). A statement '..UptoSaid' is the law's where the arguments, and the package variables that the reading takes, are together of bulk at most 1048576: NARROWER than '..Said'. Prove '..Said' where nothing that the law and all that it calls make is longer than what came in: it says more and counts as full. Else prove '..UptoSaid'. A law counts once. -/
mutual
def uptoBulk {H : Type} : DataW H → Nat
  | .lit (.string bytes) => bytes.length + 1
  | .lit _ => 1
  | .nil => 1
  | .ptr d => uptoBulk d + 1
  | .slice elems spare => uptoBulkAll elems + uptoBulkAll spare + 1
  | .agg parts => uptoBulkAll parts + 1
  | .iface _ d => uptoBulk d + 1
  | .map entries => uptoBulkEntries entries + 1
  | .held _ => 1
def uptoBulkAll {H : Type} : List (DataW H) → Nat
  | [] => 0
  | d :: r => uptoBulk d + uptoBulkAll r
def uptoBulkEntries {H : Type} : List (Lit × DataW H) → Nat
  | [] => 0
  | x :: r => uptoBulkEntry x + uptoBulkEntries r
def uptoBulkEntry {H : Type} : Lit × DataW H → Nat
  | (.string bytes, d) => bytes.length + uptoBulk d + 1
  | (_, d) => uptoBulk d + 1
 end
def uptoSmall : (H : Type) → List (DataW H) → Bool := fun _ ds => decide (uptoBulkAll ds ≤ 1048576)
def OpenSpec.upto (s : _root_.Go.ChangeSpec) : _root_.Go.OpenSpec := { _root_.Go.OpenSpec.ofChange s with cond := some uptoSmall }

/-- 'roundhousetop.TopWays', WHERE WHAT IT READS IS OF BULK AT MOST 1048576: true; the input reads as it did. -/
def topWaysUptoRow : OpenClaim := { program := "ytomlpkojnipkhaagreat", sum := "cab0d437e91845774831ce6e878f6406877c4fcda425f04f29f3d80a4bdbca06", func := "roundhouse/roundhousetop.TopWays", spec := "topWays", unfollowed := true, recurses := true, apart := false, narrowed := true }
def TopWaysUptoSaid : Prop := topWaysUptoRow.holds Tryz.pinned (OpenSpec.upto topWaysSpec)

/-- 'roundhousetop.TopSwap', WHERE WHAT IT READS IS OF BULK AT MOST 1048576: true; the input reads as it did. -/
def topSwapUptoRow : OpenClaim := { program := "ytomlpkojnipkhaagreat", sum := "cab0d437e91845774831ce6e878f6406877c4fcda425f04f29f3d80a4bdbca06", func := "roundhouse/roundhousetop.TopSwap", spec := "topSwap", unfollowed := true, recurses := true, apart := false, narrowed := true }
def TopSwapUptoSaid : Prop := topSwapUptoRow.holds Tryz.pinned (OpenSpec.upto topSwapSpec)

/-- 'roundhousetop.TopReturn', WHERE WHAT IT READS IS OF BULK AT MOST 1048576: true; the input reads as it did. -/
def topReturnUptoRow : OpenClaim := { program := "ytomlpkojnipkhaagreat", sum := "cab0d437e91845774831ce6e878f6406877c4fcda425f04f29f3d80a4bdbca06", func := "roundhouse/roundhousetop.TopReturn", spec := "topReturn", unfollowed := true, recurses := true, apart := false, narrowed := true }
def TopReturnUptoSaid : Prop := topReturnUptoRow.holds Tryz.pinned (OpenSpec.upto topReturnSpec)

/-- 'roundhousetop.TopChain', WHERE WHAT IT READS IS OF BULK AT MOST 1048576: true; the input reads as it did. -/
def topChainUptoRow : OpenClaim := { program := "ytomlpkojnipkhaagreat", sum := "cab0d437e91845774831ce6e878f6406877c4fcda425f04f29f3d80a4bdbca06", func := "roundhouse/roundhousetop.TopChain", spec := "topChain", unfollowed := true, recurses := true, apart := false, narrowed := true }
def TopChainUptoSaid : Prop := topChainUptoRow.holds Tryz.pinned (OpenSpec.upto topChainSpec)

/-- 'roundhousetop.TopYard', WHERE WHAT IT READS IS OF BULK AT MOST 1048576: true; the input reads as it did. -/
def topYardUptoRow : OpenClaim := { program := "ytomlpkojnipkhaagreat", sum := "cab0d437e91845774831ce6e878f6406877c4fcda425f04f29f3d80a4bdbca06", func := "roundhouse/roundhousetop.TopYard", spec := "topYard", unfollowed := true, recurses := true, apart := false, narrowed := true }
def TopYardUptoSaid : Prop := topYardUptoRow.holds Tryz.pinned (OpenSpec.upto topYardSpec)

/-- 'roundhousetop.TopHead', WHERE WHAT IT READS IS OF BULK AT MOST 1048576: true; the input reads as it did. -/
def topHeadUptoRow : OpenClaim := { program := "ytomlpkojnipkhaagreat", sum := "cab0d437e91845774831ce6e878f6406877c4fcda425f04f29f3d80a4bdbca06", func := "roundhouse/roundhousetop.TopHead", spec := "topHead", unfollowed := true, recurses := true, apart := false, narrowed := true }
def TopHeadUptoSaid : Prop := topHeadUptoRow.holds Tryz.pinned (OpenSpec.upto topHeadSpec)

end Rows
end Go.Proofs.YtomlpkojnipkhaaGreat
