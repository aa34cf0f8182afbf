/-
  No cell of these rows narrows 'for every input' (looked for: loops, veiled, ifaces, maps, wideKeys, modest, calm, conditions, laid).
  DERIVED. THE GIVEN ROWS OF THIS SEAT. 5 by the template 'for every input the law returns true; each argument reads behind the call as it read before'; 0 by the template 'total and deterministic' (their statements: YthgffpfigmibhaaGreatTotals.lean).
  GIVEN WITH THE SEED: the statements are not yours to turn. If you find one false, say at which input.
  Laid BY PROGRAM, IN A SANDBOX (cutbox-rows.mjs): the forced cells as the released guide's own fill.sh prints them over the translation c08ae9a469cdac2e… (all of the seat's roots in one cut). By AI agents, Wed Nov 11 2026. No macro, syntax, notation, axiom, sorry.
-/
import Derived.Test.YthgffpfigmibhaaGreatChecked
import GoSem.Claim
import GoSem.ClaimJoined
import GoSem.ClaimMapViews
import Derived.JoinedTies
import Derived.KernelRfl
namespace Go.Proofs.YthgffpfigmibhaaGreat
/- THE CELL 'sum', in the pinned program and in every row, IS THE sha256 OF THE DUMP (.gsa) THAT YthgffpfigmibhaaGreatProg.lean LOADS. Nothing in Lean hashes anything: it is a label: what it is worth is what the hold of that sum in a sandbox is worth. -/
noncomputable def Tryz.pinned : Pinned := { name := "ythgffpfigmibhaagreat", sum := "c08ae9a469cdac2e486acf795f8033baa418423816fb7585633e446ae5f52400", checked := Tryz.checked }
namespace Rows
def none {H : Type} : Left H := { results := [], args := [] }

/-- 'roundhousetop.TopKeys': WHATEVER THE INPUT: true; the input reads as it did. -/
def topKeysSpec : ChangeSpec := { name := "topKeys", fn := fun _ => fun
  | [d1, d2, d3, d4, d5] => { results := [.lit (.bool true)], args := [d1, d2, d3, d4, d5] }
  | _ => none }
def topKeysRow : OpenClaim := { program := "ythgffpfigmibhaagreat", sum := "c08ae9a469cdac2e486acf795f8033baa418423816fb7585633e446ae5f52400", func := "roundhouse/roundhousetop.TopKeys", spec := "topKeys", unfollowed := true, recurses := true, apart := false }
def TopKeysSaid : Prop := topKeysRow.holds Tryz.pinned (OpenSpec.ofChange topKeysSpec)

/-- ITS FALSE NEIGHBOUR: 'it returns false'. Refute it at one input. -/
def topKeysWrong : ChangeSpec := { name := "topKeys", fn := fun _ => fun
  | [d1, d2, d3, d4, d5] => { results := [.lit (.bool false)], args := [d1, d2, d3, d4, d5] }
  | _ => none }
def TopKeysWrongFalsely : Prop := topKeysRow.holds Tryz.pinned (OpenSpec.ofChange topKeysWrong)

/-- 'roundhousetop.TopTags': WHATEVER THE INPUT: true; the input reads as it did. -/
def topTagsSpec : ChangeSpec := { name := "topTags", fn := fun _ => fun
  | [d1, d2, d3, d4] => { results := [.lit (.bool true)], args := [d1, d2, d3, d4] }
  | _ => none }
def topTagsRow : OpenClaim := { program := "ythgffpfigmibhaagreat", sum := "c08ae9a469cdac2e486acf795f8033baa418423816fb7585633e446ae5f52400", func := "roundhouse/roundhousetop.TopTags", spec := "topTags", unfollowed := true, recurses := true, apart := false }
def TopTagsSaid : Prop := topTagsRow.holds Tryz.pinned (OpenSpec.ofChange topTagsSpec)

/-- ITS FALSE NEIGHBOUR: 'it returns false'. Refute it at one input. -/
def topTagsWrong : ChangeSpec := { name := "topTags", fn := fun _ => fun
  | [d1, d2, d3, d4] => { results := [.lit (.bool false)], args := [d1, d2, d3, d4] }
  | _ => none }
def TopTagsWrongFalsely : Prop := topTagsRow.holds Tryz.pinned (OpenSpec.ofChange topTagsWrong)

/-- 'roundhousetop.TopQuiet': WHATEVER THE INPUT: true; the input reads as it did. -/
def topQuietSpec : ChangeSpec := { name := "topQuiet", fn := fun _ => fun
  | [d1, d2, d3, d4] => { results := [.lit (.bool true)], args := [d1, d2, d3, d4] }
  | _ => none }
def topQuietRow : OpenClaim := { program := "ythgffpfigmibhaagreat", sum := "c08ae9a469cdac2e486acf795f8033baa418423816fb7585633e446ae5f52400", func := "roundhouse/roundhousetop.TopQuiet", spec := "topQuiet", unfollowed := true, recurses := true, apart := false }
def TopQuietSaid : Prop := topQuietRow.holds Tryz.pinned (OpenSpec.ofChange topQuietSpec)

/-- ITS FALSE NEIGHBOUR: 'it returns false'. Refute it at one input. -/
def topQuietWrong : ChangeSpec := { name := "topQuiet", fn := fun _ => fun
  | [d1, d2, d3, d4] => { results := [.lit (.bool false)], args := [d1, d2, d3, d4] }
  | _ => none }
def TopQuietWrongFalsely : Prop := topQuietRow.holds Tryz.pinned (OpenSpec.ofChange topQuietWrong)

/-- 'roundhousetop.TopHealth': WHATEVER THE INPUT: true; the input reads as it did. -/
def topHealthSpec : ChangeSpec := { name := "topHealth", fn := fun _ => fun
  | [d1, d2, d3, d4, d5] => { results := [.lit (.bool true)], args := [d1, d2, d3, d4, d5] }
  | _ => none }
def topHealthRow : OpenClaim := { program := "ythgffpfigmibhaagreat", sum := "c08ae9a469cdac2e486acf795f8033baa418423816fb7585633e446ae5f52400", func := "roundhouse/roundhousetop.TopHealth", spec := "topHealth", unfollowed := true, recurses := true, apart := false }
def TopHealthSaid : Prop := topHealthRow.holds Tryz.pinned (OpenSpec.ofChange topHealthSpec)

/-- ITS FALSE NEIGHBOUR: 'it returns false'. Refute it at one input. -/
def topHealthWrong : ChangeSpec := { name := "topHealth", fn := fun _ => fun
  | [d1, d2, d3, d4, d5] => { results := [.lit (.bool false)], args := [d1, d2, d3, d4, d5] }
  | _ => none }
def TopHealthWrongFalsely : Prop := topHealthRow.holds Tryz.pinned (OpenSpec.ofChange topHealthWrong)

/-- 'roundhousetop.TopHead': WHATEVER THE INPUT: true; the input reads as it did. -/
def topHeadSpec : ChangeSpec := { name := "topHead", fn := fun _ => fun
  | [d1, d2] => { results := [.lit (.bool true)], args := [d1, d2] }
  | _ => none }
def topHeadRow : OpenClaim := { program := "ythgffpfigmibhaagreat", sum := "c08ae9a469cdac2e486acf795f8033baa418423816fb7585633e446ae5f52400", func := "roundhouse/roundhousetop.TopHead", spec := "topHead", unfollowed := true, recurses := true, apart := false }
def TopHeadSaid : Prop := topHeadRow.holds Tryz.pinned (OpenSpec.ofChange topHeadSpec)

/-- ITS FALSE NEIGHBOUR: 'it returns false'. Refute it at one input. -/
def topHeadWrong : ChangeSpec := { name := "topHead", fn := fun _ => fun
  | [d1, d2] => { results := [.lit (.bool false)], args := [d1, d2] }
  | _ => none }
def TopHeadWrongFalsely : Prop := topHeadRow.holds Tryz.pinned (OpenSpec.ofChange topHeadWrong)

/- THE SECOND FORM. 'bulk': how many values and letters a reading holds, each counted each time it is reached (what is shared counts as often as it is met; a slice's spare places count too). A statement '..UptoSaid' is the law's where the arguments, and the package variables that the reading takes, are together of bulk at most 1048576: NARROWER than '..Said'. Prove '..Said' where nothing that the law and all that it calls make is longer than what came in: it says more and counts as full. Else prove '..UptoSaid'. A law counts once. -/
mutual
def uptoBulk {H : Type} : DataW H → Nat
  | .lit (.string bytes) => bytes.length + 1
  | .lit _ => 1
  | .nil => 1
  | .ptr d => uptoBulk d + 1
  | .slice elems spare => uptoBulkAll elems + uptoBulkAll spare + 1
  | .agg parts => uptoBulkAll parts + 1
  | .iface _ d => uptoBulk d + 1
  | .map entries => uptoBulkEntries entries + 1
  | .held _ => 1
def uptoBulkAll {H : Type} : List (DataW H) → Nat
  | [] => 0
  | d :: r => uptoBulk d + uptoBulkAll r
def uptoBulkEntries {H : Type} : List (Lit × DataW H) → Nat
  | [] => 0
  | x :: r => uptoBulkEntry x + uptoBulkEntries r
def uptoBulkEntry {H : Type} : Lit × DataW H → Nat
  | (.string bytes, d) => bytes.length + uptoBulk d + 1
  | (_, d) => uptoBulk d + 1
 end
def uptoSmall : (H : Type) → List (DataW H) → Bool := fun _ ds => decide (uptoBulkAll ds ≤ 1048576)
def OpenSpec.upto (s : _root_.Go.ChangeSpec) : _root_.Go.OpenSpec := { _root_.Go.OpenSpec.ofChange s with cond := some uptoSmall }

/-- 'roundhousetop.TopKeys', WHERE WHAT IT READS IS OF BULK AT MOST 1048576: true; the input reads as it did. -/
def topKeysUptoRow : OpenClaim := { program := "ythgffpfigmibhaagreat", sum := "c08ae9a469cdac2e486acf795f8033baa418423816fb7585633e446ae5f52400", func := "roundhouse/roundhousetop.TopKeys", spec := "topKeys", unfollowed := true, recurses := true, apart := false, narrowed := true }
def TopKeysUptoSaid : Prop := topKeysUptoRow.holds Tryz.pinned (OpenSpec.upto topKeysSpec)

/-- 'roundhousetop.TopTags', WHERE WHAT IT READS IS OF BULK AT MOST 1048576: true; the input reads as it did. -/
def topTagsUptoRow : OpenClaim := { program := "ythgffpfigmibhaagreat", sum := "c08ae9a469cdac2e486acf795f8033baa418423816fb7585633e446ae5f52400", func := "roundhouse/roundhousetop.TopTags", spec := "topTags", unfollowed := true, recurses := true, apart := false, narrowed := true }
def TopTagsUptoSaid : Prop := topTagsUptoRow.holds Tryz.pinned (OpenSpec.upto topTagsSpec)

/-- 'roundhousetop.TopQuiet', WHERE WHAT IT READS IS OF BULK AT MOST 1048576: true; the input reads as it did. -/
def topQuietUptoRow : OpenClaim := { program := "ythgffpfigmibhaagreat", sum := "c08ae9a469cdac2e486acf795f8033baa418423816fb7585633e446ae5f52400", func := "roundhouse/roundhousetop.TopQuiet", spec := "topQuiet", unfollowed := true, recurses := true, apart := false, narrowed := true }
def TopQuietUptoSaid : Prop := topQuietUptoRow.holds Tryz.pinned (OpenSpec.upto topQuietSpec)

/-- 'roundhousetop.TopHealth', WHERE WHAT IT READS IS OF BULK AT MOST 1048576: true; the input reads as it did. -/
def topHealthUptoRow : OpenClaim := { program := "ythgffpfigmibhaagreat", sum := "c08ae9a469cdac2e486acf795f8033baa418423816fb7585633e446ae5f52400", func := "roundhouse/roundhousetop.TopHealth", spec := "topHealth", unfollowed := true, recurses := true, apart := false, narrowed := true }
def TopHealthUptoSaid : Prop := topHealthUptoRow.holds Tryz.pinned (OpenSpec.upto topHealthSpec)

/-- 'roundhousetop.TopHead', WHERE WHAT IT READS IS OF BULK AT MOST 1048576: true; the input reads as it did. -/
def topHeadUptoRow : OpenClaim := { program := "ythgffpfigmibhaagreat", sum := "c08ae9a469cdac2e486acf795f8033baa418423816fb7585633e446ae5f52400", func := "roundhouse/roundhousetop.TopHead", spec := "topHead", unfollowed := true, recurses := true, apart := false, narrowed := true }
def TopHeadUptoSaid : Prop := topHeadUptoRow.holds Tryz.pinned (OpenSpec.upto topHeadSpec)

end Rows
end Go.Proofs.YthgffpfigmibhaaGreat
