/-
  No cell of these rows narrows 'for every input' (looked for: loops, veiled, ifaces, maps, wideKeys, modest, calm, conditions, laid).
  DERIVED. THE GIVEN ROWS OF THIS SEAT. 4 by the template 'for every input the law returns true; each argument reads behind the call as it read before'; 0 by the template 'total and deterministic' (their statements: YtkfnphhoebknnaaTotals.lean).
  GIVEN WITH THE SEED: the statements are not yours to turn. If you find one false, say at which input.
  Laid BY PROGRAM, IN A SANDBOX (cutbox-rows.mjs): the forced cells as the released guide's own fill.sh prints them over the translation dc7c5eaa6495494f… (all of the seat's roots in one cut). By AI agents, Wed Nov 11 2026. No macro, syntax, notation, axiom, sorry.
-/
import Derived.Test.YtkfnphhoebknnaaChecked
import GoSem.Claim
import GoSem.ClaimJoined
import GoSem.ClaimMapViews
import Derived.JoinedTies
import Derived.KernelRfl
namespace Go.Proofs.Ytkfnphhoebknnaa
/- THE CELL 'sum', in the pinned program and in every row, IS THE sha256 OF THE DUMP (.gsa) THAT YtkfnphhoebknnaaProg.lean LOADS. Nothing in Lean hashes anything: it is a label: what it is worth is what the hold of that sum in a sandbox is worth. -/
noncomputable def Try.pinned : Pinned := { name := "ytkfnphhoebknnaa", sum := "dc7c5eaa6495494f11b9996c95a0eed3e3ee773e65049724db825eed7aebbba4", checked := Try.checked }
namespace Rows
def none {H : Type} : Left H := { results := [], args := [] }

/-- 'lintellaw19.BindAll': WHATEVER THE INPUT: true; the input reads as it did. -/
def bindAllSpec : ChangeSpec := { name := "bindAll", fn := fun _ => fun
  | [d1, d2] => { results := [.lit (.bool true)], args := [d1, d2] }
  | _ => none }
def bindAllRow : OpenClaim := { program := "ytkfnphhoebknnaa", sum := "dc7c5eaa6495494f11b9996c95a0eed3e3ee773e65049724db825eed7aebbba4", func := "lintel/lintellaw19.BindAll", spec := "bindAll", unfollowed := true, recurses := true, apart := false }
def BindAllSaid : Prop := bindAllRow.holds Try.pinned (OpenSpec.ofChange bindAllSpec)

/-- ITS FALSE NEIGHBOUR: 'it returns false'. Refute it at one input. -/
def bindAllWrong : ChangeSpec := { name := "bindAll", fn := fun _ => fun
  | [d1, d2] => { results := [.lit (.bool false)], args := [d1, d2] }
  | _ => none }
def BindAllWrongFalsely : Prop := bindAllRow.holds Try.pinned (OpenSpec.ofChange bindAllWrong)

/-- 'lintellaw19.BindSeen': WHATEVER THE INPUT: true; the input reads as it did. -/
def bindSeenSpec : ChangeSpec := { name := "bindSeen", fn := fun _ => fun
  | [d1, d2] => { results := [.lit (.bool true)], args := [d1, d2] }
  | _ => none }
def bindSeenRow : OpenClaim := { program := "ytkfnphhoebknnaa", sum := "dc7c5eaa6495494f11b9996c95a0eed3e3ee773e65049724db825eed7aebbba4", func := "lintel/lintellaw19.BindSeen", spec := "bindSeen", unfollowed := true, recurses := true, apart := false }
def BindSeenSaid : Prop := bindSeenRow.holds Try.pinned (OpenSpec.ofChange bindSeenSpec)

/-- ITS FALSE NEIGHBOUR: 'it returns false'. Refute it at one input. -/
def bindSeenWrong : ChangeSpec := { name := "bindSeen", fn := fun _ => fun
  | [d1, d2] => { results := [.lit (.bool false)], args := [d1, d2] }
  | _ => none }
def BindSeenWrongFalsely : Prop := bindSeenRow.holds Try.pinned (OpenSpec.ofChange bindSeenWrong)

/-- 'lintellaw19.BindParts': WHATEVER THE INPUT: true; the input reads as it did. -/
def bindPartsSpec : ChangeSpec := { name := "bindParts", fn := fun _ => fun
  | [d1, d2] => { results := [.lit (.bool true)], args := [d1, d2] }
  | _ => none }
def bindPartsRow : OpenClaim := { program := "ytkfnphhoebknnaa", sum := "dc7c5eaa6495494f11b9996c95a0eed3e3ee773e65049724db825eed7aebbba4", func := "lintel/lintellaw19.BindParts", spec := "bindParts", unfollowed := true, recurses := true, apart := false }
def BindPartsSaid : Prop := bindPartsRow.holds Try.pinned (OpenSpec.ofChange bindPartsSpec)

/-- ITS FALSE NEIGHBOUR: 'it returns false'. Refute it at one input. -/
def bindPartsWrong : ChangeSpec := { name := "bindParts", fn := fun _ => fun
  | [d1, d2] => { results := [.lit (.bool false)], args := [d1, d2] }
  | _ => none }
def BindPartsWrongFalsely : Prop := bindPartsRow.holds Try.pinned (OpenSpec.ofChange bindPartsWrong)

/-- 'lintellaw19.BindStays': WHATEVER THE INPUT: true; the input reads as it did. -/
def bindStaysSpec : ChangeSpec := { name := "bindStays", fn := fun _ => fun
  | [d1, d2, d3, d4] => { results := [.lit (.bool true)], args := [d1, d2, d3, d4] }
  | _ => none }
def bindStaysRow : OpenClaim := { program := "ytkfnphhoebknnaa", sum := "dc7c5eaa6495494f11b9996c95a0eed3e3ee773e65049724db825eed7aebbba4", func := "lintel/lintellaw19.BindStays", spec := "bindStays", unfollowed := true, recurses := true, apart := false }
def BindStaysSaid : Prop := bindStaysRow.holds Try.pinned (OpenSpec.ofChange bindStaysSpec)

/-- ITS FALSE NEIGHBOUR: 'it returns false'. Refute it at one input. -/
def bindStaysWrong : ChangeSpec := { name := "bindStays", fn := fun _ => fun
  | [d1, d2, d3, d4] => { results := [.lit (.bool false)], args := [d1, d2, d3, d4] }
  | _ => none }
def BindStaysWrongFalsely : Prop := bindStaysRow.holds Try.pinned (OpenSpec.ofChange bindStaysWrong)

/- THE SECOND FORM. 'bulk': how many values and letters a reading holds, each counted each time it is reached (what is shared counts as often as it is met; a slice's spare places count too). A statement '..UptoSaid' is the law's where the arguments, and the package variables that the reading takes, are together of bulk at most 1048576: NARROWER than '..Said'. Prove '..Said' where nothing that the law and all that it calls make is longer than what came in: it says more and counts as full. Else prove '..UptoSaid'. A law counts once. -/
mutual
def uptoBulk {H : Type} : DataW H → Nat
  | .lit (.string bytes) => bytes.length + 1
  | .lit _ => 1
  | .nil => 1
  | .ptr d => uptoBulk d + 1
  | .slice elems spare => uptoBulkAll elems + uptoBulkAll spare + 1
  | .agg parts => uptoBulkAll parts + 1
  | .iface _ d => uptoBulk d + 1
  | .map entries => uptoBulkEntries entries + 1
  | .held _ => 1
def uptoBulkAll {H : Type} : List (DataW H) → Nat
  | [] => 0
  | d :: r => uptoBulk d + uptoBulkAll r
def uptoBulkEntries {H : Type} : List (Lit × DataW H) → Nat
  | [] => 0
  | x :: r => uptoBulkEntry x + uptoBulkEntries r
def uptoBulkEntry {H : Type} : Lit × DataW H → Nat
  | (.string bytes, d) => bytes.length + uptoBulk d + 1
  | (_, d) => uptoBulk d + 1
 end
def uptoSmall : (H : Type) → List (DataW H) → Bool := fun _ ds => decide (uptoBulkAll ds ≤ 1048576)
def OpenSpec.upto (s : _root_.Go.ChangeSpec) : _root_.Go.OpenSpec := { _root_.Go.OpenSpec.ofChange s with cond := some uptoSmall }

/-- 'lintellaw19.BindAll', WHERE WHAT IT READS IS OF BULK AT MOST 1048576: true; the input reads as it did. -/
def bindAllUptoRow : OpenClaim := { program := "ytkfnphhoebknnaa", sum := "dc7c5eaa6495494f11b9996c95a0eed3e3ee773e65049724db825eed7aebbba4", func := "lintel/lintellaw19.BindAll", spec := "bindAll", unfollowed := true, recurses := true, apart := false, narrowed := true }
def BindAllUptoSaid : Prop := bindAllUptoRow.holds Try.pinned (OpenSpec.upto bindAllSpec)

/-- 'lintellaw19.BindSeen', WHERE WHAT IT READS IS OF BULK AT MOST 1048576: true; the input reads as it did. -/
def bindSeenUptoRow : OpenClaim := { program := "ytkfnphhoebknnaa", sum := "dc7c5eaa6495494f11b9996c95a0eed3e3ee773e65049724db825eed7aebbba4", func := "lintel/lintellaw19.BindSeen", spec := "bindSeen", unfollowed := true, recurses := true, apart := false, narrowed := true }
def BindSeenUptoSaid : Prop := bindSeenUptoRow.holds Try.pinned (OpenSpec.upto bindSeenSpec)

/-- 'lintellaw19.BindParts', WHERE WHAT IT READS IS OF BULK AT MOST 1048576: true; the input reads as it did. -/
def bindPartsUptoRow : OpenClaim := { program := "ytkfnphhoebknnaa", sum := "dc7c5eaa6495494f11b9996c95a0eed3e3ee773e65049724db825eed7aebbba4", func := "lintel/lintellaw19.BindParts", spec := "bindParts", unfollowed := true, recurses := true, apart := false, narrowed := true }
def BindPartsUptoSaid : Prop := bindPartsUptoRow.holds Try.pinned (OpenSpec.upto bindPartsSpec)

/-- 'lintellaw19.BindStays', WHERE WHAT IT READS IS OF BULK AT MOST 1048576: true; the input reads as it did. -/
def bindStaysUptoRow : OpenClaim := { program := "ytkfnphhoebknnaa", sum := "dc7c5eaa6495494f11b9996c95a0eed3e3ee773e65049724db825eed7aebbba4", func := "lintel/lintellaw19.BindStays", spec := "bindStays", unfollowed := true, recurses := true, apart := false, narrowed := true }
def BindStaysUptoSaid : Prop := bindStaysUptoRow.holds Try.pinned (OpenSpec.upto bindStaysSpec)

end Rows
end Go.Proofs.Ytkfnphhoebknnaa
