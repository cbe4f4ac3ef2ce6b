/-
  No cell of these rows narrows 'for every input' (looked for: loops, veiled, ifaces, maps, wideKeys, modest, calm, conditions, laid).
  DERIVED. THE GIVEN ROWS OF THIS SEAT. 4 by the template 'for every input the law returns true; each argument reads behind the call as it read before'; 0 by the template 'total and deterministic' (their statements: YtoipmpaebngppaaTotals.lean).
  GIVEN WITH THE SEED: the statements are not yours to turn. If you find one false, say at which input.
  Laid BY PROGRAM, IN A SANDBOX (cutbox-rows.mjs): the forced cells as the released guide's own fill.sh prints them over the translation 8bff40087bae4ee2… (all of the seat's roots in one cut). By AI agents, Wed Nov 11 2026. No macro, syntax, notation, axiom, sorry.
-/
import Derived.Test.YtoipmpaebngppaaChecked
import GoSem.Claim
import GoSem.ClaimJoined
import GoSem.ClaimMapViews
import Derived.JoinedTies
import Derived.KernelRfl
namespace Go.Proofs.Ytoipmpaebngppaa
/- THE CELL 'sum', in the pinned program and in every row, IS THE sha256 OF THE DUMP (.gsa) THAT YtoipmpaebngppaaProg.lean LOADS. Nothing in Lean hashes anything: it is a label: what it is worth is what the hold of that sum in a sandbox is worth. -/
noncomputable def Try.pinned : Pinned := { name := "ytoipmpaebngppaa", sum := "8bff40087bae4ee248e75d9effccbf368568708f142520dd7744f1ff3066f01a", checked := Try.checked }
namespace Rows
def none {H : Type} : Left H := { results := [], args := [] }

/-- 'lintellaw06.DiaryPlays': WHATEVER THE INPUT: true; the input reads as it did. -/
def diaryPlaysSpec : ChangeSpec := { name := "diaryPlays", fn := fun _ => fun
  | [d1, d2] => { results := [.lit (.bool true)], args := [d1, d2] }
  | _ => none }
def diaryPlaysRow : OpenClaim := { program := "ytoipmpaebngppaa", sum := "8bff40087bae4ee248e75d9effccbf368568708f142520dd7744f1ff3066f01a", func := "lintel/lintellaw06.DiaryPlays", spec := "diaryPlays", inPlace := ["internal/abi.NoEscape", "internal/bytealg.abigen_runtime_cmpstring"], unfollowed := true, recurses := true, apart := false }
def DiaryPlaysSaid : Prop := diaryPlaysRow.holds Try.pinned (OpenSpec.ofChange diaryPlaysSpec)

/-- ITS FALSE NEIGHBOUR: 'it returns false'. Refute it at one input. -/
def diaryPlaysWrong : ChangeSpec := { name := "diaryPlays", fn := fun _ => fun
  | [d1, d2] => { results := [.lit (.bool false)], args := [d1, d2] }
  | _ => none }
def DiaryPlaysWrongFalsely : Prop := diaryPlaysRow.holds Try.pinned (OpenSpec.ofChange diaryPlaysWrong)

/-- 'lintellaw06.DiaryKeeps': WHATEVER THE INPUT: true; the input reads as it did. -/
def diaryKeepsSpec : ChangeSpec := { name := "diaryKeeps", fn := fun _ => fun
  | [d] => { results := [.lit (.bool true)], args := [d] }
  | _ => none }
def diaryKeepsRow : OpenClaim := { program := "ytoipmpaebngppaa", sum := "8bff40087bae4ee248e75d9effccbf368568708f142520dd7744f1ff3066f01a", func := "lintel/lintellaw06.DiaryKeeps", spec := "diaryKeeps", inPlace := ["internal/abi.NoEscape", "internal/bytealg.abigen_runtime_cmpstring"], unfollowed := true, recurses := true, apart := false }
def DiaryKeepsSaid : Prop := diaryKeepsRow.holds Try.pinned (OpenSpec.ofChange diaryKeepsSpec)

/-- ITS FALSE NEIGHBOUR: 'it returns false'. Refute it at one input. -/
def diaryKeepsWrong : ChangeSpec := { name := "diaryKeeps", fn := fun _ => fun
  | [d] => { results := [.lit (.bool false)], args := [d] }
  | _ => none }
def DiaryKeepsWrongFalsely : Prop := diaryKeepsRow.holds Try.pinned (OpenSpec.ofChange diaryKeepsWrong)

/-- 'lintellaw06.DiaryAgain': WHATEVER THE INPUT: true; the input reads as it did. -/
def diaryAgainSpec : ChangeSpec := { name := "diaryAgain", fn := fun _ => fun
  | [d] => { results := [.lit (.bool true)], args := [d] }
  | _ => none }
def diaryAgainRow : OpenClaim := { program := "ytoipmpaebngppaa", sum := "8bff40087bae4ee248e75d9effccbf368568708f142520dd7744f1ff3066f01a", func := "lintel/lintellaw06.DiaryAgain", spec := "diaryAgain", inPlace := ["internal/abi.NoEscape", "internal/bytealg.abigen_runtime_cmpstring"], unfollowed := true, recurses := true, apart := false }
def DiaryAgainSaid : Prop := diaryAgainRow.holds Try.pinned (OpenSpec.ofChange diaryAgainSpec)

/-- ITS FALSE NEIGHBOUR: 'it returns false'. Refute it at one input. -/
def diaryAgainWrong : ChangeSpec := { name := "diaryAgain", fn := fun _ => fun
  | [d] => { results := [.lit (.bool false)], args := [d] }
  | _ => none }
def DiaryAgainWrongFalsely : Prop := diaryAgainRow.holds Try.pinned (OpenSpec.ofChange diaryAgainWrong)

/-- 'lintellaw06.DiaryNil': WHATEVER THE INPUT: true; the input reads as it did. -/
def diaryNilSpec : ChangeSpec := { name := "diaryNil", fn := fun _ => fun
  | [d1, d2] => { results := [.lit (.bool true)], args := [d1, d2] }
  | _ => none }
def diaryNilRow : OpenClaim := { program := "ytoipmpaebngppaa", sum := "8bff40087bae4ee248e75d9effccbf368568708f142520dd7744f1ff3066f01a", func := "lintel/lintellaw06.DiaryNil", spec := "diaryNil", inPlace := ["internal/abi.NoEscape", "internal/bytealg.abigen_runtime_cmpstring"], unfollowed := true, recurses := true, apart := false }
def DiaryNilSaid : Prop := diaryNilRow.holds Try.pinned (OpenSpec.ofChange diaryNilSpec)

/-- ITS FALSE NEIGHBOUR: 'it returns false'. Refute it at one input. -/
def diaryNilWrong : ChangeSpec := { name := "diaryNil", fn := fun _ => fun
  | [d1, d2] => { results := [.lit (.bool false)], args := [d1, d2] }
  | _ => none }
def DiaryNilWrongFalsely : Prop := diaryNilRow.holds Try.pinned (OpenSpec.ofChange diaryNilWrong)

/- THE SECOND FORM. 'bulk': how many values and letters a reading holds, each counted each time it is reached (what is shared counts as often as it is met; a slice's spare places count too). A statement '..UptoSaid' is the law's where the arguments, and the package variables that the reading takes, are together of bulk at most 1048576: NARROWER than '..Said'. Prove '..Said' where nothing that the law and all that it calls make is longer than what came in: it says more and counts as full. Else prove '..UptoSaid'. A law counts once. -/
mutual
def uptoBulk {H : Type} : DataW H → Nat
  | .lit (.string bytes) => bytes.length + 1
  | .lit _ => 1
  | .nil => 1
  | .ptr d => uptoBulk d + 1
  | .slice elems spare => uptoBulkAll elems + uptoBulkAll spare + 1
  | .agg parts => uptoBulkAll parts + 1
  | .iface _ d => uptoBulk d + 1
  | .map entries => uptoBulkEntries entries + 1
  | .held _ => 1
def uptoBulkAll {H : Type} : List (DataW H) → Nat
  | [] => 0
  | d :: r => uptoBulk d + uptoBulkAll r
def uptoBulkEntries {H : Type} : List (Lit × DataW H) → Nat
  | [] => 0
  | x :: r => uptoBulkEntry x + uptoBulkEntries r
def uptoBulkEntry {H : Type} : Lit × DataW H → Nat
  | (.string bytes, d) => bytes.length + uptoBulk d + 1
  | (_, d) => uptoBulk d + 1
 end
def uptoSmall : (H : Type) → List (DataW H) → Bool := fun _ ds => decide (uptoBulkAll ds ≤ 1048576)
def OpenSpec.upto (s : _root_.Go.ChangeSpec) : _root_.Go.OpenSpec := { _root_.Go.OpenSpec.ofChange s with cond := some uptoSmall }

/-- 'lintellaw06.DiaryPlays', WHERE WHAT IT READS IS OF BULK AT MOST 1048576: true; the input reads as it did. -/
def diaryPlaysUptoRow : OpenClaim := { program := "ytoipmpaebngppaa", sum := "8bff40087bae4ee248e75d9effccbf368568708f142520dd7744f1ff3066f01a", func := "lintel/lintellaw06.DiaryPlays", spec := "diaryPlays", inPlace := ["internal/abi.NoEscape", "internal/bytealg.abigen_runtime_cmpstring"], unfollowed := true, recurses := true, apart := false, narrowed := true }
def DiaryPlaysUptoSaid : Prop := diaryPlaysUptoRow.holds Try.pinned (OpenSpec.upto diaryPlaysSpec)

/-- 'lintellaw06.DiaryKeeps', WHERE WHAT IT READS IS OF BULK AT MOST 1048576: true; the input reads as it did. -/
def diaryKeepsUptoRow : OpenClaim := { program := "ytoipmpaebngppaa", sum := "8bff40087bae4ee248e75d9effccbf368568708f142520dd7744f1ff3066f01a", func := "lintel/lintellaw06.DiaryKeeps", spec := "diaryKeeps", inPlace := ["internal/abi.NoEscape", "internal/bytealg.abigen_runtime_cmpstring"], unfollowed := true, recurses := true, apart := false, narrowed := true }
def DiaryKeepsUptoSaid : Prop := diaryKeepsUptoRow.holds Try.pinned (OpenSpec.upto diaryKeepsSpec)

/-- 'lintellaw06.DiaryAgain', WHERE WHAT IT READS IS OF BULK AT MOST 1048576: true; the input reads as it did. -/
def diaryAgainUptoRow : OpenClaim := { program := "ytoipmpaebngppaa", sum := "8bff40087bae4ee248e75d9effccbf368568708f142520dd7744f1ff3066f01a", func := "lintel/lintellaw06.DiaryAgain", spec := "diaryAgain", inPlace := ["internal/abi.NoEscape", "internal/bytealg.abigen_runtime_cmpstring"], unfollowed := true, recurses := true, apart := false, narrowed := true }
def DiaryAgainUptoSaid : Prop := diaryAgainUptoRow.holds Try.pinned (OpenSpec.upto diaryAgainSpec)

/-- 'lintellaw06.DiaryNil', WHERE WHAT IT READS IS OF BULK AT MOST 1048576: true; the input reads as it did. -/
def diaryNilUptoRow : OpenClaim := { program := "ytoipmpaebngppaa", sum := "8bff40087bae4ee248e75d9effccbf368568708f142520dd7744f1ff3066f01a", func := "lintel/lintellaw06.DiaryNil", spec := "diaryNil", inPlace := ["internal/abi.NoEscape", "internal/bytealg.abigen_runtime_cmpstring"], unfollowed := true, recurses := true, apart := false, narrowed := true }
def DiaryNilUptoSaid : Prop := diaryNilUptoRow.holds Try.pinned (OpenSpec.upto diaryNilSpec)

end Rows
end Go.Proofs.Ytoipmpaebngppaa
