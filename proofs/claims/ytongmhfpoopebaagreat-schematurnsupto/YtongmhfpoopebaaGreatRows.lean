/-
  No cell of these rows narrows 'for every input' (looked for: loops, veiled, ifaces, maps, wideKeys, modest, calm, conditions, laid).
  DERIVED. THE GIVEN ROWS OF THIS SEAT. 4 by the template 'for every input the law returns true; each argument reads behind the call as it read before'; 0 by the template 'total and deterministic' (their statements: YtongmhfpoopebaaGreatTotals.lean).
  GIVEN WITH THE SEED: the statements are not yours to turn. If you find one false, say at which input.
  Laid BY PROGRAM, IN A SANDBOX (cutbox-rows.mjs): the forced cells as the released guide's own fill.sh prints them over the translation afd8179d09ed4223… (all of the seat's roots in one cut). By AI agents, Wed Nov 11 2026. No macro, syntax, notation, axiom, sorry.
-/
import Derived.Test.YtongmhfpoopebaaGreatChecked
import GoSem.Claim
import GoSem.ClaimJoined
import GoSem.ClaimMapViews
import Derived.JoinedTies
import Derived.KernelRfl
namespace Go.Proofs.YtongmhfpoopebaaGreat
/- THE CELL 'sum', in the pinned program and in every row, IS THE sha256 OF THE DUMP (.gsa) THAT YtongmhfpoopebaaGreatProg.lean LOADS. Nothing in Lean hashes anything: it is a label: what it is worth is what the hold of that sum in a sandbox is worth. -/
noncomputable def Tryz.pinned : Pinned := { name := "ytongmhfpoopebaagreat", sum := "afd8179d09ed42236266c1d8cc054bdbee1098822013d0a61c445fde35095e5a", checked := Tryz.checked }
namespace Rows
def none {H : Type} : Left H := { results := [], args := [] }

/-- 'lintellaw15.SchemaChecks': WHATEVER THE INPUT: true; the input reads as it did. -/
def schemaChecksSpec : ChangeSpec := { name := "schemaChecks", fn := fun _ => fun
  | [d1, d2] => { results := [.lit (.bool true)], args := [d1, d2] }
  | _ => none }
def schemaChecksRow : OpenClaim := { program := "ytongmhfpoopebaagreat", sum := "afd8179d09ed42236266c1d8cc054bdbee1098822013d0a61c445fde35095e5a", func := "lintel/lintellaw15.SchemaChecks", spec := "schemaChecks", unfollowed := true, recurses := true, apart := false }
def SchemaChecksSaid : Prop := schemaChecksRow.holds Tryz.pinned (OpenSpec.ofChange schemaChecksSpec)

/-- ITS FALSE NEIGHBOUR: 'it returns false'. Refute it at one input. -/
def schemaChecksWrong : ChangeSpec := { name := "schemaChecks", fn := fun _ => fun
  | [d1, d2] => { results := [.lit (.bool false)], args := [d1, d2] }
  | _ => none }
def SchemaChecksWrongFalsely : Prop := schemaChecksRow.holds Tryz.pinned (OpenSpec.ofChange schemaChecksWrong)

/-- 'lintellaw15.SchemaTurns': WHATEVER THE INPUT: true; the input reads as it did. -/
def schemaTurnsSpec : ChangeSpec := { name := "schemaTurns", fn := fun _ => fun
  | [d1, d2, d3] => { results := [.lit (.bool true)], args := [d1, d2, d3] }
  | _ => none }
def schemaTurnsRow : OpenClaim := { program := "ytongmhfpoopebaagreat", sum := "afd8179d09ed42236266c1d8cc054bdbee1098822013d0a61c445fde35095e5a", func := "lintel/lintellaw15.SchemaTurns", spec := "schemaTurns", unfollowed := true, recurses := true, apart := false }
def SchemaTurnsSaid : Prop := schemaTurnsRow.holds Tryz.pinned (OpenSpec.ofChange schemaTurnsSpec)

/-- ITS FALSE NEIGHBOUR: 'it returns false'. Refute it at one input. -/
def schemaTurnsWrong : ChangeSpec := { name := "schemaTurns", fn := fun _ => fun
  | [d1, d2, d3] => { results := [.lit (.bool false)], args := [d1, d2, d3] }
  | _ => none }
def SchemaTurnsWrongFalsely : Prop := schemaTurnsRow.holds Tryz.pinned (OpenSpec.ofChange schemaTurnsWrong)

/-- 'lintellaw15.SchemaSteps': WHATEVER THE INPUT: true; the input reads as it did. -/
def schemaStepsSpec : ChangeSpec := { name := "schemaSteps", fn := fun _ => fun
  | [d1, d2] => { results := [.lit (.bool true)], args := [d1, d2] }
  | _ => none }
def schemaStepsRow : OpenClaim := { program := "ytongmhfpoopebaagreat", sum := "afd8179d09ed42236266c1d8cc054bdbee1098822013d0a61c445fde35095e5a", func := "lintel/lintellaw15.SchemaSteps", spec := "schemaSteps", unfollowed := true, recurses := true, apart := false }
def SchemaStepsSaid : Prop := schemaStepsRow.holds Tryz.pinned (OpenSpec.ofChange schemaStepsSpec)

/-- ITS FALSE NEIGHBOUR: 'it returns false'. Refute it at one input. -/
def schemaStepsWrong : ChangeSpec := { name := "schemaSteps", fn := fun _ => fun
  | [d1, d2] => { results := [.lit (.bool false)], args := [d1, d2] }
  | _ => none }
def SchemaStepsWrongFalsely : Prop := schemaStepsRow.holds Tryz.pinned (OpenSpec.ofChange schemaStepsWrong)

/-- 'lintellaw15.SchemaUndo': WHATEVER THE INPUT: true; the input reads as it did. -/
def schemaUndoSpec : ChangeSpec := { name := "schemaUndo", fn := fun _ => fun
  | [d1, d2] => { results := [.lit (.bool true)], args := [d1, d2] }
  | _ => none }
def schemaUndoRow : OpenClaim := { program := "ytongmhfpoopebaagreat", sum := "afd8179d09ed42236266c1d8cc054bdbee1098822013d0a61c445fde35095e5a", func := "lintel/lintellaw15.SchemaUndo", spec := "schemaUndo", unfollowed := true, recurses := true, apart := false }
def SchemaUndoSaid : Prop := schemaUndoRow.holds Tryz.pinned (OpenSpec.ofChange schemaUndoSpec)

/-- ITS FALSE NEIGHBOUR: 'it returns false'. Refute it at one input. -/
def schemaUndoWrong : ChangeSpec := { name := "schemaUndo", fn := fun _ => fun
  | [d1, d2] => { results := [.lit (.bool false)], args := [d1, d2] }
  | _ => none }
def SchemaUndoWrongFalsely : Prop := schemaUndoRow.holds Tryz.pinned (OpenSpec.ofChange schemaUndoWrong)

/- THE SECOND FORM. 'bulk': how many values and letters a reading holds, each counted each time it is reached (what is shared counts as often as it is met; a slice's spare places count too). A statement '..UptoSaid' is the law's where the arguments, and the package variables that the reading takes, are together of bulk at most 1048576: NARROWER than '..Said'. Prove '..Said' where nothing that the law and all that it calls make is longer than what came in: it says more and counts as full. Else prove '..UptoSaid'. A law counts once. -/
mutual
def uptoBulk {H : Type} : DataW H → Nat
  | .lit (.string bytes) => bytes.length + 1
  | .lit _ => 1
  | .nil => 1
  | .ptr d => uptoBulk d + 1
  | .slice elems spare => uptoBulkAll elems + uptoBulkAll spare + 1
  | .agg parts => uptoBulkAll parts + 1
  | .iface _ d => uptoBulk d + 1
  | .map entries => uptoBulkEntries entries + 1
  | .held _ => 1
def uptoBulkAll {H : Type} : List (DataW H) → Nat
  | [] => 0
  | d :: r => uptoBulk d + uptoBulkAll r
def uptoBulkEntries {H : Type} : List (Lit × DataW H) → Nat
  | [] => 0
  | x :: r => uptoBulkEntry x + uptoBulkEntries r
def uptoBulkEntry {H : Type} : Lit × DataW H → Nat
  | (.string bytes, d) => bytes.length + uptoBulk d + 1
  | (_, d) => uptoBulk d + 1
 end
def uptoSmall : (H : Type) → List (DataW H) → Bool := fun _ ds => decide (uptoBulkAll ds ≤ 1048576)
def OpenSpec.upto (s : _root_.Go.ChangeSpec) : _root_.Go.OpenSpec := { _root_.Go.OpenSpec.ofChange s with cond := some uptoSmall }

/-- 'lintellaw15.SchemaChecks', WHERE WHAT IT READS IS OF BULK AT MOST 1048576: true; the input reads as it did. -/
def schemaChecksUptoRow : OpenClaim := { program := "ytongmhfpoopebaagreat", sum := "afd8179d09ed42236266c1d8cc054bdbee1098822013d0a61c445fde35095e5a", func := "lintel/lintellaw15.SchemaChecks", spec := "schemaChecks", unfollowed := true, recurses := true, apart := false, narrowed := true }
def SchemaChecksUptoSaid : Prop := schemaChecksUptoRow.holds Tryz.pinned (OpenSpec.upto schemaChecksSpec)

/-- 'lintellaw15.SchemaTurns', WHERE WHAT IT READS IS OF BULK AT MOST 1048576: true; the input reads as it did. -/
def schemaTurnsUptoRow : OpenClaim := { program := "ytongmhfpoopebaagreat", sum := "afd8179d09ed42236266c1d8cc054bdbee1098822013d0a61c445fde35095e5a", func := "lintel/lintellaw15.SchemaTurns", spec := "schemaTurns", unfollowed := true, recurses := true, apart := false, narrowed := true }
def SchemaTurnsUptoSaid : Prop := schemaTurnsUptoRow.holds Tryz.pinned (OpenSpec.upto schemaTurnsSpec)

/-- 'lintellaw15.SchemaSteps', WHERE WHAT IT READS IS OF BULK AT MOST 1048576: true; the input reads as it did. -/
def schemaStepsUptoRow : OpenClaim := { program := "ytongmhfpoopebaagreat", sum := "afd8179d09ed42236266c1d8cc054bdbee1098822013d0a61c445fde35095e5a", func := "lintel/lintellaw15.SchemaSteps", spec := "schemaSteps", unfollowed := true, recurses := true, apart := false, narrowed := true }
def SchemaStepsUptoSaid : Prop := schemaStepsUptoRow.holds Tryz.pinned (OpenSpec.upto schemaStepsSpec)

/-- 'lintellaw15.SchemaUndo', WHERE WHAT IT READS IS OF BULK AT MOST 1048576: true; the input reads as it did. -/
def schemaUndoUptoRow : OpenClaim := { program := "ytongmhfpoopebaagreat", sum := "afd8179d09ed42236266c1d8cc054bdbee1098822013d0a61c445fde35095e5a", func := "lintel/lintellaw15.SchemaUndo", spec := "schemaUndo", unfollowed := true, recurses := true, apart := false, narrowed := true }
def SchemaUndoUptoSaid : Prop := schemaUndoUptoRow.holds Tryz.pinned (OpenSpec.upto schemaUndoSpec)

end Rows
end Go.Proofs.YtongmhfpoopebaaGreat
