import Derived.Test.YtkfnphhoebknnaaQNa
import Derived.Test.YtkfnphhoebknnaaQHa
import Derived.Test.YtkfnphhoebknnaaQMb
import Derived.Test.YtkfnphhoebknnaaQCk
import Derived.Test.YtkfnphhoebknnaaQNb
import Derived.Test.YtkfnphhoebknnaaQJr
namespace Go.Proofs.Ytkfnphhoebknnaa
open Go.RowKit
end Go.Proofs.Ytkfnphhoebknnaa
namespace Go.Proofs.Ytkfnphhoebknnaa
open Go.RowKit
/-- All boxes of schemas are as they were. -/
def Kp24 (w w' : World) : Prop := ∀ (k : Nat) (cs : Array Value), w.heap[k]? = some (.cells cs 24 (0, 0)) → w'.heap[k]? = some (.cells cs 24 (0, 0))
/-- What the document's changes of one table answer: the schema and its tables in their own memory, or what is wrong. -/
def CrAns (B : Nat) (w : World) (s : Sc) (tv : Value) (res : Except Int Sc) (e : Ending) (w' : World) : Prop := match res with
  | .error er => e = .returned (.tuple #[.agg #[.int .i64 (s.ver + 1), .int .i64 s.last, tv], .int .i64 er]) ∧ er ≠ 0 ∧ Below B w w' ∧ Kp24 w w'
  | .ok s' => ∃ G tv', e = .returned (.tuple #[scV s' tv', .int .i64 0]) ∧ G.map Prod.fst = s'.tabs ∧ Dr w' B G tv' ∧ Below B w w' ∧ Kp24 w w'
theorem CrAns.err {B : Nat} {w w' : World} {s : Sc} {tv : Value} {res : Except Int Sc} {er : Int} (h : res = .error er) (hn : er ≠ 0) (hB : B ≤ w.heap.size) (hb : Below w.heap.size w w') : CrAns B w s tv res (.returned (.tuple #[.agg #[.int .i64 (s.ver + 1), .int .i64 s.last, tv], .int .i64 er])) w' := by
  rw [h]
  exact ⟨rfl, hn, hb.mono hB, fun k cs hk => (hb.block k (blk_lt hk)).trans hk⟩
theorem CrAns.ok {B : Nat} {w w' : World} {s s' : Sc} {tv tv' : Value} {res : Except Int Sc} {G : List Gt} {e : Ending} (h : res = .ok s') (hG : G.map Prod.fst = s'.tabs) (hD : Dr w' B G tv') (hb : Below B w w') (hk : Kp24 w w') (he : e = .returned (.tuple #[scV s' tv', .int .i64 0]) := by rfl) : CrAns B w s tv res e w' := by
  rw [h]
  exact ⟨G, tv', he, hG, hD, hb, hk⟩
def GW3 (X0 X1 X2 X3 : World) (a b c : Bool) (X : World) : Prop := X = bif c then X3 else bif b then X2 else bif a then X1 else X0
end Go.Proofs.Ytkfnphhoebknnaa
