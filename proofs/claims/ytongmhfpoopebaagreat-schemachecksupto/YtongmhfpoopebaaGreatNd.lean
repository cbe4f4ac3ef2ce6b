/- Amid the document's Right: ids gathered in memory of its own. -/
import Derived.Test.YtongmhfpoopebaaGreatNc
import Derived.Test.YtongmhfpoopebaaGreatBp
namespace Go.Proofs.YtongmhfpoopebaaGreat
open Go.RowKit Go.Maps
structure RJ (w W : World) (Y : Nat) (box : Array Value) (wr : World) (iv : Value) (L : List Int) : Prop where
  y : wr.heap[Y]? = some (.cells box 24 (0, 0))
  row : wr.ownsRow W.heap.size 3 1 iv L.length (inV L)
  b : Below w.heap.size w wr
  sz : W.heap.size ≤ wr.heap.size
theorem RJ.below {w W : World} {Y : Nat} {box : Array Value} {wr wr' : World} {iv : Value} {L : List Int} (h : RJ w W Y box wr iv L) (hb : Below wr.heap.size wr wr') : RJ w W Y box wr' iv L :=
  ⟨(hb.block Y (blk_lt h.y)).trans h.y, own_below h.row hb, bgo h.b hb, Nat.le_trans h.sz hb.size⟩
/-- One id more. -/
theorem RJ.push {w W : World} {Y : Nat} {box : Array Value} {wr : World} {iv : Value} {L : List Int} (h : RJ w W Y box wr iv L) (hw : w.heap.size ≤ W.heap.size) (n : Int) (hz : L.length ≤ 1000000) :
    ∃ ad cap w', (Builtin.append_ #[65, 65] 65 #[iv, .slice (some ⟨wr.heap.size, 0, none⟩) 1 1]).run Tryz.prog (wr.alloc (.cells #[.int .i64 n] 3)) = .ok (.slice ad (L.length + 1) cap) w' ∧ RJ w W Y box w' (.slice ad (L.length + 1) cap) (L ++ [n]) ∧ (∀ (k : Nat) (cs : Array Value) (e : TypeId), e ≠ 3 → wr.heap[k]? = some (.cells cs e (0, 0)) → w'.heap[k]? = some (.cells cs e (0, 0))) := by
  obtain ⟨ad, cap, w', h1, h2, h3⟩ := pushIn h.row h.sz n hz
  have kp : ∀ (k : Nat) (cs : Array Value) (e : TypeId), e ≠ 3 → wr.heap[k]? = some (.cells cs e (0, 0)) → w'.heap[k]? = some (.cells cs e (0, 0)) := fun k cs e he hk => (h3.block k (blk_lt hk) (fun q => by
    obtain ⟨cs9, t9⟩ := own_tag h.row k q
    rw [hk] at t9
    simp only [Option.some.injEq, Obj.cells.injEq] at t9
    exact he t9.2.1)).trans hk
  exact ⟨ad, cap, w', h1, ⟨kp Y box 24 (by decide) h.y, h2, h.b.trans (h3.toBelow (fun k hk q => by have := (own_ge h.row k q).1; omega) h.b.size), Nat.le_trans h.sz h3.size⟩, kp⟩
end Go.Proofs.YtongmhfpoopebaaGreat
