/- The walks of the queue's Len, Less and Swap. -/
import Derived.Test.YtmehdhjelggkpaaHb
import Derived.Test.YtmehdhjelggkpaaRows
import Derived.WalkKit
import Derived.WalkSpells
import Derived.WalkLawsBesides
import Derived.OwnWalk
import Derived.BigCall
import Derived.BigRegion
import Derived.Deep.QuietTactic
import Derived.BigQuiet
import Derived.Deep.OwnRows
import Derived.Laws.OwnMore
namespace Go.Proofs.Ytmehdhjelggkpaa
open Go.RowKit

def aheadB (a b : Th) : Bool := decide (a.due < b.due) || (decide (a.due = b.due) && decide (a.seq < b.seq))
theorem aheadB_iff (a b : Th) : aheadB a b = true ↔ ahead a b := by simp [aheadB, ahead]
theorem aheadB_no (a b : Th) : aheadB a b = false ↔ ¬ ahead a b := by rw [← aheadB_iff]; simp
theorem ahead_ne {a b : Th} (h : ¬ a.due = b.due) : decide (a.due < b.due) = aheadB a b := by simp [aheadB, h]
theorem ahead_eq {a b : Th} (h : a.due = b.due) : decide (a.seq < b.seq) = aheadB a b := by simp [aheadB, h]
theorem ret_bool {a b : Bool} (h : a = b) : Ending.returned (.bool a) = .returned (.bool b) := by rw [h]
theorem drewN_two (w : World) (a b : Nat) : ∃ k, (w.drewN a).drewN b = w.drewN k := ⟨a + b, by rw [World.drewN_drewN]⟩

set_option maxHeartbeats 1000000 in
theorem len_any (ad : Option Addr) (n cap : Nat) (w : World) :
    Calls Try.prog 45 #[.slice ad n cap] w fun e w' => e = .returned (.int .i64 n) ∧ w' = w := by
  go_enter Try.func45, Try.ntmps45
  go_wp2
  go_ret
  exact ⟨rfl, rfl⟩

set_option maxHeartbeats 1000000 in
set_option maxRecDepth 100000 in
theorem less_any (g n cap i j : Nat) (x y : Th) (w : World) (hi : i < n) (hj : j < n) (hn : n ≤ 1000000)
    (c1 : w.cell? ⟨g, i, none⟩ = some (.pointer (some ⟨x.blk, 0, none⟩))) (c2 : w.cell? ⟨g, j, none⟩ = some (.pointer (some ⟨y.blk, 0, none⟩)))
    (x1 : w.cell? ⟨x.blk, 1, none⟩ = some (.int .i64 x.due)) (x2 : w.cell? ⟨x.blk, 2, none⟩ = some (.int .i64 x.seq))
    (y1 : w.cell? ⟨y.blk, 1, none⟩ = some (.int .i64 y.due)) (y2 : w.cell? ⟨y.blk, 2, none⟩ = some (.int .i64 y.seq)) :
    Calls Try.prog 46 #[.slice (some ⟨g, 0, none⟩) n cap, .int .i64 i, .int .i64 j] w fun e w' => e = .returned (.bool (aheadB x y)) ∧ ∃ k, w' = w.drewN k := by
  have i0 : (0 : Int) ≤ i := by omega
  have i1 : (i : Int) < n := by omega
  have j0 : (0 : Int) ≤ j := by omega
  have j1 : (j : Int) < n := by omega
  have n1 : (n : Int) ≤ 1000000 := by omega
  by_cases hd : x.due = y.due
  · have H := ahead_eq hd
    have HS : Hid (decide (x.seq < y.seq) = aheadB x y) := H
    clear H
    have hf : ¬ x.due ≠ y.due := by simpa using hd
    rw [← hd] at y1
    clear hd hf
    go_enter Try.func46, Try.ntmps46
    go_wp2
    go_quiet (fail)
    go_wp2
    go_quiet (fail)
    go_wp2
    go_ret
    exact ⟨ret_bool HS.out, drewN_two _ _ _⟩
  · have HS : Hid (decide (x.due < y.due) = aheadB x y) := ahead_ne hd
    go_enter Try.func46, Try.ntmps46
    go_wp2
    go_quiet (fail)
    go_wp2
    go_quiet (fail)
    go_wp2
    go_ret
    exact ⟨ret_bool HS.out, drewN_two _ _ _⟩

/-- The same but for how much was drawn. -/
structure Like (w' w : World) : Prop where
  heap : w'.heap = w.heap
  os : w'.os = w.os
  output : w'.output = w.output
  tape : w'.tape = w.tape

set_option maxHeartbeats 1000000 in
set_option maxRecDepth 100000 in
theorem swap_any (g n cap i j : Nat) (x y : Th) (w : World) (hi : i < n) (hj : j < n) (hn : n ≤ 1000000) (hij : i ≠ j) (hg : g ≠ x.blk) (hg' : g ≠ y.blk)
    (c1 : w.cell? ⟨g, i, none⟩ = some (.pointer (some ⟨x.blk, 0, none⟩))) (c2 : w.cell? ⟨g, j, none⟩ = some (.pointer (some ⟨y.blk, 0, none⟩)))
    (f1 : w.frozen? ⟨g, i, none⟩ = false) (f2 : w.frozen? ⟨g, j, none⟩ = false)
    (x3 : w.frozen? ⟨x.blk, 3, none⟩ = false) (y3 : w.frozen? ⟨y.blk, 3, none⟩ = false) (vx vy : Value) (p1 : w.cell? ⟨x.blk, 3, none⟩ = some vx) (p2 : w.cell? ⟨y.blk, 3, none⟩ = some vy) (hxy : x.blk ≠ y.blk) :
    Calls Try.prog 47 #[.slice (some ⟨g, 0, none⟩) n cap, .int .i64 i, .int .i64 j] w fun e w' => e = .returned (.tuple #[]) ∧
      Like w' ((((w.setCell ⟨g, i, none⟩ (.pointer (some ⟨y.blk, 0, none⟩))).setCell ⟨g, j, none⟩ (.pointer (some ⟨x.blk, 0, none⟩))).setCell ⟨y.blk, 3, none⟩ (.int .i64 i)).setCell ⟨x.blk, 3, none⟩ (.int .i64 j)) := by
  have i0 : (0 : Int) ≤ i := by omega
  have i1 : (i : Int) < n := by omega
  have j0 : (0 : Int) ≤ j := by omega
  have j1 : (j : Int) < n := by omega
  have n1 : (n : Int) ≤ 1000000 := by omega
  have hji : j ≠ i := Ne.symm hij
  have hyx : y.blk ≠ x.blk := Ne.symm hxy
  go_enter Try.func47, Try.ntmps47
  go_wp2
  go_region
  all_goals (go_wp2; go_region)
  all_goals (go_end0; exact ⟨rfl, rfl, rfl, rfl, rfl⟩)
end Go.Proofs.Ytmehdhjelggkpaa
