/- The walks of value.Check and of the document's Right: what each answers at every value. -/
import Derived.Test.YtbepekgaipipjaaRows
import Derived.WalkKit
import Derived.WalkSpells
import Derived.WalkLawsBesides
namespace Go.Proofs.Ytbepekgaipipjaa
open Go.RowKit

def rightB (k n : Int) (s : ByteArray) : Bool := if k == 0 then (n == 0) && s.toList.isEmpty else if k == 1 then s.toList.isEmpty else (k == 2) && (n == 0) && decide ((s.size : Int) ≤ 64)

theorem rightB_eq (k n : Int) (s : ByteArray) : rightB k n s = bif k == 0 then (n == 0) && s.toList.isEmpty else bif k == 1 then s.toList.isEmpty else (k == 2) && (n == 0) && decide ((s.size : Int) ≤ 64) := by
  unfold rightB; cases k == 0 <;> cases k == 1 <;> rfl

set_option maxHeartbeats 1000000 in
theorem check_any (k n : Int) (s : ByteArray) (w : World) :
    Calls Try.prog 57 #[.agg #[.int .i64 k, .int .i64 n, .string s]] w fun e w' => e = .returned (.int .i64 (if rightB k n s then 0 else 10)) ∧ Below w.heap.size w w' := by
  have hb : ∀ o, Below w.heap.size w (w.alloc o) := fun o => (Below.refl _ _).alloc (Nat.le_refl _) o
  cases h0 : (k == 0) <;> cases h1 : (k == 1) <;> cases h2 : (k == 2) <;> cases h3 : (n == 0) <;> cases h4 : s.toList.isEmpty <;> cases h5 : decide ((s.size : Int) ≤ 64)
  all_goals first
    | (exfalso; simp only [beq_iff_eq, beq_eq_false_iff_ne, ne_eq] at h0 h1 h2; omega)
    | skip
  all_goals
    have hr := rightB_eq k n s
    rw [h0, h1, h2, h3, h4, h5] at hr
    rw [hr]
    clear hr
    go_enter Try.func57, Try.ntmps57
    go_wp2
    go_ret
    exact ⟨rfl, hb _⟩

set_option maxHeartbeats 1000000 in
theorem right_any (k n : Int) (s : ByteArray) (w : World) :
    Calls Try.prog 44 #[.agg #[.int .i64 k, .int .i64 n, .string s]] w fun e w' => e = .returned (.bool (rightB k n s)) ∧ Below w.heap.size w w' := by
  have hb : ∀ o, Below w.heap.size w (w.alloc o) := fun o => (Below.refl _ _).alloc (Nat.le_refl _) o
  cases h0 : (k == 0) <;> cases h1 : (k == 1) <;> cases h2 : (k == 2) <;> cases h3 : (n == 0) <;> cases h4 : s.toList.isEmpty <;> cases h5 : decide ((s.size : Int) ≤ 64)
  all_goals first
    | (exfalso; simp only [beq_iff_eq, beq_eq_false_iff_ne, ne_eq] at h0 h1 h2; omega)
    | skip
  all_goals
    have hr := rightB_eq k n s
    rw [h0, h1, h2, h3, h4, h5] at hr
    rw [hr]
    clear hr
    go_enter Try.func44, Try.ntmps44
    go_wp2
    go_ret
    exact ⟨rfl, hb _⟩
end Go.Proofs.Ytbepekgaipipjaa
