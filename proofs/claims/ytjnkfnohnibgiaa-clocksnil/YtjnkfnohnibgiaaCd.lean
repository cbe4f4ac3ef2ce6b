/- Clocks and blocks that stay; the walks of awake and of the statement ClocksNil. -/
import Derived.Test.YtjnkfnohnibgiaaCc
namespace Go.Proofs.Ytjnkfnohnibgiaa
open Go.RowKit

/-- Clocks that were made since w0, and blocks that stay. -/
def Ck (w0 w : World) (A : Nat) (T : List Int) (most : Int) (K : List (Nat × Obj)) : Prop :=
  Cs w A T most ∧ w0.heap.size ≤ A ∧ Below w0.heap.size w0 w ∧ ∀ p ∈ K, w.heap[p.1]? = some p.2 ∧ p.1 ≠ A
section
variable {w0 w w' : World} {A : Nat} {T T' : List Int} {most : Int} {K K' : List (Nat × Obj)}
theorem Ck.ok (h : Ck w0 w A T most K) : Ok T most := h.1.ok
theorem Ck.below (h : Ck w0 w A T most K) : Below w0.heap.size w0 w := h.2.2.1
theorem Ck.blk (h : Ck w0 w A T most K) : ∀ p ∈ K, w.heap[p.1]? = some p.2 := fun p hp => (h.2.2.2 p hp).1
theorem Ck.turn (h : Ck w0 w A T most K) (hc : Cs w' A T' most) (hf : Fr w w' (fun b => b = A)) : Ck w0 w' A T' most K := by
  obtain ⟨h1, h2, h3, h4⟩ := h
  refine ⟨hc, h2, fr_below (fun k q => (show k = A from q) ▸ h2) h3 hf, fun p hp => ?_⟩
  obtain ⟨a, b⟩ := h4 p hp
  exact ⟨(hf.block p.1 (blk_lt a) b).trans a, b⟩
theorem Ck.on (h : Ck w0 w A T most K) (hb : Below w.heap.size w w') : Ck w0 w' A T most K := h.turn (h.1.on hb) (Fr.ofBelow _ hb)
theorem Ck.box (h : Ck w0 w A T most K) (o : Obj) : Ck w0 (w.alloc o) A T most ((w.heap.size, o) :: K) := by
  obtain ⟨h1, h2, h3, h4⟩ := h.on ((Below.refl _ w).alloc (Nat.le_refl _) o)
  refine ⟨h1, h2, h3, fun p hp => ?_⟩
  rcases List.mem_cons.1 hp with rfl | hp
  · have := h.1.lt
    exact ⟨heap_alloc_new w _, fun q => by simp only at q; omega⟩
  · exact h4 p hp
theorem Ck.sub (h : Ck w0 w A T most K) (hK : ∀ p ∈ K', p ∈ K) : Ck w0 w A T most K' := ⟨h.1, h.2.1, h.2.2.1, fun p hp => h.2.2.2 p (hK p hp)⟩
theorem Ck.drewN (h : Ck w0 w A T most K) (k : Nat) : Ck w0 (w.drewN k) A T most K := h.on (below_draw (Below.refl _ _) k)
theorem ck_new (n : Nat) (h1 : 1 ≤ n) (h5 : n ≤ 5) (m1 : 1 ≤ most) (m2 : most ≤ 1073741824) (hb : Below w0.heap.size w0 w) :
    Calls Try.prog 7 #[.int .i64 n, .int .i64 most] w fun e w' => ∃ A, e = .returned (.tuple #[.pointer (some ⟨A, 0, none⟩), .int .i64 0]) ∧ Ck w0 w' A (List.replicate n 0) most [] := by
  refine (new_yes n h1 h5 m1 m2 w).mono ?_
  rintro e w' ⟨rfl, hc, hb'⟩
  exact ⟨_, rfl, hc, hb.size, hb.trans (hb'.mono hb.size), fun p hp => by cases hp⟩
theorem ck_tick (h : Ck w0 w A T most K) (i : Int) {d : Int} (hd : d ≤ 9223372036854775807) :
    Calls Try.prog 10 #[.pointer (some ⟨A, 0, none⟩), .int .i64 i, .int .i64 d] w fun e w' => e = .returned (.int .i64 (stepC T most i d)) ∧ Ck w0 w' A (putC T i (stepC T most i d)) most K := by
  refine (tick_any h.1 i hd).mono ?_
  rintro e w' ⟨rfl, hc, hf⟩
  exact ⟨rfl, h.turn hc hf⟩
theorem ck_now (h : Ck w0 w A T most K) (i : Int) : Calls Try.prog 11 #[.pointer (some ⟨A, 0, none⟩), .int .i64 i] w fun e w' => e = .returned (.int .i64 (nowC T i)) ∧ w' = w := now_any h.1 i
end

set_option maxHeartbeats 4000000 in
set_option maxRecDepth 100000 in
theorem awake_any (w : World) : Calls Try.prog 8 #[] w fun e w' => e = .returned (.bool true) ∧ Below w.heap.size w w' := by
  have t0 : Calls Try.prog 7 #[.int .i64 2, .int .i64 3] w fun e w' => ∃ A, e = .returned (.tuple #[.pointer (some ⟨A, 0, none⟩), .int .i64 0]) ∧ Ck w w' A [0, 0] 3 [] := ck_new 2 (by decide) (by decide) (by decide) (by decide) (Below.refl _ w)
  go_enter Try.func8, Try.ntmps8
  go_wp2_with fail
  refine t0.mono ?_
  rintro e w1 ⟨A, rfl, h1⟩
  have t1 : Calls Try.prog 10 #[.pointer (some ⟨A, 0, none⟩), .int .i64 0, .int .i64 9] w1 fun e w' => e = .returned (.int .i64 3) ∧ Ck w w' A [3, 0] 3 [] := ck_tick h1 0 (by decide)
  go_wp2_with fail
  refine t1.mono ?_
  rintro e w2 ⟨rfl, h2⟩
  have t2 : Calls Try.prog 10 #[.pointer (some ⟨A, 0, none⟩), .int .i64 0, .int .i64 1] w2 fun e w' => e = .returned (.int .i64 0) ∧ Ck w w' A [3, 0] 3 [] := ck_tick h2 0 (by decide)
  go_wp2_with fail
  refine t2.mono ?_
  rintro e w3 ⟨rfl, h3⟩
  have t3 : Calls Try.prog 10 #[.pointer (some ⟨A, 0, none⟩), .int .i64 1, .int .i64 2] w3 fun e w' => e = .returned (.int .i64 2) ∧ Ck w w' A [3, 2] 3 [] := ck_tick h3 1 (by decide)
  go_wp2_with fail
  refine t3.mono ?_
  rintro e w4 ⟨rfl, h4⟩
  have t4 : Calls Try.prog 10 #[.pointer (some ⟨A, 0, none⟩), .int .i64 0, .int .i64 9] w4 fun e w' => e = .returned (.int .i64 2) ∧ Ck w w' A [5, 2] 3 [] := ck_tick h4 0 (by decide)
  go_wp2_with fail
  refine t4.mono ?_
  rintro e w5 ⟨rfl, h5⟩
  have t5 : Calls Try.prog 11 #[.pointer (some ⟨A, 0, none⟩), .int .i64 0] w5 fun e w' => e = .returned (.int .i64 5) ∧ w' = w5 := ck_now h5 0
  go_wp2_with fail
  refine t5.mono ?_
  rintro e w6 ⟨rfl, rfl⟩
  go_wp2
  go_ret
  exact ⟨rfl, h5.below⟩

theorem nil_law (i d : Int) (w : World) : Calls Try.prog 6 #[.int .i64 i, .int .i64 d] w fun e w' => e = .returned (.bool true) ∧ Below w.heap.size w w' := by
  go_enter Try.func6, Try.ntmps6
  go_wp2_with fail
  refine (awake_any w).mono ?_
  rintro e w1 ⟨rfl, hb1⟩
  go_wp2_with fail
  refine (tick_nil i d w1).mono ?_
  rintro e w2 ⟨rfl, rfl⟩
  go_wp2_with fail
  refine (now_nil i _).mono ?_
  rintro e w3 ⟨rfl, rfl⟩
  go_wp2
  go_ret
  exact ⟨rfl, hb1⟩
end Go.Proofs.Ytjnkfnohnibgiaa
