/- PutCommand and GetCommand. -/
import Derived.Test.YtjhgmncmcklnkaaVNa
import Derived.Test.YtjhgmncmcklnkaaVMh
namespace Go.Proofs.Ytjhgmncmcklnkaa
open Go.RowKit

theorem arr30 {vs : Array Value} (h : vs.size = 30) : ∃ a0 a1 a2 a3 a4 a5 a6 a7 a8 a9 a10 a11 a12 a13 a14 a15 a16 a17 a18 a19 a20 a21 a22 a23 a24 a25 a26 a27 a28 a29, vs = #[a0, a1, a2, a3, a4, a5, a6, a7, a8, a9, a10, a11, a12, a13, a14, a15, a16, a17, a18, a19, a20, a21, a22, a23, a24, a25, a26, a27, a28, a29] := by
  obtain ⟨l⟩ := vs
  match l, h with
  | [a0, a1, a2, a3, a4, a5, a6, a7, a8, a9, a10, a11, a12, a13, a14, a15, a16, a17, a18, a19, a20, a21, a22, a23, a24, a25, a26, a27, a28, a29], _ => exact ⟨a0, a1, a2, a3, a4, a5, a6, a7, a8, a9, a10, a11, a12, a13, a14, a15, a16, a17, a18, a19, a20, a21, a22, a23, a24, a25, a26, a27, a28, a29, rfl⟩
theorem sets_command {w1 : World} {R : Nat} (h : w1.heap[R]? = some (.cells #[.int .i64 0, .int .i64 0, .int .i64 0, .int .i64 0, .int .i64 0, .int .i64 0, .int .i64 0, .int .i64 0, .slice none 0 0, .slice none 0 0, .int .i64 0, .int .i64 0, .int .i64 0, .int .i64 0, .int .i64 0, .int .i64 0, .string ⟨#[]⟩, .string ⟨#[]⟩, .string ⟨#[]⟩, .string ⟨#[]⟩, .bool false, .int .i64 0, .int .i64 0, .int .i64 0, .string ⟨#[]⟩, .slice none 0 0, .int .i64 0, .int .i64 0, .string ⟨#[]⟩, .int .i64 0] 47 (0, 0))) (q0 q1 q2 q3 q4 q5 q6 q7 q8 q9 q10 q11 q12 q13 q14 q15 q16 q17 q18 q19 q20 q21 q22 q23 q24 q25 q26 q27 q28 q29 : Value) : ∃ W, W = ((((((((((((((((((((((((((((((w1.setCell ⟨R, 0, none⟩ (q0)).setCell ⟨R, 1, none⟩ (q1)).setCell ⟨R, 2, none⟩ (q2)).setCell ⟨R, 3, none⟩ (q3)).setCell ⟨R, 4, none⟩ (q4)).setCell ⟨R, 5, none⟩ (q5)).setCell ⟨R, 6, none⟩ (q6)).setCell ⟨R, 7, none⟩ (q7)).setCell ⟨R, 8, none⟩ (q8)).setCell ⟨R, 9, none⟩ (q9)).setCell ⟨R, 10, none⟩ (q10)).setCell ⟨R, 11, none⟩ (q11)).setCell ⟨R, 12, none⟩ (q12)).setCell ⟨R, 13, none⟩ (q13)).setCell ⟨R, 14, none⟩ (q14)).setCell ⟨R, 15, none⟩ (q15)).setCell ⟨R, 16, none⟩ (q16)).setCell ⟨R, 17, none⟩ (q17)).setCell ⟨R, 18, none⟩ (q18)).setCell ⟨R, 19, none⟩ (q19)).setCell ⟨R, 20, none⟩ (q20)).setCell ⟨R, 21, none⟩ (q21)).setCell ⟨R, 22, none⟩ (q22)).setCell ⟨R, 23, none⟩ (q23)).setCell ⟨R, 24, none⟩ (q24)).setCell ⟨R, 25, none⟩ (q25)).setCell ⟨R, 26, none⟩ (q26)).setCell ⟨R, 27, none⟩ (q27)).setCell ⟨R, 28, none⟩ (q28)).setCell ⟨R, 29, none⟩ (q29)) ∧ W.heap[R]? = some (.cells #[q0, q1, q2, q3, q4, q5, q6, q7, q8, q9, q10, q11, q12, q13, q14, q15, q16, q17, q18, q19, q20, q21, q22, q23, q24, q25, q26, q27, q28, q29] 47 (0, 0)) ∧ (∀ k, k ≠ R → W.heap[k]? = w1.heap[k]?) ∧ W.heap.size = w1.heap.size ∧ W.os = w1.os ∧ W.tape = w1.tape ∧ W.output = w1.output := by
  have b0 := h
  obtain ⟨W0, e0⟩ : ∃ X, X = w1.setCell ⟨R, 0, none⟩ q0 := ⟨_, rfl⟩
  have b1 : W0.heap[R]? = some (.cells #[q0, .int .i64 0, .int .i64 0, .int .i64 0, .int .i64 0, .int .i64 0, .int .i64 0, .int .i64 0, .slice none 0 0, .slice none 0 0, .int .i64 0, .int .i64 0, .int .i64 0, .int .i64 0, .int .i64 0, .int .i64 0, .string ⟨#[]⟩, .string ⟨#[]⟩, .string ⟨#[]⟩, .string ⟨#[]⟩, .bool false, .int .i64 0, .int .i64 0, .int .i64 0, .string ⟨#[]⟩, .slice none 0 0, .int .i64 0, .int .i64 0, .string ⟨#[]⟩, .int .i64 0] 47 (0, 0)) := by rw [e0]; exact set_blk (i := 0) b0 q0
  have o0 : ∀ k, k ≠ R → W0.heap[k]? = w1.heap[k]? := fun k hk => by rw [e0]; exact set_other (a := ⟨R, 0, none⟩) _ hk
  have s0 : W0.heap.size = w1.heap.size := by rw [e0]; simp [World.setCell]
  have p0 : W0.os = w1.os ∧ W0.tape = w1.tape ∧ W0.output = w1.output := by rw [e0]; exact ⟨rfl, rfl, rfl⟩
  clear b0
  obtain ⟨W1, e1⟩ : ∃ X, X = W0.setCell ⟨R, 1, none⟩ q1 := ⟨_, rfl⟩
  have b2 : W1.heap[R]? = some (.cells #[q0, q1, .int .i64 0, .int .i64 0, .int .i64 0, .int .i64 0, .int .i64 0, .int .i64 0, .slice none 0 0, .slice none 0 0, .int .i64 0, .int .i64 0, .int .i64 0, .int .i64 0, .int .i64 0, .int .i64 0, .string ⟨#[]⟩, .string ⟨#[]⟩, .string ⟨#[]⟩, .string ⟨#[]⟩, .bool false, .int .i64 0, .int .i64 0, .int .i64 0, .string ⟨#[]⟩, .slice none 0 0, .int .i64 0, .int .i64 0, .string ⟨#[]⟩, .int .i64 0] 47 (0, 0)) := by rw [e1]; exact set_blk (i := 1) b1 q1
  have o1 : ∀ k, k ≠ R → W1.heap[k]? = W0.heap[k]? := fun k hk => by rw [e1]; exact set_other (a := ⟨R, 1, none⟩) _ hk
  have s1 : W1.heap.size = W0.heap.size := by rw [e1]; simp [World.setCell]
  have p1 : W1.os = W0.os ∧ W1.tape = W0.tape ∧ W1.output = W0.output := by rw [e1]; exact ⟨rfl, rfl, rfl⟩
  clear b1
  obtain ⟨W2, e2⟩ : ∃ X, X = W1.setCell ⟨R, 2, none⟩ q2 := ⟨_, rfl⟩
  have b3 : W2.heap[R]? = some (.cells #[q0, q1, q2, .int .i64 0, .int .i64 0, .int .i64 0, .int .i64 0, .int .i64 0, .slice none 0 0, .slice none 0 0, .int .i64 0, .int .i64 0, .int .i64 0, .int .i64 0, .int .i64 0, .int .i64 0, .string ⟨#[]⟩, .string ⟨#[]⟩, .string ⟨#[]⟩, .string ⟨#[]⟩, .bool false, .int .i64 0, .int .i64 0, .int .i64 0, .string ⟨#[]⟩, .slice none 0 0, .int .i64 0, .int .i64 0, .string ⟨#[]⟩, .int .i64 0] 47 (0, 0)) := by rw [e2]; exact set_blk (i := 2) b2 q2
  have o2 : ∀ k, k ≠ R → W2.heap[k]? = W1.heap[k]? := fun k hk => by rw [e2]; exact set_other (a := ⟨R, 2, none⟩) _ hk
  have s2 : W2.heap.size = W1.heap.size := by rw [e2]; simp [World.setCell]
  have p2 : W2.os = W1.os ∧ W2.tape = W1.tape ∧ W2.output = W1.output := by rw [e2]; exact ⟨rfl, rfl, rfl⟩
  clear b2
  obtain ⟨W3, e3⟩ : ∃ X, X = W2.setCell ⟨R, 3, none⟩ q3 := ⟨_, rfl⟩
  have b4 : W3.heap[R]? = some (.cells #[q0, q1, q2, q3, .int .i64 0, .int .i64 0, .int .i64 0, .int .i64 0, .slice none 0 0, .slice none 0 0, .int .i64 0, .int .i64 0, .int .i64 0, .int .i64 0, .int .i64 0, .int .i64 0, .string ⟨#[]⟩, .string ⟨#[]⟩, .string ⟨#[]⟩, .string ⟨#[]⟩, .bool false, .int .i64 0, .int .i64 0, .int .i64 0, .string ⟨#[]⟩, .slice none 0 0, .int .i64 0, .int .i64 0, .string ⟨#[]⟩, .int .i64 0] 47 (0, 0)) := by rw [e3]; exact set_blk (i := 3) b3 q3
  have o3 : ∀ k, k ≠ R → W3.heap[k]? = W2.heap[k]? := fun k hk => by rw [e3]; exact set_other (a := ⟨R, 3, none⟩) _ hk
  have s3 : W3.heap.size = W2.heap.size := by rw [e3]; simp [World.setCell]
  have p3 : W3.os = W2.os ∧ W3.tape = W2.tape ∧ W3.output = W2.output := by rw [e3]; exact ⟨rfl, rfl, rfl⟩
  clear b3
  obtain ⟨W4, e4⟩ : ∃ X, X = W3.setCell ⟨R, 4, none⟩ q4 := ⟨_, rfl⟩
  have b5 : W4.heap[R]? = some (.cells #[q0, q1, q2, q3, q4, .int .i64 0, .int .i64 0, .int .i64 0, .slice none 0 0, .slice none 0 0, .int .i64 0, .int .i64 0, .int .i64 0, .int .i64 0, .int .i64 0, .int .i64 0, .string ⟨#[]⟩, .string ⟨#[]⟩, .string ⟨#[]⟩, .string ⟨#[]⟩, .bool false, .int .i64 0, .int .i64 0, .int .i64 0, .string ⟨#[]⟩, .slice none 0 0, .int .i64 0, .int .i64 0, .string ⟨#[]⟩, .int .i64 0] 47 (0, 0)) := by rw [e4]; exact set_blk (i := 4) b4 q4
  have o4 : ∀ k, k ≠ R → W4.heap[k]? = W3.heap[k]? := fun k hk => by rw [e4]; exact set_other (a := ⟨R, 4, none⟩) _ hk
  have s4 : W4.heap.size = W3.heap.size := by rw [e4]; simp [World.setCell]
  have p4 : W4.os = W3.os ∧ W4.tape = W3.tape ∧ W4.output = W3.output := by rw [e4]; exact ⟨rfl, rfl, rfl⟩
  clear b4
  obtain ⟨W5, e5⟩ : ∃ X, X = W4.setCell ⟨R, 5, none⟩ q5 := ⟨_, rfl⟩
  have b6 : W5.heap[R]? = some (.cells #[q0, q1, q2, q3, q4, q5, .int .i64 0, .int .i64 0, .slice none 0 0, .slice none 0 0, .int .i64 0, .int .i64 0, .int .i64 0, .int .i64 0, .int .i64 0, .int .i64 0, .string ⟨#[]⟩, .string ⟨#[]⟩, .string ⟨#[]⟩, .string ⟨#[]⟩, .bool false, .int .i64 0, .int .i64 0, .int .i64 0, .string ⟨#[]⟩, .slice none 0 0, .int .i64 0, .int .i64 0, .string ⟨#[]⟩, .int .i64 0] 47 (0, 0)) := by rw [e5]; exact set_blk (i := 5) b5 q5
  have o5 : ∀ k, k ≠ R → W5.heap[k]? = W4.heap[k]? := fun k hk => by rw [e5]; exact set_other (a := ⟨R, 5, none⟩) _ hk
  have s5 : W5.heap.size = W4.heap.size := by rw [e5]; simp [World.setCell]
  have p5 : W5.os = W4.os ∧ W5.tape = W4.tape ∧ W5.output = W4.output := by rw [e5]; exact ⟨rfl, rfl, rfl⟩
  clear b5
  obtain ⟨W6, e6⟩ : ∃ X, X = W5.setCell ⟨R, 6, none⟩ q6 := ⟨_, rfl⟩
  have b7 : W6.heap[R]? = some (.cells #[q0, q1, q2, q3, q4, q5, q6, .int .i64 0, .slice none 0 0, .slice none 0 0, .int .i64 0, .int .i64 0, .int .i64 0, .int .i64 0, .int .i64 0, .int .i64 0, .string ⟨#[]⟩, .string ⟨#[]⟩, .string ⟨#[]⟩, .string ⟨#[]⟩, .bool false, .int .i64 0, .int .i64 0, .int .i64 0, .string ⟨#[]⟩, .slice none 0 0, .int .i64 0, .int .i64 0, .string ⟨#[]⟩, .int .i64 0] 47 (0, 0)) := by rw [e6]; exact set_blk (i := 6) b6 q6
  have o6 : ∀ k, k ≠ R → W6.heap[k]? = W5.heap[k]? := fun k hk => by rw [e6]; exact set_other (a := ⟨R, 6, none⟩) _ hk
  have s6 : W6.heap.size = W5.heap.size := by rw [e6]; simp [World.setCell]
  have p6 : W6.os = W5.os ∧ W6.tape = W5.tape ∧ W6.output = W5.output := by rw [e6]; exact ⟨rfl, rfl, rfl⟩
  clear b6
  obtain ⟨W7, e7⟩ : ∃ X, X = W6.setCell ⟨R, 7, none⟩ q7 := ⟨_, rfl⟩
  have b8 : W7.heap[R]? = some (.cells #[q0, q1, q2, q3, q4, q5, q6, q7, .slice none 0 0, .slice none 0 0, .int .i64 0, .int .i64 0, .int .i64 0, .int .i64 0, .int .i64 0, .int .i64 0, .string ⟨#[]⟩, .string ⟨#[]⟩, .string ⟨#[]⟩, .string ⟨#[]⟩, .bool false, .int .i64 0, .int .i64 0, .int .i64 0, .string ⟨#[]⟩, .slice none 0 0, .int .i64 0, .int .i64 0, .string ⟨#[]⟩, .int .i64 0] 47 (0, 0)) := by rw [e7]; exact set_blk (i := 7) b7 q7
  have o7 : ∀ k, k ≠ R → W7.heap[k]? = W6.heap[k]? := fun k hk => by rw [e7]; exact set_other (a := ⟨R, 7, none⟩) _ hk
  have s7 : W7.heap.size = W6.heap.size := by rw [e7]; simp [World.setCell]
  have p7 : W7.os = W6.os ∧ W7.tape = W6.tape ∧ W7.output = W6.output := by rw [e7]; exact ⟨rfl, rfl, rfl⟩
  clear b7
  obtain ⟨W8, e8⟩ : ∃ X, X = W7.setCell ⟨R, 8, none⟩ q8 := ⟨_, rfl⟩
  have b9 : W8.heap[R]? = some (.cells #[q0, q1, q2, q3, q4, q5, q6, q7, q8, .slice none 0 0, .int .i64 0, .int .i64 0, .int .i64 0, .int .i64 0, .int .i64 0, .int .i64 0, .string ⟨#[]⟩, .string ⟨#[]⟩, .string ⟨#[]⟩, .string ⟨#[]⟩, .bool false, .int .i64 0, .int .i64 0, .int .i64 0, .string ⟨#[]⟩, .slice none 0 0, .int .i64 0, .int .i64 0, .string ⟨#[]⟩, .int .i64 0] 47 (0, 0)) := by rw [e8]; exact set_blk (i := 8) b8 q8
  have o8 : ∀ k, k ≠ R → W8.heap[k]? = W7.heap[k]? := fun k hk => by rw [e8]; exact set_other (a := ⟨R, 8, none⟩) _ hk
  have s8 : W8.heap.size = W7.heap.size := by rw [e8]; simp [World.setCell]
  have p8 : W8.os = W7.os ∧ W8.tape = W7.tape ∧ W8.output = W7.output := by rw [e8]; exact ⟨rfl, rfl, rfl⟩
  clear b8
  obtain ⟨W9, e9⟩ : ∃ X, X = W8.setCell ⟨R, 9, none⟩ q9 := ⟨_, rfl⟩
  have b10 : W9.heap[R]? = some (.cells #[q0, q1, q2, q3, q4, q5, q6, q7, q8, q9, .int .i64 0, .int .i64 0, .int .i64 0, .int .i64 0, .int .i64 0, .int .i64 0, .string ⟨#[]⟩, .string ⟨#[]⟩, .string ⟨#[]⟩, .string ⟨#[]⟩, .bool false, .int .i64 0, .int .i64 0, .int .i64 0, .string ⟨#[]⟩, .slice none 0 0, .int .i64 0, .int .i64 0, .string ⟨#[]⟩, .int .i64 0] 47 (0, 0)) := by rw [e9]; exact set_blk (i := 9) b9 q9
  have o9 : ∀ k, k ≠ R → W9.heap[k]? = W8.heap[k]? := fun k hk => by rw [e9]; exact set_other (a := ⟨R, 9, none⟩) _ hk
  have s9 : W9.heap.size = W8.heap.size := by rw [e9]; simp [World.setCell]
  have p9 : W9.os = W8.os ∧ W9.tape = W8.tape ∧ W9.output = W8.output := by rw [e9]; exact ⟨rfl, rfl, rfl⟩
  clear b9
  obtain ⟨W10, e10⟩ : ∃ X, X = W9.setCell ⟨R, 10, none⟩ q10 := ⟨_, rfl⟩
  have b11 : W10.heap[R]? = some (.cells #[q0, q1, q2, q3, q4, q5, q6, q7, q8, q9, q10, .int .i64 0, .int .i64 0, .int .i64 0, .int .i64 0, .int .i64 0, .string ⟨#[]⟩, .string ⟨#[]⟩, .string ⟨#[]⟩, .string ⟨#[]⟩, .bool false, .int .i64 0, .int .i64 0, .int .i64 0, .string ⟨#[]⟩, .slice none 0 0, .int .i64 0, .int .i64 0, .string ⟨#[]⟩, .int .i64 0] 47 (0, 0)) := by rw [e10]; exact set_blk (i := 10) b10 q10
  have o10 : ∀ k, k ≠ R → W10.heap[k]? = W9.heap[k]? := fun k hk => by rw [e10]; exact set_other (a := ⟨R, 10, none⟩) _ hk
  have s10 : W10.heap.size = W9.heap.size := by rw [e10]; simp [World.setCell]
  have p10 : W10.os = W9.os ∧ W10.tape = W9.tape ∧ W10.output = W9.output := by rw [e10]; exact ⟨rfl, rfl, rfl⟩
  clear b10
  obtain ⟨W11, e11⟩ : ∃ X, X = W10.setCell ⟨R, 11, none⟩ q11 := ⟨_, rfl⟩
  have b12 : W11.heap[R]? = some (.cells #[q0, q1, q2, q3, q4, q5, q6, q7, q8, q9, q10, q11, .int .i64 0, .int .i64 0, .int .i64 0, .int .i64 0, .string ⟨#[]⟩, .string ⟨#[]⟩, .string ⟨#[]⟩, .string ⟨#[]⟩, .bool false, .int .i64 0, .int .i64 0, .int .i64 0, .string ⟨#[]⟩, .slice none 0 0, .int .i64 0, .int .i64 0, .string ⟨#[]⟩, .int .i64 0] 47 (0, 0)) := by rw [e11]; exact set_blk (i := 11) b11 q11
  have o11 : ∀ k, k ≠ R → W11.heap[k]? = W10.heap[k]? := fun k hk => by rw [e11]; exact set_other (a := ⟨R, 11, none⟩) _ hk
  have s11 : W11.heap.size = W10.heap.size := by rw [e11]; simp [World.setCell]
  have p11 : W11.os = W10.os ∧ W11.tape = W10.tape ∧ W11.output = W10.output := by rw [e11]; exact ⟨rfl, rfl, rfl⟩
  clear b11
  obtain ⟨W12, e12⟩ : ∃ X, X = W11.setCell ⟨R, 12, none⟩ q12 := ⟨_, rfl⟩
  have b13 : W12.heap[R]? = some (.cells #[q0, q1, q2, q3, q4, q5, q6, q7, q8, q9, q10, q11, q12, .int .i64 0, .int .i64 0, .int .i64 0, .string ⟨#[]⟩, .string ⟨#[]⟩, .string ⟨#[]⟩, .string ⟨#[]⟩, .bool false, .int .i64 0, .int .i64 0, .int .i64 0, .string ⟨#[]⟩, .slice none 0 0, .int .i64 0, .int .i64 0, .string ⟨#[]⟩, .int .i64 0] 47 (0, 0)) := by rw [e12]; exact set_blk (i := 12) b12 q12
  have o12 : ∀ k, k ≠ R → W12.heap[k]? = W11.heap[k]? := fun k hk => by rw [e12]; exact set_other (a := ⟨R, 12, none⟩) _ hk
  have s12 : W12.heap.size = W11.heap.size := by rw [e12]; simp [World.setCell]
  have p12 : W12.os = W11.os ∧ W12.tape = W11.tape ∧ W12.output = W11.output := by rw [e12]; exact ⟨rfl, rfl, rfl⟩
  clear b12
  obtain ⟨W13, e13⟩ : ∃ X, X = W12.setCell ⟨R, 13, none⟩ q13 := ⟨_, rfl⟩
  have b14 : W13.heap[R]? = some (.cells #[q0, q1, q2, q3, q4, q5, q6, q7, q8, q9, q10, q11, q12, q13, .int .i64 0, .int .i64 0, .string ⟨#[]⟩, .string ⟨#[]⟩, .string ⟨#[]⟩, .string ⟨#[]⟩, .bool false, .int .i64 0, .int .i64 0, .int .i64 0, .string ⟨#[]⟩, .slice none 0 0, .int .i64 0, .int .i64 0, .string ⟨#[]⟩, .int .i64 0] 47 (0, 0)) := by rw [e13]; exact set_blk (i := 13) b13 q13
  have o13 : ∀ k, k ≠ R → W13.heap[k]? = W12.heap[k]? := fun k hk => by rw [e13]; exact set_other (a := ⟨R, 13, none⟩) _ hk
  have s13 : W13.heap.size = W12.heap.size := by rw [e13]; simp [World.setCell]
  have p13 : W13.os = W12.os ∧ W13.tape = W12.tape ∧ W13.output = W12.output := by rw [e13]; exact ⟨rfl, rfl, rfl⟩
  clear b13
  obtain ⟨W14, e14⟩ : ∃ X, X = W13.setCell ⟨R, 14, none⟩ q14 := ⟨_, rfl⟩
  have b15 : W14.heap[R]? = some (.cells #[q0, q1, q2, q3, q4, q5, q6, q7, q8, q9, q10, q11, q12, q13, q14, .int .i64 0, .string ⟨#[]⟩, .string ⟨#[]⟩, .string ⟨#[]⟩, .string ⟨#[]⟩, .bool false, .int .i64 0, .int .i64 0, .int .i64 0, .string ⟨#[]⟩, .slice none 0 0, .int .i64 0, .int .i64 0, .string ⟨#[]⟩, .int .i64 0] 47 (0, 0)) := by rw [e14]; exact set_blk (i := 14) b14 q14
  have o14 : ∀ k, k ≠ R → W14.heap[k]? = W13.heap[k]? := fun k hk => by rw [e14]; exact set_other (a := ⟨R, 14, none⟩) _ hk
  have s14 : W14.heap.size = W13.heap.size := by rw [e14]; simp [World.setCell]
  have p14 : W14.os = W13.os ∧ W14.tape = W13.tape ∧ W14.output = W13.output := by rw [e14]; exact ⟨rfl, rfl, rfl⟩
  clear b14
  obtain ⟨W15, e15⟩ : ∃ X, X = W14.setCell ⟨R, 15, none⟩ q15 := ⟨_, rfl⟩
  have b16 : W15.heap[R]? = some (.cells #[q0, q1, q2, q3, q4, q5, q6, q7, q8, q9, q10, q11, q12, q13, q14, q15, .string ⟨#[]⟩, .string ⟨#[]⟩, .string ⟨#[]⟩, .string ⟨#[]⟩, .bool false, .int .i64 0, .int .i64 0, .int .i64 0, .string ⟨#[]⟩, .slice none 0 0, .int .i64 0, .int .i64 0, .string ⟨#[]⟩, .int .i64 0] 47 (0, 0)) := by rw [e15]; exact set_blk (i := 15) b15 q15
  have o15 : ∀ k, k ≠ R → W15.heap[k]? = W14.heap[k]? := fun k hk => by rw [e15]; exact set_other (a := ⟨R, 15, none⟩) _ hk
  have s15 : W15.heap.size = W14.heap.size := by rw [e15]; simp [World.setCell]
  have p15 : W15.os = W14.os ∧ W15.tape = W14.tape ∧ W15.output = W14.output := by rw [e15]; exact ⟨rfl, rfl, rfl⟩
  clear b15
  obtain ⟨W16, e16⟩ : ∃ X, X = W15.setCell ⟨R, 16, none⟩ q16 := ⟨_, rfl⟩
  have b17 : W16.heap[R]? = some (.cells #[q0, q1, q2, q3, q4, q5, q6, q7, q8, q9, q10, q11, q12, q13, q14, q15, q16, .string ⟨#[]⟩, .string ⟨#[]⟩, .string ⟨#[]⟩, .bool false, .int .i64 0, .int .i64 0, .int .i64 0, .string ⟨#[]⟩, .slice none 0 0, .int .i64 0, .int .i64 0, .string ⟨#[]⟩, .int .i64 0] 47 (0, 0)) := by rw [e16]; exact set_blk (i := 16) b16 q16
  have o16 : ∀ k, k ≠ R → W16.heap[k]? = W15.heap[k]? := fun k hk => by rw [e16]; exact set_other (a := ⟨R, 16, none⟩) _ hk
  have s16 : W16.heap.size = W15.heap.size := by rw [e16]; simp [World.setCell]
  have p16 : W16.os = W15.os ∧ W16.tape = W15.tape ∧ W16.output = W15.output := by rw [e16]; exact ⟨rfl, rfl, rfl⟩
  clear b16
  obtain ⟨W17, e17⟩ : ∃ X, X = W16.setCell ⟨R, 17, none⟩ q17 := ⟨_, rfl⟩
  have b18 : W17.heap[R]? = some (.cells #[q0, q1, q2, q3, q4, q5, q6, q7, q8, q9, q10, q11, q12, q13, q14, q15, q16, q17, .string ⟨#[]⟩, .string ⟨#[]⟩, .bool false, .int .i64 0, .int .i64 0, .int .i64 0, .string ⟨#[]⟩, .slice none 0 0, .int .i64 0, .int .i64 0, .string ⟨#[]⟩, .int .i64 0] 47 (0, 0)) := by rw [e17]; exact set_blk (i := 17) b17 q17
  have o17 : ∀ k, k ≠ R → W17.heap[k]? = W16.heap[k]? := fun k hk => by rw [e17]; exact set_other (a := ⟨R, 17, none⟩) _ hk
  have s17 : W17.heap.size = W16.heap.size := by rw [e17]; simp [World.setCell]
  have p17 : W17.os = W16.os ∧ W17.tape = W16.tape ∧ W17.output = W16.output := by rw [e17]; exact ⟨rfl, rfl, rfl⟩
  clear b17
  obtain ⟨W18, e18⟩ : ∃ X, X = W17.setCell ⟨R, 18, none⟩ q18 := ⟨_, rfl⟩
  have b19 : W18.heap[R]? = some (.cells #[q0, q1, q2, q3, q4, q5, q6, q7, q8, q9, q10, q11, q12, q13, q14, q15, q16, q17, q18, .string ⟨#[]⟩, .bool false, .int .i64 0, .int .i64 0, .int .i64 0, .string ⟨#[]⟩, .slice none 0 0, .int .i64 0, .int .i64 0, .string ⟨#[]⟩, .int .i64 0] 47 (0, 0)) := by rw [e18]; exact set_blk (i := 18) b18 q18
  have o18 : ∀ k, k ≠ R → W18.heap[k]? = W17.heap[k]? := fun k hk => by rw [e18]; exact set_other (a := ⟨R, 18, none⟩) _ hk
  have s18 : W18.heap.size = W17.heap.size := by rw [e18]; simp [World.setCell]
  have p18 : W18.os = W17.os ∧ W18.tape = W17.tape ∧ W18.output = W17.output := by rw [e18]; exact ⟨rfl, rfl, rfl⟩
  clear b18
  obtain ⟨W19, e19⟩ : ∃ X, X = W18.setCell ⟨R, 19, none⟩ q19 := ⟨_, rfl⟩
  have b20 : W19.heap[R]? = some (.cells #[q0, q1, q2, q3, q4, q5, q6, q7, q8, q9, q10, q11, q12, q13, q14, q15, q16, q17, q18, q19, .bool false, .int .i64 0, .int .i64 0, .int .i64 0, .string ⟨#[]⟩, .slice none 0 0, .int .i64 0, .int .i64 0, .string ⟨#[]⟩, .int .i64 0] 47 (0, 0)) := by rw [e19]; exact set_blk (i := 19) b19 q19
  have o19 : ∀ k, k ≠ R → W19.heap[k]? = W18.heap[k]? := fun k hk => by rw [e19]; exact set_other (a := ⟨R, 19, none⟩) _ hk
  have s19 : W19.heap.size = W18.heap.size := by rw [e19]; simp [World.setCell]
  have p19 : W19.os = W18.os ∧ W19.tape = W18.tape ∧ W19.output = W18.output := by rw [e19]; exact ⟨rfl, rfl, rfl⟩
  clear b19
  obtain ⟨W20, e20⟩ : ∃ X, X = W19.setCell ⟨R, 20, none⟩ q20 := ⟨_, rfl⟩
  have b21 : W20.heap[R]? = some (.cells #[q0, q1, q2, q3, q4, q5, q6, q7, q8, q9, q10, q11, q12, q13, q14, q15, q16, q17, q18, q19, q20, .int .i64 0, .int .i64 0, .int .i64 0, .string ⟨#[]⟩, .slice none 0 0, .int .i64 0, .int .i64 0, .string ⟨#[]⟩, .int .i64 0] 47 (0, 0)) := by rw [e20]; exact set_blk (i := 20) b20 q20
  have o20 : ∀ k, k ≠ R → W20.heap[k]? = W19.heap[k]? := fun k hk => by rw [e20]; exact set_other (a := ⟨R, 20, none⟩) _ hk
  have s20 : W20.heap.size = W19.heap.size := by rw [e20]; simp [World.setCell]
  have p20 : W20.os = W19.os ∧ W20.tape = W19.tape ∧ W20.output = W19.output := by rw [e20]; exact ⟨rfl, rfl, rfl⟩
  clear b20
  obtain ⟨W21, e21⟩ : ∃ X, X = W20.setCell ⟨R, 21, none⟩ q21 := ⟨_, rfl⟩
  have b22 : W21.heap[R]? = some (.cells #[q0, q1, q2, q3, q4, q5, q6, q7, q8, q9, q10, q11, q12, q13, q14, q15, q16, q17, q18, q19, q20, q21, .int .i64 0, .int .i64 0, .string ⟨#[]⟩, .slice none 0 0, .int .i64 0, .int .i64 0, .string ⟨#[]⟩, .int .i64 0] 47 (0, 0)) := by rw [e21]; exact set_blk (i := 21) b21 q21
  have o21 : ∀ k, k ≠ R → W21.heap[k]? = W20.heap[k]? := fun k hk => by rw [e21]; exact set_other (a := ⟨R, 21, none⟩) _ hk
  have s21 : W21.heap.size = W20.heap.size := by rw [e21]; simp [World.setCell]
  have p21 : W21.os = W20.os ∧ W21.tape = W20.tape ∧ W21.output = W20.output := by rw [e21]; exact ⟨rfl, rfl, rfl⟩
  clear b21
  obtain ⟨W22, e22⟩ : ∃ X, X = W21.setCell ⟨R, 22, none⟩ q22 := ⟨_, rfl⟩
  have b23 : W22.heap[R]? = some (.cells #[q0, q1, q2, q3, q4, q5, q6, q7, q8, q9, q10, q11, q12, q13, q14, q15, q16, q17, q18, q19, q20, q21, q22, .int .i64 0, .string ⟨#[]⟩, .slice none 0 0, .int .i64 0, .int .i64 0, .string ⟨#[]⟩, .int .i64 0] 47 (0, 0)) := by rw [e22]; exact set_blk (i := 22) b22 q22
  have o22 : ∀ k, k ≠ R → W22.heap[k]? = W21.heap[k]? := fun k hk => by rw [e22]; exact set_other (a := ⟨R, 22, none⟩) _ hk
  have s22 : W22.heap.size = W21.heap.size := by rw [e22]; simp [World.setCell]
  have p22 : W22.os = W21.os ∧ W22.tape = W21.tape ∧ W22.output = W21.output := by rw [e22]; exact ⟨rfl, rfl, rfl⟩
  clear b22
  obtain ⟨W23, e23⟩ : ∃ X, X = W22.setCell ⟨R, 23, none⟩ q23 := ⟨_, rfl⟩
  have b24 : W23.heap[R]? = some (.cells #[q0, q1, q2, q3, q4, q5, q6, q7, q8, q9, q10, q11, q12, q13, q14, q15, q16, q17, q18, q19, q20, q21, q22, q23, .string ⟨#[]⟩, .slice none 0 0, .int .i64 0, .int .i64 0, .string ⟨#[]⟩, .int .i64 0] 47 (0, 0)) := by rw [e23]; exact set_blk (i := 23) b23 q23
  have o23 : ∀ k, k ≠ R → W23.heap[k]? = W22.heap[k]? := fun k hk => by rw [e23]; exact set_other (a := ⟨R, 23, none⟩) _ hk
  have s23 : W23.heap.size = W22.heap.size := by rw [e23]; simp [World.setCell]
  have p23 : W23.os = W22.os ∧ W23.tape = W22.tape ∧ W23.output = W22.output := by rw [e23]; exact ⟨rfl, rfl, rfl⟩
  clear b23
  obtain ⟨W24, e24⟩ : ∃ X, X = W23.setCell ⟨R, 24, none⟩ q24 := ⟨_, rfl⟩
  have b25 : W24.heap[R]? = some (.cells #[q0, q1, q2, q3, q4, q5, q6, q7, q8, q9, q10, q11, q12, q13, q14, q15, q16, q17, q18, q19, q20, q21, q22, q23, q24, .slice none 0 0, .int .i64 0, .int .i64 0, .string ⟨#[]⟩, .int .i64 0] 47 (0, 0)) := by rw [e24]; exact set_blk (i := 24) b24 q24
  have o24 : ∀ k, k ≠ R → W24.heap[k]? = W23.heap[k]? := fun k hk => by rw [e24]; exact set_other (a := ⟨R, 24, none⟩) _ hk
  have s24 : W24.heap.size = W23.heap.size := by rw [e24]; simp [World.setCell]
  have p24 : W24.os = W23.os ∧ W24.tape = W23.tape ∧ W24.output = W23.output := by rw [e24]; exact ⟨rfl, rfl, rfl⟩
  clear b24
  obtain ⟨W25, e25⟩ : ∃ X, X = W24.setCell ⟨R, 25, none⟩ q25 := ⟨_, rfl⟩
  have b26 : W25.heap[R]? = some (.cells #[q0, q1, q2, q3, q4, q5, q6, q7, q8, q9, q10, q11, q12, q13, q14, q15, q16, q17, q18, q19, q20, q21, q22, q23, q24, q25, .int .i64 0, .int .i64 0, .string ⟨#[]⟩, .int .i64 0] 47 (0, 0)) := by rw [e25]; exact set_blk (i := 25) b25 q25
  have o25 : ∀ k, k ≠ R → W25.heap[k]? = W24.heap[k]? := fun k hk => by rw [e25]; exact set_other (a := ⟨R, 25, none⟩) _ hk
  have s25 : W25.heap.size = W24.heap.size := by rw [e25]; simp [World.setCell]
  have p25 : W25.os = W24.os ∧ W25.tape = W24.tape ∧ W25.output = W24.output := by rw [e25]; exact ⟨rfl, rfl, rfl⟩
  clear b25
  obtain ⟨W26, e26⟩ : ∃ X, X = W25.setCell ⟨R, 26, none⟩ q26 := ⟨_, rfl⟩
  have b27 : W26.heap[R]? = some (.cells #[q0, q1, q2, q3, q4, q5, q6, q7, q8, q9, q10, q11, q12, q13, q14, q15, q16, q17, q18, q19, q20, q21, q22, q23, q24, q25, q26, .int .i64 0, .string ⟨#[]⟩, .int .i64 0] 47 (0, 0)) := by rw [e26]; exact set_blk (i := 26) b26 q26
  have o26 : ∀ k, k ≠ R → W26.heap[k]? = W25.heap[k]? := fun k hk => by rw [e26]; exact set_other (a := ⟨R, 26, none⟩) _ hk
  have s26 : W26.heap.size = W25.heap.size := by rw [e26]; simp [World.setCell]
  have p26 : W26.os = W25.os ∧ W26.tape = W25.tape ∧ W26.output = W25.output := by rw [e26]; exact ⟨rfl, rfl, rfl⟩
  clear b26
  obtain ⟨W27, e27⟩ : ∃ X, X = W26.setCell ⟨R, 27, none⟩ q27 := ⟨_, rfl⟩
  have b28 : W27.heap[R]? = some (.cells #[q0, q1, q2, q3, q4, q5, q6, q7, q8, q9, q10, q11, q12, q13, q14, q15, q16, q17, q18, q19, q20, q21, q22, q23, q24, q25, q26, q27, .string ⟨#[]⟩, .int .i64 0] 47 (0, 0)) := by rw [e27]; exact set_blk (i := 27) b27 q27
  have o27 : ∀ k, k ≠ R → W27.heap[k]? = W26.heap[k]? := fun k hk => by rw [e27]; exact set_other (a := ⟨R, 27, none⟩) _ hk
  have s27 : W27.heap.size = W26.heap.size := by rw [e27]; simp [World.setCell]
  have p27 : W27.os = W26.os ∧ W27.tape = W26.tape ∧ W27.output = W26.output := by rw [e27]; exact ⟨rfl, rfl, rfl⟩
  clear b27
  obtain ⟨W28, e28⟩ : ∃ X, X = W27.setCell ⟨R, 28, none⟩ q28 := ⟨_, rfl⟩
  have b29 : W28.heap[R]? = some (.cells #[q0, q1, q2, q3, q4, q5, q6, q7, q8, q9, q10, q11, q12, q13, q14, q15, q16, q17, q18, q19, q20, q21, q22, q23, q24, q25, q26, q27, q28, .int .i64 0] 47 (0, 0)) := by rw [e28]; exact set_blk (i := 28) b28 q28
  have o28 : ∀ k, k ≠ R → W28.heap[k]? = W27.heap[k]? := fun k hk => by rw [e28]; exact set_other (a := ⟨R, 28, none⟩) _ hk
  have s28 : W28.heap.size = W27.heap.size := by rw [e28]; simp [World.setCell]
  have p28 : W28.os = W27.os ∧ W28.tape = W27.tape ∧ W28.output = W27.output := by rw [e28]; exact ⟨rfl, rfl, rfl⟩
  clear b28
  obtain ⟨W29, e29⟩ : ∃ X, X = W28.setCell ⟨R, 29, none⟩ q29 := ⟨_, rfl⟩
  have b30 : W29.heap[R]? = some (.cells #[q0, q1, q2, q3, q4, q5, q6, q7, q8, q9, q10, q11, q12, q13, q14, q15, q16, q17, q18, q19, q20, q21, q22, q23, q24, q25, q26, q27, q28, q29] 47 (0, 0)) := by rw [e29]; exact set_blk (i := 29) b29 q29
  have o29 : ∀ k, k ≠ R → W29.heap[k]? = W28.heap[k]? := fun k hk => by rw [e29]; exact set_other (a := ⟨R, 29, none⟩) _ hk
  have s29 : W29.heap.size = W28.heap.size := by rw [e29]; simp [World.setCell]
  have p29 : W29.os = W28.os ∧ W29.tape = W28.tape ∧ W29.output = W28.output := by rw [e29]; exact ⟨rfl, rfl, rfl⟩
  clear b29
  exact ⟨W29, by rw [e29, e28, e27, e26, e25, e24, e23, e22, e21, e20, e19, e18, e17, e16, e15, e14, e13, e12, e11, e10, e9, e8, e7, e6, e5, e4, e3, e2, e1, e0], b30, fun k hk => (o29 k hk).trans ((o28 k hk).trans ((o27 k hk).trans ((o26 k hk).trans ((o25 k hk).trans ((o24 k hk).trans ((o23 k hk).trans ((o22 k hk).trans ((o21 k hk).trans ((o20 k hk).trans ((o19 k hk).trans ((o18 k hk).trans ((o17 k hk).trans ((o16 k hk).trans ((o15 k hk).trans ((o14 k hk).trans ((o13 k hk).trans ((o12 k hk).trans ((o11 k hk).trans ((o10 k hk).trans ((o9 k hk).trans ((o8 k hk).trans ((o7 k hk).trans ((o6 k hk).trans ((o5 k hk).trans ((o4 k hk).trans ((o3 k hk).trans ((o2 k hk).trans ((o1 k hk).trans (o0 k hk))))))))))))))))))))))))))))), (s29).trans ((s28).trans ((s27).trans ((s26).trans ((s25).trans ((s24).trans ((s23).trans ((s22).trans ((s21).trans ((s20).trans ((s19).trans ((s18).trans ((s17).trans ((s16).trans ((s15).trans ((s14).trans ((s13).trans ((s12).trans ((s11).trans ((s10).trans ((s9).trans ((s8).trans ((s7).trans ((s6).trans ((s5).trans ((s4).trans ((s3).trans ((s2).trans ((s1).trans (s0))))))))))))))))))))))))))))), (p29.1).trans ((p28.1).trans ((p27.1).trans ((p26.1).trans ((p25.1).trans ((p24.1).trans ((p23.1).trans ((p22.1).trans ((p21.1).trans ((p20.1).trans ((p19.1).trans ((p18.1).trans ((p17.1).trans ((p16.1).trans ((p15.1).trans ((p14.1).trans ((p13.1).trans ((p12.1).trans ((p11.1).trans ((p10.1).trans ((p9.1).trans ((p8.1).trans ((p7.1).trans ((p6.1).trans ((p5.1).trans ((p4.1).trans ((p3.1).trans ((p2.1).trans ((p1.1).trans (p0.1))))))))))))))))))))))))))))), (p29.2.1).trans ((p28.2.1).trans ((p27.2.1).trans ((p26.2.1).trans ((p25.2.1).trans ((p24.2.1).trans ((p23.2.1).trans ((p22.2.1).trans ((p21.2.1).trans ((p20.2.1).trans ((p19.2.1).trans ((p18.2.1).trans ((p17.2.1).trans ((p16.2.1).trans ((p15.2.1).trans ((p14.2.1).trans ((p13.2.1).trans ((p12.2.1).trans ((p11.2.1).trans ((p10.2.1).trans ((p9.2.1).trans ((p8.2.1).trans ((p7.2.1).trans ((p6.2.1).trans ((p5.2.1).trans ((p4.2.1).trans ((p3.2.1).trans ((p2.2.1).trans ((p1.2.1).trans (p0.2.1))))))))))))))))))))))))))))), (p29.2.2).trans ((p28.2.2).trans ((p27.2.2).trans ((p26.2.2).trans ((p25.2.2).trans ((p24.2.2).trans ((p23.2.2).trans ((p22.2.2).trans ((p21.2.2).trans ((p20.2.2).trans ((p19.2.2).trans ((p18.2.2).trans ((p17.2.2).trans ((p16.2.2).trans ((p15.2.2).trans ((p14.2.2).trans ((p13.2.2).trans ((p12.2.2).trans ((p11.2.2).trans ((p10.2.2).trans ((p9.2.2).trans ((p8.2.2).trans ((p7.2.2).trans ((p6.2.2).trans ((p5.2.2).trans ((p4.2.2).trans ((p3.2.2).trans ((p2.2.2).trans ((p1.2.2).trans (p0.2.2)))))))))))))))))))))))))))))⟩
set_option maxHeartbeats 8000000 in
set_option maxRecDepth 100000 in
theorem put_command (w : World) {x : List At} {vs : List Value} (hx0 : hasS commandT x) (hv0 : valsS w NoS x vs) (hl : (encS x).length ≤ 1000000000) : Calls Try.prog 35 #[.agg vs.toArray, .func (.func 36) #[] #[]] w fun e w' => e = .returned (.string (txt (encS x))) ∧ Below w.heap.size w w' := by
  have hcall := command_any (put_pre (ty := 47) hx0 hv0 hl)
  have HF : Hid (∀ w1, Post ((w.alloc (.cells vs.toArray 47)).alloc (.cells tapeW 132)) w1 (w.heap.size + 1) (fun k => k = w.heap.size + 1) ⟨false, [], [], false⟩ w.heap.size 0 commandT x → Below w.heap.size w w1 ∧ ∃ rv, w1.cell? ⟨w.heap.size + 1, 1, none⟩ = some rv ∧ (convert 130 9 rv).run Try.prog w1 = .ok (.string (txt (encS x))) w1) := fun w1 q => put_post q
  obtain ⟨E, hE⟩ : ∃ E, txt (encS x) = E := ⟨_, rfl⟩
  rw [hE] at HF ⊢
  clear hE hl
  obtain ⟨a0, x0, rfl, k0, hx_0⟩ := hasS_cons hx0
  obtain ⟨n0, rfl, i0⟩ := has_num k0
  obtain ⟨u0, r0, rfl, l0, hv_0⟩ := valsS_cons hv0
  obtain rfl := lies_num l0
  obtain ⟨a1, x1, rfl, k1, hx_1⟩ := hasS_cons hx_0
  obtain ⟨n1, rfl, i1⟩ := has_num k1
  obtain ⟨u1, r1, rfl, l1, hv_1⟩ := valsS_cons hv_0
  obtain rfl := lies_num l1
  obtain ⟨a2, x2, rfl, k2, hx_2⟩ := hasS_cons hx_1
  obtain ⟨n2, rfl, i2⟩ := has_num k2
  obtain ⟨u2, r2, rfl, l2, hv_2⟩ := valsS_cons hv_1
  obtain rfl := lies_num l2
  obtain ⟨a3, x3, rfl, k3, hx_3⟩ := hasS_cons hx_2
  obtain ⟨n3, rfl, i3⟩ := has_num k3
  obtain ⟨u3, r3, rfl, l3, hv_3⟩ := valsS_cons hv_2
  obtain rfl := lies_num l3
  obtain ⟨a4, x4, rfl, k4, hx_4⟩ := hasS_cons hx_3
  obtain ⟨n4, rfl, i4⟩ := has_num k4
  obtain ⟨u4, r4, rfl, l4, hv_4⟩ := valsS_cons hv_3
  obtain rfl := lies_num l4
  obtain ⟨a5, x5, rfl, k5, hx_5⟩ := hasS_cons hx_4
  obtain ⟨n5, rfl, i5⟩ := has_num k5
  obtain ⟨u5, r5, rfl, l5, hv_5⟩ := valsS_cons hv_4
  obtain rfl := lies_num l5
  obtain ⟨a6, x6, rfl, k6, hx_6⟩ := hasS_cons hx_5
  obtain ⟨n6, rfl, i6⟩ := has_num k6
  obtain ⟨u6, r6, rfl, l6, hv_6⟩ := valsS_cons hv_5
  obtain rfl := lies_num l6
  obtain ⟨a7, x7, rfl, k7, hx_7⟩ := hasS_cons hx_6
  obtain ⟨n7, rfl, i7⟩ := has_num k7
  obtain ⟨u7, r7, rfl, l7, hv_7⟩ := valsS_cons hv_6
  obtain rfl := lies_num l7
  obtain ⟨a8, x8, rfl, k8, hx_8⟩ := hasS_cons hx_7
  obtain ⟨n8, rfl, m8, i8⟩ := has_list k8
  obtain ⟨u8, r8, rfl, l8, hv_8⟩ := valsS_cons hv_7
  obtain ⟨ad8, cp8, rfl⟩ := lies_list l8
  obtain ⟨a9, x9, rfl, k9, hx_9⟩ := hasS_cons hx_8
  obtain ⟨n9, rfl, m9, i9⟩ := has_list k9
  obtain ⟨u9, r9, rfl, l9, hv_9⟩ := valsS_cons hv_8
  obtain ⟨ad9, cp9, rfl⟩ := lies_list l9
  obtain ⟨a10, x10, rfl, k10, hx_10⟩ := hasS_cons hx_9
  obtain ⟨n10, rfl, i10⟩ := has_num k10
  obtain ⟨u10, r10, rfl, l10, hv_10⟩ := valsS_cons hv_9
  obtain rfl := lies_num l10
  obtain ⟨a11, x11, rfl, k11, hx_11⟩ := hasS_cons hx_10
  obtain ⟨n11, rfl, i11⟩ := has_num k11
  obtain ⟨u11, r11, rfl, l11, hv_11⟩ := valsS_cons hv_10
  obtain rfl := lies_num l11
  obtain ⟨a12, x12, rfl, k12, hx_12⟩ := hasS_cons hx_11
  obtain ⟨n12, rfl, i12⟩ := has_num k12
  obtain ⟨u12, r12, rfl, l12, hv_12⟩ := valsS_cons hv_11
  obtain rfl := lies_num l12
  obtain ⟨a13, x13, rfl, k13, hx_13⟩ := hasS_cons hx_12
  obtain ⟨n13, rfl, i13⟩ := has_num k13
  obtain ⟨u13, r13, rfl, l13, hv_13⟩ := valsS_cons hv_12
  obtain rfl := lies_num l13
  obtain ⟨a14, x14, rfl, k14, hx_14⟩ := hasS_cons hx_13
  obtain ⟨n14, rfl, i14⟩ := has_num k14
  obtain ⟨u14, r14, rfl, l14, hv_14⟩ := valsS_cons hv_13
  obtain rfl := lies_num l14
  obtain ⟨a15, x15, rfl, k15, hx_15⟩ := hasS_cons hx_14
  obtain ⟨n15, rfl, i15⟩ := has_num k15
  obtain ⟨u15, r15, rfl, l15, hv_15⟩ := valsS_cons hv_14
  obtain rfl := lies_num l15
  obtain ⟨a16, x16, rfl, k16, hx_16⟩ := hasS_cons hx_15
  obtain ⟨n16, rfl, i16⟩ := has_text k16
  obtain ⟨u16, r16, rfl, l16, hv_16⟩ := valsS_cons hv_15
  obtain rfl := lies_text l16
  obtain ⟨a17, x17, rfl, k17, hx_17⟩ := hasS_cons hx_16
  obtain ⟨n17, rfl, i17⟩ := has_text k17
  obtain ⟨u17, r17, rfl, l17, hv_17⟩ := valsS_cons hv_16
  obtain rfl := lies_text l17
  obtain ⟨a18, x18, rfl, k18, hx_18⟩ := hasS_cons hx_17
  obtain ⟨n18, rfl, i18⟩ := has_text k18
  obtain ⟨u18, r18, rfl, l18, hv_18⟩ := valsS_cons hv_17
  obtain rfl := lies_text l18
  obtain ⟨a19, x19, rfl, k19, hx_19⟩ := hasS_cons hx_18
  obtain ⟨n19, rfl, i19⟩ := has_text k19
  obtain ⟨u19, r19, rfl, l19, hv_19⟩ := valsS_cons hv_18
  obtain rfl := lies_text l19
  obtain ⟨a20, x20, rfl, k20, hx_20⟩ := hasS_cons hx_19
  obtain ⟨n20, rfl⟩ := has_yes k20
  obtain ⟨u20, r20, rfl, l20, hv_20⟩ := valsS_cons hv_19
  obtain rfl := lies_yes l20
  obtain ⟨a21, x21, rfl, k21, hx_21⟩ := hasS_cons hx_20
  obtain ⟨n21, rfl, i21⟩ := has_num k21
  obtain ⟨u21, r21, rfl, l21, hv_21⟩ := valsS_cons hv_20
  obtain rfl := lies_num l21
  obtain ⟨a22, x22, rfl, k22, hx_22⟩ := hasS_cons hx_21
  obtain ⟨n22, rfl, i22⟩ := has_num k22
  obtain ⟨u22, r22, rfl, l22, hv_22⟩ := valsS_cons hv_21
  obtain rfl := lies_num l22
  obtain ⟨a23, x23, rfl, k23, hx_23⟩ := hasS_cons hx_22
  obtain ⟨n23, rfl, i23⟩ := has_num k23
  obtain ⟨u23, r23, rfl, l23, hv_23⟩ := valsS_cons hv_22
  obtain rfl := lies_num l23
  obtain ⟨a24, x24, rfl, k24, hx_24⟩ := hasS_cons hx_23
  obtain ⟨n24, rfl, i24⟩ := has_text k24
  obtain ⟨u24, r24, rfl, l24, hv_24⟩ := valsS_cons hv_23
  obtain rfl := lies_text l24
  obtain ⟨a25, x25, rfl, k25, hx_25⟩ := hasS_cons hx_24
  obtain ⟨n25, rfl, m25, i25⟩ := has_list k25
  obtain ⟨u25, r25, rfl, l25, hv_25⟩ := valsS_cons hv_24
  obtain ⟨ad25, cp25, rfl⟩ := lies_list l25
  obtain ⟨a26, x26, rfl, k26, hx_26⟩ := hasS_cons hx_25
  obtain ⟨n26, rfl, i26⟩ := has_num k26
  obtain ⟨u26, r26, rfl, l26, hv_26⟩ := valsS_cons hv_25
  obtain rfl := lies_num l26
  obtain ⟨a27, x27, rfl, k27, hx_27⟩ := hasS_cons hx_26
  obtain ⟨n27, rfl, i27⟩ := has_num k27
  obtain ⟨u27, r27, rfl, l27, hv_27⟩ := valsS_cons hv_26
  obtain rfl := lies_num l27
  obtain ⟨a28, x28, rfl, k28, hx_28⟩ := hasS_cons hx_27
  obtain ⟨n28, rfl, i28⟩ := has_text k28
  obtain ⟨u28, r28, rfl, l28, hv_28⟩ := valsS_cons hv_27
  obtain rfl := lies_text l28
  obtain ⟨a29, x29, rfl, k29, hx_29⟩ := hasS_cons hx_28
  obtain ⟨n29, rfl, i29⟩ := has_num k29
  obtain ⟨u29, r29, rfl, l29, hv_29⟩ := valsS_cons hv_28
  obtain rfl := lies_num l29
  obtain rfl := hasS_end hx_29
  obtain rfl := valsS_end hv_29
  clear k0 hx_0 hv_0 l0 i0 k1 hx_1 hv_1 l1 i1 k2 hx_2 hv_2 l2 i2 k3 hx_3 hv_3 l3 i3 k4 hx_4 hv_4 l4 i4 k5 hx_5 hv_5 l5 i5 k6 hx_6 hv_6 l6 i6 k7 hx_7 hv_7 l7 i7 k8 hx_8 hv_8 l8 i8 m8 k9 hx_9 hv_9 l9 i9 m9 k10 hx_10 hv_10 l10 i10 k11 hx_11 hv_11 l11 i11 k12 hx_12 hv_12 l12 i12 k13 hx_13 hv_13 l13 i13 k14 hx_14 hv_14 l14 i14 k15 hx_15 hv_15 l15 i15 k16 hx_16 hv_16 l16 i16 k17 hx_17 hv_17 l17 i17 k18 hx_18 hv_18 l18 i18 k19 hx_19 hv_19 l19 i19 k20 hx_20 hv_20 l20 k21 hx_21 hv_21 l21 i21 k22 hx_22 hv_22 l22 i22 k23 hx_23 hv_23 l23 i23 k24 hx_24 hv_24 l24 i24 k25 hx_25 hv_25 l25 i25 m25 k26 hx_26 hv_26 l26 i26 k27 hx_27 hv_27 l27 i27 k28 hx_28 hv_28 l28 i28 k29 hx_29 hv_29 l29 i29
  go_enter Try.func35, Try.ntmps35
  go_wp2_with (go_at_call 36; refine hcall.mono ?_; rintro e w1 ⟨rfl, q⟩; refine Hid.out ?_)
  refine Lib.hid ?_
  obtain ⟨hb, rv, c1, hcv⟩ := HF.out w1 q
  have HBB := Lib.hid hb
  clear q hcall HF hb
  go_wp2
  go_ret
  exact ⟨rfl, HBB.out⟩
end Go.Proofs.Ytjhgmncmcklnkaa
