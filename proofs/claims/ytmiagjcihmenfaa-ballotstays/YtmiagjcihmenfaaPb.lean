/- The program's ballot in memory. -/
import Derived.Test.YtmiagjcihmenfaaPa
namespace Go.Proofs.Ytmiagjcihmenfaa
open Go.RowKit

/-- The ballot's cells. -/
def pC (b : Bs) (lv : Value) (pf : Int) : Array Value := #[.int .i64 b.term, .int .i64 b.vote, .int .i64 b.role, .int .i64 b.lead, .int .i64 b.base, .int .i64 b.last, .int .i64 b.commit, .int .i64 b.id, .int .i64 b.size, .int .i64 b.baseTerm, .string b.snap, lv,
  .bool b.touched, .bool b.whole, .int .i64 pf,
  .bool (b.has.getD 0 false), .bool (b.has.getD 1 false), .bool (b.has.getD 2 false), .bool (b.has.getD 3 false), .bool (b.has.getD 4 false),
  .int .i64 (b.next.getD 0 0), .int .i64 (b.mat.getD 0 0), .int .i64 (b.next.getD 1 0), .int .i64 (b.mat.getD 1 0), .int .i64 (b.next.getD 2 0), .int .i64 (b.mat.getD 2 0), .int .i64 (b.next.getD 3 0), .int .i64 (b.mat.getD 3 0), .int .i64 (b.next.getD 4 0), .int .i64 (b.mat.getD 4 0)]
/-- Where the log was changed: as the program keeps it. -/
def Fm (b : Bs) (pf : Int) : Prop := b.whole = true ∨ (pf = 0 ∧ b.fr = b.last + 1) ∨ (0 < pf ∧ pf = b.fr)
/-- The program's ballot b lies at A; S are the blocks that it writes. -/
structure Pv (w : World) (A : Nat) (S : Nat → Prop) (b : Bs) (lv : Value) (pf : Int) : Prop where
  ob : w.heap[A]? = some (.cells (pC b lv pf) 78 (0, 0))
  log : Lg w b.log lv
  covA : S A
  cov : ∀ k, lgB lv = some k → S k
  lt : ∀ k, S k → k < w.heap.size
  len : b.log.length ≤ 900000
  b0 : 0 ≤ b.base
  b1 : b.base ≤ 4398046511104
  fm : Fm b pf
  idl : b.id < b.size
  sz : b.size ≤ 5
def Pb (w : World) (A : Nat) (S : Nat → Prop) (b : Bs) : Prop := ∃ lv pf, Pv w A S b lv pf
section
variable {w w' : World} {A : Nat} {S T : Nat → Prop} {b : Bs} {lv : Value} {pf : Int}
theorem Pv.cell (h : Pv w A S b lv pf) (i : Nat) : w.cell? ⟨A, i, none⟩ = (pC b lv pf)[i]? := cell_blk h.ob i
theorem Pv.neA (h : Pv w A S b lv pf) : ∀ k, lgB lv = some k → k ≠ A := by
  intro k hk
  obtain ⟨cur, hc⟩ := h.log.tag k hk
  exact (tag_ne h.ob hc (by decide)).symm
theorem Pv.stays (h : Pv w A S b lv pf) (k : Fr w w' T) (hd : ∀ b, S b → ¬ T b) : Pv w' A S b lv pf :=
  ⟨(k.block A (h.lt A h.covA) (hd A h.covA)).trans h.ob, h.log.like (fun j hj => k.block j (h.lt j (h.cov j hj)) (hd j (h.cov j hj))), h.covA, h.cov, fun b hb => Nat.lt_of_lt_of_le (h.lt b hb) k.size, h.len, h.b0, h.b1, h.fm, h.idl, h.sz⟩
theorem Pv.on (h : Pv w A S b lv pf) (hb : Below w.heap.size w w') : Pv w' A S b lv pf := h.stays (Fr.ofBelow (fun _ => False) hb) (fun _ _ q => q)
theorem Pv.alloc (h : Pv w A S b lv pf) (o : Obj) : Pv (w.alloc o) A S b lv pf := h.on ((Below.refl _ w).alloc (Nat.le_refl _) _)
theorem Pb.stays (h : Pb w A S b) (k : Fr w w' T) (hd : ∀ b, S b → ¬ T b) : Pb w' A S b := by
  obtain ⟨lv, pf, h⟩ := h
  exact ⟨lv, pf, h.stays k hd⟩
theorem Pb.on (h : Pb w A S b) (hb : Below w.heap.size w w') : Pb w' A S b := h.stays (Fr.ofBelow (fun _ => False) hb) (fun _ _ q => q)
theorem Pb.drewN (h : Pb w A S b) (k : Nat) : Pb (w.drewN k) A S b := h.on (below_draw (Below.refl _ _) k)
theorem Pb.lt (h : Pb w A S b) : ∀ k, S k → k < w.heap.size := by
  obtain ⟨_, _, h⟩ := h
  exact h.lt
theorem Pb.len (h : Pb w A S b) : b.log.length ≤ 900000 ∧ 0 ≤ b.base ∧ b.base ≤ 4398046511104 := by
  obtain ⟨_, _, h⟩ := h
  exact ⟨h.len, h.b0, h.b1⟩
theorem Pv.nextc (h : Pv w A S b lv pf) {k : Nat} (hk : k < 5) : w.cell? ⟨A, 20 + k * 2, none⟩ = some (.int .i64 (b.next.getD k 0)) := by
  rw [h.cell]
  have : k = 0 ∨ k = 1 ∨ k = 2 ∨ k = 3 ∨ k = 4 := by omega
  rcases this with rfl | rfl | rfl | rfl | rfl <;> rfl
theorem Pv.matc (h : Pv w A S b lv pf) {k : Nat} (hk : k < 5) : w.cell? ⟨A, 20 + k * 2 + 1, none⟩ = some (.int .i64 (b.mat.getD k 0)) := by
  rw [h.cell]
  have : k = 0 ∨ k = 1 ∨ k = 2 ∨ k = 3 ∨ k = 4 := by omega
  rcases this with rfl | rfl | rfl | rfl | rfl <;> rfl
theorem Pv.hasc (h : Pv w A S b lv pf) {k : Nat} (hk : k < 5) : w.cell? ⟨A, 15 + k, none⟩ = some (.bool (b.has.getD k false)) := by
  rw [h.cell]
  have : k = 0 ∨ k = 1 ∨ k = 2 ∨ k = 3 ∨ k = 4 := by omega
  rcases this with rfl | rfl | rfl | rfl | rfl <;> rfl
/-- A field is written anew. -/
theorem Pb.setf (h : Pb w A S b) {i : Nat} {v : Value} {b' : Bs} (hs : ∀ lv pf, (pC b lv pf).setIfInBounds i v = pC b' lv pf) (hl : b'.log = b.log) (hb : b'.base = b.base) (hw : ∀ pf, Fm b pf → Fm b' pf) (hi : b'.id = b.id) (hz : b'.size = b.size) : Pb (w.setCell ⟨A, i, none⟩ v) A S b' ∧ Fr w (w.setCell ⟨A, i, none⟩ v) S := by
  obtain ⟨lv, pf, h⟩ := h
  have hf : Fr w (w.setCell ⟨A, i, none⟩ v) S := Fr.set (a := ⟨A, i, none⟩) (Fr.refl w S) (Or.inl h.covA) _
  refine ⟨⟨lv, pf, ⟨?_, ?_, h.covA, h.cov, fun k hk => Nat.lt_of_lt_of_le (h.lt k hk) hf.size, by rw [hl]; exact h.len, by rw [hb]; exact h.b0, by rw [hb]; exact h.b1, hw pf h.fm, by rw [hi, hz]; exact h.idl, by rw [hz]; exact h.sz⟩⟩, hf⟩
  · rw [set_blk h.ob, hs]
  · rw [hl]
    exact h.log.like (fun k hk => set_other _ (h.neA k hk))

/-! ### Small ones -/
theorem within_any (w : World) (n a z : Int) : Calls Try.prog 27 #[.int .i64 n, .int .i64 a, .int .i64 z] w fun e w' => e = .returned (.bool (decide (a ≤ n) && decide (n ≤ z))) ∧ w' = w := by
  by_cases h1 : a ≤ n
  · by_cases h2 : n ≤ z
    · go_enter Try.func27, Try.ntmps27
      go_wp2
      go_ret
      exact ⟨by simp [h1, h2], rfl⟩
    · go_enter Try.func27, Try.ntmps27
      go_wp2
      go_ret
      exact ⟨by simp; omega, rfl⟩
  · go_enter Try.func27, Try.ntmps27
    go_wp2
    go_ret
    exact ⟨by simp; intro; omega, rfl⟩
theorem isNode_any (h : Pb w A S b) (n : Int) : Calls Try.prog 68 #[.pointer (some ⟨A, 0, none⟩), .int .i64 n] w fun e w' => e = .returned (.bool (decide (0 ≤ n) && decide (n ≤ b.size - 1))) ∧ w' = w := by
  obtain ⟨lv, pf, h⟩ := h
  have c8 : w.cell? ⟨A, 8, none⟩ = some (.int .i64 b.size) := h.cell 8
  have hsz := h.sz
  have hw := within_any w n 0 (b.size - 1)
  clear h
  go_enter Try.func68, Try.ntmps68
  go_wp2_with fail
  refine hw.mono ?_
  rintro e w' ⟨rfl, rfl⟩
  go_wp2
  go_ret
  exact ⟨rfl, rfl⟩
abbrev stV (b : Bs) : Value := .agg #[.int .i64 b.term, .int .i64 b.vote, .int .i64 b.role, .int .i64 b.lead, .int .i64 b.base, .int .i64 b.last, .int .i64 b.commit]
theorem stand_any (h : Pb w A S b) : Calls Try.prog 22 #[.pointer (some ⟨A, 0, none⟩)] w fun e w' => e = .returned (stV b) ∧ Below w.heap.size w w' := by
  obtain ⟨lv, pf, h⟩ := h
  have h1 := h.alloc (.cells #[.int .i64 0, .int .i64 0, .int .i64 0, .int .i64 0, .int .i64 0, .int .i64 0, .int .i64 0] 57)
  have c0 : (w.alloc (.cells #[.int .i64 0, .int .i64 0, .int .i64 0, .int .i64 0, .int .i64 0, .int .i64 0, .int .i64 0] 57)).cell? ⟨A, 0, none⟩ = some (.int .i64 b.term) := h1.cell 0
  have c1 : (w.alloc (.cells #[.int .i64 0, .int .i64 0, .int .i64 0, .int .i64 0, .int .i64 0, .int .i64 0, .int .i64 0] 57)).cell? ⟨A, 1, none⟩ = some (.int .i64 b.vote) := h1.cell 1
  have c2 : (w.alloc (.cells #[.int .i64 0, .int .i64 0, .int .i64 0, .int .i64 0, .int .i64 0, .int .i64 0, .int .i64 0] 57)).cell? ⟨A, 2, none⟩ = some (.int .i64 b.role) := h1.cell 2
  have c3 : (w.alloc (.cells #[.int .i64 0, .int .i64 0, .int .i64 0, .int .i64 0, .int .i64 0, .int .i64 0, .int .i64 0] 57)).cell? ⟨A, 3, none⟩ = some (.int .i64 b.lead) := h1.cell 3
  have c4 : (w.alloc (.cells #[.int .i64 0, .int .i64 0, .int .i64 0, .int .i64 0, .int .i64 0, .int .i64 0, .int .i64 0] 57)).cell? ⟨A, 4, none⟩ = some (.int .i64 b.base) := h1.cell 4
  have c5 : (w.alloc (.cells #[.int .i64 0, .int .i64 0, .int .i64 0, .int .i64 0, .int .i64 0, .int .i64 0, .int .i64 0] 57)).cell? ⟨A, 5, none⟩ = some (.int .i64 b.last) := h1.cell 5
  have c6 : (w.alloc (.cells #[.int .i64 0, .int .i64 0, .int .i64 0, .int .i64 0, .int .i64 0, .int .i64 0, .int .i64 0] 57)).cell? ⟨A, 6, none⟩ = some (.int .i64 b.commit) := h1.cell 6
  clear h h1
  go_enter Try.func22, Try.ntmps22
  go_wp2
  exact bodyPost_ret (v := stV b) (by simp [results, Try.results22, go_sem]) rfl ⟨rfl, (Below.refl _ _).alloc (Nat.le_refl _) _⟩
theorem snap_any (h : Pb w A S b) : Calls Try.prog 23 #[.pointer (some ⟨A, 0, none⟩)] w fun e w' => e = .returned (.string b.snap) ∧ w' = w := by
  obtain ⟨lv, pf, h⟩ := h
  have c10 : w.cell? ⟨A, 10, none⟩ = some (.string b.snap) := h.cell 10
  clear h
  go_enter Try.func23, Try.ntmps23
  go_wp2
  go_ret
  exact ⟨rfl, rfl⟩
theorem message_any (h : Pb w A S b) (kind to : Int) : Calls Try.prog 71 #[.pointer (some ⟨A, 0, none⟩), .int .i64 kind, .int .i64 to] w fun e w' => e = .returned (msV { ms0 with kind := kind, fr := b.id, to := to, term := b.term } (.slice none 0 0)) ∧ Below w.heap.size w w' := by
  obtain ⟨lv, pf, h⟩ := h
  have h1 := h.alloc (msO ms0 (.slice none 0 0))
  have c0 : (w.alloc (.cells #[.int .i64 0, .int .i64 0, .int .i64 0, .int .i64 0, .int .i64 0, .int .i64 0, .int .i64 0, .bool false, .slice none 0 0, .string ⟨#[]⟩] 34)).cell? ⟨A, 0, none⟩ = some (.int .i64 b.term) := h1.cell 0
  have c7 : (w.alloc (.cells #[.int .i64 0, .int .i64 0, .int .i64 0, .int .i64 0, .int .i64 0, .int .i64 0, .int .i64 0, .bool false, .slice none 0 0, .string ⟨#[]⟩] 34)).cell? ⟨A, 7, none⟩ = some (.int .i64 b.id) := h1.cell 7
  clear h h1
  go_enter Try.func71, Try.ntmps71
  go_wp2
  go_region
  go_wp2
  exact bodyPost_ret (v := msV { ms0 with kind := kind, fr := b.id, to := to, term := b.term } (.slice none 0 0)) (by simp [results, Try.results71, go_sem]) rfl ⟨rfl, ((Below.refl _ _).alloc (Nat.le_refl _) _).drew⟩
end
end Go.Proofs.Ytmiagjcihmenfaa
