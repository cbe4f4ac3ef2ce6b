/- The walk of upTo. -/
import Derived.Test.YtcmdpahchbbicaaDoorWo
namespace Go.Proofs.YtcmdpahchbbicaaDoor
open Go.RowKit
/-- A reader in block R stands at k of s. -/
abbrev Rd (w : World) (R : Nat) (s : ByteArray) (k : Nat) : Prop := w.heap[R]? = some (.cells #[.string s, .int .i64 k] 40 (0, 0))
theorem cell_on {w X : World} {a : Addr} {u : Value} (h : Below w.heap.size w X) (y : w.cell? a = some u) : X.cell? a = some u := by
  have hlt : a.block < w.heap.size := by
    rcases Nat.lt_or_ge a.block w.heap.size with q | q
    · exact q
    · simp [World.cell?, Array.getElem?_eq_none q] at y
  rw [← y]
  exact h.cell (p := a) hlt
abbrev zW : Array Value := #[.int .i64 0, .int .i64 0, .string ⟨#[]⟩, .int .i64 0]
theorem four {X : World} {Z : Nat} {x y z u : Value} {t : TypeId} (h : X.heap[Z]? = some (.cells #[x, y, z, u] t (0, 0))) : X.cell? ⟨Z, 0, none⟩ = some x ∧ X.cell? ⟨Z, 1, none⟩ = some y ∧ X.cell? ⟨Z, 2, none⟩ = some z ∧ X.cell? ⟨Z, 3, none⟩ = some u ∧ X.frozen? ⟨Z, 0, none⟩ = false ∧ X.frozen? ⟨Z, 1, none⟩ = false ∧ X.frozen? ⟨Z, 2, none⟩ = false ∧ X.frozen? ⟨Z, 3, none⟩ = false :=
  ⟨cell_blk h 0, cell_blk h 1, cell_blk h 2, cell_blk h 3, frozen_blk h 0, frozen_blk h 1, frozen_blk h 2, frozen_blk h 3⟩
theorem set_four {X : World} {Z : Nat} {x y z u x' y' z' u' : Value} {t : TypeId} (h : X.heap[Z]? = some (.cells #[x, y, z, u] t (0, 0))) : ((((X.setCell ⟨Z, 0, none⟩ x').setCell ⟨Z, 1, none⟩ y').setCell ⟨Z, 2, none⟩ z').setCell ⟨Z, 3, none⟩ u').heap[Z]? = some (.cells #[x', y', z', u'] t (0, 0)) := by
  rw [set_blk (set_blk (set_blk (set_blk h x') y') z') u']
  rfl
abbrev wdV (k : Int) (p : Nat) (t : ByteArray) (n : Int) : Value := .agg #[.int .i64 k, .int .i64 p, .string t, .int .i64 n]
set_option maxHeartbeats 4000000 in
set_option maxRecDepth 100000 in
theorem upTo_any {w : World} {R : Nat} {s : ByteArray} {k m : Nat} (kd : Int) (hR : Rd w R s k) (hs : s.size ≤ 1024) (hk : k ≤ m) (hm : m ≤ s.size) :
    Calls Tryd.prog 27 #[.pointer (some ⟨R, 0, none⟩), .int .i64 m, .int .i64 kd] w fun e w' => e = .returned (wdV kd k (s.extract k m) 0) ∧ Rd w' R s m ∧ Fr w w' (fun j => j = R) := by
  obtain ⟨w0, hw0⟩ : ∃ w0, w0 = w.alloc (.cells #[.int .i64 0, .int .i64 0, .string ⟨#[]⟩, .int .i64 0] 31) := ⟨_, rfl⟩
  obtain ⟨A, hA⟩ : ∃ A, w.heap.size = A := ⟨_, rfl⟩
  have hRA : R < A := by rw [← hA]; exact blk_lt hR
  have hb0 : Below w.heap.size w w0 := by rw [hw0]; exact (Below.refl _ w).alloc (Nat.le_refl _) _
  have jR : w0.heap[R]? = some (.cells #[.string s, .int .i64 k] 40 (0, 0)) := (hb0.block R (blk_lt hR)).trans hR
  have jA : w0.heap[A]? = some (.cells #[.int .i64 0, .int .i64 0, .string ⟨#[]⟩, .int .i64 0] 31 (0, 0)) := by rw [hw0, ← hA]; exact heap_alloc_new w _
  have c0 : w0.cell? ⟨R, 0, none⟩ = some (.string s) := cell_blk jR 0
  have c1 : w0.cell? ⟨R, 1, none⟩ = some (.int .i64 k) := cell_blk jR 1
  obtain ⟨T, hT⟩ : ∃ T, s.extract k m = T := ⟨_, rfl⟩
  have hz : T.size ≤ 1024 := by rw [← hT]; simp; omega
  have k1 : (k : Int) ≤ (m : Int) := by omega
  have k2 : (m : Int) ≤ (s.size : Int) := by omega
  have HCA : Hid (Calls Tryd.prog 32 #[.string T] w0.drew fun e w' => e = .returned (.string T) ∧ Below w0.heap.size w0 w') := (clone_any T _ hz).mono fun e w' h => ⟨h.1, h.2.os, h.2.tape, h.2.output, h.2.size, h.2.block⟩
  have HCB : Hid (Calls Tryd.prog 32 #[.string T] (w0.alloc (.cells zW 31)).drew fun e w' => e = .returned (.string T) ∧ Below w0.heap.size w0 w' ∧ w'.heap[w0.heap.size]? = some (.cells zW 31 (0, 0))) := by
    refine (clone_any T _ hz).mono fun e w' h => ?_
    have hb : Below (w0.alloc (.cells zW 31)).heap.size (w0.alloc (.cells zW 31)) w' := ⟨h.2.os, h.2.tape, h.2.output, h.2.size, h.2.block⟩
    refine ⟨h.1, ((Below.refl _ w0).alloc (Nat.le_refl _) _).trans (hb.mono (by simp)), (hb.block _ (by simp)).trans (heap_alloc_new w0 _)⟩
  rw [hT]
  have HW := Lib.hid hw0
  have HA := Lib.hid hA
  have HB := Lib.hid hb0
  have JR := Lib.hid jR
  have JA := Lib.hid jA
  have HT := Lib.hid hT
  clear hw0 hA hb0 jR jA hR
  go_enter Tryd.func27, Tryd.ntmps27
  go_upto_region 1 with fail
  rw [← HW.out, HA.out]
  refine wp_region_lo 17 (fun _ X9 => Below w0.heap.size w0 X9) (fun X9 X' => Below X9.heap.size X9 X') (fun X9 X' => Below X9.heap.size X9 X') [
    fun v9 _ => v9 = .int .i64 kd,
    fun v9 _ => v9 = .pointer (some ⟨R, 0, none⟩),
    fun v9 _ => v9 = .pointer (some ⟨R, 0, none⟩),
    fun v9 _ => v9 = .pointer (some ⟨R, 1, none⟩),
    fun v9 _ => v9 = .int .i64 k,
    fun v9 _ => v9 = .pointer (some ⟨R, 0, none⟩),
    fun v9 _ => v9 = .pointer (some ⟨R, 0, none⟩),
    fun v9 _ => v9 = .pointer (some ⟨R, 0, none⟩),
    fun v9 _ => v9 = .string s,
    fun v9 _ => v9 = .pointer (some ⟨R, 0, none⟩),
    fun v9 _ => v9 = .pointer (some ⟨R, 0, none⟩),
    fun v9 _ => v9 = .pointer (some ⟨R, 1, none⟩),
    fun v9 _ => v9 = .int .i64 k,
    fun v9 _ => v9 = .int .i64 m,
    fun v9 _ => v9 = .string T,
    fun v9 _ => v9 = .string T,
    fun v9 _ => v9 = .agg #[.int .i64 kd, .int .i64 k, .string T, .int .i64 0],
    fun v9 X9 => ∃ Z, v9 = .pointer (some ⟨Z, 0, none⟩) ∧ w0.heap.size ≤ Z ∧ X9.heap[Z]? = some (.cells zW 31 (0, 0))]
    (fun ρ9 _ X9 => ∃ Z, ρ9 (.tmp 7) = .pointer (some ⟨Z, 0, none⟩) ∧ w0.heap.size ≤ Z ∧ X9.heap[Z]? = some (.cells #[.int .i64 kd, .int .i64 k, .string T, .int .i64 0] 31 (0, 0)) ∧ Below w0.heap.size w0 X9) rfl (by kernel_rfl) (by kernel_rfl) (by kernel_rfl) (by kernel_rfl) ?st ?sm ?g0 (by decide) ?os ?la ?en
  case st => exact ⟨fun _ _ _ _ h => h, fun _ _ _ _ h => h, fun _ _ _ _ h => h, fun _ _ _ _ h => h, fun _ _ _ _ h => h, fun _ _ _ _ h => h, fun _ _ _ _ h => h, fun _ _ _ _ h => h, fun _ _ _ _ h => h, fun _ _ _ _ h => h, fun _ _ _ _ h => h, fun _ _ _ _ h => h, fun _ _ _ _ h => h, fun _ _ _ _ h => h, fun _ _ _ _ h => h, fun _ _ _ _ h => h, fun _ _ _ _ h => h, (fun v X X' hS h => by obtain ⟨Z, h1, h2, h3⟩ := h; exact ⟨Z, h1, h2, (hS.block Z (blk_lt h3)).trans h3⟩), trivial⟩
  case sm => exact ⟨fun _ _ _ _ h => h, fun _ _ _ _ h => h, fun _ _ _ _ h => h, fun _ _ _ _ h => h, fun _ _ _ _ h => h, fun _ _ _ _ h => h, fun _ _ _ _ h => h, fun _ _ _ _ h => h, fun _ _ _ _ h => h, fun _ _ _ _ h => h, fun _ _ _ _ h => h, fun _ _ _ _ h => h, fun _ _ _ _ h => h, fun _ _ _ _ h => h, fun _ _ _ _ h => h, fun _ _ _ _ h => h, fun _ _ _ _ h => h, fun _ _ _ _ h => h, trivial⟩
  case g0 => exact ⟨rfl, rfl, rfl, Nat.le_refl _, fun _ _ => rfl⟩
  case os =>
    refine ⟨?_, ?_, ?_, ?_, ?_, ?_, ?_, ?_, ?_, ?_, ?_, ?_, ?_, ?_, ?_, ?_, ?_, ?_, trivial⟩
    · exact ⟨rfl, fun _ ρ X9 d hg ho hc hf hr => Runs.val _ (op_move (show ρ (.tmp 2) = .int .i64 kd from ho 2 rfl)) ⟨hg, Below.refl _ _, rfl⟩, fun e => absurd e (by decide)⟩
    · exact ⟨rfl, fun _ ρ X9 d hg ho hc hf hr => Runs.val _ (op_move (show ρ (.tmp 0) = .pointer (some ⟨R, 0, none⟩) from ho 0 rfl)) ⟨hg, Below.refl _ _, rfl⟩, fun e => absurd e (by decide)⟩
    · exact ⟨rfl, fun _ ρ X9 d hg ho hc hf hr => Runs.val _ (op_nil (show ρ (.tmp 9) = .pointer (some ⟨R, 0, none⟩) from hr 1 9 rfl rfl)) ⟨hg, Below.refl _ _, rfl⟩, fun e => absurd e (by decide)⟩
    · exact ⟨rfl, fun _ ρ X9 d hg ho hc hf hr => Runs.val _ (op_f40_1 (show ρ (.tmp 10) = .pointer (some ⟨R, 0, none⟩) from hr 2 10 rfl rfl)) ⟨hg, Below.refl _ _, rfl⟩, fun e => absurd e (by decide)⟩
    · exact ⟨rfl, fun _ ρ X9 d hg ho hc hf hr => Runs.val _ (op_load3 (show ρ (.tmp 11) = .pointer (some ⟨R, 1, none⟩) from hr 3 11 rfl rfl) (cell_on hg c1)) ⟨hg, Below.refl _ _, rfl⟩, fun e => absurd e (by decide)⟩
    · exact ⟨rfl, fun _ ρ X9 d hg ho hc hf hr => Runs.val _ (op_move (show ρ (.tmp 0) = .pointer (some ⟨R, 0, none⟩) from ho 0 rfl)) ⟨hg, Below.refl _ _, rfl⟩, fun e => absurd e (by decide)⟩
    · exact ⟨rfl, fun _ ρ X9 d hg ho hc hf hr => Runs.val _ (op_nil (show ρ (.tmp 13) = .pointer (some ⟨R, 0, none⟩) from hr 5 13 rfl rfl)) ⟨hg, Below.refl _ _, rfl⟩, fun e => absurd e (by decide)⟩
    · exact ⟨rfl, fun _ ρ X9 d hg ho hc hf hr => Runs.val _ (op_f40_0 (show ρ (.tmp 14) = .pointer (some ⟨R, 0, none⟩) from hr 6 14 rfl rfl)) ⟨hg, Below.refl _ _, rfl⟩, fun e => absurd e (by decide)⟩
    · exact ⟨rfl, fun _ ρ X9 d hg ho hc hf hr => Runs.val _ (op_load9 (show ρ (.tmp 15) = .pointer (some ⟨R, 0, none⟩) from hr 7 15 rfl rfl) (cell_on hg c0)) ⟨hg, Below.refl _ _, rfl⟩, fun e => absurd e (by decide)⟩
    · exact ⟨rfl, fun _ ρ X9 d hg ho hc hf hr => Runs.val _ (op_move (show ρ (.tmp 0) = .pointer (some ⟨R, 0, none⟩) from ho 0 rfl)) ⟨hg, Below.refl _ _, rfl⟩, fun e => absurd e (by decide)⟩
    · exact ⟨rfl, fun _ ρ X9 d hg ho hc hf hr => Runs.val _ (op_nil (show ρ (.tmp 17) = .pointer (some ⟨R, 0, none⟩) from hr 9 17 rfl rfl)) ⟨hg, Below.refl _ _, rfl⟩, fun e => absurd e (by decide)⟩
    · exact ⟨rfl, fun _ ρ X9 d hg ho hc hf hr => Runs.val _ (op_f40_1 (show ρ (.tmp 18) = .pointer (some ⟨R, 0, none⟩) from hr 10 18 rfl rfl)) ⟨hg, Below.refl _ _, rfl⟩, fun e => absurd e (by decide)⟩
    · exact ⟨rfl, fun _ ρ X9 d hg ho hc hf hr => Runs.val _ (op_load3 (show ρ (.tmp 19) = .pointer (some ⟨R, 1, none⟩) from hr 11 19 rfl rfl) (cell_on hg c1)) ⟨hg, Below.refl _ _, rfl⟩, fun e => absurd e (by decide)⟩
    · exact ⟨rfl, fun _ ρ X9 d hg ho hc hf hr => Runs.val _ (op_move (show ρ (.tmp 1) = .int .i64 m from ho 1 rfl)) ⟨hg, Below.refl _ _, rfl⟩, fun e => absurd e (by decide)⟩
    · exact ⟨rfl, fun _ ρ X9 d hg ho hc hf hr => Runs.val _ ((by rw [← HT.out]; exact op_slice9 (show ρ (.tmp 16) = .string s from hr 8 16 rfl rfl) (show ρ (.tmp 20) = .int .i64 k from hr 12 20 rfl rfl) (show ρ (.tmp 21) = .int .i64 m from hr 13 21 rfl rfl) hk hm)) ⟨hg, Below.refl _ _, rfl⟩, fun e => absurd e (by decide)⟩
    · refine ⟨rfl, fun _ ρ X9 d hg ho hc hf hr => Runs.goes 32 #[.string T] (op_call1 hf (by go_simp) (show ρ (.tmp 22) = .string T from hr 14 22 rfl rfl)) ((clone_any T X9 hz).mono ?_), fun e => absurd e (by decide)⟩
      rintro e7 w7 ⟨rfl, b7⟩
      exact ⟨_, rfl, hg.trans (b7.mono hg.size), b7, rfl⟩
    · exact ⟨rfl, fun _ ρ X9 d hg ho hc hf hr => Runs.val _ (op_b31 (show ρ (.tmp 8) = .int .i64 kd from hr 0 8 rfl rfl) (show ρ (.tmp 12) = .int .i64 k from hr 4 12 rfl rfl) (show ρ (.tmp 23) = .string T from hr 15 23 rfl rfl)) ⟨hg, Below.refl _ _, rfl⟩, fun e => absurd e (by decide)⟩
    · refine ⟨rfl, fun e => absurd rfl e, fun _ ρ X9 hg ho hc hf hr => Runs.val _ op_alloc31 ⟨hg.alloc hg.size _, (Below.refl _ X9).alloc (Nat.le_refl _) _, ⟨X9.heap.size, rfl, hg.size, heap_alloc_new X9 _⟩⟩⟩
  case la =>
    refine ⟨rfl, fun ρ X9 hg ho hc hf hr => ?_⟩
    obtain ⟨Z, e7, hZ, jZ⟩ := hr 17 7 (by decide) rfl
    have e24 : ρ (.tmp 24) = .agg #[.int .i64 kd, .int .i64 k, .string T, .int .i64 0] := hr 16 24 (by decide) rfl
    obtain ⟨X', hX, j', f'⟩ := sets_row jZ #[.int .i64 kd, .int .i64 k, .string T, .int .i64 0] rfl
    have hst := store_row (ty := 31) (us := #[.int .i64 kd, .int .i64 k, .string T, .int .i64 0]) jZ rfl (by kernel_rfl) (by simp [Value.oneCell'])
    rw [← hX] at hst
    exact Runs.skips (op_storeAt e7 e24 hst) ⟨Z, e7, hZ, j', hg.trans (f'.toBelow (fun q hq e => by omega) hg.size)⟩
  case en =>
    intro a ρ9 X9 wb v9 hF ha hs hd ho hv hr
    obtain ⟨Z, e7, hZ, jZ, hbZ⟩ := hF
    obtain ⟨x, hx, hxt⟩ := act_put hs hd ho
    have x7 : x 7 = .pointer (some ⟨Z, 0, none⟩) := (hxt 7).symm.trans ((ha 7 (by decide)).trans e7)
    change a = putAll _ x [8, 9, 10, 11, 12, 13, 14, 15, 16, 17, 18, 19, 20, 21, 22, 23, 24, 7] at hx
    simp only [putAll, Act.put, List.setIfInBounds_toArray, List.set_cons_zero, List.set_cons_succ, x7] at hx
    have JZ := Lib.hid jZ
    have HBZ := Lib.hid hbZ
    clear hs hd ho hr hxt x7 ha hv e7 jZ hbZ
    subst hx
    generalize x 8 = z8, x 9 = z9, x 10 = z10, x 11 = z11, x 12 = z12, x 13 = z13, x 14 = z14, x 15 = z15, x 16 = z16, x 17 = z17, x 18 = z18, x 19 = z19, x 20 = z20, x 21 = z21, x 22 = z22, x 23 = z23, x 24 = z24
    have hjR := (HBZ.out.block R (blk_lt JR.out)).trans JR.out
    have hjA := (HBZ.out.block A (blk_lt JA.out)).trans JA.out
    have cA := cell_blk hjR 1
    have fA := frozen_blk hjR 1
    obtain ⟨W2, hW2⟩ : ∃ W2, W2 = X9.setCell ⟨R, 1, none⟩ (.int .i64 m) := ⟨_, rfl⟩
    have jR2 : W2.heap[R]? = some (.cells #[.string s, .int .i64 m] 40 (0, 0)) := by rw [hW2]; exact set_blk hjR _
    have jZ2 : W2.heap[Z]? = some (.cells #[.int .i64 kd, .int .i64 k, .string T, .int .i64 0] 31 (0, 0)) := by rw [hW2, set_other (a := ⟨R, 1, none⟩) _ (tag_ne JZ.out hjR (by decide))]; exact JZ.out
    have jA2 : W2.heap[A]? = some (.cells zW 31 (0, 0)) := by rw [hW2, set_other (a := ⟨R, 1, none⟩) _ (tag_ne hjA hjR (by decide))]; exact hjA
    have f2 : Fr w W2 (fun j => j = R) := by rw [hW2]; exact Fr.set (S := fun j => j = R) (a := ⟨R, 1, none⟩) (Fr.ofBelow _ (HB.out.trans (HBZ.out.mono HB.out.size))) (.inl rfl) _
    have hld := load_row (ty := 31) jZ2 Tryd.underlying31 rfl (by kernel_rfl)
    obtain ⟨W3, hW3, jA3, fr3⟩ := sets_row jA2 #[.int .i64 kd, .int .i64 k, .string T, .int .i64 0] rfl
    have hst := store_row (ty := 31) (us := #[.int .i64 kd, .int .i64 k, .string T, .int .i64 0]) jA2 rfl (by kernel_rfl) (by simp [Value.oneCell'])
    rw [← hW3] at hst
    have jR3 : W3.heap[R]? = some (.cells #[.string s, .int .i64 m] 40 (0, 0)) := by rw [fr3.block R (blk_lt jR2) (by omega)]; exact jR2
    have f3 : Fr w W3 (fun j => j = R) := f2.step fr3 (fun j hj => .inr (by have := HA.out; omega))
    have hlv := load_var (ty := 31) jA3 Tryd.underlying31 rfl (by kernel_rfl)
    have HLV := Lib.hid hlv
    have JR3 := Lib.hid jR3
    have F3 := Lib.hid f3
    have HW2 := Lib.hid hW2
    clear hW2 hW3 jA3 fr3 jR2 jZ2 jA2 f2 hlv jR3 f3 hjA hjR
    go_upto_region 3 with fail
    rw [← HW2.out]
    go_wp2_with (first | refine wpl_load _ rfl rfl hld ?_ | refine wpl_store _ _ rfl rfl rfl hst ?_)
    exact bodyPost_ret (v := wdV kd k T 0) (results_one rfl rfl HLV.out) rfl ⟨rfl, JR3.out, F3.out⟩
end Go.Proofs.YtcmdpahchbbicaaDoor
