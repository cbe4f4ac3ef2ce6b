/- The deal's small writers; a command of a deal. -/
import Derived.Test.YtfokgalgdlajlaaCa
namespace Go.Proofs.Ytfokgalgdlajlaa
open Go.RowKit
/-- A command's box, at its start. -/
abbrev zC : Array Value := #[.int .i64 0, .int .i64 0, .int .i64 0, .int .i64 0, .int .i64 0, .int .i64 0, .int .i64 0, .int .i64 0, .slice none 0 0, .slice none 0 0, .int .i64 0, .int .i64 0, .int .i64 0, .int .i64 0, .int .i64 0, .int .i64 0, .string ⟨#[]⟩, .string ⟨#[]⟩, .string ⟨#[]⟩, .string ⟨#[]⟩, .bool false, .int .i64 0, .int .i64 0, .int .i64 0, .string ⟨#[]⟩, .slice none 0 0, .int .i64 0, .int .i64 0, .string ⟨#[]⟩, .int .i64 0]
theorem below_put {B : Nat} {w X V : World} {Y : Nat} (hb : Below B w X) (hB : B ≤ w.heap.size) (hf : Fr X V (fun k => k = Y)) (hY : B ≤ Y) : Below B w V :=
  hb.trans (hf.toBelow (fun k hk q => by have q' : k = Y := q; omega) (Nat.le_trans hB hb.size))
section
variable {w : World} {A : Nat} {d : Dl} {pa wa : Option Addr} {pc wc : Nat}
theorem Dx.cell (h : Dx w A d pa pc wa wc) (i : Nat) : w.cell? ⟨A, i, none⟩ = (dlA d pa pc wa wc)[i]? := cell_blk h.blk i
/-- Some cells of a deal's block are set. -/
theorem Dx.put {w' : World} {d' : Dl} {wa' : Option Addr} {wc' : Nat} (h : Dx w A d pa pc wa wc) (hb : w'.heap[A]? = some (.cells (dlA d' pa pc wa' wc') 82 (0, 0))) (hf : Fr w w' (fun k => k = A)) (hp : d'.parts = d.parts) (hw : Reads (fun k => k = A) w fun V => Lr (fun _ x cs => cs = gpL x) 3 V d'.wait (.slice wa' d'.wait.length wc')) : Dx w' A d' pa pc wa' wc' :=
  ⟨hb, by rw [hp]; exact h.ps.fr hf (fun _ _ q => q) (fun _ _ q => q), hw.fr hf (fun _ _ q => q) (fun _ _ q => q)⟩
set_option maxHeartbeats 1000000 in
set_option maxRecDepth 100000 in
theorem enter_any (h : Dx w A d pa pc wa wc) (p : Int) : Calls Try.prog 21 #[.pointer (some ⟨A, 0, none⟩), .int .i64 p] w fun e w' => e = .returned (.tuple #[]) ∧ Dx w' A (d.enter p) pa pc pa pc ∧ Fr w w' (fun k => k = A) := by
  have l8 : w.cell? ⟨A, 8, none⟩ = some (.slice pa d.parts.length pc) := h.cell 8
  have c9 : w.cell? ⟨A, 9, none⟩ = some (.int .i64 d.phase) := h.cell 9
  have z9 : w.frozen? ⟨A, 9, none⟩ = false := frozen_blk h.blk _
  obtain ⟨W1, hW1⟩ : ∃ W1, W1 = w.setCell ⟨A, 9, none⟩ (.int .i64 p) := ⟨_, rfl⟩
  have hst1 : (Instr.storeAt 3 (.pointer (some ⟨A, 9, none⟩)) (.int .i64 p)).run Try.prog w = .ok () W1 := by rw [hW1]; go_simp
  have b1 : W1.heap[A]? = some (.cells (dlA { d with phase := p } pa pc wa wc) 82 (0, 0)) := by rw [hW1]; exact set_blk h.blk _
  have f1 : Fr w W1 (fun k => k = A) := by rw [hW1]; exact (Fr.refl w (fun k => k = A)).set (a := ⟨A, 9, none⟩) (.inl rfl) _
  clear hW1
  have c10 : W1.cell? ⟨A, 10, none⟩ = some (.slice wa d.wait.length wc) := cell_blk b1 10
  have z10 : W1.frozen? ⟨A, 10, none⟩ = false := frozen_blk b1 _
  obtain ⟨W2, hW2⟩ : ∃ W2, W2 = W1.setCell ⟨A, 10, none⟩ (.slice pa d.parts.length pc) := ⟨_, rfl⟩
  have hst2 : (Instr.storeAt 79 (.pointer (some ⟨A, 10, none⟩)) (.slice pa d.parts.length pc)).run Try.prog W1 = .ok () W2 := by rw [hW2]; go_simp
  have b2 : W2.heap[A]? = some (.cells (dlA (d.enter p) pa pc pa pc) 82 (0, 0)) := by rw [hW2]; exact set_blk b1 _
  have f2 : Fr w W2 (fun k => k = A) := by rw [hW2]; exact f1.set (a := ⟨A, 10, none⟩) (.inl rfl) _
  have HD := Lib.hid (And.intro (h.put b2 f2 rfl h.ps) f2)
  have HS1 := Lib.hid hst1
  have HS2 := Lib.hid hst2
  clear h c9 z9 hst1 b1 f1 c10 z10 hW2 hst2 b2 f2
  go_enter Try.func21, Try.ntmps21
  go_wp2_with (first | (refine wpl_store _ _ rfl (by simp [Act.eval]) (by simp [Act.eval]) HS1.out ?_) | (refine wpl_store _ _ rfl (by simp [Act.eval]) (by simp [Act.eval]) HS2.out ?_))
  refine bodyPost_end (results_none rfl _ _ _) rfl ?_
  exact ⟨rfl, HD.out⟩
set_option maxHeartbeats 1000000 in
set_option maxRecDepth 100000 in
theorem end_any (h : Dx w A d pa pc wa wc) (ts why : Int) : Calls Try.prog 35 #[.pointer (some ⟨A, 0, none⟩), .int .i64 ts, .int .i64 why] w fun e w' => e = .returned (.tuple #[]) ∧ Dx w' A (d.fin ts why) pa pc pa pc ∧ Fr w w' (fun k => k = A) := by
  have c9 : w.cell? ⟨A, 12, none⟩ = some (.int .i64 d.ts) := h.cell 12
  have z9 : w.frozen? ⟨A, 12, none⟩ = false := frozen_blk h.blk _
  obtain ⟨W1, hW1⟩ : ∃ W1, W1 = w.setCell ⟨A, 12, none⟩ (.int .i64 ts) := ⟨_, rfl⟩
  have hst1 : (Instr.storeAt 3 (.pointer (some ⟨A, 12, none⟩)) (.int .i64 ts)).run Try.prog w = .ok () W1 := by rw [hW1]; go_simp
  have b1 : W1.heap[A]? = some (.cells (dlA { d with ts := ts } pa pc wa wc) 82 (0, 0)) := by rw [hW1]; exact set_blk h.blk _
  have f1 : Fr w W1 (fun k => k = A) := by rw [hW1]; exact (Fr.refl w (fun k => k = A)).set (a := ⟨A, 12, none⟩) (.inl rfl) _
  clear hW1
  have c10 : W1.cell? ⟨A, 13, none⟩ = some (.int .i64 d.why) := cell_blk b1 13
  have z10 : W1.frozen? ⟨A, 13, none⟩ = false := frozen_blk b1 _
  obtain ⟨W2, hW2⟩ : ∃ W2, W2 = W1.setCell ⟨A, 13, none⟩ (.int .i64 why) := ⟨_, rfl⟩
  have hst2 : (Instr.storeAt 31 (.pointer (some ⟨A, 13, none⟩)) (.int .i64 why)).run Try.prog W1 = .ok () W2 := by rw [hW2]; go_simp
  have b2 : W2.heap[A]? = some (.cells (dlA { d with ts := ts, why := why } pa pc wa wc) 82 (0, 0)) := by rw [hW2]; exact set_blk b1 _
  have f2 : Fr w W2 (fun k => k = A) := by rw [hW2]; exact f1.set (a := ⟨A, 13, none⟩) (.inl rfl) _
  have hd2 : Dx W2 A { d with ts := ts, why := why } pa pc wa wc := h.put b2 f2 rfl h.ws
  have hc := enter_any hd2 3
  have HF := Lib.hid f2
  have HC := Lib.hid hc
  have HS1 := Lib.hid hst1
  have HS2 := Lib.hid hst2
  clear h c9 z9 hst1 b1 f1 c10 z10 hW2 hst2 b2 f2 hd2 hc
  go_enter Try.func35, Try.ntmps35
  go_wp2_with (first | (refine wpl_store _ _ rfl (by simp [Act.eval]) (by simp [Act.eval]) HS1.out ?_) | (refine wpl_store _ _ rfl (by simp [Act.eval]) (by simp [Act.eval]) HS2.out ?_) | fail)
  refine HC.out.mono ?_
  rintro e w1 ⟨rfl, hd1, f1⟩
  have HD := Lib.hid (And.intro hd1 (HF.out.trans f1))
  clear hd1 f1
  go_wp2
  refine bodyPost_end (results_none rfl _ _ _) rfl ?_
  exact ⟨rfl, HD.out⟩
theorem op_b76 {ρ : Operand → Value} {X : World} {ds : Option Tmp} {ty : TypeId} {ps : String} {af : Array Edge} {g : Option (Nat × Bool)} {x y z : Operand} {k : Int} (e0 : ρ x = .int .i64 k) (e1 : ρ y = .agg #[.int .i64 d.t0, .int .i64 d.t1, .int .i64 d.t2]) (e2 : ρ z = .int .i64 d.home) : (execOp ρ ⟨ds, .build 76 #[(0, x), (2, y), (3, z)], ty, ps, af, g⟩).run Try.prog X = .ok (.value (.agg (cmA (d.cmd 0 k)))) X := by
  simp only [execOp]
  simp [e0, e1, e2]
  go_simp
  exact ⟨rfl, rfl, rfl, rfl, rfl, ⟨rfl, rfl, rfl⟩, ⟨rfl, rfl, rfl⟩, rfl, rfl, rfl, rfl, rfl⟩
set_option maxHeartbeats 2000000 in
set_option maxRecDepth 100000 in
theorem command_any (h : Dx w A d pa pc wa wc) (k : Int) : Calls Try.prog 73 #[.pointer (some ⟨A, 0, none⟩), .int .i64 k] w fun e w' => e = .returned (.agg (cmA (d.cmd 0 k))) ∧ Below w.heap.size w w' := by
  obtain ⟨W, hW⟩ : ∃ W, W = w.alloc (.cells zC 76) := ⟨_, rfl⟩
  obtain ⟨Y, hY⟩ : ∃ Y, w.heap.size = Y := ⟨_, rfl⟩
  have hb : Below w.heap.size w W := by rw [hW]; exact bnew w _
  have jY : W.heap[Y]? = some (.cells zC 76 (0, 0)) := by rw [hW, ← hY]; exact heap_alloc_new w _
  have t3 : ∀ j u, [Value.int .i64 d.t0, .int .i64 d.t1, .int .i64 d.t2][j]? = some u → (dlA d pa pc wa wc)[0 + j]? = some u := fun j u hu => by
    rw [Nat.zero_add]
    match j, hu with
    | 0, hu => exact hu
    | 1, hu => exact hu
    | 2, hu => exact hu
    | m + 3, hu => cases hu
  have T3 := Lib.hid t3
  have HD := Lib.hid h
  have HW := Lib.hid hW
  have HY := Lib.hid (And.intro hY (Nat.le_of_eq hY))
  have HB := Lib.hid hb
  have HJ := Lib.hid jY
  clear h hW hY hb jY t3
  go_enter Try.func73, Try.ntmps73
  go_upto_region 1 with fail
  rw [← HW.out, HY.out.1]
  refine wp_region_fb (fun fl X9 => Below w.heap.size w X9 ∧ X9.heap[Y]? = some (.cells (cond (fl 10) (cmA (d.cmd 0 k)) zC) 76 (0, 0))) (fun _ _ => True) [
    fun v9 _ => v9 = .int .i64 k,
    fun v9 _ => v9 = .pointer (some ⟨A, 0, none⟩),
    fun v9 _ => v9 = .pointer (some ⟨A, 0, none⟩),
    fun v9 _ => v9 = .pointer (some ⟨A, 0, none⟩),
    fun v9 _ => v9 = .agg #[.int .i64 d.t0, .int .i64 d.t1, .int .i64 d.t2],
    fun v9 _ => v9 = .pointer (some ⟨A, 0, none⟩),
    fun v9 _ => v9 = .pointer (some ⟨A, 0, none⟩),
    fun v9 _ => v9 = .pointer (some ⟨A, 6, none⟩),
    fun v9 _ => v9 = .int .i64 d.home,
    fun v9 _ => v9 = .agg (cmA (d.cmd 0 k)),
    fun _ _ => True]
    (by kernel_rfl) (by kernel_rfl) (by kernel_rfl) ?st ?g0 ?os ?en
  case st => exact ⟨fun _ _ _ _ h => h, fun _ _ _ _ h => h, fun _ _ _ _ h => h, fun _ _ _ _ h => h, fun _ _ _ _ h => h, fun _ _ _ _ h => h, fun _ _ _ _ h => h, fun _ _ _ _ h => h, fun _ _ _ _ h => h, fun _ _ _ _ h => h, fun _ _ _ _ h => h, trivial⟩
  case g0 => exact ⟨⟨HB.out.os, HB.out.tape, HB.out.output, HB.out.size, HB.out.block⟩, HJ.out⟩
  case os =>
    refine ⟨?_, ?_, ?_, ?_, ?_, ?_, ?_, ?_, ?_, ?_, ?_, trivial⟩
    · exact fun ρ X9 fl hg hn hl hp ho hc hf hr => .inl ⟨rfl, Runs.val _ (op_move (show ρ (.tmp 1) = .int .i64 k from ho 1 rfl)) ⟨hg, trivial, rfl⟩⟩
    · exact fun ρ X9 fl hg hn hl hp ho hc hf hr => .inl ⟨rfl, Runs.val _ (op_move (show ρ (.tmp 0) = .pointer (some ⟨A, 0, none⟩) from ho 0 rfl)) ⟨hg, trivial, rfl⟩⟩
    · exact fun ρ X9 fl hg hn hl hp ho hc hf hr => .inl ⟨rfl, Runs.val _ (op_nil (show ρ (.tmp 6) = .pointer (some ⟨A, 0, none⟩) from hr 1 6 rfl rfl)) ⟨hg, trivial, rfl⟩⟩
    · exact fun ρ X9 fl hg hn hl hp ho hc hf hr => .inl ⟨rfl, Runs.val _ (op_f82_0 (show ρ (.tmp 7) = .pointer (some ⟨A, 0, none⟩) from hr 2 7 rfl rfl)) ⟨hg, trivial, rfl⟩⟩
    · exact fun ρ X9 fl hg hn hl hp ho hc hf hr => .inl ⟨rfl, Runs.val _ (op_loadAt (show ρ (.tmp 8) = .pointer (some ⟨A, 0, none⟩) from hr 3 8 rfl rfl) (run_loadAt_mid X9 A 0 37 [.int .i64 d.t0, .int .i64 d.t1, .int .i64 d.t2] _ (fun j u hu => by have h9 := cell_on hg.1 ((HD.out.cell (0 + j)).trans (T3.out j u hu)); exact h9) Try.underlying37 rfl size37)) ⟨hg, trivial, rfl⟩⟩
    · exact fun ρ X9 fl hg hn hl hp ho hc hf hr => .inl ⟨rfl, Runs.val _ (op_move (show ρ (.tmp 0) = .pointer (some ⟨A, 0, none⟩) from ho 0 rfl)) ⟨hg, trivial, rfl⟩⟩
    · exact fun ρ X9 fl hg hn hl hp ho hc hf hr => .inl ⟨rfl, Runs.val _ (op_nil (show ρ (.tmp 10) = .pointer (some ⟨A, 0, none⟩) from hr 5 10 rfl rfl)) ⟨hg, trivial, rfl⟩⟩
    · exact fun ρ X9 fl hg hn hl hp ho hc hf hr => .inl ⟨rfl, Runs.val _ (op_f82_4 (show ρ (.tmp 11) = .pointer (some ⟨A, 0, none⟩) from hr 6 11 rfl rfl)) ⟨hg, trivial, rfl⟩⟩
    · exact fun ρ X9 fl hg hn hl hp ho hc hf hr => .inl ⟨rfl, Runs.val _ (op_load3 (show ρ (.tmp 12) = .pointer (some ⟨A, 6, none⟩) from hr 7 12 rfl rfl) (cell_on hg.1 (HD.out.cell 6))) ⟨hg, trivial, rfl⟩⟩
    · exact fun ρ X9 fl hg hn hl hp ho hc hf hr => .inl ⟨rfl, Runs.val _ (op_b76 (show ρ (.tmp 5) = .int .i64 k from hr 0 5 rfl rfl) (show ρ (.tmp 9) = .agg #[.int .i64 d.t0, .int .i64 d.t1, .int .i64 d.t2] from hr 4 9 rfl rfl) (show ρ (.tmp 13) = .int .i64 d.home from hr 8 13 rfl rfl)) ⟨hg, trivial, rfl⟩⟩
    · intro ρ X9 fl hg hn hl hp ho hc hf hr
      have hY : X9.heap[Y]? = some (.cells zC 76 (0, 0)) := by
        have h9 := hg.2
        rw [show fl 10 = false from hn] at h9
        exact h9
      obtain ⟨V2, e2, k2, f2⟩ := st_row hY (us := cmA (d.cmd 0 k)) rfl size76 (by simp [Value.oneCell'])
      exact .inl ⟨rfl, Runs.skips (op_storeAt (show ρ (.tmp 4) = .pointer (some ⟨Y, 0, none⟩) from ho 4 rfl) (show ρ (.tmp 14) = .agg (cmA (d.cmd 0 k)) from hr 9 14 rfl rfl) e2) ⟨⟨below_put hg.1 (Nat.le_refl _) f2 HY.out.2, k2⟩, trivial, trivial⟩⟩
  case en =>
    intro a9 w6 fl hfl hG9 hs9 hd9 ho9 hr9
    obtain ⟨x9, hx, hxt⟩ := act_put hs9 hd9 ho9
    change a9 = putAll _ x9 [5, 6, 7, 8, 9, 10, 11, 12, 13, 14] at hx
    simp only [putAll, Act.put, List.setIfInBounds_toArray, List.set_cons_zero, List.set_cons_succ] at hx
    subst hx
    clear hs9 hd9 ho9 hr9 hxt 
    generalize x9 5 = z5, x9 6 = z6, x9 7 = z7, x9 8 = z8, x9 9 = z9, x9 10 = z10, x9 11 = z11, x9 12 = z12, x9 13 = z13, x9 14 = z14
    have hG : Below w.heap.size w w6 ∧ w6.heap[Y]? = some (.cells (cmA (d.cmd 0 k)) 76 (0, 0)) := by
      have h9 := hG9
      rw [hfl 10 (by decide)] at h9
      exact h9
    have HE := Lib.hid hG
    clear hfl hG9 hG
    go_wp2
    refine bodyPost_ret (results_one rfl rfl (load_var HE.out.2 Try.underlying76 rfl size76)) rfl ?_
    exact ⟨rfl, HE.out.1⟩
end
end Go.Proofs.Ytfokgalgdlajlaa
