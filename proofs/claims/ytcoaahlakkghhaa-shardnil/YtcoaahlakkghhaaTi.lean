/- A shard that is none: what is told of it; the document's text of a state without anything. -/
import Derived.Test.YtcoaahlakkghhaaTh
namespace Go.Proofs.Ytcoaahlakkghhaa
open Go.RowKit
theorem infoByte : (Try.prog.info? 5).map (fun i => (i.zero, i.size, i.bytes)) = some (some (.int .u8 0), 1, 1) := by kernel_rfl
section
variable {ρ : Operand → Value} {X : World} {d : Option Tmp} {ty : TypeId} {ps : String} {af : Array Edge} {g : Option (Nat × Bool)}
theorem op_add9' {x y : Operand} {s t u : ByteArray} (e : ρ x = .string s) (e2 : ρ y = .string t) (h : (binOp BinOp.add 9 (.string s) (.string t)).run Try.prog X = .ok (.string u) X) : (execOp ρ ⟨d, .binOp .add 9 x y 9, ty, ps, af, g⟩).run Try.prog X = .ok (.value (.string u)) X := by
  simp only [execOp, e, e2]
  simp [eqGuard, h]
theorem op_f63_0 {x : Operand} {B o : Nat} (e : ρ x = .pointer (some ⟨B, o, none⟩)) : (execOp ρ ⟨d, .fieldAddr 63 x 0, ty, ps, af, g⟩).run Try.prog X = .ok (.value (.pointer (some ⟨B, o, none⟩))) X := by
  simp only [execOp, e]
  go_simp
theorem op_f63_1 {x : Operand} {B o : Nat} (e : ρ x = .pointer (some ⟨B, o, none⟩)) : (execOp ρ ⟨d, .fieldAddr 63 x 1, ty, ps, af, g⟩).run Try.prog X = .ok (.value (.pointer (some ⟨B, o + 1, none⟩))) X := by
  simp only [execOp, e]
  go_simp
theorem op_f63_2 {x : Operand} {B o : Nat} (e : ρ x = .pointer (some ⟨B, o, none⟩)) : (execOp ρ ⟨d, .fieldAddr 63 x 2, ty, ps, af, g⟩).run Try.prog X = .ok (.value (.pointer (some ⟨B, o + 2, none⟩))) X := by
  simp only [execOp, e]
  go_simp
theorem op_f63_3 {x : Operand} {B o : Nat} (e : ρ x = .pointer (some ⟨B, o, none⟩)) : (execOp ρ ⟨d, .fieldAddr 63 x 3, ty, ps, af, g⟩).run Try.prog X = .ok (.value (.pointer (some ⟨B, o + 3, none⟩))) X := by
  simp only [execOp, e]
  go_simp
theorem op_f63_4 {x : Operand} {B o : Nat} (e : ρ x = .pointer (some ⟨B, o, none⟩)) : (execOp ρ ⟨d, .fieldAddr 63 x 4, ty, ps, af, g⟩).run Try.prog X = .ok (.value (.pointer (some ⟨B, o + 4, none⟩))) X := by
  simp only [execOp, e]
  go_simp
theorem op_load31' {x : Operand} {B i : Nat} {a : Option Addr} {n m : Nat} (e : ρ x = .pointer (some ⟨B, i, none⟩)) (y : X.cell? ⟨B, i, none⟩ = some (.slice a n m)) : (execOp ρ ⟨d, .load 31 x, ty, ps, af, g⟩).run Try.prog X = .ok (.value (.slice a n m)) X := by
  simp only [execOp, e]
  go_simp
theorem op_lenR {x : Operand} {a : Option Addr} {n m : Nat} (e : ρ x = .slice a n m) : (execOp ρ ⟨d, .call { callee := .builtin .len, args := #[x], argTypes := #[32] }, 3, ps, af, g⟩).run Try.prog X = .ok (.value (.int .i64 (n : Int))) X := by
  simp only [execOp]
  simp [resolve, invoke, builtin, e]
  go_simp
theorem call39 {v : Value} : Sem.run Try.prog (callFunc 39 #[v]) X = .ok (.enter 39 #[v]) X := by go_simp
theorem call40 {v : Value} : Sem.run Try.prog (callFunc 40 #[v]) X = .ok (.enter 40 #[v]) X := by go_simp
theorem call41 {v : Value} : Sem.run Try.prog (callFunc 41 #[v]) X = .ok (.enter 41 #[v]) X := by go_simp
end
set_option maxHeartbeats 2000000 in
set_option maxRecDepth 100000 in
theorem num0 (w : World) : Calls Try.prog 41 #[.int .i64 0] w fun e w' => e = .returned (.string ⟨#[0]⟩) ∧ Below w.heap.size w w' := by
  obtain ⟨i0, hi, hz0, hz1, hz2⟩ := info_parts infoByte
  have hb : Below w.heap.size w (w.alloc (.cells #[.int .u8 0] 5)) := Below.alloc (Below.refl _ _) (Nat.le_refl _) _
  have hrow : (w.alloc (.cells #[.int .u8 0] 5)).ownsRow w.heap.size 5 1 (.slice none 0 0) 0 [] := World.ownsRow_nil _ _ _ _
  obtain ⟨v', w', hr, ho', hg, _, _⟩ := run_append_own_at (P := Try.prog) (w := w.alloc (.cells #[.int .u8 0] 5)) w.heap.size 139 139 5 i0 _ 1 1 Try.underlying139 hi hz0 hz1 hz2 rfl (by decide) _ _ _ hrow ⟨w.heap.size, 0, none⟩ 1 1 [.int .u8 0] rfl (fun j u hu => by
    rw [add_at, Nat.zero_add, cell_blk (heap_alloc_new w _) j]
    simpa using hu) (by intro u hu; simp at hu; subst hu; rfl) (by unfold maxLen; omega) (by omega) hb.size
  have hb2 := hb.grown hg hb.size (fun k hk => by cases hk)
  have hcv : (convert 139 9 v').run Try.prog w' = .ok (.string ⟨#[0]⟩) w' := by
    rcases ho'.2 with ⟨rfl, h0⟩ | ⟨g, cap, cur, rfl, _⟩
    · cases h0
    · exact run_convert_bytes_back (P := Try.prog) w' 139 9 5 ⟨g, 0, none⟩ cap [0] Try.underlying139 Try.underlying5 Try.underlying9 (fun j hj => ho'.cells (g := g) rfl j _ (by
        have h0 : j = 0 := by have : j < 1 := hj; omega
        subst h0
        rfl))
  obtain ⟨ad', cap', rfl⟩ := own_shape ho'
  have HB := Lib.hid hb2
  clear hb hrow ho' hg hb2 hz0 hz1 hz2 hi
  go_enter Try.func41, Try.ntmps41
  go_wp2
  go_loopw [3, 4] (fun zv ov wr => zv = .int .u64 0 ∧ ov = .slice none 0 0 ∧ wr = w) (fun _ _ _ => 0)
  case atStart => exact ⟨rfl, rfl, rfl⟩
  case round =>
    obtain ⟨rfl, rfl, rfl⟩ := hrel
    go_wp2_with (at_builtin; refine wpl_run2 _ _ rfl (by simp [Act.eval]) (by simp [Act.eval]) hr ?_)
    go_ret
    exact ⟨rfl, HB.out⟩
set_option maxHeartbeats 2000000 in
set_option maxRecDepth 100000 in
theorem rows0 (w : World) : Calls Try.prog 39 #[.slice none 0 0] w fun e w' => e = .returned (.string ⟨#[0]⟩) ∧ Below w.heap.size w w' := by
  have hn := num0 w
  go_enter Try.func39, Try.ntmps39
  go_wp2_with fail
  refine hn.mono ?_
  rintro e w1 ⟨rfl, b1⟩
  have HB := Lib.hid b1
  clear hn b1
  go_wp2
  go_loopw [3, 4] (fun sv iv wr => sv = .string ⟨#[0]⟩ ∧ iv = .int .i64 0 ∧ wr = w1) (fun _ _ _ => 0)
  case atStart => exact ⟨rfl, rfl, rfl⟩
  case round =>
    obtain ⟨rfl, rfl, rfl⟩ := hrel
    go_wp2
    go_ret
    exact ⟨rfl, HB.out⟩
set_option maxHeartbeats 2000000 in
set_option maxRecDepth 100000 in
theorem locks0 (w : World) : Calls Try.prog 40 #[.slice none 0 0] w fun e w' => e = .returned (.string ⟨#[0]⟩) ∧ Below w.heap.size w w' := by
  have hn := num0 w
  go_enter Try.func40, Try.ntmps40
  go_wp2_with fail
  refine hn.mono ?_
  rintro e w1 ⟨rfl, b1⟩
  have HB := Lib.hid b1
  clear hn b1
  go_wp2
  go_loopw [3, 4] (fun sv iv wr => sv = .string ⟨#[0]⟩ ∧ iv = .int .i64 0 ∧ wr = w1) (fun _ _ _ => 0)
  case atStart => exact ⟨rfl, rfl, rfl⟩
  case round =>
    obtain ⟨rfl, rfl, rfl⟩ := hrel
    go_wp2
    go_ret
    exact ⟨rfl, HB.out⟩
theorem locksN (w : World) : Calls Try.prog 21 #[.pointer none] w fun e w' => e = .returned (.slice none 0 0) ∧ Below w.heap.size w w' := by
  go_enter Try.func21, Try.ntmps21
  go_wp2
  go_ret
  exact ⟨rfl, Below.refl _ _⟩
theorem size63 : (Try.prog.info? 63).map (·.size) = some 5 := by kernel_rfl
theorem saveN (w : World) : Calls Try.prog 15 #[.pointer none] w fun e w' => e = .returned (.agg #[.slice none 0 0, .slice none 0 0, .slice none 0 0, .slice none 0 0, .int .i64 0]) ∧ Below w.heap.size w w' := by
  obtain ⟨W, hW⟩ : ∃ W, W = w.alloc (.cells #[.slice none 0 0, .slice none 0 0, .slice none 0 0, .slice none 0 0, .int .i64 0] 63) := ⟨_, rfl⟩
  have hb : Below w.heap.size w W := by rw [hW]; exact (Below.refl _ w).alloc (Nat.le_refl _) _
  obtain ⟨Y, hY⟩ : ∃ Y, w.heap.size = Y := ⟨_, rfl⟩
  have jY : W.heap[Y]? = some (.cells #[.slice none 0 0, .slice none 0 0, .slice none 0 0, .slice none 0 0, .int .i64 0] 63 (0, 0)) := by rw [hW, ← hY]; exact heap_alloc_new w _
  obtain ⟨X, hXe, jX, fX⟩ := sets_row jY #[.slice none 0 0, .slice none 0 0, .slice none 0 0, .slice none 0 0, .int .i64 0] rfl
  have hst : (Instr.storeAt 63 (.pointer (some ⟨Y, 0, none⟩)) (.agg #[.slice none 0 0, .slice none 0 0, .slice none 0 0, .slice none 0 0, .int .i64 0])).run Try.prog W = .ok () X := by
    rw [hXe]
    exact store_row jY rfl size63 (by simp [Value.oneCell'])
  have HB : Hid (Below w.heap.size w X) := Lib.hid ⟨fX.os.trans hb.os, fX.tape.trans hb.tape, fX.output.trans hb.output, Nat.le_trans hb.size fX.size, fun k hk => (fX.block k (Nat.lt_of_lt_of_le hk hb.size) (fun e => by have e' : k = Y := e; omega)).trans (hb.block k hk)⟩
  have HJ := Lib.hid jX
  have HW := Lib.hid hW
  have HY := Lib.hid hY
  clear hW hY hb jY hXe jX fX
  go_enter Try.func15, Try.ntmps15
  go_upto_region 1 with fail
  rw [← HW.out, HY.out]
  go_wp2_with (refine wpl_store _ _ rfl (by simp [Act.eval]) (by simp [Act.eval]) hst ?_)
  refine bodyPost_ret (results_one Try.results15 rfl (load_var HJ.out Try.underlying63 rfl size63)) rfl ?_
  exact ⟨rfl, HB.out⟩
set_option maxHeartbeats 2000000 in
set_option maxRecDepth 100000 in
theorem range0 (w : World) : Calls Try.prog 16 #[.agg #[.slice none 0 0, .slice none 0 0, .slice none 0 0, .slice none 0 0, .int .i64 0]] w fun e w' => e = .returned (.string ⟨#[0, 0, 0, 0, 0]⟩) ∧ Below w.heap.size w w' := by
  obtain ⟨W, hW⟩ : ∃ W, W = w.alloc (.cells #[.slice none 0 0, .slice none 0 0, .slice none 0 0, .slice none 0 0, .int .i64 0] 63) := ⟨_, rfl⟩
  have hb : Below w.heap.size w W := by rw [hW]; exact (Below.refl _ w).alloc (Nat.le_refl _) _
  obtain ⟨Y, hY⟩ : ∃ Y, w.heap.size = Y := ⟨_, rfl⟩
  have jY : W.heap[Y]? = some (.cells #[.slice none 0 0, .slice none 0 0, .slice none 0 0, .slice none 0 0, .int .i64 0] 63 (0, 0)) := by rw [hW, ← hY]; exact heap_alloc_new w _
  have b0 : W.cell? ⟨Y, 0, none⟩ = some (.slice none 0 0) := cell_blk jY 0
  have b1 : W.cell? ⟨Y, 1, none⟩ = some (.slice none 0 0) := cell_blk jY 1
  have b2 : W.cell? ⟨Y, 2, none⟩ = some (.slice none 0 0) := cell_blk jY 2
  have HJ := Lib.hid jY
  have HB := Lib.hid hb
  have HW := Lib.hid hW
  have HY := Lib.hid hY
  have q1 : ∀ X, (binOp BinOp.add 9 (.string ⟨#[0]⟩) (.string ⟨#[0]⟩)).run Try.prog X = .ok (.string ⟨#[0, 0]⟩) X := fun _ => by kernel_rfl
  have q2 : ∀ X, (binOp BinOp.add 9 (.string ⟨#[0, 0]⟩) (.string ⟨#[0]⟩)).run Try.prog X = .ok (.string ⟨#[0, 0, 0]⟩) X := fun _ => by kernel_rfl
  have q3 : ∀ X, (binOp BinOp.add 9 (.string ⟨#[0, 0, 0]⟩) (.string ⟨#[0]⟩)).run Try.prog X = .ok (.string ⟨#[0, 0, 0, 0]⟩) X := fun _ => by kernel_rfl
  have q4 : ∀ X, (binOp BinOp.add 9 (.string ⟨#[0, 0, 0, 0]⟩) (.string ⟨#[0]⟩)).run Try.prog X = .ok (.string ⟨#[0, 0, 0, 0, 0]⟩) X := fun _ => by kernel_rfl
  clear hW hY hb jY
  go_enter Try.func16, Try.ntmps16
  go_upto_region 1 with fail
  rw [← HW.out, HY.out]
  refine wp_region_fb (fun _ X9 => Below W.heap.size W X9) (fun X9 X' => Below X9.heap.size X9 X') [
    fun v9 _ => v9 = .pointer (some ⟨Y, 0, none⟩),
    fun v9 _ => v9 = .slice none 0 0,
    fun v9 _ => v9 = .string ⟨#[0]⟩,
    fun v9 _ => v9 = .pointer (some ⟨Y, 1, none⟩),
    fun v9 _ => v9 = .slice none 0 0,
    fun v9 _ => v9 = .string ⟨#[0]⟩,
    fun v9 _ => v9 = .string ⟨#[0, 0]⟩,
    fun v9 _ => v9 = .pointer (some ⟨Y, 2, none⟩),
    fun v9 _ => v9 = .slice none 0 0,
    fun v9 _ => v9 = .int .i64 0,
    fun v9 _ => v9 = .string ⟨#[0]⟩,
    fun v9 _ => v9 = .string ⟨#[0, 0, 0]⟩,
    fun v9 _ => v9 = .string ⟨#[0, 0, 0]⟩]
    (by kernel_rfl) (by kernel_rfl) (by kernel_rfl) ?st ?g0 ?os ?en
  case st => exact ⟨fun _ _ _ _ h => h, fun _ _ _ _ h => h, fun _ _ _ _ h => h, fun _ _ _ _ h => h, fun _ _ _ _ h => h, fun _ _ _ _ h => h, fun _ _ _ _ h => h, fun _ _ _ _ h => h, fun _ _ _ _ h => h, fun _ _ _ _ h => h, fun _ _ _ _ h => h, fun _ _ _ _ h => h, fun _ _ _ _ h => h, trivial⟩
  case g0 => exact ⟨rfl, rfl, rfl, Nat.le_refl _, fun _ _ => rfl⟩
  case os =>
    refine ⟨?_, ?_, ?_, ?_, ?_, ?_, ?_, ?_, ?_, ?_, ?_, ?_, ?_, trivial⟩
    · exact fun ρ X9 fl hg hn hl hp ho hc hf hr => .inl ⟨rfl, Runs.val _ (op_f63_0 (show ρ (.tmp 1) = .pointer (some ⟨Y, 0, none⟩) from ho 1 rfl)) ⟨hg, Below.refl _ _, rfl⟩⟩
    · exact fun ρ X9 fl hg hn hl hp ho hc hf hr => .inl ⟨rfl, Runs.val _ (op_load61 (show ρ (.tmp 6) = .pointer (some ⟨Y, 0, none⟩) from hr 0 6 rfl rfl) (cell_on hg b0)) ⟨hg, Below.refl _ _, rfl⟩⟩
    · refine fun ρ X9 fl hg hn hl hp ho hc hf hr => .inl ⟨rfl, ?_⟩
      refine Runs.goes 39 #[.slice none 0 0] (op_call1 hf call39 (show ρ (.tmp 7) = .slice none 0 0 from hr 1 7 rfl rfl)) ((rows0 X9).mono ?_)
      rintro e7 w7 ⟨rfl, b7⟩
      exact ⟨_, rfl, hg.trans (b7.mono hg.size), b7, rfl⟩
    · exact fun ρ X9 fl hg hn hl hp ho hc hf hr => .inl ⟨rfl, Runs.val _ (op_f63_1 (show ρ (.tmp 1) = .pointer (some ⟨Y, 0, none⟩) from ho 1 rfl)) ⟨hg, Below.refl _ _, rfl⟩⟩
    · exact fun ρ X9 fl hg hn hl hp ho hc hf hr => .inl ⟨rfl, Runs.val _ (op_load31' (show ρ (.tmp 9) = .pointer (some ⟨Y, 1, none⟩) from hr 3 9 rfl rfl) (cell_on hg b1)) ⟨hg, Below.refl _ _, rfl⟩⟩
    · refine fun ρ X9 fl hg hn hl hp ho hc hf hr => .inl ⟨rfl, ?_⟩
      refine Runs.goes 40 #[.slice none 0 0] (op_call1 hf call40 (show ρ (.tmp 10) = .slice none 0 0 from hr 4 10 rfl rfl)) ((locks0 X9).mono ?_)
      rintro e7 w7 ⟨rfl, b7⟩
      exact ⟨_, rfl, hg.trans (b7.mono hg.size), b7, rfl⟩
    · exact fun ρ X9 fl hg hn hl hp ho hc hf hr => .inl ⟨rfl, Runs.val _ (op_add9' (show ρ (.tmp 8) = .string ⟨#[0]⟩ from hr 2 8 rfl rfl) (show ρ (.tmp 11) = .string ⟨#[0]⟩ from hr 5 11 rfl rfl) (q1 X9)) ⟨hg, Below.refl _ _, rfl⟩⟩
    · exact fun ρ X9 fl hg hn hl hp ho hc hf hr => .inl ⟨rfl, Runs.val _ (op_f63_2 (show ρ (.tmp 1) = .pointer (some ⟨Y, 0, none⟩) from ho 1 rfl)) ⟨hg, Below.refl _ _, rfl⟩⟩
    · exact fun ρ X9 fl hg hn hl hp ho hc hf hr => .inl ⟨rfl, Runs.val _ (op_load32 (show ρ (.tmp 13) = .pointer (some ⟨Y, 2, none⟩) from hr 7 13 rfl rfl) (cell_on hg b2)) ⟨hg, Below.refl _ _, rfl⟩⟩
    · exact fun ρ X9 fl hg hn hl hp ho hc hf hr => .inl ⟨rfl, Runs.val _ (op_lenR (show ρ (.tmp 14) = .slice none 0 0 from hr 8 14 rfl rfl)) ⟨hg, Below.refl _ _, rfl⟩⟩
    · refine fun ρ X9 fl hg hn hl hp ho hc hf hr => .inl ⟨rfl, ?_⟩
      refine Runs.goes 41 #[.int .i64 0] (op_call1 hf call41 (show ρ (.tmp 15) = .int .i64 0 from hr 9 15 rfl rfl)) ((num0 X9).mono ?_)
      rintro e7 w7 ⟨rfl, b7⟩
      exact ⟨_, rfl, hg.trans (b7.mono hg.size), b7, rfl⟩
    · exact fun ρ X9 fl hg hn hl hp ho hc hf hr => .inl ⟨rfl, Runs.val _ (op_add9' (show ρ (.tmp 12) = .string ⟨#[0, 0]⟩ from hr 6 12 rfl rfl) (show ρ (.tmp 16) = .string ⟨#[0]⟩ from hr 10 16 rfl rfl) (q2 X9)) ⟨hg, Below.refl _ _, rfl⟩⟩
    · exact fun ρ X9 fl hg hn hl hp ho hc hf hr => .inl ⟨rfl, Runs.val _ (op_assign (show ρ (.tmp 17) = .string ⟨#[0, 0, 0]⟩ from hr 11 17 rfl rfl)) ⟨hg, Below.refl _ _, rfl⟩⟩
  case en =>
    intro a X9 fl hfl hG hs hd ho hr
    obtain ⟨x, hx, hxt⟩ := act_put hs hd ho
    have x3 : x 3 = .string ⟨#[0, 0, 0]⟩ := (hxt 3).symm.trans (hr 12 3 rfl)
    change a = putAll _ x [6, 7, 8, 9, 10, 11, 12, 13, 14, 15, 16, 17, 3] at hx
    simp only [putAll, Act.put, List.setIfInBounds_toArray, List.set_cons_zero, List.set_cons_succ, x3] at hx
    have jX := (hG.block Y (blk_lt HJ.out)).trans HJ.out
    have c2 : X9.cell? ⟨Y, 2, none⟩ = some (.slice none 0 0) := cell_blk jX 2
    have HBX := Lib.hid (HB.out.trans (hG.mono HB.out.size))
    have HJX := Lib.hid jX
    have hn := num0 X9
    clear hG hs hd ho hr hxt x3 b0 b1 b2 q1 q2 jX
    subst hx
    go_wp2
    go_loopw [3, 4] (fun sv iv wr => sv = .string ⟨#[0, 0, 0]⟩ ∧ iv = .int .i64 0 ∧ X9 = wr) (fun _ _ _ => 0)
    case atStart => exact ⟨rfl, rfl, rfl⟩
    case round =>
      obtain ⟨rfl, rfl, rfl⟩ := hrel
      have c3 : X9.cell? ⟨Y, 3, none⟩ = some (.slice none 0 0) := cell_blk HJX.out 3
      go_wp2_with fail
      refine hn.mono ?_
      rintro e w1 ⟨rfl, b1⟩
      have jX := (b1.block Y (blk_lt HJX.out)).trans HJX.out
      have d3 : w1.cell? ⟨Y, 3, none⟩ = some (.slice none 0 0) := cell_blk jX 3
      have HB1 := Lib.hid (HBX.out.trans (b1.mono HBX.out.size))
      have HJ1 := Lib.hid jX
      have hn1 := num0 w1
      clear b1 hn c2 c3 jX
      go_wp2
      go_loopw [3, 5] (fun sv iv wr => sv = .string ⟨#[0, 0, 0, 0]⟩ ∧ iv = .int .i64 0 ∧ w1 = wr) (fun _ _ _ => 0)
      case atStart => exact ⟨rfl, rfl, rfl⟩
      case round =>
        obtain ⟨rfl, rfl, rfl⟩ := hrel
        have d4 : w1.cell? ⟨Y, 4, none⟩ = some (.int .i64 0) := cell_blk HJ1.out 4
        go_wp2_with fail
        refine hn1.mono ?_
        rintro e w2 ⟨rfl, b2⟩
        have HB2 := Lib.hid (HB1.out.trans (b2.mono HB1.out.size))
        clear b2 hn1 d3 d4
        go_wp2
        go_ret
        exact ⟨rfl, HB2.out⟩
end Go.Proofs.Ytcoaahlakkghhaa
