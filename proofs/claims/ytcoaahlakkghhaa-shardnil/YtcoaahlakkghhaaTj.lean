/- The law ShardNil. -/
import Derived.Test.YtcoaahlakkghhaaTi
namespace Go.Proofs.Ytcoaahlakkghhaa
open Go.RowKit
section
variable {ρ : Operand → Value} {X : World} {d : Option Tmp} {ty : TypeId} {ps : String} {af : Array Edge} {g : Option (Nat × Bool)}
theorem op_f49_0 {x : Operand} {B o : Nat} (e : ρ x = .pointer (some ⟨B, o, none⟩)) : (execOp ρ ⟨d, .fieldAddr 49 x 0, ty, ps, af, g⟩).run Try.prog X = .ok (.value (.pointer (some ⟨B, o, none⟩))) X := by
  simp only [execOp, e]
  go_simp
theorem op_f49_1 {x : Operand} {B o : Nat} (e : ρ x = .pointer (some ⟨B, o, none⟩)) : (execOp ρ ⟨d, .fieldAddr 49 x 1, ty, ps, af, g⟩).run Try.prog X = .ok (.value (.pointer (some ⟨B, o + 1, none⟩))) X := by
  simp only [execOp, e]
  go_simp
theorem op_loadI {x : Operand} {B i : Nat} {n : Int} (e : ρ x = .pointer (some ⟨B, i, none⟩)) (y : X.cell? ⟨B, i, none⟩ = some (.int .i64 n)) : (execOp ρ ⟨d, .load 3 x, ty, ps, af, g⟩).run Try.prog X = .ok (.value (.int .i64 n)) X := by
  simp only [execOp, e]
  go_simp
theorem op_b52' {y : Operand} (e : ρ y = .int .i64 2) : (execOp ρ ⟨d, .build 52 #[(0, y)], ty, ps, af, g⟩).run Try.prog X = .ok (.value (.agg #[.int .i64 2, .int .i64 0, .int .i64 0, .int .i64 0, .int .i64 0, .int .i64 0, .int .i64 0, .int .i64 0, .bool false])) X := by
  simp only [execOp]
  simp [e]
  go_simp
theorem op_b57' {y : Operand} (e : ρ y = .string ⟨#[120]⟩) : (execOp ρ ⟨d, .build 57 #[(1, y)], ty, ps, af, g⟩).run Try.prog X = .ok (.value (.agg #[.string ⟨#[]⟩, .string ⟨#[120]⟩])) X := by
  simp only [execOp]
  simp [e]
  go_simp
theorem op_b63' : (execOp ρ ⟨d, .build 63 #[], ty, ps, af, g⟩).run Try.prog X = .ok (.value (.agg #[.slice none 0 0, .slice none 0 0, .slice none 0 0, .slice none 0 0, .int .i64 0])) X := by
  simp only [execOp]
  go_simp
theorem op_eq52 {x y : Operand} (e : ρ x = .agg #[.int .i64 2, .int .i64 0, .int .i64 0, .int .i64 0, .int .i64 0, .int .i64 0, .int .i64 0, .int .i64 0, .bool false]) (e2 : ρ y = .agg #[.int .i64 2, .int .i64 0, .int .i64 0, .int .i64 0, .int .i64 0, .int .i64 0, .int .i64 0, .int .i64 0, .bool false]) : (execOp ρ ⟨d, .binOp .eql 52 x y 52, ty, ps, af, g⟩).run Try.prog X = .ok (.value (.bool true)) X := by
  simp only [execOp, e, e2]
  go_simp
theorem op_eq3 {x y : Operand} (e : ρ x = .int .i64 0) (e2 : ρ y = .int .i64 0) : (execOp ρ ⟨d, .binOp .eql 3 x y 3, ty, ps, af, g⟩).run Try.prog X = .ok (.value (.bool true)) X := by
  simp only [execOp, e, e2]
  go_simp
theorem op_eq9 {x y : Operand} {k : ByteArray} (e : ρ x = .string k) (e2 : ρ y = .string k) : (execOp ρ ⟨d, .binOp .eql 9 x y 9, ty, ps, af, g⟩).run Try.prog X = .ok (.value (.bool true)) X := by
  simp only [execOp, e, e2]
  go_simp
theorem op_lenA {T : TypeId} {x : Operand} {dsc : TypeId} (hT : Try.prog.underlying T = some (.slice dsc)) (e : ρ x = .slice none 0 0) : (execOp ρ ⟨d, .call { callee := .builtin .len, args := #[x], argTypes := #[T] }, 3, ps, af, g⟩).run Try.prog X = .ok (.value (.int .i64 0)) X := by
  simp only [execOp]
  simp [resolve, invoke, builtin, e]
  go_simp
theorem call9 : Sem.run Try.prog (callFunc 9 #[]) X = .ok (.enter 9 #[]) X := by go_simp
theorem call12 {v : Value} : Sem.run Try.prog (callFunc 12 #[v]) X = .ok (.enter 12 #[v]) X := by go_simp
theorem call13 {v u x : Value} : Sem.run Try.prog (callFunc 13 #[v, u, x]) X = .ok (.enter 13 #[v, u, x]) X := by go_simp
theorem call15 {v : Value} : Sem.run Try.prog (callFunc 15 #[v]) X = .ok (.enter 15 #[v]) X := by go_simp
theorem call16 {v : Value} : Sem.run Try.prog (callFunc 16 #[v]) X = .ok (.enter 16 #[v]) X := by go_simp
theorem call21 {v : Value} : Sem.run Try.prog (callFunc 21 #[v]) X = .ok (.enter 21 #[v]) X := by go_simp
theorem op_call0' {f : FuncId} {at' : Array TypeId} (hf : ∀ f, ρ (.func f) = .func (.func f) #[] #[]) (hc : Sem.run Try.prog (callFunc f #[]) X = .ok (.enter f #[]) X) : (execOp ρ ⟨d, .call { callee := .value (.func f), args := #[], argTypes := at' }, ty, ps, af, g⟩).run Try.prog X = .ok (.enter f #[]) X := by
  simp only [execOp]
  simp [resolve, hf, Deferred.ofValue, invoke, hc]
end
section
variable {w : World} {c : Cm} {cs os : Array Value} {ra wa : Option Addr} {rc wc : Nat}
set_option maxHeartbeats 4000000 in
set_option maxRecDepth 100000 in
theorem nil_law {a : Int} (hc : Cc w c cs ra rc wa wc) (h0 : os[0]? = some (.int .i64 a)) (hos : ∀ j, os[j + 1]? = cs[j]?) (hz1 : c.reads.length * 56 ≤ 140737488355328) (hz2 : c.writes.length * 40 ≤ 140737488355328) (hz3 : ∀ r ∈ c.reads, r.seen.length * 24 ≤ 140737488355328) : Calls Try.prog 8 #[.agg os] w fun e w' => e = .returned (.bool true) ∧ Below w.heap.size w w' := by
  obtain ⟨W, hW⟩ : ∃ W, W = w.alloc (.cells os 49) := ⟨_, rfl⟩
  have hb : Below w.heap.size w W := by rw [hW]; exact (Below.refl _ w).alloc (Nat.le_refl _) _
  obtain ⟨Y, hY⟩ : ∃ Y, w.heap.size = Y := ⟨_, rfl⟩
  have jY : W.heap[Y]? = some (.cells os 49 (0, 0)) := by rw [hW, ← hY]; exact heap_alloc_new w _
  have e5 : W.cell? ⟨Y, 5, none⟩ = some (.int .i64 c.txn.1) := (cell_blk jY 5).trans ((hos 4).trans hc.t0)
  have e6 : W.cell? ⟨Y, 6, none⟩ = some (.int .i64 c.txn.2.1) := (cell_blk jY 6).trans ((hos 5).trans hc.t1)
  have e7 : W.cell? ⟨Y, 7, none⟩ = some (.int .i64 c.txn.2.2) := (cell_blk jY 7).trans ((hos 6).trans hc.t2)
  have hrec := record_nil W c.txn
  have HLD : Hid (∀ X, Below W.heap.size W X → (Instr.loadAt 47 (.pointer (some ⟨Y, 1, none⟩))).run Try.prog X = .ok (.agg cs) X) := fun X hX => by
    have jX := (hX.block Y (blk_lt jY)).trans jY
    have q := run_loadAt_mid (P := Try.prog) X Y 1 47 cs.toList _ (fun j v hv => by
      rw [Nat.add_comm 1 j, cell_blk jX (j + 1), hos j, ← hv]
      simp) Try.underlying47 rfl (by rw [Array.length_toList, hc.sz]; exact size47)
    simpa using q
  have HCX : Hid (∀ X, Below W.heap.size W X → Calls Try.prog 12 #[.agg cs] X fun e w' => ∃ cs', e = .returned (.agg cs') ∧ Below X.heap.size X w') := fun X hX => by
    refine (own_any ((hc.on hb).on hX) hz1 hz2 hz3).mono ?_
    rintro e w' ⟨cs', _, _, _, _, _, rfl, _, q⟩
    exact ⟨cs', rfl, q⟩
  have HJ := Lib.hid jY
  have a0 : W.cell? ⟨Y, 0, none⟩ = some (.int .i64 a) := (cell_blk jY 0).trans h0
  have HA0 := Lib.hid a0
  have HB := Lib.hid hb
  have HW := Lib.hid hW
  have HY := Lib.hid hY
  clear hW hY hb jY hc hos h0 hz1 hz2 hz3 a0
  go_enter Try.func8, Try.ntmps8
  go_upto_region 1 with fail
  rw [← HW.out, HY.out]
  go_wp2_with fail
  refine hrec.mono ?_
  rintro e w1 ⟨rfl, b1⟩
  have HW1 := Lib.hid b1
  have a0 := cell_on b1 HA0.out
  clear hrec b1 e5 e6 e7
  go_upto_region 3 with fail
  refine wp_region_fb (fun _ X9 => Below w1.heap.size w1 X9) (fun X9 X' => Below X9.heap.size X9 X') [
    fun v9 _ => v9 = .bool true,
    fun v9 _ => v9 = .bool true,
    fun v9 _ => v9 = .pointer none,
    fun v9 _ => v9 = .pointer (some ⟨Y, 0, none⟩),
    fun v9 _ => v9 = .int .i64 a,
    fun v9 _ => v9 = .pointer (some ⟨Y, 1, none⟩),
    fun v9 _ => v9 = .agg cs,
    fun v9 _ => ∃ cs9, v9 = .agg cs9,
    fun v9 _ => v9 = .agg #[.int .i64 2, .int .i64 0, .int .i64 0, .int .i64 0, .int .i64 0, .int .i64 0, .int .i64 0, .int .i64 0, .bool false],
    fun v9 _ => v9 = .agg #[.int .i64 2, .int .i64 0, .int .i64 0, .int .i64 0, .int .i64 0, .int .i64 0, .int .i64 0, .int .i64 0, .bool false],
    fun v9 _ => v9 = .bool true,
    fun v9 _ => v9 = .bool true,
    fun v9 _ => v9 = .bool true,
    fun v9 _ => v9 = .pointer none,
    fun v9 _ => v9 = .agg #[.string ⟨#[]⟩, .string ⟨#[120]⟩],
    fun v9 _ => v9 = .slice none 0 0,
    fun v9 _ => v9 = .int .i64 0,
    fun v9 _ => v9 = .bool true,
    fun v9 _ => v9 = .bool true,
    fun v9 _ => v9 = .bool true,
    fun v9 _ => v9 = .pointer none,
    fun v9 _ => v9 = .slice none 0 0,
    fun v9 _ => v9 = .int .i64 0,
    fun v9 _ => v9 = .bool true,
    fun v9 _ => v9 = .bool true,
    fun v9 _ => v9 = .bool true,
    fun v9 _ => v9 = .int .i64 0,
    fun v9 _ => v9 = .bool true,
    fun v9 _ => v9 = .bool true,
    fun v9 _ => v9 = .bool true,
    fun v9 _ => v9 = .bool false,
    fun v9 _ => v9 = .bool true,
    fun v9 _ => v9 = .bool true,
    fun v9 _ => v9 = .bool true,
    fun v9 _ => v9 = .pointer none,
    fun v9 _ => v9 = .agg #[.slice none 0 0, .slice none 0 0, .slice none 0 0, .slice none 0 0, .int .i64 0],
    fun v9 _ => v9 = .string ⟨#[0, 0, 0, 0, 0]⟩,
    fun v9 _ => v9 = .agg #[.slice none 0 0, .slice none 0 0, .slice none 0 0, .slice none 0 0, .int .i64 0],
    fun v9 _ => v9 = .string ⟨#[0, 0, 0, 0, 0]⟩,
    fun v9 _ => v9 = .bool true,
    fun v9 _ => v9 = .bool true,
    fun v9 _ => v9 = .bool true]
    (by kernel_rfl) (by kernel_rfl) (by kernel_rfl) ?st ?g0 ?os ?en
  case st => exact ⟨fun _ _ _ _ h => h, fun _ _ _ _ h => h, fun _ _ _ _ h => h, fun _ _ _ _ h => h, fun _ _ _ _ h => h, fun _ _ _ _ h => h, fun _ _ _ _ h => h, fun _ _ _ _ h => h, fun _ _ _ _ h => h, fun _ _ _ _ h => h, fun _ _ _ _ h => h, fun _ _ _ _ h => h, fun _ _ _ _ h => h, fun _ _ _ _ h => h, fun _ _ _ _ h => h, fun _ _ _ _ h => h, fun _ _ _ _ h => h, fun _ _ _ _ h => h, fun _ _ _ _ h => h, fun _ _ _ _ h => h, fun _ _ _ _ h => h, fun _ _ _ _ h => h, fun _ _ _ _ h => h, fun _ _ _ _ h => h, fun _ _ _ _ h => h, fun _ _ _ _ h => h, fun _ _ _ _ h => h, fun _ _ _ _ h => h, fun _ _ _ _ h => h, fun _ _ _ _ h => h, fun _ _ _ _ h => h, fun _ _ _ _ h => h, fun _ _ _ _ h => h, fun _ _ _ _ h => h, fun _ _ _ _ h => h, fun _ _ _ _ h => h, fun _ _ _ _ h => h, fun _ _ _ _ h => h, fun _ _ _ _ h => h, fun _ _ _ _ h => h, fun _ _ _ _ h => h, fun _ _ _ _ h => h, trivial⟩
  case g0 => exact ⟨rfl, rfl, rfl, Nat.le_refl _, fun _ _ => rfl⟩
  case os =>
    refine ⟨?_, ?_, ?_, ?_, ?_, ?_, ?_, ?_, ?_, ?_, ?_, ?_, ?_, ?_, ?_, ?_, ?_, ?_, ?_, ?_, ?_, ?_, ?_, ?_, ?_, ?_, ?_, ?_, ?_, ?_, ?_, ?_, ?_, ?_, ?_, ?_, ?_, ?_, ?_, ?_, ?_, ?_, trivial⟩
    · refine fun ρ X9 fl hg hn hl hp ho hc hf hr => .inl ⟨rfl, ?_⟩
      refine Runs.goes 9 #[] (op_call0' hf call9) ((awake_any X9).mono ?_)
      rintro e7 w7 ⟨rfl, b7⟩
      exact ⟨_, rfl, hg.trans (b7.mono hg.size), b7, rfl⟩
    · exact fun ρ X9 fl hg hn hl hp ho hc hf hr => .inl ⟨rfl, Runs.val _ (op_move (show ρ (.tmp 14) = .bool true from hr 0 14 rfl rfl)) ⟨hg, Below.refl _ _, rfl⟩⟩
    · exact fun ρ X9 fl hg hn hl hp ho hc hf hr => .inr (.inl ⟨1, 15, true, fun _ => rfl, rfl, hr 1 15 rfl rfl, Runs.val _ (op_move (show ρ (.tmp 3) = .pointer none from ho 3 rfl)) ⟨hg, Below.refl _ _, rfl⟩⟩)
    · exact fun ρ X9 fl hg hn hl hp ho hc hf hr => .inr (.inl ⟨1, 15, true, fun _ => rfl, rfl, hr 1 15 rfl rfl, Runs.val _ (op_f49_0 (show ρ (.tmp 1) = .pointer (some ⟨Y, 0, none⟩) from ho 1 rfl)) ⟨hg, Below.refl _ _, rfl⟩⟩)
    · exact fun ρ X9 fl hg hn hl hp ho hc hf hr => .inr (.inl ⟨1, 15, true, fun _ => rfl, rfl, hr 1 15 rfl rfl, Runs.val _ (op_loadI (show ρ (.tmp 17) = .pointer (some ⟨Y, 0, none⟩) from hr 3 17 rfl rfl) (cell_on hg a0)) ⟨hg, Below.refl _ _, rfl⟩⟩)
    · exact fun ρ X9 fl hg hn hl hp ho hc hf hr => .inr (.inl ⟨1, 15, true, fun _ => rfl, rfl, hr 1 15 rfl rfl, Runs.val _ (op_f49_1 (show ρ (.tmp 1) = .pointer (some ⟨Y, 0, none⟩) from ho 1 rfl)) ⟨hg, Below.refl _ _, rfl⟩⟩)
    · exact fun ρ X9 fl hg hn hl hp ho hc hf hr => .inr (.inl ⟨1, 15, true, fun _ => rfl, rfl, hr 1 15 rfl rfl, Runs.val _ (op_loadAt (show ρ (.tmp 19) = .pointer (some ⟨Y, 1, none⟩) from hr 5 19 rfl rfl) (HLD.out X9 (HW1.out.trans (hg.mono HW1.out.size)))) ⟨hg, Below.refl _ _, rfl⟩⟩)
    · refine fun ρ X9 fl hg hn hl hp ho hc hf hr => .inr (.inl ⟨1, 15, true, fun _ => rfl, rfl, hr 1 15 rfl rfl, ?_⟩)
      refine Runs.goes 12 #[.agg cs] (op_call1 hf call12 (show ρ (.tmp 20) = .agg cs from hr 6 20 rfl rfl)) ((HCX.out X9 (HW1.out.trans (hg.mono HW1.out.size))).mono ?_)
      rintro e7 w7 ⟨cs7, rfl, b7⟩
      exact ⟨_, rfl, hg.trans (b7.mono hg.size), b7, cs7, rfl⟩
    · refine fun ρ X9 fl hg hn hl hp ho hc hf hr => .inr (.inl ⟨1, 15, true, fun _ => rfl, rfl, hr 1 15 rfl rfl, ?_⟩)
      obtain ⟨cs9, e9⟩ : ∃ cs9, ρ (.tmp 21) = .agg cs9 := hr 7 21 rfl rfl
      refine Runs.goes 13 #[.pointer none, .int .i64 a, .agg cs9] (op_call3 hf call13 (show ρ (.tmp 16) = .pointer none from hr 2 16 rfl rfl) (show ρ (.tmp 18) = .int .i64 a from hr 4 18 rfl rfl) e9) ((do_nil (w := X9) cs9 a).mono ?_)
      rintro e7 w7 ⟨rfl, b7⟩
      exact ⟨_, rfl, hg.trans (b7.mono hg.size), b7, rfl⟩
    · exact fun ρ X9 fl hg hn hl hp ho hc hf hr => .inr (.inl ⟨1, 15, true, fun _ => rfl, rfl, hr 1 15 rfl rfl, Runs.val _ (op_b52' (hc _)) ⟨hg, Below.refl _ _, rfl⟩⟩)
    · exact fun ρ X9 fl hg hn hl hp ho hc hf hr => .inr (.inl ⟨1, 15, true, fun _ => rfl, rfl, hr 1 15 rfl rfl, Runs.val _ (op_eq52 (show ρ (.tmp 22) = .agg #[.int .i64 2, .int .i64 0, .int .i64 0, .int .i64 0, .int .i64 0, .int .i64 0, .int .i64 0, .int .i64 0, .bool false] from hr 8 22 rfl rfl) (show ρ (.tmp 23) = .agg #[.int .i64 2, .int .i64 0, .int .i64 0, .int .i64 0, .int .i64 0, .int .i64 0, .int .i64 0, .int .i64 0, .bool false] from hr 9 23 rfl rfl)) ⟨hg, Below.refl _ _, rfl⟩⟩)
    · exact fun ρ X9 fl hg hn hl hp ho hc hf hr => .inl ⟨rfl, Runs.val _ (op_pick (show ρ (.tmp 15) = .bool true from hr 1 15 rfl rfl) (show ρ (.tmp 24) = .bool true from hr 10 24 rfl rfl)) ⟨hg, Below.refl _ _, rfl⟩⟩
    · exact fun ρ X9 fl hg hn hl hp ho hc hf hr => .inl ⟨rfl, Runs.val _ (op_move (show ρ (.tmp 25) = .bool true from hr 11 25 rfl rfl)) ⟨hg, Below.refl _ _, rfl⟩⟩
    · exact fun ρ X9 fl hg hn hl hp ho hc hf hr => .inr (.inl ⟨12, 26, true, fun _ => rfl, rfl, hr 12 26 rfl rfl, Runs.val _ (op_move (show ρ (.tmp 3) = .pointer none from ho 3 rfl)) ⟨hg, Below.refl _ _, rfl⟩⟩)
    · exact fun ρ X9 fl hg hn hl hp ho hc hf hr => .inr (.inl ⟨12, 26, true, fun _ => rfl, rfl, hr 12 26 rfl rfl, Runs.val _ (op_b57' (hc _)) ⟨hg, Below.refl _ _, rfl⟩⟩)
    · refine fun ρ X9 fl hg hn hl hp ho hc hf hr => .inr (.inl ⟨12, 26, true, fun _ => rfl, rfl, hr 12 26 rfl rfl, ?_⟩)
      refine Runs.goes 24 #[.pointer none, .agg #[.string ⟨#[]⟩, .string ⟨#[120]⟩]] (op_call2 hf call24 (show ρ (.tmp 27) = .pointer none from hr 13 27 rfl rfl) (show ρ (.tmp 28) = .agg #[.string ⟨#[]⟩, .string ⟨#[120]⟩] from hr 14 28 rfl rfl)) ((spanS_nil X9 ⟨⟨#[]⟩, ⟨#[120]⟩⟩).mono ?_)
      rintro e7 w7 ⟨rfl, b7⟩
      exact ⟨_, rfl, hg.trans (b7.mono hg.size), b7, rfl⟩
    · exact fun ρ X9 fl hg hn hl hp ho hc hf hr => .inr (.inl ⟨12, 26, true, fun _ => rfl, rfl, hr 12 26 rfl rfl, Runs.val _ (op_lenA Try.underlying77 (show ρ (.tmp 29) = .slice none 0 0 from hr 15 29 rfl rfl)) ⟨hg, Below.refl _ _, rfl⟩⟩)
    · exact fun ρ X9 fl hg hn hl hp ho hc hf hr => .inr (.inl ⟨12, 26, true, fun _ => rfl, rfl, hr 12 26 rfl rfl, Runs.val _ (op_eq3 (show ρ (.tmp 30) = .int .i64 0 from hr 16 30 rfl rfl) (hc _)) ⟨hg, Below.refl _ _, rfl⟩⟩)
    · exact fun ρ X9 fl hg hn hl hp ho hc hf hr => .inl ⟨rfl, Runs.val _ (op_pick (show ρ (.tmp 26) = .bool true from hr 12 26 rfl rfl) (show ρ (.tmp 31) = .bool true from hr 17 31 rfl rfl)) ⟨hg, Below.refl _ _, rfl⟩⟩
    · exact fun ρ X9 fl hg hn hl hp ho hc hf hr => .inl ⟨rfl, Runs.val _ (op_move (show ρ (.tmp 32) = .bool true from hr 18 32 rfl rfl)) ⟨hg, Below.refl _ _, rfl⟩⟩
    · exact fun ρ X9 fl hg hn hl hp ho hc hf hr => .inr (.inl ⟨19, 33, true, fun _ => rfl, rfl, hr 19 33 rfl rfl, Runs.val _ (op_move (show ρ (.tmp 3) = .pointer none from ho 3 rfl)) ⟨hg, Below.refl _ _, rfl⟩⟩)
    · refine fun ρ X9 fl hg hn hl hp ho hc hf hr => .inr (.inl ⟨19, 33, true, fun _ => rfl, rfl, hr 19 33 rfl rfl, ?_⟩)
      refine Runs.goes 21 #[.pointer none] (op_call1 hf call21 (show ρ (.tmp 34) = .pointer none from hr 20 34 rfl rfl)) ((locksN X9).mono ?_)
      rintro e7 w7 ⟨rfl, b7⟩
      exact ⟨_, rfl, hg.trans (b7.mono hg.size), b7, rfl⟩
    · exact fun ρ X9 fl hg hn hl hp ho hc hf hr => .inr (.inl ⟨19, 33, true, fun _ => rfl, rfl, hr 19 33 rfl rfl, Runs.val _ (op_lenA Try.underlying31 (show ρ (.tmp 35) = .slice none 0 0 from hr 21 35 rfl rfl)) ⟨hg, Below.refl _ _, rfl⟩⟩)
    · exact fun ρ X9 fl hg hn hl hp ho hc hf hr => .inr (.inl ⟨19, 33, true, fun _ => rfl, rfl, hr 19 33 rfl rfl, Runs.val _ (op_eq3 (show ρ (.tmp 36) = .int .i64 0 from hr 22 36 rfl rfl) (hc _)) ⟨hg, Below.refl _ _, rfl⟩⟩)
    · exact fun ρ X9 fl hg hn hl hp ho hc hf hr => .inl ⟨rfl, Runs.val _ (op_pick (show ρ (.tmp 33) = .bool true from hr 19 33 rfl rfl) (show ρ (.tmp 37) = .bool true from hr 23 37 rfl rfl)) ⟨hg, Below.refl _ _, rfl⟩⟩
    · exact fun ρ X9 fl hg hn hl hp ho hc hf hr => .inl ⟨rfl, Runs.val _ (op_move (show ρ (.tmp 38) = .bool true from hr 24 38 rfl rfl)) ⟨hg, Below.refl _ _, rfl⟩⟩
    · exact fun ρ X9 fl hg hn hl hp ho hc hf hr => .inr (.inl ⟨25, 39, true, fun _ => rfl, rfl, hr 25 39 rfl rfl, Runs.val _ (op_move (show ρ (.tmp 4) = .int .i64 0 from ho 4 rfl)) ⟨hg, Below.refl _ _, rfl⟩⟩)
    · exact fun ρ X9 fl hg hn hl hp ho hc hf hr => .inr (.inl ⟨25, 39, true, fun _ => rfl, rfl, hr 25 39 rfl rfl, Runs.val _ (op_eq3 (show ρ (.tmp 40) = .int .i64 0 from hr 26 40 rfl rfl) (hc _)) ⟨hg, Below.refl _ _, rfl⟩⟩)
    · exact fun ρ X9 fl hg hn hl hp ho hc hf hr => .inl ⟨rfl, Runs.val _ (op_pick (show ρ (.tmp 39) = .bool true from hr 25 39 rfl rfl) (show ρ (.tmp 41) = .bool true from hr 27 41 rfl rfl)) ⟨hg, Below.refl _ _, rfl⟩⟩
    · exact fun ρ X9 fl hg hn hl hp ho hc hf hr => .inl ⟨rfl, Runs.val _ (op_move (show ρ (.tmp 42) = .bool true from hr 28 42 rfl rfl)) ⟨hg, Below.refl _ _, rfl⟩⟩
    · exact fun ρ X9 fl hg hn hl hp ho hc hf hr => .inr (.inl ⟨29, 43, true, fun _ => rfl, rfl, hr 29 43 rfl rfl, Runs.val _ (op_move (show ρ (.tmp 5) = .bool false from ho 5 rfl)) ⟨hg, Below.refl _ _, rfl⟩⟩)
    · exact fun ρ X9 fl hg hn hl hp ho hc hf hr => .inr (.inl ⟨29, 43, true, fun _ => rfl, rfl, hr 29 43 rfl rfl, Runs.val _ (op_not (show ρ (.tmp 44) = .bool false from hr 30 44 rfl rfl) ) ⟨hg, Below.refl _ _, rfl⟩⟩)
    · exact fun ρ X9 fl hg hn hl hp ho hc hf hr => .inl ⟨rfl, Runs.val _ (op_pick (show ρ (.tmp 43) = .bool true from hr 29 43 rfl rfl) (show ρ (.tmp 45) = .bool true from hr 31 45 rfl rfl)) ⟨hg, Below.refl _ _, rfl⟩⟩
    · exact fun ρ X9 fl hg hn hl hp ho hc hf hr => .inl ⟨rfl, Runs.val _ (op_move (show ρ (.tmp 46) = .bool true from hr 32 46 rfl rfl)) ⟨hg, Below.refl _ _, rfl⟩⟩
    · exact fun ρ X9 fl hg hn hl hp ho hc hf hr => .inr (.inl ⟨33, 47, true, fun _ => rfl, rfl, hr 33 47 rfl rfl, Runs.val _ (op_move (show ρ (.tmp 3) = .pointer none from ho 3 rfl)) ⟨hg, Below.refl _ _, rfl⟩⟩)
    · refine fun ρ X9 fl hg hn hl hp ho hc hf hr => .inr (.inl ⟨33, 47, true, fun _ => rfl, rfl, hr 33 47 rfl rfl, ?_⟩)
      refine Runs.goes 15 #[.pointer none] (op_call1 hf call15 (show ρ (.tmp 48) = .pointer none from hr 34 48 rfl rfl)) ((saveN X9).mono ?_)
      rintro e7 w7 ⟨rfl, b7⟩
      exact ⟨_, rfl, hg.trans (b7.mono hg.size), b7, rfl⟩
    · refine fun ρ X9 fl hg hn hl hp ho hc hf hr => .inr (.inl ⟨33, 47, true, fun _ => rfl, rfl, hr 33 47 rfl rfl, ?_⟩)
      refine Runs.goes 16 #[.agg #[.slice none 0 0, .slice none 0 0, .slice none 0 0, .slice none 0 0, .int .i64 0]] (op_call1 hf call16 (show ρ (.tmp 49) = .agg #[.slice none 0 0, .slice none 0 0, .slice none 0 0, .slice none 0 0, .int .i64 0] from hr 35 49 rfl rfl)) ((range0 X9).mono ?_)
      rintro e7 w7 ⟨rfl, b7⟩
      exact ⟨_, rfl, hg.trans (b7.mono hg.size), b7, rfl⟩
    · exact fun ρ X9 fl hg hn hl hp ho hc hf hr => .inr (.inl ⟨33, 47, true, fun _ => rfl, rfl, hr 33 47 rfl rfl, Runs.val _ (op_b63') ⟨hg, Below.refl _ _, rfl⟩⟩)
    · refine fun ρ X9 fl hg hn hl hp ho hc hf hr => .inr (.inl ⟨33, 47, true, fun _ => rfl, rfl, hr 33 47 rfl rfl, ?_⟩)
      refine Runs.goes 16 #[.agg #[.slice none 0 0, .slice none 0 0, .slice none 0 0, .slice none 0 0, .int .i64 0]] (op_call1 hf call16 (show ρ (.tmp 51) = .agg #[.slice none 0 0, .slice none 0 0, .slice none 0 0, .slice none 0 0, .int .i64 0] from hr 37 51 rfl rfl)) ((range0 X9).mono ?_)
      rintro e7 w7 ⟨rfl, b7⟩
      exact ⟨_, rfl, hg.trans (b7.mono hg.size), b7, rfl⟩
    · exact fun ρ X9 fl hg hn hl hp ho hc hf hr => .inr (.inl ⟨33, 47, true, fun _ => rfl, rfl, hr 33 47 rfl rfl, Runs.val _ (op_eq9 (show ρ (.tmp 50) = .string ⟨#[0, 0, 0, 0, 0]⟩ from hr 36 50 rfl rfl) (show ρ (.tmp 52) = .string ⟨#[0, 0, 0, 0, 0]⟩ from hr 38 52 rfl rfl)) ⟨hg, Below.refl _ _, rfl⟩⟩)
    · exact fun ρ X9 fl hg hn hl hp ho hc hf hr => .inl ⟨rfl, Runs.val _ (op_pick (show ρ (.tmp 47) = .bool true from hr 33 47 rfl rfl) (show ρ (.tmp 53) = .bool true from hr 39 53 rfl rfl)) ⟨hg, Below.refl _ _, rfl⟩⟩
    · exact fun ρ X9 fl hg hn hl hp ho hc hf hr => .inl ⟨rfl, Runs.val _ (op_assign (show ρ (.tmp 54) = .bool true from hr 40 54 rfl rfl)) ⟨hg, Below.refl _ _, rfl⟩⟩
  case en =>
    intro a9 X9 fl hfl hG hs hd ho hr
    obtain ⟨x, hx, hxt⟩ := act_put hs hd ho
    have x2 : x 2 = .bool true := (hxt 2).symm.trans (hr 41 2 rfl)
    change a9 = putAll _ x [14, 15, 16, 17, 18, 19, 20, 21, 22, 23, 24, 25, 26, 27, 28, 29, 30, 31, 32, 33, 34, 35, 36, 37, 38, 39, 40, 41, 42, 43, 44, 45, 46, 47, 48, 49, 50, 51, 52, 53, 54, 2] at hx
    simp only [putAll, Act.put, List.setIfInBounds_toArray, List.set_cons_zero, List.set_cons_succ, x2] at hx
    have b8 := HW1.out.trans (hG.mono HW1.out.size)
    have HBX := Lib.hid (HB.out.trans (b8.mono HB.out.size))
    clear hG hs hd ho hr hxt x2 b8
    subst hx
    go_wp2
    go_ret
    exact ⟨rfl, HBX.out⟩
end
end Go.Proofs.Ytcoaahlakkghhaa
