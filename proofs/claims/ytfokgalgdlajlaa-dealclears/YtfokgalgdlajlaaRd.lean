/- What the document's clearing asks for. -/
import Derived.Test.YtfokgalgdlajlaaRc
namespace Go.Proofs.Ytfokgalgdlajlaa
open Go.RowKit
section
variable {ρ : Operand → Value} {X : World} {d : Option Tmp} {ty : TypeId} {ps : String} {af : Array Edge} {g : Option (Nat × Bool)}
theorem op_f87_0 {x : Operand} {B o : Nat} (e : ρ x = .pointer (some ⟨B, o, none⟩)) : (execOp ρ ⟨d, .fieldAddr 87 x 0, ty, ps, af, g⟩).run Try.prog X = .ok (.value (.pointer (some ⟨B, o, none⟩))) X := by
  simp only [execOp, e]
  go_simp
theorem op_f87_1 {x : Operand} {B o : Nat} (e : ρ x = .pointer (some ⟨B, o, none⟩)) : (execOp ρ ⟨d, .fieldAddr 87 x 1, ty, ps, af, g⟩).run Try.prog X = .ok (.value (.pointer (some ⟨B, o + 3, none⟩))) X := by
  simp only [execOp, e]
  go_simp
theorem op_f87_2 {x : Operand} {B o : Nat} (e : ρ x = .pointer (some ⟨B, o, none⟩)) : (execOp ρ ⟨d, .fieldAddr 87 x 2, ty, ps, af, g⟩).run Try.prog X = .ok (.value (.pointer (some ⟨B, o + 4, none⟩))) X := by
  simp only [execOp, e]
  go_simp
theorem op_f87_3 {x : Operand} {B o : Nat} (e : ρ x = .pointer (some ⟨B, o, none⟩)) : (execOp ρ ⟨d, .fieldAddr 87 x 3, ty, ps, af, g⟩).run Try.prog X = .ok (.value (.pointer (some ⟨B, o + 5, none⟩))) X := by
  simp only [execOp, e]
  go_simp
theorem op_f87_4 {x : Operand} {B o : Nat} (e : ρ x = .pointer (some ⟨B, o, none⟩)) : (execOp ρ ⟨d, .fieldAddr 87 x 4, ty, ps, af, g⟩).run Try.prog X = .ok (.value (.pointer (some ⟨B, o + 6, none⟩))) X := by
  simp only [execOp, e]
  go_simp
theorem op_f87_5 {x : Operand} {B o : Nat} (e : ρ x = .pointer (some ⟨B, o, none⟩)) : (execOp ρ ⟨d, .fieldAddr 87 x 5, ty, ps, af, g⟩).run Try.prog X = .ok (.value (.pointer (some ⟨B, o + 7, none⟩))) X := by
  simp only [execOp, e]
  go_simp
theorem op_f87_6 {x : Operand} {B o : Nat} (e : ρ x = .pointer (some ⟨B, o, none⟩)) : (execOp ρ ⟨d, .fieldAddr 87 x 6, ty, ps, af, g⟩).run Try.prog X = .ok (.value (.pointer (some ⟨B, o + 8, none⟩))) X := by
  simp only [execOp, e]
  go_simp
theorem op_f87_7 {x : Operand} {B o : Nat} (e : ρ x = .pointer (some ⟨B, o, none⟩)) : (execOp ρ ⟨d, .fieldAddr 87 x 7, ty, ps, af, g⟩).run Try.prog X = .ok (.value (.pointer (some ⟨B, o + 9, none⟩))) X := by
  simp only [execOp, e]
  go_simp
theorem op_f87_8 {x : Operand} {B o : Nat} (e : ρ x = .pointer (some ⟨B, o, none⟩)) : (execOp ρ ⟨d, .fieldAddr 87 x 8, ty, ps, af, g⟩).run Try.prog X = .ok (.value (.pointer (some ⟨B, o + 10, none⟩))) X := by
  simp only [execOp, e]
  go_simp
theorem op_f87_9 {x : Operand} {B o : Nat} (e : ρ x = .pointer (some ⟨B, o, none⟩)) : (execOp ρ ⟨d, .fieldAddr 87 x 9, ty, ps, af, g⟩).run Try.prog X = .ok (.value (.pointer (some ⟨B, o + 11, none⟩))) X := by
  simp only [execOp, e]
  go_simp
theorem op_f87_10 {x : Operand} {B o : Nat} (e : ρ x = .pointer (some ⟨B, o, none⟩)) : (execOp ρ ⟨d, .fieldAddr 87 x 10, ty, ps, af, g⟩).run Try.prog X = .ok (.value (.pointer (some ⟨B, o + 12, none⟩))) X := by
  simp only [execOp, e]
  go_simp
theorem op_alloc76 : (execOp ρ ⟨d, .alloc 76, ty, ps, af, g⟩).run Try.prog X = .ok (.value (.pointer (some ⟨X.heap.size, 0, none⟩))) (X.alloc (.cells zC 76)) := by
  simp only [execOp]
  go_simp
theorem op_b76c2 {x y z a1 a2 a3 a4 : Operand} {t0 t1 t2 n0 n1 n2 n3 n4 k : Int} (e : ρ x = .int .i64 k) (e0 : ρ y = .agg #[.int .i64 t0, .int .i64 t1, .int .i64 t2]) (e1 : ρ z = .int .i64 n0) (f1 : ρ a1 = .int .i64 n1) (f2 : ρ a2 = .int .i64 n2) (f3 : ρ a3 = .int .i64 n3) (f4 : ρ a4 = .int .i64 n4) : (execOp ρ ⟨d, .build 76 #[(0, x), (2, y), (3, z), (6, a1), (7, a2), (9, a3), (10, a4)], ty, ps, af, g⟩).run Try.prog X = .ok (.value (.agg (cmA ⟨0, k, t0, t1, t2, n0, .nil, .nil, n1, n2, 0, n3, n4⟩))) X := by
  simp only [execOp]
  simp [e, e0, e1, f1, f2, f3, f4]
  go_simp
  simp [Sv.nil]
theorem op_b76c4 {x y z a1 : Operand} {t0 t1 t2 n0 n1 k : Int} (e : ρ x = .int .i64 k) (e0 : ρ y = .agg #[.int .i64 t0, .int .i64 t1, .int .i64 t2]) (e1 : ρ z = .int .i64 n0) (f1 : ρ a1 = .int .i64 n1) : (execOp ρ ⟨d, .build 76 #[(0, x), (2, y), (3, z), (8, a1)], ty, ps, af, g⟩).run Try.prog X = .ok (.value (.agg (cmA ⟨0, k, t0, t1, t2, n0, .nil, .nil, 0, 0, n1, 0, 0⟩))) X := by
  simp only [execOp]
  simp [e, e0, e1, f1]
  go_simp
  simp [Sv.nil]
theorem op_s116 {x : Operand} {n : Int} (e : ρ x = .int .i64 n) : (execOp ρ ⟨d, .buildSlice 116 1 #[(0, x)], ty, ps, af, g⟩).run Try.prog X = .ok (.value (.slice (some ⟨X.heap.size, 0, none⟩) 1 1)) (X.alloc (.cells #[.int .i64 n] 3)) := by
  simp only [execOp]
  simp [e]
  go_simp
theorem op_s117 {x : Operand} {a : Ak} (e : ρ x = .agg (cmA a)) : (execOp ρ ⟨d, .buildSlice 117 1 #[(0, x)], ty, ps, af, g⟩).run Try.prog X = .ok (.value (.slice (some ⟨X.heap.size, 0, none⟩) 1 1)) (X.alloc (.cells (cmA a) 76)) := by
  simp only [execOp]
  simp [e]
  go_simp
end
/-- Amid 'a box is made, and filled', in any order. -/
def SG (V : World) (fin : Array Value) (fa fs : Bool) (v : Value) (X : World) : Prop := Below V.heap.size V X ∧ (fa = true → ∃ b, v = .pointer (some ⟨b, 0, none⟩) ∧ V.heap.size ≤ b ∧ X.heap[b]? = some (.cells (cond fs fin zC) 76 (0, 0)))
theorem SG.same {V : World} {fin : Array Value} {fa fs ga gs : Bool} {v u : Value} {X : World} (h : SG V fin fa fs v X) (e1 : ga = fa) (e2 : gs = fs) (q : u = v) : SG V fin ga gs u X := by rw [e1, e2, q]; exact h
theorem SG.mk0 {V : World} {fin : Array Value} {v : Value} {fs : Bool} : SG V fin false fs v V.drew := ⟨⟨rfl, rfl, rfl, Nat.le_refl _, fun _ _ => rfl⟩, fun e => by cases e⟩
theorem SG.put {V : World} {fin : Array Value} {fa fs : Bool} {v u : Value} {X : World} (h : SG V fin fa fs v X) (e : u = .pointer (some ⟨X.heap.size, 0, none⟩)) : SG V fin true false u (X.alloc (.cells zC 76)) := ⟨bgo h.1 (bnew _ _), fun _ => ⟨_, e, h.1.size, heap_alloc_new _ _⟩⟩
theorem SG.fill {V : World} {fin : Array Value} {v : Value} {X : World} (h : SG V fin true false v X) (hs : fin.size = 30) (h1 : fin.all (·.oneCell') = true) : ∃ b X', v = .pointer (some ⟨b, 0, none⟩) ∧ (Instr.storeAt 76 (.pointer (some ⟨b, 0, none⟩)) (.agg fin)).run Try.prog X = .ok () X' ∧ SG V fin true true v X' := by
  obtain ⟨hb, h2⟩ := h
  obtain ⟨b, e, hlb, j⟩ := h2 rfl
  obtain ⟨X', e2, k2, f2⟩ := st_row (us := fin) j hs (by rw [hs]; exact size76) h1
  exact ⟨b, X', e, e2, below_put hb (Nat.le_refl _) f2 hlb, fun _ => ⟨b, e, hlb, k2⟩⟩
theorem one_row {w X : World} {b k : Nat} {t : TypeId} {cs : Array Value} (h : X.heap[b]? = some (.cells cs t (0, 0))) (hb : w.heap.size ≤ b) (hk : cs.size = k) : X.ownsRow w.heap.size t k (.slice (some ⟨b, 0, none⟩) 1 1) 1 cs.toList :=
  ⟨by rw [Array.length_toList, hk, Nat.one_mul], .inr ⟨b, 1, cs, rfl, hb, h, Nat.le_refl _, by decide, by rw [hk, Nat.one_mul], by rw [List.take_of_length_le]; rw [Array.length_toList, hk, Nat.one_mul]; exact Nat.le_refl _⟩⟩
def CW.dl (c : CW) (s : CS) : Dl := ⟨c.t0, c.t1, c.t2, 0, 0, 0, c.home, true, [⟨c.sh, .nil, .nil⟩], s.ph, [⟨c.sh, .nil, .nil⟩], 0, s.ts, s.why⟩
/-- What the document's Asks answers: the shards, and the commands. -/
def RfAns (w : World) (L : List Ak) (e : Ending) (w' : World) : Prop := ∃ (aa : Option Addr) (ac : Nat) (oa : Option Addr) (oc : Nat), e = .returned (.tuple #[.slice aa L.length ac, .slice oa L.length oc]) ∧ w'.ownsRow w.heap.size 3 1 (.slice aa L.length ac) L.length (L.map fun a => .int .i64 a.sh) ∧ w'.ownsRow w.heap.size 76 30 (.slice oa L.length oc) L.length (L.flatMap cmL) ∧ Below w.heap.size w w'
section
variable {w : World} {R b : Nat} {c : CW} {s : CS} {dn : Bool}
set_option maxHeartbeats 8000000 in
set_option maxRecDepth 100000 in
theorem rasks_2 (h : Rx w R b c s dn) (hp : s.ph = 2) : Calls Try.prog 47 #[.pointer (some ⟨R, 0, none⟩)] w (RfAns w [(c.dl s).cmd c.home 3]) := by
  have l9 : w.cell? ⟨R, 9, none⟩ = some (.int .i64 2) := by rw [← hp]; exact h.cell 9
  have t3 : ∀ j u, [Value.int .i64 c.t0, .int .i64 c.t1, .int .i64 c.t2][j]? = some u → (rxA c b s)[0 + j]? = some u := fun j u hu => by
    rw [Nat.zero_add]
    match j, hu with
    | 0, hu => exact hu
    | 1, hu => exact hu
    | 2, hu => exact hu
    | m + 3, hu => cases hu
  have T3 := Lib.hid t3
  clear t3
  have HX := Lib.hid h
  clear h hp
  go_enter Try.func47, Try.ntmps47
  go_upto_region 2 with fail
  clear l9
  refine wp_region_gs (fun fl r X9 => SG w (cmA ⟨0, 2, c.t0, c.t1, c.t2, c.home, .nil, .nil, 1, 0, 0, 0, 0⟩) (fl 26) (fl 27) (r 4) X9) (fun _ _ => True) [
    fun v9 _ => v9 = .pointer (some ⟨R, 0, none⟩),
    fun v9 _ => v9 = .pointer (some ⟨R, 0, none⟩),
    fun v9 _ => v9 = .pointer (some ⟨R, 0, none⟩),
    fun v9 _ => v9 = .agg #[.int .i64 c.t0, .int .i64 c.t1, .int .i64 c.t2],
    fun v9 _ => v9 = .pointer (some ⟨R, 0, none⟩),
    fun v9 _ => v9 = .pointer (some ⟨R, 0, none⟩),
    fun v9 _ => v9 = .pointer (some ⟨R, 3, none⟩),
    fun v9 _ => v9 = .int .i64 c.home,
    fun v9 _ => v9 = .pointer (some ⟨R, 0, none⟩),
    fun v9 _ => v9 = .pointer (some ⟨R, 0, none⟩),
    fun v9 _ => v9 = .pointer (some ⟨R, 10, none⟩),
    fun v9 _ => v9 = .int .i64 0,
    fun v9 _ => v9 = .int .i64 1,
    fun v9 _ => v9 = .pointer (some ⟨R, 0, none⟩),
    fun v9 _ => v9 = .pointer (some ⟨R, 0, none⟩),
    fun v9 _ => v9 = .pointer (some ⟨R, 6, none⟩),
    fun v9 _ => v9 = .int .i64 0,
    fun v9 _ => v9 = .pointer (some ⟨R, 0, none⟩),
    fun v9 _ => v9 = .pointer (some ⟨R, 0, none⟩),
    fun v9 _ => v9 = .pointer (some ⟨R, 5, none⟩),
    fun v9 _ => v9 = .int .i64 0,
    fun v9 _ => v9 = .pointer (some ⟨R, 0, none⟩),
    fun v9 _ => v9 = .pointer (some ⟨R, 0, none⟩),
    fun v9 _ => v9 = .pointer (some ⟨R, 4, none⟩),
    fun v9 _ => v9 = .int .i64 0,
    fun v9 _ => v9 = .agg (cmA ⟨0, 2, c.t0, c.t1, c.t2, c.home, .nil, .nil, 1, 0, 0, 0, 0⟩),
    fun _ _ => True,
    fun _ _ => True]
    (by kernel_rfl) (by kernel_rfl) (by kernel_rfl) ?st ?g0 ?os ?en
  case st => exact ⟨fun _ _ _ _ h => h, fun _ _ _ _ h => h, fun _ _ _ _ h => h, fun _ _ _ _ h => h, fun _ _ _ _ h => h, fun _ _ _ _ h => h, fun _ _ _ _ h => h, fun _ _ _ _ h => h, fun _ _ _ _ h => h, fun _ _ _ _ h => h, fun _ _ _ _ h => h, fun _ _ _ _ h => h, fun _ _ _ _ h => h, fun _ _ _ _ h => h, fun _ _ _ _ h => h, fun _ _ _ _ h => h, fun _ _ _ _ h => h, fun _ _ _ _ h => h, fun _ _ _ _ h => h, fun _ _ _ _ h => h, fun _ _ _ _ h => h, fun _ _ _ _ h => h, fun _ _ _ _ h => h, fun _ _ _ _ h => h, fun _ _ _ _ h => h, fun _ _ _ _ h => h, fun _ _ _ _ h => h, fun _ _ _ _ h => h, trivial⟩
  case g0 => exact SG.mk0
  case os =>
    refine ⟨?_, ?_, ?_, ?_, ?_, ?_, ?_, ?_, ?_, ?_, ?_, ?_, ?_, ?_, ?_, ?_, ?_, ?_, ?_, ?_, ?_, ?_, ?_, ?_, ?_, ?_, ?_, ?_, trivial⟩
    · exact fun ρ X9 fl hg hn hl hp ho hc hf hr => .inl ⟨rfl, Runs.val _ (op_move (show ρ (.tmp 0) = .pointer (some ⟨R, 0, none⟩) from ho 0 rfl)) ⟨(fun r' h1 h2 => hg.same rfl rfl (h1 4 (by decide))), trivial, rfl⟩⟩
    · exact fun ρ X9 fl hg hn hl hp ho hc hf hr => .inl ⟨rfl, Runs.val _ (op_nil (show ρ (.tmp 15) = .pointer (some ⟨R, 0, none⟩) from hr 0 15 rfl rfl)) ⟨(fun r' h1 h2 => hg.same rfl rfl (h1 4 (by decide))), trivial, rfl⟩⟩
    · exact fun ρ X9 fl hg hn hl hp ho hc hf hr => .inl ⟨rfl, Runs.val _ (op_f87_0 (show ρ (.tmp 16) = .pointer (some ⟨R, 0, none⟩) from hr 1 16 rfl rfl)) ⟨(fun r' h1 h2 => hg.same rfl rfl (h1 4 (by decide))), trivial, rfl⟩⟩
    · exact fun ρ X9 fl hg hn hl hp ho hc hf hr => .inl ⟨rfl, Runs.val _ (op_loadAt (show ρ (.tmp 17) = .pointer (some ⟨R, 0, none⟩) from hr 2 17 rfl rfl) (run_loadAt_mid X9 R 0 37 [.int .i64 c.t0, .int .i64 c.t1, .int .i64 c.t2] _ (fun j u hu => by have h9 := cell_on hg.1 ((HX.out.cell (0 + j)).trans (T3.out j u hu)); exact h9) Try.underlying37 rfl size37)) ⟨(fun r' h1 h2 => hg.same rfl rfl (h1 4 (by decide))), trivial, rfl⟩⟩
    · exact fun ρ X9 fl hg hn hl hp ho hc hf hr => .inl ⟨rfl, Runs.val _ (op_move (show ρ (.tmp 0) = .pointer (some ⟨R, 0, none⟩) from ho 0 rfl)) ⟨(fun r' h1 h2 => hg.same rfl rfl (h1 4 (by decide))), trivial, rfl⟩⟩
    · exact fun ρ X9 fl hg hn hl hp ho hc hf hr => .inl ⟨rfl, Runs.val _ (op_nil (show ρ (.tmp 19) = .pointer (some ⟨R, 0, none⟩) from hr 4 19 rfl rfl)) ⟨(fun r' h1 h2 => hg.same rfl rfl (h1 4 (by decide))), trivial, rfl⟩⟩
    · exact fun ρ X9 fl hg hn hl hp ho hc hf hr => .inl ⟨rfl, Runs.val _ (op_f87_1 (show ρ (.tmp 20) = .pointer (some ⟨R, 0, none⟩) from hr 5 20 rfl rfl)) ⟨(fun r' h1 h2 => hg.same rfl rfl (h1 4 (by decide))), trivial, rfl⟩⟩
    · exact fun ρ X9 fl hg hn hl hp ho hc hf hr => .inl ⟨rfl, Runs.val _ (op_load3 (show ρ (.tmp 21) = .pointer (some ⟨R, 3, none⟩) from hr 6 21 rfl rfl) (cell_on hg.1 (HX.out.cell 3))) ⟨(fun r' h1 h2 => hg.same rfl rfl (h1 4 (by decide))), trivial, rfl⟩⟩
    · exact fun ρ X9 fl hg hn hl hp ho hc hf hr => .inl ⟨rfl, Runs.val _ (op_move (show ρ (.tmp 0) = .pointer (some ⟨R, 0, none⟩) from ho 0 rfl)) ⟨(fun r' h1 h2 => hg.same rfl rfl (h1 4 (by decide))), trivial, rfl⟩⟩
    · exact fun ρ X9 fl hg hn hl hp ho hc hf hr => .inl ⟨rfl, Runs.val _ (op_nil (show ρ (.tmp 23) = .pointer (some ⟨R, 0, none⟩) from hr 8 23 rfl rfl)) ⟨(fun r' h1 h2 => hg.same rfl rfl (h1 4 (by decide))), trivial, rfl⟩⟩
    · exact fun ρ X9 fl hg hn hl hp ho hc hf hr => .inl ⟨rfl, Runs.val _ (op_f87_8 (show ρ (.tmp 24) = .pointer (some ⟨R, 0, none⟩) from hr 9 24 rfl rfl)) ⟨(fun r' h1 h2 => hg.same rfl rfl (h1 4 (by decide))), trivial, rfl⟩⟩
    · exact fun ρ X9 fl hg hn hl hp ho hc hf hr => .inl ⟨rfl, Runs.val _ (op_load3 (show ρ (.tmp 25) = .pointer (some ⟨R, 10, none⟩) from hr 10 25 rfl rfl) (cell_on hg.1 (HX.out.cell 10))) ⟨(fun r' h1 h2 => hg.same rfl rfl (h1 4 (by decide))), trivial, rfl⟩⟩
    · exact fun ρ X9 fl hg hn hl hp ho hc hf hr => .inl ⟨rfl, Runs.val _ (op_add3 (show ρ (.tmp 26) = .int .i64 0 from hr 11 26 rfl rfl) (hc _) (by rfl) (by omega) (by omega)) ⟨(fun r' h1 h2 => hg.same rfl rfl (h1 4 (by decide))), trivial, rfl⟩⟩
    · exact fun ρ X9 fl hg hn hl hp ho hc hf hr => .inl ⟨rfl, Runs.val _ (op_move (show ρ (.tmp 0) = .pointer (some ⟨R, 0, none⟩) from ho 0 rfl)) ⟨(fun r' h1 h2 => hg.same rfl rfl (h1 4 (by decide))), trivial, rfl⟩⟩
    · exact fun ρ X9 fl hg hn hl hp ho hc hf hr => .inl ⟨rfl, Runs.val _ (op_nil (show ρ (.tmp 28) = .pointer (some ⟨R, 0, none⟩) from hr 13 28 rfl rfl)) ⟨(fun r' h1 h2 => hg.same rfl rfl (h1 4 (by decide))), trivial, rfl⟩⟩
    · exact fun ρ X9 fl hg hn hl hp ho hc hf hr => .inl ⟨rfl, Runs.val _ (op_f87_4 (show ρ (.tmp 29) = .pointer (some ⟨R, 0, none⟩) from hr 14 29 rfl rfl)) ⟨(fun r' h1 h2 => hg.same rfl rfl (h1 4 (by decide))), trivial, rfl⟩⟩
    · exact fun ρ X9 fl hg hn hl hp ho hc hf hr => .inl ⟨rfl, Runs.val _ (op_load3 (show ρ (.tmp 30) = .pointer (some ⟨R, 6, none⟩) from hr 15 30 rfl rfl) (cell_on hg.1 (HX.out.cell 6))) ⟨(fun r' h1 h2 => hg.same rfl rfl (h1 4 (by decide))), trivial, rfl⟩⟩
    · exact fun ρ X9 fl hg hn hl hp ho hc hf hr => .inl ⟨rfl, Runs.val _ (op_move (show ρ (.tmp 0) = .pointer (some ⟨R, 0, none⟩) from ho 0 rfl)) ⟨(fun r' h1 h2 => hg.same rfl rfl (h1 4 (by decide))), trivial, rfl⟩⟩
    · exact fun ρ X9 fl hg hn hl hp ho hc hf hr => .inl ⟨rfl, Runs.val _ (op_nil (show ρ (.tmp 32) = .pointer (some ⟨R, 0, none⟩) from hr 17 32 rfl rfl)) ⟨(fun r' h1 h2 => hg.same rfl rfl (h1 4 (by decide))), trivial, rfl⟩⟩
    · exact fun ρ X9 fl hg hn hl hp ho hc hf hr => .inl ⟨rfl, Runs.val _ (op_f87_3 (show ρ (.tmp 33) = .pointer (some ⟨R, 0, none⟩) from hr 18 33 rfl rfl)) ⟨(fun r' h1 h2 => hg.same rfl rfl (h1 4 (by decide))), trivial, rfl⟩⟩
    · exact fun ρ X9 fl hg hn hl hp ho hc hf hr => .inl ⟨rfl, Runs.val _ (op_load3 (show ρ (.tmp 34) = .pointer (some ⟨R, 5, none⟩) from hr 19 34 rfl rfl) (cell_on hg.1 (HX.out.cell 5))) ⟨(fun r' h1 h2 => hg.same rfl rfl (h1 4 (by decide))), trivial, rfl⟩⟩
    · exact fun ρ X9 fl hg hn hl hp ho hc hf hr => .inl ⟨rfl, Runs.val _ (op_move (show ρ (.tmp 0) = .pointer (some ⟨R, 0, none⟩) from ho 0 rfl)) ⟨(fun r' h1 h2 => hg.same rfl rfl (h1 4 (by decide))), trivial, rfl⟩⟩
    · exact fun ρ X9 fl hg hn hl hp ho hc hf hr => .inl ⟨rfl, Runs.val _ (op_nil (show ρ (.tmp 36) = .pointer (some ⟨R, 0, none⟩) from hr 21 36 rfl rfl)) ⟨(fun r' h1 h2 => hg.same rfl rfl (h1 4 (by decide))), trivial, rfl⟩⟩
    · exact fun ρ X9 fl hg hn hl hp ho hc hf hr => .inl ⟨rfl, Runs.val _ (op_f87_2 (show ρ (.tmp 37) = .pointer (some ⟨R, 0, none⟩) from hr 22 37 rfl rfl)) ⟨(fun r' h1 h2 => hg.same rfl rfl (h1 4 (by decide))), trivial, rfl⟩⟩
    · exact fun ρ X9 fl hg hn hl hp ho hc hf hr => .inl ⟨rfl, Runs.val _ (op_load3 (show ρ (.tmp 38) = .pointer (some ⟨R, 4, none⟩) from hr 23 38 rfl rfl) (cell_on hg.1 (HX.out.cell 4))) ⟨(fun r' h1 h2 => hg.same rfl rfl (h1 4 (by decide))), trivial, rfl⟩⟩
    · exact fun ρ X9 fl hg hn hl hp ho hc hf hr => .inl ⟨rfl, Runs.val _ (op_b76c2 (hc _) (show ρ (.tmp 18) = .agg #[.int .i64 c.t0, .int .i64 c.t1, .int .i64 c.t2] from hr 3 18 rfl rfl) (show ρ (.tmp 22) = .int .i64 c.home from hr 7 22 rfl rfl) (show ρ (.tmp 27) = .int .i64 1 from hr 12 27 rfl rfl) (show ρ (.tmp 31) = .int .i64 0 from hr 16 31 rfl rfl) (show ρ (.tmp 35) = .int .i64 0 from hr 20 35 rfl rfl) (show ρ (.tmp 39) = .int .i64 0 from hr 24 39 rfl rfl)) ⟨(fun r' h1 h2 => hg.same rfl rfl (h1 4 (by decide))), trivial, rfl⟩⟩
    · intro ρ X9 fl hg hn hl hp ho hc hf hr
      refine .inl ⟨rfl, Runs.val _ op_alloc76 ⟨(fun r' h1 h2 => ?_), trivial, trivial⟩⟩
      have ns : fl 27 = false := by
        cases h9 : fl 27 with
        | false => rfl
        | true => exact absurd (hl 27 _ 26 rfl rfl h9) (by rw [hn]; decide)
      show SG w (cmA ⟨0, 2, c.t0, c.t1, c.t2, c.home, .nil, .nil, 1, 0, 0, 0, 0⟩) true (fl 27) (r' 4) _
      rw [ns]
      exact SG.put hg (h2 4 rfl)
    · intro ρ X9 fl hg hn hl hp ho hc hf hr
      have ya : fl 26 = true := hp 26 rfl
      have hG : SG w (cmA ⟨0, 2, c.t0, c.t1, c.t2, c.home, .nil, .nil, 1, 0, 0, 0, 0⟩) (fl 26) (fl 27) (ρ (.tmp 4)) X9 := hg
      rw [ya, show fl 27 = false from hn] at hG
      obtain ⟨b9, X', e9, hst, hG2⟩ := hG.fill rfl (by simp [Value.oneCell'])
      refine .inl ⟨rfl, Runs.skips (op_storeAt e9 (show ρ (.tmp 40) = .agg (cmA ⟨0, 2, c.t0, c.t1, c.t2, c.home, .nil, .nil, 1, 0, 0, 0, 0⟩) from hr 25 40 rfl rfl) hst) ⟨(fun r' h1 h2 => ?_), trivial, trivial⟩⟩
      show SG w (cmA ⟨0, 2, c.t0, c.t1, c.t2, c.home, .nil, .nil, 1, 0, 0, 0, 0⟩) (fl 26) true (r' 4) X'
      rw [ya, h1 4 (by intro q; cases q)]
      exact hG2
  case en =>
    intro a9 w6 fl hfl hG9 hs9 hd9 ho9 hr9
    obtain ⟨x9, hx, hxt⟩ := act_put hs9 hd9 ho9
    obtain ⟨hbw, q9⟩ := (show SG w (cmA ⟨0, 2, c.t0, c.t1, c.t2, c.home, .nil, .nil, 1, 0, 0, 0, 0⟩) (fl 26) (fl 27) (a9.tmps.getD 4 undef) w6 from hG9)
    obtain ⟨Bx, e4, hlb, jB⟩ := q9 (hfl 26 (by decide))
    rw [hfl 27 (by decide)] at jB
    have xk4 : x9 4 = .pointer (some ⟨Bx, 0, none⟩) := (hxt 4).symm.trans e4
    clear hfl hG9 hs9 hd9 ho9 hr9
    change a9 = putAll _ x9 [15, 16, 17, 18, 19, 20, 21, 22, 23, 24, 25, 26, 27, 28, 29, 30, 31, 32, 33, 34, 35, 36, 37, 38, 39, 40, 4] at hx
    simp only [putAll, Act.put, List.setIfInBounds_toArray, List.set_cons_zero, List.set_cons_succ, xk4] at hx
    subst hx
    clear hxt xk4 e4
    generalize x9 15 = z15, x9 16 = z16, x9 17 = z17, x9 18 = z18, x9 19 = z19, x9 20 = z20, x9 21 = z21, x9 22 = z22, x9 23 = z23, x9 24 = z24, x9 25 = z25, x9 26 = z26, x9 27 = z27, x9 28 = z28, x9 29 = z29, x9 30 = z30, x9 31 = z31, x9 32 = z32, x9 33 = z33, x9 34 = z34, x9 35 = z35, x9 36 = z36, x9 37 = z37, x9 38 = z38, x9 39 = z39, x9 40 = z40
    have HB6 := Lib.hid hbw
    have HJB := Lib.hid jB
    have HLB := Lib.hid hlb
    have HX6 := Lib.hid (HX.out.on hbw)
    have HNB : Hid (R ≠ Bx) := Lib.hid (fun q => by have := blk_lt HX.out.blk; omega)
    have HNP : Hid (b ≠ Bx) := Lib.hid (fun q => by have := blk_lt HX.out.part; omega)
    have l7 : w6.cell? ⟨R, 7, none⟩ = some (.bool true) := HX6.out.cell 7
    clear hbw jB hlb
    go_upto_region 4 with fail
    clear l7
    refine wp_region_fb (fun fl X9 => Fr w6 X9 (fun k => k = Bx) ∧ X9.heap[Bx]? = some (.cells (cond (fl 9) (cmA ((c.dl s).cmd c.home 3)) (cmA ⟨0, 2, c.t0, c.t1, c.t2, c.home, .nil, .nil, 1, 0, 0, 0, 0⟩)) 76 (0, 0))) (fun _ _ => True) [
      fun v9 _ => v9 = .pointer (some ⟨R, 0, none⟩),
      fun v9 _ => v9 = .pointer (some ⟨R, 0, none⟩),
      fun v9 _ => v9 = .pointer (some ⟨R, 0, none⟩),
      fun v9 _ => v9 = .agg #[.int .i64 c.t0, .int .i64 c.t1, .int .i64 c.t2],
      fun v9 _ => v9 = .pointer (some ⟨R, 0, none⟩),
      fun v9 _ => v9 = .pointer (some ⟨R, 0, none⟩),
      fun v9 _ => v9 = .pointer (some ⟨R, 3, none⟩),
      fun v9 _ => v9 = .int .i64 c.home,
      fun v9 _ => v9 = .agg (cmA ((c.dl s).cmd c.home 3)),
      fun _ _ => True]
      (by kernel_rfl) (by kernel_rfl) (by kernel_rfl) ?st ?g0 ?os ?en
    case st => exact ⟨fun _ _ _ _ h => h, fun _ _ _ _ h => h, fun _ _ _ _ h => h, fun _ _ _ _ h => h, fun _ _ _ _ h => h, fun _ _ _ _ h => h, fun _ _ _ _ h => h, fun _ _ _ _ h => h, fun _ _ _ _ h => h, fun _ _ _ _ h => h, trivial⟩
    case g0 => exact ⟨Fr.ofBelow _ ⟨rfl, rfl, rfl, Nat.le_refl _, fun _ _ => rfl⟩, HJB.out⟩
    case os =>
      refine ⟨?_, ?_, ?_, ?_, ?_, ?_, ?_, ?_, ?_, ?_, trivial⟩
      · exact fun ρ X9 fl hg hn hl hp ho hc hf hr => .inl ⟨rfl, Runs.val _ (op_move (show ρ (.tmp 0) = .pointer (some ⟨R, 0, none⟩) from ho 0 rfl)) ⟨hg, trivial, rfl⟩⟩
      · exact fun ρ X9 fl hg hn hl hp ho hc hf hr => .inl ⟨rfl, Runs.val _ (op_nil (show ρ (.tmp 45) = .pointer (some ⟨R, 0, none⟩) from hr 0 45 rfl rfl)) ⟨hg, trivial, rfl⟩⟩
      · exact fun ρ X9 fl hg hn hl hp ho hc hf hr => .inl ⟨rfl, Runs.val _ (op_f87_0 (show ρ (.tmp 46) = .pointer (some ⟨R, 0, none⟩) from hr 1 46 rfl rfl)) ⟨hg, trivial, rfl⟩⟩
      · exact fun ρ X9 fl hg hn hl hp ho hc hf hr => .inl ⟨rfl, Runs.val _ (op_loadAt (show ρ (.tmp 47) = .pointer (some ⟨R, 0, none⟩) from hr 2 47 rfl rfl) (run_loadAt_mid X9 R 0 37 [.int .i64 c.t0, .int .i64 c.t1, .int .i64 c.t2] _ (fun j u hu => by have h9 := fr_cell hg.1 ((HX6.out.cell (0 + j)).trans (T3.out j u hu)) HNB.out; exact h9) Try.underlying37 rfl size37)) ⟨hg, trivial, rfl⟩⟩
      · exact fun ρ X9 fl hg hn hl hp ho hc hf hr => .inl ⟨rfl, Runs.val _ (op_move (show ρ (.tmp 0) = .pointer (some ⟨R, 0, none⟩) from ho 0 rfl)) ⟨hg, trivial, rfl⟩⟩
      · exact fun ρ X9 fl hg hn hl hp ho hc hf hr => .inl ⟨rfl, Runs.val _ (op_nil (show ρ (.tmp 49) = .pointer (some ⟨R, 0, none⟩) from hr 4 49 rfl rfl)) ⟨hg, trivial, rfl⟩⟩
      · exact fun ρ X9 fl hg hn hl hp ho hc hf hr => .inl ⟨rfl, Runs.val _ (op_f87_1 (show ρ (.tmp 50) = .pointer (some ⟨R, 0, none⟩) from hr 5 50 rfl rfl)) ⟨hg, trivial, rfl⟩⟩
      · exact fun ρ X9 fl hg hn hl hp ho hc hf hr => .inl ⟨rfl, Runs.val _ (op_load3 (show ρ (.tmp 51) = .pointer (some ⟨R, 3, none⟩) from hr 6 51 rfl rfl) (fr_cell hg.1 (HX6.out.cell 3) HNB.out)) ⟨hg, trivial, rfl⟩⟩
      · exact fun ρ X9 fl hg hn hl hp ho hc hf hr => .inl ⟨rfl, Runs.val _ (op_b76 (d := c.dl s) (hc _) (show ρ (.tmp 48) = .agg #[.int .i64 c.t0, .int .i64 c.t1, .int .i64 c.t2] from hr 3 48 rfl rfl) (show ρ (.tmp 52) = .int .i64 c.home from hr 7 52 rfl rfl)) ⟨hg, trivial, rfl⟩⟩
      · intro ρ X9 fl hg hn hl hp ho hc hf hr
        have hG : Fr w6 X9 (fun k => k = Bx) ∧ X9.heap[Bx]? = some (.cells (cond (fl 9) (cmA ((c.dl s).cmd c.home 3)) (cmA ⟨0, 2, c.t0, c.t1, c.t2, c.home, .nil, .nil, 1, 0, 0, 0, 0⟩)) 76 (0, 0)) := hg
        rw [show fl 9 = false from hn] at hG
        obtain ⟨V2, e2, k2, f2⟩ := st_row hG.2 (us := (cmA ((c.dl s).cmd c.home 3))) rfl size76 (by simp [Value.oneCell'])
        exact .inl ⟨rfl, Runs.skips (op_storeAt (show ρ (.tmp 4) = .pointer (some ⟨Bx, 0, none⟩) from ho 4 rfl) (show ρ (.tmp 53) = .agg (cmA ((c.dl s).cmd c.home 3)) from hr 8 53 rfl rfl) e2) ⟨⟨hG.1.trans f2, k2⟩, trivial, trivial⟩⟩
    case en =>
      intro a9 w7 fl hfl hG9 hs9 hd9 ho9 hr9
      obtain ⟨x9, hx, hxt⟩ := act_put hs9 hd9 ho9
      change a9 = putAll _ x9 [45, 46, 47, 48, 49, 50, 51, 52, 53] at hx
      simp only [putAll, Act.put, List.setIfInBounds_toArray, List.set_cons_zero, List.set_cons_succ] at hx
      subst hx
      clear hs9 hd9 ho9 hr9 hxt 
      generalize x9 45 = z45, x9 46 = z46, x9 47 = z47, x9 48 = z48, x9 49 = z49, x9 50 = z50, x9 51 = z51, x9 52 = z52, x9 53 = z53
      have hG : Fr w6 w7 (fun k => k = Bx) ∧ w7.heap[Bx]? = some (.cells (cmA ((c.dl s).cmd c.home 3)) 76 (0, 0)) := by
        have h9 := hG9
        rw [hfl 9 (by decide)] at h9
        exact h9
      clear hfl hG9
      have HK7 := Lib.hid hG.2
      have HX7 : Hid (Rx w7 R b c s dn) := Lib.hid ⟨(hG.1.block _ (blk_lt HX6.out.blk) HNB.out).trans HX6.out.blk, (hG.1.block _ (blk_lt HX6.out.part) HNP.out).trans HX6.out.part⟩
      have HB7 := Lib.hid (below_put HB6.out (Nat.le_refl _) hG.1 HLB.out)
      clear hG
      go_upto_region 5 with fail
      refine wp_region_fb (fun _ X9 => Below w7.heap.size w7 X9) (fun X9 X8 => Below X9.heap.size X9 X8) [
        fun v9 _ => v9 = .pointer (some ⟨R, 0, none⟩),
        fun v9 _ => v9 = .pointer (some ⟨R, 0, none⟩),
        fun v9 _ => v9 = .pointer (some ⟨R, 3, none⟩),
        fun v9 _ => v9 = .int .i64 c.home,
        fun v9 X9 => ∃ F, v9 = .slice (some ⟨F, 0, none⟩) 1 1 ∧ w7.heap.size ≤ F ∧ X9.heap[F]? = some (.cells #[.int .i64 c.home] 3 (0, 0)),
        fun v9 _ => v9 = .agg (cmA ((c.dl s).cmd c.home 3)),
        fun v9 X9 => ∃ F, v9 = .slice (some ⟨F, 0, none⟩) 1 1 ∧ w7.heap.size ≤ F ∧ X9.heap[F]? = some (.cells (cmA ((c.dl s).cmd c.home 3)) 76 (0, 0)),
        fun v9 X9 => ∃ F, v9 = .slice (some ⟨F, 0, none⟩) 1 1 ∧ w7.heap.size ≤ F ∧ X9.heap[F]? = some (.cells #[.int .i64 c.home] 3 (0, 0)),
        fun v9 X9 => ∃ F, v9 = .slice (some ⟨F, 0, none⟩) 1 1 ∧ w7.heap.size ≤ F ∧ X9.heap[F]? = some (.cells (cmA ((c.dl s).cmd c.home 3)) 76 (0, 0))]
        (by kernel_rfl) (by kernel_rfl) (by kernel_rfl) ?st ?g0 ?os ?en
      case st => exact ⟨fun _ _ _ _ h => h, fun _ _ _ _ h => h, fun _ _ _ _ h => h, fun _ _ _ _ h => h, (fun _ _ _ hb h => by obtain ⟨F, e9, h1, h2⟩ := h; exact ⟨F, e9, h1, (hb.block F (blk_lt h2)).trans h2⟩), fun _ _ _ _ h => h, (fun _ _ _ hb h => by obtain ⟨F, e9, h1, h2⟩ := h; exact ⟨F, e9, h1, (hb.block F (blk_lt h2)).trans h2⟩), (fun _ _ _ hb h => by obtain ⟨F, e9, h1, h2⟩ := h; exact ⟨F, e9, h1, (hb.block F (blk_lt h2)).trans h2⟩), (fun _ _ _ hb h => by obtain ⟨F, e9, h1, h2⟩ := h; exact ⟨F, e9, h1, (hb.block F (blk_lt h2)).trans h2⟩), trivial⟩
      case g0 => exact ⟨rfl, rfl, rfl, Nat.le_refl _, fun _ _ => rfl⟩
      case os =>
        refine ⟨?_, ?_, ?_, ?_, ?_, ?_, ?_, ?_, ?_, trivial⟩
        · exact fun ρ X9 fl hg hn hl hp ho hc hf hr => .inl ⟨rfl, Runs.val _ (op_move (show ρ (.tmp 0) = .pointer (some ⟨R, 0, none⟩) from ho 0 rfl)) ⟨hg, Below.refl _ _, rfl⟩⟩
        · exact fun ρ X9 fl hg hn hl hp ho hc hf hr => .inl ⟨rfl, Runs.val _ (op_nil (show ρ (.tmp 54) = .pointer (some ⟨R, 0, none⟩) from hr 0 54 rfl rfl)) ⟨hg, Below.refl _ _, rfl⟩⟩
        · exact fun ρ X9 fl hg hn hl hp ho hc hf hr => .inl ⟨rfl, Runs.val _ (op_f87_1 (show ρ (.tmp 55) = .pointer (some ⟨R, 0, none⟩) from hr 1 55 rfl rfl)) ⟨hg, Below.refl _ _, rfl⟩⟩
        · exact fun ρ X9 fl hg hn hl hp ho hc hf hr => .inl ⟨rfl, Runs.val _ (op_load3 (show ρ (.tmp 56) = .pointer (some ⟨R, 3, none⟩) from hr 2 56 rfl rfl) (cell_on hg (HX7.out.cell 3))) ⟨hg, Below.refl _ _, rfl⟩⟩
        · intro ρ X9 fl hg hn hl hp ho hc hf hr
          exact .inl ⟨rfl, Runs.val _ (op_s116 (show ρ (.tmp 57) = .int .i64 c.home from hr 3 57 rfl rfl)) ⟨bgo hg (bnew _ _), bnew _ _, X9.heap.size, rfl, hg.size, heap_alloc_new _ _⟩⟩
        · exact fun ρ X9 fl hg hn hl hp ho hc hf hr => .inl ⟨rfl, Runs.val _ (op_loadAt (show ρ (.tmp 4) = .pointer (some ⟨Bx, 0, none⟩) from ho 4 rfl) (load_row ((hg.block _ (blk_lt HK7.out)).trans HK7.out) Try.underlying76 rfl size76)) ⟨hg, Below.refl _ _, rfl⟩⟩
        · intro ρ X9 fl hg hn hl hp ho hc hf hr
          exact .inl ⟨rfl, Runs.val _ (op_s117 (show ρ (.tmp 59) = .agg (cmA ((c.dl s).cmd c.home 3)) from hr 5 59 rfl rfl)) ⟨bgo hg (bnew _ _), bnew _ _, X9.heap.size, rfl, hg.size, heap_alloc_new _ _⟩⟩
        · intro ρ X9 fl hg hn hl hp ho hc hf hr
          exact .inl ⟨rfl, Runs.val _ (op_assign rfl) ⟨hg, Below.refl _ _, (show ∃ F, ρ (.tmp 58) = .slice (some ⟨F, 0, none⟩) 1 1 ∧ w7.heap.size ≤ F ∧ X9.heap[F]? = some (.cells #[.int .i64 c.home] 3 (0, 0)) from hr 4 58 rfl rfl)⟩⟩
        · intro ρ X9 fl hg hn hl hp ho hc hf hr
          exact .inl ⟨rfl, Runs.val _ (op_assign rfl) ⟨hg, Below.refl _ _, (show ∃ F, ρ (.tmp 60) = .slice (some ⟨F, 0, none⟩) 1 1 ∧ w7.heap.size ≤ F ∧ X9.heap[F]? = some (.cells (cmA ((c.dl s).cmd c.home 3)) 76 (0, 0)) from hr 6 60 rfl rfl)⟩⟩
      case en =>
        intro a9 w8 fl hfl hG9 hs9 hd9 ho9 hr9
        obtain ⟨x9, hx, hxt⟩ := act_put hs9 hd9 ho9
        obtain ⟨F, q2, h1, h2⟩ := hr9 7 2 rfl
        have xk2 : x9 2 = .slice (some ⟨F, 0, none⟩) 1 1 := (hxt 2).symm.trans q2
        obtain ⟨F2, q3, k1, k2⟩ := hr9 8 3 rfl
        have xk3 : x9 3 = .slice (some ⟨F2, 0, none⟩) 1 1 := (hxt 3).symm.trans q3
        change a9 = putAll _ x9 [54, 55, 56, 57, 58, 59, 60, 2, 3] at hx
        simp only [putAll, Act.put, List.setIfInBounds_toArray, List.set_cons_zero, List.set_cons_succ, xk2, xk3] at hx
        subst hx
        clear hs9 hd9 ho9 hr9 hxt hfl xk2 xk3 q2 q3
        generalize x9 54 = z54, x9 55 = z55, x9 56 = z56, x9 57 = z57, x9 58 = z58, x9 59 = z59, x9 60 = z60
        have HE := Lib.hid (And.intro (bgo HB7.out hG9) (And.intro (one_row (w := w) h2 (Nat.le_trans HB7.out.size h1) rfl) (one_row (w := w) k2 (Nat.le_trans HB7.out.size k1) rfl)))
        clear hG9 h1 h2 k1 k2
        go_wp2
        refine bodyPost_ret (v := .tuple #[.slice (some ⟨F, 0, none⟩) 1 1, .slice (some ⟨F2, 0, none⟩) 1 1]) (by simp [results, Try.results47, go_sem]) rfl ?_
        exact ⟨_, _, _, _, rfl, HE.out.2.1, HE.out.2.2, HE.out.1⟩
end
end Go.Proofs.Ytfokgalgdlajlaa
