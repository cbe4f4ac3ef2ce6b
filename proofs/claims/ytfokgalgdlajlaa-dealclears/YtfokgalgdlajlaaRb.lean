/- The document's text of a command. -/
import Derived.Test.YtfokgalgdlajlaaRa
namespace Go.Proofs.Ytfokgalgdlajlaa
open Go.RowKit
section
variable {ρ : Operand → Value} {X : World} {d : Option Tmp} {ty : TypeId} {ps : String} {af : Array Edge} {g : Option (Nat × Bool)}
theorem op_f74_0 {x : Operand} {B o : Nat} (e : ρ x = .pointer (some ⟨B, o, none⟩)) : (execOp ρ ⟨d, .fieldAddr 74 x 0, ty, ps, af, g⟩).run Try.prog X = .ok (.value (.pointer (some ⟨B, o, none⟩))) X := by
  simp only [execOp, e]
  go_simp
theorem op_f74_1 {x : Operand} {B o : Nat} (e : ρ x = .pointer (some ⟨B, o, none⟩)) : (execOp ρ ⟨d, .fieldAddr 74 x 1, ty, ps, af, g⟩).run Try.prog X = .ok (.value (.pointer (some ⟨B, o + 1, none⟩))) X := by
  simp only [execOp, e]
  go_simp
theorem op_f74_2 {x : Operand} {B o : Nat} (e : ρ x = .pointer (some ⟨B, o, none⟩)) : (execOp ρ ⟨d, .fieldAddr 74 x 2, ty, ps, af, g⟩).run Try.prog X = .ok (.value (.pointer (some ⟨B, o + 2, none⟩))) X := by
  simp only [execOp, e]
  go_simp
theorem op_f74_3 {x : Operand} {B o : Nat} (e : ρ x = .pointer (some ⟨B, o, none⟩)) : (execOp ρ ⟨d, .fieldAddr 74 x 3, ty, ps, af, g⟩).run Try.prog X = .ok (.value (.pointer (some ⟨B, o + 3, none⟩))) X := by
  simp only [execOp, e]
  go_simp
theorem op_f74_4 {x : Operand} {B o : Nat} (e : ρ x = .pointer (some ⟨B, o, none⟩)) : (execOp ρ ⟨d, .fieldAddr 74 x 4, ty, ps, af, g⟩).run Try.prog X = .ok (.value (.pointer (some ⟨B, o + 4, none⟩))) X := by
  simp only [execOp, e]
  go_simp
theorem op_f74_5 {x : Operand} {B o : Nat} (e : ρ x = .pointer (some ⟨B, o, none⟩)) : (execOp ρ ⟨d, .fieldAddr 74 x 5, ty, ps, af, g⟩).run Try.prog X = .ok (.value (.pointer (some ⟨B, o + 5, none⟩))) X := by
  simp only [execOp, e]
  go_simp
theorem op_f74_6 {x : Operand} {B o : Nat} (e : ρ x = .pointer (some ⟨B, o, none⟩)) : (execOp ρ ⟨d, .fieldAddr 74 x 6, ty, ps, af, g⟩).run Try.prog X = .ok (.value (.pointer (some ⟨B, o + 6, none⟩))) X := by
  simp only [execOp, e]
  go_simp
theorem op_f74_7 {x : Operand} {B o : Nat} (e : ρ x = .pointer (some ⟨B, o, none⟩)) : (execOp ρ ⟨d, .fieldAddr 74 x 7, ty, ps, af, g⟩).run Try.prog X = .ok (.value (.pointer (some ⟨B, o + 7, none⟩))) X := by
  simp only [execOp, e]
  go_simp
theorem op_f74_8 {x : Operand} {B o : Nat} (e : ρ x = .pointer (some ⟨B, o, none⟩)) : (execOp ρ ⟨d, .fieldAddr 74 x 8, ty, ps, af, g⟩).run Try.prog X = .ok (.value (.pointer (some ⟨B, o + 10, none⟩))) X := by
  simp only [execOp, e]
  go_simp
theorem op_f71_0 {x : Operand} {B o : Nat} (e : ρ x = .pointer (some ⟨B, o, none⟩)) : (execOp ρ ⟨d, .fieldAddr 71 x 0, ty, ps, af, g⟩).run Try.prog X = .ok (.value (.pointer (some ⟨B, o, none⟩))) X := by
  simp only [execOp, e]
  go_simp
theorem op_f71_1 {x : Operand} {B o : Nat} (e : ρ x = .pointer (some ⟨B, o, none⟩)) : (execOp ρ ⟨d, .fieldAddr 71 x 1, ty, ps, af, g⟩).run Try.prog X = .ok (.value (.pointer (some ⟨B, o + 1, none⟩))) X := by
  simp only [execOp, e]
  go_simp
theorem op_f71_2 {x : Operand} {B o : Nat} (e : ρ x = .pointer (some ⟨B, o, none⟩)) : (execOp ρ ⟨d, .fieldAddr 71 x 2, ty, ps, af, g⟩).run Try.prog X = .ok (.value (.pointer (some ⟨B, o + 2, none⟩))) X := by
  simp only [execOp, e]
  go_simp
theorem op_f37_0 {x : Operand} {B o : Nat} (e : ρ x = .pointer (some ⟨B, o, none⟩)) : (execOp ρ ⟨d, .fieldAddr 37 x 0, ty, ps, af, g⟩).run Try.prog X = .ok (.value (.pointer (some ⟨B, o, none⟩))) X := by
  simp only [execOp, e]
  go_simp
theorem op_f37_1 {x : Operand} {B o : Nat} (e : ρ x = .pointer (some ⟨B, o, none⟩)) : (execOp ρ ⟨d, .fieldAddr 37 x 1, ty, ps, af, g⟩).run Try.prog X = .ok (.value (.pointer (some ⟨B, o + 1, none⟩))) X := by
  simp only [execOp, e]
  go_simp
theorem op_f37_2 {x : Operand} {B o : Nat} (e : ρ x = .pointer (some ⟨B, o, none⟩)) : (execOp ρ ⟨d, .fieldAddr 37 x 2, ty, ps, af, g⟩).run Try.prog X = .ok (.value (.pointer (some ⟨B, o + 2, none⟩))) X := by
  simp only [execOp, e]
  go_simp
theorem op_load72 {x : Operand} {B i : Nat} {a : Option Addr} {n m : Nat} (e : ρ x = .pointer (some ⟨B, i, none⟩)) (y : X.cell? ⟨B, i, none⟩ = some (.slice a n m)) : (execOp ρ ⟨d, .load 72 x, ty, ps, af, g⟩).run Try.prog X = .ok (.value (.slice a n m)) X := by
  simp only [execOp, e]
  go_simp
theorem op_load2 {x : Operand} {B i : Nat} {n : Int} (e : ρ x = .pointer (some ⟨B, i, none⟩)) (y : X.cell? ⟨B, i, none⟩ = some (.int .i64 n)) : (execOp ρ ⟨d, .load 2 x, ty, ps, af, g⟩).run Try.prog X = .ok (.value (.int .i64 n)) X := by
  simp only [execOp, e]
  go_simp
theorem op_cat0 {x y : Operand} {a b : ByteArray} (e : ρ x = .string a) (e2 : ρ y = .string b) (h : ¬ 9223372036854775807 < a.size + b.size) : (execOp ρ ⟨d, .binOp .add 9 x y 9, ty, ps, af, g⟩).run Try.prog X = .ok (.value (.string (a ++ b))) X := by
  simp only [execOp, e, e2]
  go_simp
theorem op_ints2 {x0 x1 : Operand} {n0 n1 : Int} (e0 : ρ x0 = .int .i64 n0) (e1 : ρ x1 = .int .i64 n1) : (execOp ρ ⟨d, .buildSlice 116 2 #[(0, x0), (1, x1)], ty, ps, af, g⟩).run Try.prog X = .ok (.value (.slice (some ⟨X.heap.size, 0, none⟩) 2 2)) (X.alloc (.cells #[.int .i64 n0, .int .i64 n1] 3)) := by
  simp only [execOp]
  simp [e0, e1]
  go_simp
theorem op_ints3 {x0 x1 x2 : Operand} {n0 n1 n2 : Int} (e0 : ρ x0 = .int .i64 n0) (e1 : ρ x1 = .int .i64 n1) (e2 : ρ x2 = .int .i64 n2) : (execOp ρ ⟨d, .buildSlice 116 3 #[(0, x0), (1, x1), (2, x2)], ty, ps, af, g⟩).run Try.prog X = .ok (.value (.slice (some ⟨X.heap.size, 0, none⟩) 3 3)) (X.alloc (.cells #[.int .i64 n0, .int .i64 n1, .int .i64 n2] 3)) := by
  simp only [execOp]
  simp [e0, e1, e2]
  go_simp
theorem op_ints5 {x0 x1 x2 x3 x4 : Operand} {n0 n1 n2 n3 n4 : Int} (e0 : ρ x0 = .int .i64 n0) (e1 : ρ x1 = .int .i64 n1) (e2 : ρ x2 = .int .i64 n2) (e3 : ρ x3 = .int .i64 n3) (e4 : ρ x4 = .int .i64 n4) : (execOp ρ ⟨d, .buildSlice 116 5 #[(0, x0), (1, x1), (2, x2), (3, x3), (4, x4)], ty, ps, af, g⟩).run Try.prog X = .ok (.value (.slice (some ⟨X.heap.size, 0, none⟩) 5 5)) (X.alloc (.cells #[.int .i64 n0, .int .i64 n1, .int .i64 n2, .int .i64 n3, .int .i64 n4] 3)) := by
  simp only [execOp]
  simp [e0, e1, e2, e3, e4]
  go_simp
end
theorem size71 : (Try.prog.info? 71).map (·.size) = some 3 := by kernel_rfl
theorem size74 : (Try.prog.info? 74).map (·.size) = some 11 := by kernel_rfl
/-- A call that answers one text, wherever it is asked. -/
def Tells (F : FuncId) (a : Array Value) (s : ByteArray) : Prop := ∀ X : World, Calls Try.prog F a X fun e w' => e = .returned (.string s) ∧ Below X.heap.size X w'
theorem tells_num {n : Int} (h : I64 n) : Tells 64 #[.int .i64 n] (txt (num n)) := fun X => num_ref n X h
theorem tells_0 : Tells 64 #[.int .i64 0] (txt (num 0)) := tells_num (by unfold I64; omega)
theorem num_sz (n : Int) : (txt (num n)).size ≤ 1000 := Nat.le_trans (num_len n) (by decide)
theorem tells_text : Tells 70 #[.string ⟨#[]⟩] (txt (textL ⟨#[]⟩)) := fun X => text_ref ⟨#[]⟩ X (by decide)
theorem tells_flag : Tells 79 #[.bool false] (txt (flagL false)) := fun X => flag_ref false X
set_option maxHeartbeats 8000000 in
set_option maxRecDepth 100000 in
theorem rds_none (ad : Option Addr) (cp : Nat) : Tells 66 #[.slice ad 0 cp] (txt (num 0)) := fun w => by
  have HT := Lib.hid (tells_0 w)
  go_enter Try.func66, Try.ntmps66
  go_wp2_with fail
  refine HT.out.mono ?_
  rintro e w1 ⟨rfl, b1⟩
  have HB := Lib.hid b1
  clear b1 HT
  go_wp2
  go_loopw [3, 4] (fun ov iv wr => ov = .string (txt (num 0)) ∧ iv = .int .i64 0 ∧ wr = w1) (fun _ _ _ => 0)
  case atStart => exact ⟨rfl, rfl, rfl⟩
  case round =>
    obtain ⟨rfl, rfl, rfl⟩ := hrel
    go_wp2
    refine bodyPost_ret (v := .string (txt (num 0))) (by simp [results, Try.results66, go_sem]) rfl ?_
    exact ⟨rfl, HB.out⟩
set_option maxHeartbeats 8000000 in
set_option maxRecDepth 100000 in
theorem wrs_none (ad : Option Addr) (cp : Nat) : Tells 67 #[.slice ad 0 cp] (txt (num 0)) := fun w => by
  have HT := Lib.hid (tells_0 w)
  go_enter Try.func67, Try.ntmps67
  go_wp2_with fail
  refine HT.out.mono ?_
  rintro e w1 ⟨rfl, b1⟩
  have HB := Lib.hid b1
  clear b1 HT
  go_wp2
  go_loopw [3, 4] (fun ov iv wr => ov = .string (txt (num 0)) ∧ iv = .int .i64 0 ∧ wr = w1) (fun _ _ _ => 0)
  case atStart => exact ⟨rfl, rfl, rfl⟩
  case round =>
    obtain ⟨rfl, rfl, rfl⟩ := hrel
    go_wp2
    refine bodyPost_ret (v := .string (txt (num 0))) (by simp [results, Try.results67, go_sem]) rfl ?_
    exact ⟨rfl, HB.out⟩
set_option maxHeartbeats 8000000 in
set_option maxRecDepth 100000 in
theorem cols_none (ad : Option Addr) (cp : Nat) : Tells 81 #[.slice ad 0 cp] (txt (num 0)) := fun w => by
  have HT := Lib.hid (tells_0 w)
  go_enter Try.func81, Try.ntmps81
  go_wp2_with fail
  refine HT.out.mono ?_
  rintro e w1 ⟨rfl, b1⟩
  have HB := Lib.hid b1
  clear b1 HT
  go_wp2
  go_loopw [3, 4] (fun ov iv wr => ov = .string (txt (num 0)) ∧ iv = .int .i64 0 ∧ wr = w1) (fun _ _ _ => 0)
  case atStart => exact ⟨rfl, rfl, rfl⟩
  case round =>
    obtain ⟨rfl, rfl, rfl⟩ := hrel
    go_wp2
    refine bodyPost_ret (v := .string (txt (num 0))) (by simp [results, Try.results81, go_sem]) rfl ?_
    exact ⟨rfl, HB.out⟩
set_option maxHeartbeats 8000000 in
set_option maxRecDepth 100000 in
theorem tells_tid {a b c : Int} (h : I64 a ∧ I64 b ∧ I64 c) : Tells 65 #[.agg #[.int .i64 a, .int .i64 b, .int .i64 c]] (txt (numsL [a, b, c])) := fun w => by
  have HT := Lib.hid (fun X F (hF : Ints X F [a, b, c]) => nums_ref X 3 rfl (by omega) hF (fun z hz => by
    simp only [List.mem_cons, List.not_mem_nil, or_false] at hz
    rcases hz with rfl | rfl | rfl
    · exact h.1
    · exact h.2.1
    · exact h.2.2))
  obtain ⟨r, hr⟩ : ∃ r, txt (numsL [a, b, c]) = r := ⟨_, rfl⟩
  rw [hr] at HT ⊢
  clear hr h
  have HF : Hid (Ints ((w.alloc (.cells #[.int .i64 a, .int .i64 b, .int .i64 c] 37)).alloc (.cells #[.int .i64 a, .int .i64 b, .int .i64 c] 3)) (w.heap.size + 1) [a, b, c]) := Lib.hid (by
    have hh := heap_alloc_new (w.alloc (.cells #[.int .i64 a, .int .i64 b, .int .i64 c] 37)) (.cells #[.int .i64 a, .int .i64 b, .int .i64 c] 3)
    simp only [World.size_alloc] at hh
    exact ⟨_, _, hh, fun i h => by match i, h with | 0, _ => rfl | 1, _ => rfl | 2, _ => rfl⟩)
  go_enter Try.func65, Try.ntmps65
  go_wp2_with fail
  refine (HT.out _ _ HF.out).mono ?_
  rintro e w1 ⟨rfl, b1⟩
  have B1 := Lib.hid b1
  clear b1
  go_wp2
  refine bodyPost_ret (v := .string r) (by simp [results, Try.results65, go_sem]) rfl ?_
  exact ⟨rfl, bgo (bgo (bnew w _) (bnew _ _)) B1.out⟩
set_option maxHeartbeats 8000000 in
set_option maxRecDepth 100000 in
theorem val_none : Tells 80 #[.agg #[.int .i64 0, .int .i64 0, .string ⟨#[]⟩]] (txt (num 0) ++ txt (num 0) ++ txt (textL ⟨#[]⟩)) := fun w => by
  have h0 : Tells 64 #[.int .i64 0] (txt (num 0)) := tells_0
  have hz0 : (txt (num 0)).size ≤ 1000 := num_sz 0
  have ht : Tells 70 #[.string ⟨#[]⟩] (txt (textL ⟨#[]⟩)) := tells_text
  have ht0 : (txt (textL ⟨#[]⟩)).size ≤ 1000 := by decide
  obtain ⟨z, hz⟩ : ∃ z, txt (num 0) = z := ⟨_, rfl⟩
  obtain ⟨t, htt⟩ : ∃ t, txt (textL ⟨#[]⟩) = t := ⟨_, rfl⟩
  have HZ : Hid (z = txt (num 0)) := Lib.hid hz.symm
  have HTT : Hid (t = txt (textL ⟨#[]⟩)) := Lib.hid htt.symm
  rw [hz] at h0 hz0
  rw [htt] at ht ht0
  have H0 := Lib.hid h0
  have HT := Lib.hid ht
  clear h0 ht hz htt
  obtain ⟨V, hV⟩ : ∃ V, V = w.alloc (.cells #[.int .i64 0, .int .i64 0, .string ⟨#[]⟩] 71) := ⟨_, rfl⟩
  obtain ⟨Y, hY⟩ : ∃ Y, w.heap.size = Y := ⟨_, rfl⟩
  have hb : Below w.heap.size w V := by rw [hV]; exact bnew _ _
  have jY : V.heap[Y]? = some (.cells #[.int .i64 0, .int .i64 0, .string ⟨#[]⟩] 71 (0, 0)) := by rw [hV, ← hY]; exact heap_alloc_new w _
  have HV := Lib.hid hV
  have HY := Lib.hid hY
  have HB := Lib.hid hb
  have HJ := Lib.hid jY
  clear hV hY hb jY
  go_enter Try.func80, Try.ntmps80
  go_upto_region 1 with fail
  rw [← HV.out, HY.out]
  refine wp_region_fb (fun _ X9 => Below V.heap.size V X9) (fun X9 X8 => Below X9.heap.size X9 X8) [
    fun v9 _ => v9 = .pointer (some ⟨Y, 0, none⟩),
    fun v9 _ => v9 = .int .i64 0,
    fun v9 _ => v9 = .string z,
    fun v9 _ => v9 = .pointer (some ⟨Y, 1, none⟩),
    fun v9 _ => v9 = .int .i64 0,
    fun v9 _ => v9 = .string z,
    fun v9 _ => v9 = .string (z ++ z),
    fun v9 _ => v9 = .pointer (some ⟨Y, 2, none⟩),
    fun v9 _ => v9 = .string ⟨#[]⟩,
    fun v9 _ => v9 = .string t,
    fun v9 _ => v9 = .string (z ++ z ++ t),
    fun v9 _ => v9 = .string (z ++ z ++ t)]
    (by kernel_rfl) (by kernel_rfl) (by kernel_rfl) ?st ?g0 ?os ?en
  case st => exact ⟨fun _ _ _ _ h => h, fun _ _ _ _ h => h, fun _ _ _ _ h => h, fun _ _ _ _ h => h, fun _ _ _ _ h => h, fun _ _ _ _ h => h, fun _ _ _ _ h => h, fun _ _ _ _ h => h, fun _ _ _ _ h => h, fun _ _ _ _ h => h, fun _ _ _ _ h => h, fun _ _ _ _ h => h, trivial⟩
  case g0 => exact ⟨rfl, rfl, rfl, Nat.le_refl _, fun _ _ => rfl⟩
  case os =>
    refine ⟨?_, ?_, ?_, ?_, ?_, ?_, ?_, ?_, ?_, ?_, ?_, ?_, trivial⟩
    · exact fun ρ X9 fl hg hn hl hp ho hc hf hr => .inl ⟨rfl, Runs.val _ (op_f71_0 (show ρ (.tmp 1) = .pointer (some ⟨Y, 0, none⟩) from ho 1 rfl)) ⟨hg, Below.refl _ _, rfl⟩⟩
    · exact fun ρ X9 fl hg hn hl hp ho hc hf hr => .inl ⟨rfl, Runs.val _ (op_load3 (show ρ (.tmp 3) = .pointer (some ⟨Y, 0, none⟩) from hr 0 3 rfl rfl) (cell_on hg (cell_blk HJ.out 0))) ⟨hg, Below.refl _ _, rfl⟩⟩
    · intro ρ X9 fl hg hn hl hp ho hc hf hr
      refine .inl ⟨rfl, ?_⟩
      refine Runs.goes 64 #[.int .i64 0] (op_call1 hf (by go_simp) (show ρ (.tmp 4) = .int .i64 0 from hr 1 4 rfl rfl)) ((H0.out X9).mono ?_)
      rintro e7 w7 ⟨rfl, b7⟩
      exact ⟨_, rfl, bgo hg b7, b7, rfl⟩
    · exact fun ρ X9 fl hg hn hl hp ho hc hf hr => .inl ⟨rfl, Runs.val _ (op_f71_1 (show ρ (.tmp 1) = .pointer (some ⟨Y, 0, none⟩) from ho 1 rfl)) ⟨hg, Below.refl _ _, rfl⟩⟩
    · exact fun ρ X9 fl hg hn hl hp ho hc hf hr => .inl ⟨rfl, Runs.val _ (op_load2 (show ρ (.tmp 6) = .pointer (some ⟨Y, 1, none⟩) from hr 3 6 rfl rfl) (cell_on hg (cell_blk HJ.out 1))) ⟨hg, Below.refl _ _, rfl⟩⟩
    · intro ρ X9 fl hg hn hl hp ho hc hf hr
      refine .inl ⟨rfl, ?_⟩
      refine Runs.goes 64 #[.int .i64 0] (op_call1 hf (by go_simp) (show ρ (.tmp 7) = .int .i64 0 from hr 4 7 rfl rfl)) ((H0.out X9).mono ?_)
      rintro e7 w7 ⟨rfl, b7⟩
      exact ⟨_, rfl, bgo hg b7, b7, rfl⟩
    · exact fun ρ X9 fl hg hn hl hp ho hc hf hr => .inl ⟨rfl, Runs.val _ (op_cat0 (show ρ (.tmp 5) = .string z from hr 2 5 rfl rfl) (show ρ (.tmp 8) = .string z from hr 5 8 rfl rfl) (by (try simp only [ByteArray.size_append]); omega)) ⟨hg, Below.refl _ _, rfl⟩⟩
    · exact fun ρ X9 fl hg hn hl hp ho hc hf hr => .inl ⟨rfl, Runs.val _ (op_f71_2 (show ρ (.tmp 1) = .pointer (some ⟨Y, 0, none⟩) from ho 1 rfl)) ⟨hg, Below.refl _ _, rfl⟩⟩
    · exact fun ρ X9 fl hg hn hl hp ho hc hf hr => .inl ⟨rfl, Runs.val _ (op_load9 (show ρ (.tmp 10) = .pointer (some ⟨Y, 2, none⟩) from hr 7 10 rfl rfl) (cell_on hg (cell_blk HJ.out 2))) ⟨hg, Below.refl _ _, rfl⟩⟩
    · intro ρ X9 fl hg hn hl hp ho hc hf hr
      refine .inl ⟨rfl, ?_⟩
      refine Runs.goes 70 #[.string ⟨#[]⟩] (op_call1 hf (by go_simp) (show ρ (.tmp 11) = .string ⟨#[]⟩ from hr 8 11 rfl rfl)) ((HT.out X9).mono ?_)
      rintro e7 w7 ⟨rfl, b7⟩
      exact ⟨_, rfl, bgo hg b7, b7, rfl⟩
    · exact fun ρ X9 fl hg hn hl hp ho hc hf hr => .inl ⟨rfl, Runs.val _ (op_cat0 (show ρ (.tmp 9) = .string (z ++ z) from hr 6 9 rfl rfl) (show ρ (.tmp 12) = .string t from hr 9 12 rfl rfl) (by (try simp only [ByteArray.size_append]); omega)) ⟨hg, Below.refl _ _, rfl⟩⟩
    · exact fun ρ X9 fl hg hn hl hp ho hc hf hr => .inl ⟨rfl, Runs.val _ (op_assign (show ρ (.tmp 13) = .string (z ++ z ++ t) from hr 10 13 rfl rfl)) ⟨hg, Below.refl _ _, rfl⟩⟩
  case en =>
    intro a9 w6 fl hfl hG9 hs9 hd9 ho9 hr9
    obtain ⟨x9, hx, hxt⟩ := act_put hs9 hd9 ho9
    have xk2 : x9 2 = .string (z ++ z ++ t) := (hxt 2).symm.trans (hr9 11 2 rfl)
    change a9 = putAll _ x9 [3, 4, 5, 6, 7, 8, 9, 10, 11, 12, 13, 2] at hx
    simp only [putAll, Act.put, List.setIfInBounds_toArray, List.set_cons_zero, List.set_cons_succ, xk2] at hx
    subst hx
    clear hs9 hd9 ho9 hr9 hxt hfl xk2
    generalize x9 3 = z3, x9 4 = z4, x9 5 = z5, x9 6 = z6, x9 7 = z7, x9 8 = z8, x9 9 = z9, x9 10 = z10, x9 11 = z11, x9 12 = z12, x9 13 = z13
    have HE := Lib.hid hG9
    clear hG9
    go_wp2
    refine bodyPost_ret (v := .string (z ++ z ++ t)) (by simp [results, Try.results80, go_sem]) rfl ?_
    exact ⟨by rw [HZ.out, HTT.out], bgo HB.out HE.out⟩
def valN : ByteArray := txt (num 0) ++ txt (num 0) ++ txt (textL ⟨#[]⟩)
theorem val_sz : valN.size ≤ 1000 := by decide
def ddlN : ByteArray := txt (num 0) ++ txt (textL ⟨#[]⟩) ++ txt (textL ⟨#[]⟩) ++ txt (textL ⟨#[]⟩) ++ txt (textL ⟨#[]⟩) ++ txt (flagL false) ++ txt (num 0) ++ valN ++ txt (num 0)
theorem ddl_sz : ddlN.size ≤ 1000 := by decide
set_option maxHeartbeats 8000000 in
set_option maxRecDepth 100000 in
theorem ddl_none : Tells 69 #[.agg #[.int .i64 0, .string ⟨#[]⟩, .string ⟨#[]⟩, .string ⟨#[]⟩, .string ⟨#[]⟩, .bool false, .int .i64 0, .int .i64 0, .int .i64 0, .string ⟨#[]⟩, .slice none 0 0]] ddlN := fun w => by
  have h0 : Tells 64 #[.int .i64 0] (txt (num 0)) := tells_0
  have hz0 : (txt (num 0)).size ≤ 1000 := num_sz 0
  have ht : Tells 70 #[.string ⟨#[]⟩] (txt (textL ⟨#[]⟩)) := tells_text
  have ht0 : (txt (textL ⟨#[]⟩)).size ≤ 1000 := by decide
  obtain ⟨z, hz⟩ : ∃ z, txt (num 0) = z := ⟨_, rfl⟩
  obtain ⟨t, htt⟩ : ∃ t, txt (textL ⟨#[]⟩) = t := ⟨_, rfl⟩
  have HZ : Hid (z = txt (num 0)) := Lib.hid hz.symm
  have HTT : Hid (t = txt (textL ⟨#[]⟩)) := Lib.hid htt.symm
  rw [hz] at h0 hz0
  rw [htt] at ht ht0
  have H0 := Lib.hid h0
  have HT := Lib.hid ht
  clear h0 ht hz htt
  have hg0 : Tells 79 #[.bool false] (txt (flagL false)) := tells_flag
  have hf0 : (txt (flagL false)).size ≤ 1000 := num_sz 0
  obtain ⟨f, hff⟩ : ∃ f, txt (flagL false) = f := ⟨_, rfl⟩
  have HFF : Hid (f = txt (flagL false)) := Lib.hid hff.symm
  rw [hff] at hg0 hf0
  have HG := Lib.hid hg0
  have hu0 : Tells 80 #[.agg #[.int .i64 0, .int .i64 0, .string ⟨#[]⟩]] valN := val_none
  have hu1 := val_sz
  obtain ⟨u, huu⟩ : ∃ u, valN = u := ⟨_, rfl⟩
  have HUU : Hid (u = valN) := Lib.hid huu.symm
  rw [huu] at hu0 hu1
  have HU := Lib.hid hu0
  have hc0 := cols_none none 0
  rw [← HZ.out] at hc0
  have HCO := Lib.hid hc0
  clear hg0 hff hu0 huu hc0
  obtain ⟨V, hV⟩ : ∃ V, V = w.alloc (.cells #[.int .i64 0, .string ⟨#[]⟩, .string ⟨#[]⟩, .string ⟨#[]⟩, .string ⟨#[]⟩, .bool false, .int .i64 0, .int .i64 0, .int .i64 0, .string ⟨#[]⟩, .slice none 0 0] 74) := ⟨_, rfl⟩
  obtain ⟨Y, hY⟩ : ∃ Y, w.heap.size = Y := ⟨_, rfl⟩
  have hb : Below w.heap.size w V := by rw [hV]; exact bnew _ _
  have jY : V.heap[Y]? = some (.cells #[.int .i64 0, .string ⟨#[]⟩, .string ⟨#[]⟩, .string ⟨#[]⟩, .string ⟨#[]⟩, .bool false, .int .i64 0, .int .i64 0, .int .i64 0, .string ⟨#[]⟩, .slice none 0 0] 74 (0, 0)) := by rw [hV, ← hY]; exact heap_alloc_new w _
  have HV := Lib.hid hV
  have HY := Lib.hid hY
  have HB := Lib.hid hb
  have HJ := Lib.hid jY
  clear hV hY hb jY
  go_enter Try.func69, Try.ntmps69
  go_upto_region 1 with fail
  rw [← HV.out, HY.out]
  refine wp_region_fb (fun _ X9 => Below V.heap.size V X9) (fun X9 X8 => Below X9.heap.size X9 X8) [
    fun v9 _ => v9 = .pointer (some ⟨Y, 0, none⟩),
    fun v9 _ => v9 = .int .i64 0,
    fun v9 _ => v9 = .string z,
    fun v9 _ => v9 = .pointer (some ⟨Y, 1, none⟩),
    fun v9 _ => v9 = .string ⟨#[]⟩,
    fun v9 _ => v9 = .string t,
    fun v9 _ => v9 = .string (z ++ t),
    fun v9 _ => v9 = .pointer (some ⟨Y, 2, none⟩),
    fun v9 _ => v9 = .string ⟨#[]⟩,
    fun v9 _ => v9 = .string t,
    fun v9 _ => v9 = .string (z ++ t ++ t),
    fun v9 _ => v9 = .pointer (some ⟨Y, 3, none⟩),
    fun v9 _ => v9 = .string ⟨#[]⟩,
    fun v9 _ => v9 = .string t,
    fun v9 _ => v9 = .string (z ++ t ++ t ++ t),
    fun v9 _ => v9 = .pointer (some ⟨Y, 4, none⟩),
    fun v9 _ => v9 = .string ⟨#[]⟩,
    fun v9 _ => v9 = .string t,
    fun v9 _ => v9 = .string (z ++ t ++ t ++ t ++ t),
    fun v9 _ => v9 = .pointer (some ⟨Y, 5, none⟩),
    fun v9 _ => v9 = .bool false,
    fun v9 _ => v9 = .string f,
    fun v9 _ => v9 = .string (z ++ t ++ t ++ t ++ t ++ f),
    fun v9 _ => v9 = .pointer (some ⟨Y, 6, none⟩),
    fun v9 _ => v9 = .int .i64 0,
    fun v9 _ => v9 = .string z,
    fun v9 _ => v9 = .string (z ++ t ++ t ++ t ++ t ++ f ++ z),
    fun v9 _ => v9 = .pointer (some ⟨Y, 7, none⟩),
    fun v9 _ => v9 = .agg #[.int .i64 0, .int .i64 0, .string ⟨#[]⟩],
    fun v9 _ => v9 = .string u,
    fun v9 _ => v9 = .string (z ++ t ++ t ++ t ++ t ++ f ++ z ++ u),
    fun v9 _ => v9 = .pointer (some ⟨Y, 10, none⟩),
    fun v9 _ => v9 = .slice none 0 0,
    fun v9 _ => v9 = .string z,
    fun v9 _ => v9 = .string (z ++ t ++ t ++ t ++ t ++ f ++ z ++ u ++ z),
    fun v9 _ => v9 = .string (z ++ t ++ t ++ t ++ t ++ f ++ z ++ u ++ z)]
    (by kernel_rfl) (by kernel_rfl) (by kernel_rfl) ?st ?g0 ?os ?en
  case st => exact ⟨fun _ _ _ _ h => h, fun _ _ _ _ h => h, fun _ _ _ _ h => h, fun _ _ _ _ h => h, fun _ _ _ _ h => h, fun _ _ _ _ h => h, fun _ _ _ _ h => h, fun _ _ _ _ h => h, fun _ _ _ _ h => h, fun _ _ _ _ h => h, fun _ _ _ _ h => h, fun _ _ _ _ h => h, fun _ _ _ _ h => h, fun _ _ _ _ h => h, fun _ _ _ _ h => h, fun _ _ _ _ h => h, fun _ _ _ _ h => h, fun _ _ _ _ h => h, fun _ _ _ _ h => h, fun _ _ _ _ h => h, fun _ _ _ _ h => h, fun _ _ _ _ h => h, fun _ _ _ _ h => h, fun _ _ _ _ h => h, fun _ _ _ _ h => h, fun _ _ _ _ h => h, fun _ _ _ _ h => h, fun _ _ _ _ h => h, fun _ _ _ _ h => h, fun _ _ _ _ h => h, fun _ _ _ _ h => h, fun _ _ _ _ h => h, fun _ _ _ _ h => h, fun _ _ _ _ h => h, fun _ _ _ _ h => h, fun _ _ _ _ h => h, trivial⟩
  case g0 => exact ⟨rfl, rfl, rfl, Nat.le_refl _, fun _ _ => rfl⟩
  case os =>
    refine ⟨?_, ?_, ?_, ?_, ?_, ?_, ?_, ?_, ?_, ?_, ?_, ?_, ?_, ?_, ?_, ?_, ?_, ?_, ?_, ?_, ?_, ?_, ?_, ?_, ?_, ?_, ?_, ?_, ?_, ?_, ?_, ?_, ?_, ?_, ?_, ?_, trivial⟩
    · exact fun ρ X9 fl hg hn hl hp ho hc hf hr => .inl ⟨rfl, Runs.val _ (op_f74_0 (show ρ (.tmp 1) = .pointer (some ⟨Y, 0, none⟩) from ho 1 rfl)) ⟨hg, Below.refl _ _, rfl⟩⟩
    · exact fun ρ X9 fl hg hn hl hp ho hc hf hr => .inl ⟨rfl, Runs.val _ (op_load3 (show ρ (.tmp 3) = .pointer (some ⟨Y, 0, none⟩) from hr 0 3 rfl rfl) (cell_on hg (cell_blk HJ.out 0))) ⟨hg, Below.refl _ _, rfl⟩⟩
    · intro ρ X9 fl hg hn hl hp ho hc hf hr
      refine .inl ⟨rfl, ?_⟩
      refine Runs.goes 64 #[.int .i64 0] (op_call1 hf (by go_simp) (show ρ (.tmp 4) = .int .i64 0 from hr 1 4 rfl rfl)) ((H0.out X9).mono ?_)
      rintro e7 w7 ⟨rfl, b7⟩
      exact ⟨_, rfl, bgo hg b7, b7, rfl⟩
    · exact fun ρ X9 fl hg hn hl hp ho hc hf hr => .inl ⟨rfl, Runs.val _ (op_f74_1 (show ρ (.tmp 1) = .pointer (some ⟨Y, 0, none⟩) from ho 1 rfl)) ⟨hg, Below.refl _ _, rfl⟩⟩
    · exact fun ρ X9 fl hg hn hl hp ho hc hf hr => .inl ⟨rfl, Runs.val _ (op_load9 (show ρ (.tmp 6) = .pointer (some ⟨Y, 1, none⟩) from hr 3 6 rfl rfl) (cell_on hg (cell_blk HJ.out 1))) ⟨hg, Below.refl _ _, rfl⟩⟩
    · intro ρ X9 fl hg hn hl hp ho hc hf hr
      refine .inl ⟨rfl, ?_⟩
      refine Runs.goes 70 #[.string ⟨#[]⟩] (op_call1 hf (by go_simp) (show ρ (.tmp 7) = .string ⟨#[]⟩ from hr 4 7 rfl rfl)) ((HT.out X9).mono ?_)
      rintro e7 w7 ⟨rfl, b7⟩
      exact ⟨_, rfl, bgo hg b7, b7, rfl⟩
    · exact fun ρ X9 fl hg hn hl hp ho hc hf hr => .inl ⟨rfl, Runs.val _ (op_cat0 (show ρ (.tmp 5) = .string z from hr 2 5 rfl rfl) (show ρ (.tmp 8) = .string t from hr 5 8 rfl rfl) (by (try simp only [ByteArray.size_append]); omega)) ⟨hg, Below.refl _ _, rfl⟩⟩
    · exact fun ρ X9 fl hg hn hl hp ho hc hf hr => .inl ⟨rfl, Runs.val _ (op_f74_2 (show ρ (.tmp 1) = .pointer (some ⟨Y, 0, none⟩) from ho 1 rfl)) ⟨hg, Below.refl _ _, rfl⟩⟩
    · exact fun ρ X9 fl hg hn hl hp ho hc hf hr => .inl ⟨rfl, Runs.val _ (op_load9 (show ρ (.tmp 10) = .pointer (some ⟨Y, 2, none⟩) from hr 7 10 rfl rfl) (cell_on hg (cell_blk HJ.out 2))) ⟨hg, Below.refl _ _, rfl⟩⟩
    · intro ρ X9 fl hg hn hl hp ho hc hf hr
      refine .inl ⟨rfl, ?_⟩
      refine Runs.goes 70 #[.string ⟨#[]⟩] (op_call1 hf (by go_simp) (show ρ (.tmp 11) = .string ⟨#[]⟩ from hr 8 11 rfl rfl)) ((HT.out X9).mono ?_)
      rintro e7 w7 ⟨rfl, b7⟩
      exact ⟨_, rfl, bgo hg b7, b7, rfl⟩
    · exact fun ρ X9 fl hg hn hl hp ho hc hf hr => .inl ⟨rfl, Runs.val _ (op_cat0 (show ρ (.tmp 9) = .string (z ++ t) from hr 6 9 rfl rfl) (show ρ (.tmp 12) = .string t from hr 9 12 rfl rfl) (by (try simp only [ByteArray.size_append]); omega)) ⟨hg, Below.refl _ _, rfl⟩⟩
    · exact fun ρ X9 fl hg hn hl hp ho hc hf hr => .inl ⟨rfl, Runs.val _ (op_f74_3 (show ρ (.tmp 1) = .pointer (some ⟨Y, 0, none⟩) from ho 1 rfl)) ⟨hg, Below.refl _ _, rfl⟩⟩
    · exact fun ρ X9 fl hg hn hl hp ho hc hf hr => .inl ⟨rfl, Runs.val _ (op_load9 (show ρ (.tmp 14) = .pointer (some ⟨Y, 3, none⟩) from hr 11 14 rfl rfl) (cell_on hg (cell_blk HJ.out 3))) ⟨hg, Below.refl _ _, rfl⟩⟩
    · intro ρ X9 fl hg hn hl hp ho hc hf hr
      refine .inl ⟨rfl, ?_⟩
      refine Runs.goes 70 #[.string ⟨#[]⟩] (op_call1 hf (by go_simp) (show ρ (.tmp 15) = .string ⟨#[]⟩ from hr 12 15 rfl rfl)) ((HT.out X9).mono ?_)
      rintro e7 w7 ⟨rfl, b7⟩
      exact ⟨_, rfl, bgo hg b7, b7, rfl⟩
    · exact fun ρ X9 fl hg hn hl hp ho hc hf hr => .inl ⟨rfl, Runs.val _ (op_cat0 (show ρ (.tmp 13) = .string (z ++ t ++ t) from hr 10 13 rfl rfl) (show ρ (.tmp 16) = .string t from hr 13 16 rfl rfl) (by (try simp only [ByteArray.size_append]); omega)) ⟨hg, Below.refl _ _, rfl⟩⟩
    · exact fun ρ X9 fl hg hn hl hp ho hc hf hr => .inl ⟨rfl, Runs.val _ (op_f74_4 (show ρ (.tmp 1) = .pointer (some ⟨Y, 0, none⟩) from ho 1 rfl)) ⟨hg, Below.refl _ _, rfl⟩⟩
    · exact fun ρ X9 fl hg hn hl hp ho hc hf hr => .inl ⟨rfl, Runs.val _ (op_load9 (show ρ (.tmp 18) = .pointer (some ⟨Y, 4, none⟩) from hr 15 18 rfl rfl) (cell_on hg (cell_blk HJ.out 4))) ⟨hg, Below.refl _ _, rfl⟩⟩
    · intro ρ X9 fl hg hn hl hp ho hc hf hr
      refine .inl ⟨rfl, ?_⟩
      refine Runs.goes 70 #[.string ⟨#[]⟩] (op_call1 hf (by go_simp) (show ρ (.tmp 19) = .string ⟨#[]⟩ from hr 16 19 rfl rfl)) ((HT.out X9).mono ?_)
      rintro e7 w7 ⟨rfl, b7⟩
      exact ⟨_, rfl, bgo hg b7, b7, rfl⟩
    · exact fun ρ X9 fl hg hn hl hp ho hc hf hr => .inl ⟨rfl, Runs.val _ (op_cat0 (show ρ (.tmp 17) = .string (z ++ t ++ t ++ t) from hr 14 17 rfl rfl) (show ρ (.tmp 20) = .string t from hr 17 20 rfl rfl) (by (try simp only [ByteArray.size_append]); omega)) ⟨hg, Below.refl _ _, rfl⟩⟩
    · exact fun ρ X9 fl hg hn hl hp ho hc hf hr => .inl ⟨rfl, Runs.val _ (op_f74_5 (show ρ (.tmp 1) = .pointer (some ⟨Y, 0, none⟩) from ho 1 rfl)) ⟨hg, Below.refl _ _, rfl⟩⟩
    · exact fun ρ X9 fl hg hn hl hp ho hc hf hr => .inl ⟨rfl, Runs.val _ (op_load4 (show ρ (.tmp 22) = .pointer (some ⟨Y, 5, none⟩) from hr 19 22 rfl rfl) (cell_on hg (cell_blk HJ.out 5))) ⟨hg, Below.refl _ _, rfl⟩⟩
    · intro ρ X9 fl hg hn hl hp ho hc hf hr
      refine .inl ⟨rfl, ?_⟩
      refine Runs.goes 79 #[.bool false] (op_call1 hf (by go_simp) (show ρ (.tmp 23) = .bool false from hr 20 23 rfl rfl)) ((HG.out X9).mono ?_)
      rintro e7 w7 ⟨rfl, b7⟩
      exact ⟨_, rfl, bgo hg b7, b7, rfl⟩
    · exact fun ρ X9 fl hg hn hl hp ho hc hf hr => .inl ⟨rfl, Runs.val _ (op_cat0 (show ρ (.tmp 21) = .string (z ++ t ++ t ++ t ++ t) from hr 18 21 rfl rfl) (show ρ (.tmp 24) = .string f from hr 21 24 rfl rfl) (by (try simp only [ByteArray.size_append]); omega)) ⟨hg, Below.refl _ _, rfl⟩⟩
    · exact fun ρ X9 fl hg hn hl hp ho hc hf hr => .inl ⟨rfl, Runs.val _ (op_f74_6 (show ρ (.tmp 1) = .pointer (some ⟨Y, 0, none⟩) from ho 1 rfl)) ⟨hg, Below.refl _ _, rfl⟩⟩
    · exact fun ρ X9 fl hg hn hl hp ho hc hf hr => .inl ⟨rfl, Runs.val _ (op_load3 (show ρ (.tmp 26) = .pointer (some ⟨Y, 6, none⟩) from hr 23 26 rfl rfl) (cell_on hg (cell_blk HJ.out 6))) ⟨hg, Below.refl _ _, rfl⟩⟩
    · intro ρ X9 fl hg hn hl hp ho hc hf hr
      refine .inl ⟨rfl, ?_⟩
      refine Runs.goes 64 #[.int .i64 0] (op_call1 hf (by go_simp) (show ρ (.tmp 27) = .int .i64 0 from hr 24 27 rfl rfl)) ((H0.out X9).mono ?_)
      rintro e7 w7 ⟨rfl, b7⟩
      exact ⟨_, rfl, bgo hg b7, b7, rfl⟩
    · exact fun ρ X9 fl hg hn hl hp ho hc hf hr => .inl ⟨rfl, Runs.val _ (op_cat0 (show ρ (.tmp 25) = .string (z ++ t ++ t ++ t ++ t ++ f) from hr 22 25 rfl rfl) (show ρ (.tmp 28) = .string z from hr 25 28 rfl rfl) (by (try simp only [ByteArray.size_append]); omega)) ⟨hg, Below.refl _ _, rfl⟩⟩
    · exact fun ρ X9 fl hg hn hl hp ho hc hf hr => .inl ⟨rfl, Runs.val _ (op_f74_7 (show ρ (.tmp 1) = .pointer (some ⟨Y, 0, none⟩) from ho 1 rfl)) ⟨hg, Below.refl _ _, rfl⟩⟩
    · exact fun ρ X9 fl hg hn hl hp ho hc hf hr => .inl ⟨rfl, Runs.val _ (op_loadAt (show ρ (.tmp 30) = .pointer (some ⟨Y, 7, none⟩) from hr 27 30 rfl rfl) (run_loadAt_mid X9 Y 7 71 [.int .i64 0, .int .i64 0, .string ⟨#[]⟩] _ (fun j u hu => by
              have h9 := (hg.block _ (blk_lt HJ.out)).trans HJ.out
              rw [cell_blk h9]
              match j, hu with
              | 0, hu => exact hu
              | 1, hu => exact hu
              | 2, hu => exact hu
              | m + 3, hu => cases hu) Try.underlying71 rfl size71)) ⟨hg, Below.refl _ _, rfl⟩⟩
    · intro ρ X9 fl hg hn hl hp ho hc hf hr
      refine .inl ⟨rfl, ?_⟩
      refine Runs.goes 80 #[.agg #[.int .i64 0, .int .i64 0, .string ⟨#[]⟩]] (op_call1 hf (by go_simp) (show ρ (.tmp 31) = .agg #[.int .i64 0, .int .i64 0, .string ⟨#[]⟩] from hr 28 31 rfl rfl)) ((HU.out X9).mono ?_)
      rintro e7 w7 ⟨rfl, b7⟩
      exact ⟨_, rfl, bgo hg b7, b7, rfl⟩
    · exact fun ρ X9 fl hg hn hl hp ho hc hf hr => .inl ⟨rfl, Runs.val _ (op_cat0 (show ρ (.tmp 29) = .string (z ++ t ++ t ++ t ++ t ++ f ++ z) from hr 26 29 rfl rfl) (show ρ (.tmp 32) = .string u from hr 29 32 rfl rfl) (by (try simp only [ByteArray.size_append]); omega)) ⟨hg, Below.refl _ _, rfl⟩⟩
    · exact fun ρ X9 fl hg hn hl hp ho hc hf hr => .inl ⟨rfl, Runs.val _ (op_f74_8 (show ρ (.tmp 1) = .pointer (some ⟨Y, 0, none⟩) from ho 1 rfl)) ⟨hg, Below.refl _ _, rfl⟩⟩
    · exact fun ρ X9 fl hg hn hl hp ho hc hf hr => .inl ⟨rfl, Runs.val _ (op_load72 (show ρ (.tmp 34) = .pointer (some ⟨Y, 10, none⟩) from hr 31 34 rfl rfl) (cell_on hg (cell_blk HJ.out 10))) ⟨hg, Below.refl _ _, rfl⟩⟩
    · intro ρ X9 fl hg hn hl hp ho hc hf hr
      refine .inl ⟨rfl, ?_⟩
      refine Runs.goes 81 #[.slice none 0 0] (op_call1 hf (by go_simp) (show ρ (.tmp 35) = .slice none 0 0 from hr 32 35 rfl rfl)) ((HCO.out X9).mono ?_)
      rintro e7 w7 ⟨rfl, b7⟩
      exact ⟨_, rfl, bgo hg b7, b7, rfl⟩
    · exact fun ρ X9 fl hg hn hl hp ho hc hf hr => .inl ⟨rfl, Runs.val _ (op_cat0 (show ρ (.tmp 33) = .string (z ++ t ++ t ++ t ++ t ++ f ++ z ++ u) from hr 30 33 rfl rfl) (show ρ (.tmp 36) = .string z from hr 33 36 rfl rfl) (by (try simp only [ByteArray.size_append]); omega)) ⟨hg, Below.refl _ _, rfl⟩⟩
    · exact fun ρ X9 fl hg hn hl hp ho hc hf hr => .inl ⟨rfl, Runs.val _ (op_assign (show ρ (.tmp 37) = .string (z ++ t ++ t ++ t ++ t ++ f ++ z ++ u ++ z) from hr 34 37 rfl rfl)) ⟨hg, Below.refl _ _, rfl⟩⟩
  case en =>
    intro a9 w6 fl hfl hG9 hs9 hd9 ho9 hr9
    obtain ⟨x9, hx, hxt⟩ := act_put hs9 hd9 ho9
    have xk2 : x9 2 = .string (z ++ t ++ t ++ t ++ t ++ f ++ z ++ u ++ z) := (hxt 2).symm.trans (hr9 35 2 rfl)
    change a9 = putAll _ x9 [3, 4, 5, 6, 7, 8, 9, 10, 11, 12, 13, 14, 15, 16, 17, 18, 19, 20, 21, 22, 23, 24, 25, 26, 27, 28, 29, 30, 31, 32, 33, 34, 35, 36, 37, 2] at hx
    simp only [putAll, Act.put, List.setIfInBounds_toArray, List.set_cons_zero, List.set_cons_succ, xk2] at hx
    subst hx
    clear hs9 hd9 ho9 hr9 hxt hfl xk2
    generalize x9 3 = z3, x9 4 = z4, x9 5 = z5, x9 6 = z6, x9 7 = z7, x9 8 = z8, x9 9 = z9, x9 10 = z10, x9 11 = z11, x9 12 = z12, x9 13 = z13, x9 14 = z14, x9 15 = z15, x9 16 = z16, x9 17 = z17, x9 18 = z18, x9 19 = z19, x9 20 = z20, x9 21 = z21, x9 22 = z22, x9 23 = z23, x9 24 = z24, x9 25 = z25, x9 26 = z26, x9 27 = z27, x9 28 = z28, x9 29 = z29, x9 30 = z30, x9 31 = z31, x9 32 = z32, x9 33 = z33, x9 34 = z34, x9 35 = z35, x9 36 = z36, x9 37 = z37
    have HE := Lib.hid hG9
    clear hG9
    go_wp2
    refine bodyPost_ret (v := .string (z ++ t ++ t ++ t ++ t ++ f ++ z ++ u ++ z)) (by simp [results, Try.results69, go_sem]) rfl ?_
    exact ⟨by rw [HZ.out, HTT.out, HFF.out, HUU.out]; rfl, bgo HB.out HE.out⟩
/-- The numbers of a command lie within bounds. -/
structure AkI (a : Ak) : Prop where
  kd : I64 a.kd
  td : I64 a.t0 ∧ I64 a.t1 ∧ I64 a.t2
  home : I64 a.home
  mn : I64 a.mn
  til : I64 a.til
  ts : I64 a.ts
  ver : I64 a.ver
  call : I64 a.call
/-- The text of a command that reads and writes nothing. -/
def cmdN (a : Ak) : ByteArray := txt (num a.kd) ++ txt (numsL [0, 0, 0]) ++ txt (numsL [a.t0, a.t1, a.t2]) ++ txt (num a.home) ++ txt (num 0) ++ txt (num 0) ++ txt (numsL [a.mn, a.til, a.ts, a.ver, a.call]) ++ ddlN ++ txt (numsL [0, 0]) ++ txt (textL ⟨#[]⟩) ++ txt (num 0)
theorem nums_sz (ns : List Int) (h : ns.length ≤ 100) : (txt (numsL ns)).size ≤ 1000 := Nat.le_trans (numsL_len ns) (by omega)
set_option maxHeartbeats 8000000 in
set_option maxRecDepth 100000 in
theorem cmd_none {a : Ak} {ra wa : Option Addr} {rc wc : Nat} (hA : AkI a) : Tells 48 #[.agg #[.int .i64 a.kd, .int .i64 0, .int .i64 0, .int .i64 0, .int .i64 a.t0, .int .i64 a.t1, .int .i64 a.t2, .int .i64 a.home, .slice ra 0 rc, .slice wa 0 wc, .int .i64 a.mn, .int .i64 a.til, .int .i64 a.ts, .int .i64 a.ver, .int .i64 a.call, .int .i64 0, .string ⟨#[]⟩, .string ⟨#[]⟩, .string ⟨#[]⟩, .string ⟨#[]⟩, .bool false, .int .i64 0, .int .i64 0, .int .i64 0, .string ⟨#[]⟩, .slice none 0 0, .int .i64 0, .int .i64 0, .string ⟨#[]⟩, .int .i64 0]] (cmdN a) := fun w => by
  have hi0 : I64 0 := by unfold I64; omega
  have hk1 : Tells 64 #[.int .i64 a.kd] (txt (num a.kd)) := tells_num hA.kd
  have hk2 : (txt (num a.kd)).size ≤ 1000 := num_sz _
  have ho1 : Tells 65 #[.agg #[.int .i64 0, .int .i64 0, .int .i64 0]] (txt (numsL [0, 0, 0])) := tells_tid ⟨hi0, hi0, hi0⟩
  have ho2 : (txt (numsL [0, 0, 0])).size ≤ 1000 := nums_sz _ (by simp)
  have hq1 : Tells 65 #[.agg #[.int .i64 a.t0, .int .i64 a.t1, .int .i64 a.t2]] (txt (numsL [a.t0, a.t1, a.t2])) := tells_tid hA.td
  have hq2 : (txt (numsL [a.t0, a.t1, a.t2])).size ≤ 1000 := nums_sz _ (by simp)
  have hh1 : Tells 64 #[.int .i64 a.home] (txt (num a.home)) := tells_num hA.home
  have hh2 : (txt (num a.home)).size ≤ 1000 := num_sz _
  have hz1 : Tells 64 #[.int .i64 0] (txt (num 0)) := tells_0
  have hz2 : (txt (num 0)).size ≤ 1000 := num_sz _
  have hm1 := fun X F (hF : Ints X F [a.mn, a.til, a.ts, a.ver, a.call]) => nums_ref X 5 rfl (by omega) hF (fun z hz => by
    simp only [List.mem_cons, List.not_mem_nil, or_false] at hz
    rcases hz with rfl | rfl | rfl | rfl | rfl
    · exact hA.mn
    · exact hA.til
    · exact hA.ts
    · exact hA.ver
    · exact hA.call)
  have hm2 : (txt (numsL [a.mn, a.til, a.ts, a.ver, a.call])).size ≤ 1000 := nums_sz _ (by simp)
  have hu1 := ddl_none
  have hu2 : (ddlN).size ≤ 1000 := ddl_sz
  have hp1 := fun X F (hF : Ints X F [0, 0]) => nums_ref X 2 rfl (by omega) hF (fun z hz => by
    simp only [List.mem_cons, List.not_mem_nil, or_false] at hz
    rcases hz with rfl | rfl
    · exact hi0
    · exact hi0)
  have hp2 : (txt (numsL [0, 0])).size ≤ 1000 := nums_sz _ (by simp)
  have ht1 : Tells 70 #[.string ⟨#[]⟩] (txt (textL ⟨#[]⟩)) := tells_text
  have ht2 : (txt (textL ⟨#[]⟩)).size ≤ 1000 := (by decide)
  have hrd := rds_none ra rc
  have hwr := wrs_none wa wc
  obtain ⟨k, ek⟩ : ∃ k, txt (num a.kd) = k := ⟨_, rfl⟩
  have Ek : Hid (k = txt (num a.kd)) := Lib.hid ek.symm
  rw [ek] at hk1 hk2
  have Ck := Lib.hid hk1
  obtain ⟨o, eo⟩ : ∃ o, txt (numsL [0, 0, 0]) = o := ⟨_, rfl⟩
  have Eo : Hid (o = txt (numsL [0, 0, 0])) := Lib.hid eo.symm
  rw [eo] at ho1 ho2
  have Co := Lib.hid ho1
  obtain ⟨q, eq⟩ : ∃ q, txt (numsL [a.t0, a.t1, a.t2]) = q := ⟨_, rfl⟩
  have Eq : Hid (q = txt (numsL [a.t0, a.t1, a.t2])) := Lib.hid eq.symm
  rw [eq] at hq1 hq2
  have Cq := Lib.hid hq1
  obtain ⟨h, eh⟩ : ∃ h, txt (num a.home) = h := ⟨_, rfl⟩
  have Eh : Hid (h = txt (num a.home)) := Lib.hid eh.symm
  rw [eh] at hh1 hh2
  have Ch := Lib.hid hh1
  obtain ⟨z, ez⟩ : ∃ z, txt (num 0) = z := ⟨_, rfl⟩
  have Ez : Hid (z = txt (num 0)) := Lib.hid ez.symm
  rw [ez] at hz1 hz2 hrd hwr
  have Cz := Lib.hid hz1
  have CR := Lib.hid hrd
  have CW := Lib.hid hwr
  obtain ⟨m, em⟩ : ∃ m, txt (numsL [a.mn, a.til, a.ts, a.ver, a.call]) = m := ⟨_, rfl⟩
  have Em : Hid (m = txt (numsL [a.mn, a.til, a.ts, a.ver, a.call])) := Lib.hid em.symm
  rw [em] at hm1 hm2
  have Cm := Lib.hid hm1
  obtain ⟨u, eu⟩ : ∃ u, ddlN = u := ⟨_, rfl⟩
  have Eu : Hid (u = ddlN) := Lib.hid eu.symm
  rw [eu] at hu1 hu2
  have Cu := Lib.hid hu1
  obtain ⟨p, ep⟩ : ∃ p, txt (numsL [0, 0]) = p := ⟨_, rfl⟩
  have Ep : Hid (p = txt (numsL [0, 0])) := Lib.hid ep.symm
  rw [ep] at hp1 hp2
  have Cp := Lib.hid hp1
  obtain ⟨t, et⟩ : ∃ t, txt (textL ⟨#[]⟩) = t := ⟨_, rfl⟩
  have Et : Hid (t = txt (textL ⟨#[]⟩)) := Lib.hid et.symm
  rw [et] at ht1 ht2
  have Ct := Lib.hid ht1
  clear hk1 ek ho1 eo hq1 eq hh1 eh hz1 ez hm1 em hu1 eu hp1 ep ht1 et hrd hwr hi0
  obtain ⟨V, hV⟩ : ∃ V, V = w.alloc (.cells #[.int .i64 a.kd, .int .i64 0, .int .i64 0, .int .i64 0, .int .i64 a.t0, .int .i64 a.t1, .int .i64 a.t2, .int .i64 a.home, .slice ra 0 rc, .slice wa 0 wc, .int .i64 a.mn, .int .i64 a.til, .int .i64 a.ts, .int .i64 a.ver, .int .i64 a.call, .int .i64 0, .string ⟨#[]⟩, .string ⟨#[]⟩, .string ⟨#[]⟩, .string ⟨#[]⟩, .bool false, .int .i64 0, .int .i64 0, .int .i64 0, .string ⟨#[]⟩, .slice none 0 0, .int .i64 0, .int .i64 0, .string ⟨#[]⟩, .int .i64 0] 76) := ⟨_, rfl⟩
  obtain ⟨Y, hY⟩ : ∃ Y, w.heap.size = Y := ⟨_, rfl⟩
  have hb : Below w.heap.size w V := by rw [hV]; exact bnew _ _
  have jY : V.heap[Y]? = some (.cells #[.int .i64 a.kd, .int .i64 0, .int .i64 0, .int .i64 0, .int .i64 a.t0, .int .i64 a.t1, .int .i64 a.t2, .int .i64 a.home, .slice ra 0 rc, .slice wa 0 wc, .int .i64 a.mn, .int .i64 a.til, .int .i64 a.ts, .int .i64 a.ver, .int .i64 a.call, .int .i64 0, .string ⟨#[]⟩, .string ⟨#[]⟩, .string ⟨#[]⟩, .string ⟨#[]⟩, .bool false, .int .i64 0, .int .i64 0, .int .i64 0, .string ⟨#[]⟩, .slice none 0 0, .int .i64 0, .int .i64 0, .string ⟨#[]⟩, .int .i64 0] 76 (0, 0)) := by rw [hV, ← hY]; exact heap_alloc_new w _
  have HV := Lib.hid hV
  have HY := Lib.hid hY
  have HB := Lib.hid hb
  have HJ := Lib.hid jY
  clear hV hY hb jY
  go_enter Try.func48, Try.ntmps48
  go_upto_region 1 with fail
  rw [← HV.out, HY.out]
  refine wp_region_fb (fun _ X9 => Below V.heap.size V X9) (fun X9 X8 => Below X9.heap.size X9 X8) [
    fun v9 _ => v9 = .pointer (some ⟨Y, 0, none⟩),
    fun v9 _ => v9 = .int .i64 a.kd,
    fun v9 _ => v9 = .string k,
    fun v9 _ => v9 = .pointer (some ⟨Y, 1, none⟩),
    fun v9 _ => v9 = .agg #[.int .i64 0, .int .i64 0, .int .i64 0],
    fun v9 _ => v9 = .string o,
    fun v9 _ => v9 = .string (k ++ o),
    fun v9 _ => v9 = .pointer (some ⟨Y, 4, none⟩),
    fun v9 _ => v9 = .agg #[.int .i64 a.t0, .int .i64 a.t1, .int .i64 a.t2],
    fun v9 _ => v9 = .string q,
    fun v9 _ => v9 = .string (k ++ o ++ q),
    fun v9 _ => v9 = .pointer (some ⟨Y, 7, none⟩),
    fun v9 _ => v9 = .int .i64 a.home,
    fun v9 _ => v9 = .string h,
    fun v9 _ => v9 = .string (k ++ o ++ q ++ h),
    fun v9 _ => v9 = .pointer (some ⟨Y, 8, none⟩),
    fun v9 _ => v9 = .slice ra 0 rc,
    fun v9 _ => v9 = .string z,
    fun v9 _ => v9 = .string (k ++ o ++ q ++ h ++ z),
    fun v9 _ => v9 = .pointer (some ⟨Y, 9, none⟩),
    fun v9 _ => v9 = .slice wa 0 wc,
    fun v9 _ => v9 = .string z,
    fun v9 _ => v9 = .string (k ++ o ++ q ++ h ++ z ++ z),
    fun v9 _ => v9 = .pointer (some ⟨Y, 10, none⟩),
    fun v9 _ => v9 = .int .i64 a.mn,
    fun v9 _ => v9 = .pointer (some ⟨Y, 11, none⟩),
    fun v9 _ => v9 = .int .i64 a.til,
    fun v9 _ => v9 = .pointer (some ⟨Y, 12, none⟩),
    fun v9 _ => v9 = .int .i64 a.ts,
    fun v9 _ => v9 = .pointer (some ⟨Y, 13, none⟩),
    fun v9 _ => v9 = .int .i64 a.ver,
    fun v9 _ => v9 = .pointer (some ⟨Y, 14, none⟩),
    fun v9 _ => v9 = .int .i64 a.call,
    fun v9 X9 => ∃ F9, v9 = .slice (some ⟨F9, 0, none⟩) 5 5 ∧ Ints X9 F9 [a.mn, a.til, a.ts, a.ver, a.call],
    fun v9 _ => v9 = .string m,
    fun v9 _ => v9 = .string (k ++ o ++ q ++ h ++ z ++ z ++ m),
    fun v9 _ => v9 = .pointer (some ⟨Y, 15, none⟩),
    fun v9 _ => v9 = .agg #[.int .i64 0, .string ⟨#[]⟩, .string ⟨#[]⟩, .string ⟨#[]⟩, .string ⟨#[]⟩, .bool false, .int .i64 0, .int .i64 0, .int .i64 0, .string ⟨#[]⟩, .slice none 0 0],
    fun v9 _ => v9 = .string u,
    fun v9 _ => v9 = .string (k ++ o ++ q ++ h ++ z ++ z ++ m ++ u),
    fun v9 _ => v9 = .pointer (some ⟨Y, 26, none⟩),
    fun v9 _ => v9 = .int .i64 0,
    fun v9 _ => v9 = .pointer (some ⟨Y, 27, none⟩),
    fun v9 _ => v9 = .int .i64 0,
    fun v9 X9 => ∃ F9, v9 = .slice (some ⟨F9, 0, none⟩) 2 2 ∧ Ints X9 F9 [0, 0],
    fun v9 _ => v9 = .string p,
    fun v9 _ => v9 = .string (k ++ o ++ q ++ h ++ z ++ z ++ m ++ u ++ p),
    fun v9 _ => v9 = .pointer (some ⟨Y, 28, none⟩),
    fun v9 _ => v9 = .string ⟨#[]⟩,
    fun v9 _ => v9 = .string t,
    fun v9 _ => v9 = .string (k ++ o ++ q ++ h ++ z ++ z ++ m ++ u ++ p ++ t),
    fun v9 _ => v9 = .pointer (some ⟨Y, 29, none⟩),
    fun v9 _ => v9 = .int .i64 0,
    fun v9 _ => v9 = .string z,
    fun v9 _ => v9 = .string (k ++ o ++ q ++ h ++ z ++ z ++ m ++ u ++ p ++ t ++ z),
    fun v9 _ => v9 = .string (k ++ o ++ q ++ h ++ z ++ z ++ m ++ u ++ p ++ t ++ z)]
    (by kernel_rfl) (by kernel_rfl) (by kernel_rfl) ?st ?g0 ?os ?en
  case st => exact ⟨fun _ _ _ _ h => h, fun _ _ _ _ h => h, fun _ _ _ _ h => h, fun _ _ _ _ h => h, fun _ _ _ _ h => h, fun _ _ _ _ h => h, fun _ _ _ _ h => h, fun _ _ _ _ h => h, fun _ _ _ _ h => h, fun _ _ _ _ h => h, fun _ _ _ _ h => h, fun _ _ _ _ h => h, fun _ _ _ _ h => h, fun _ _ _ _ h => h, fun _ _ _ _ h => h, fun _ _ _ _ h => h, fun _ _ _ _ h => h, fun _ _ _ _ h => h, fun _ _ _ _ h => h, fun _ _ _ _ h => h, fun _ _ _ _ h => h, fun _ _ _ _ h => h, fun _ _ _ _ h => h, fun _ _ _ _ h => h, fun _ _ _ _ h => h, fun _ _ _ _ h => h, fun _ _ _ _ h => h, fun _ _ _ _ h => h, fun _ _ _ _ h => h, fun _ _ _ _ h => h, fun _ _ _ _ h => h, fun _ _ _ _ h => h, fun _ _ _ _ h => h, (fun _ _ _ hb h => by obtain ⟨F9, e9, h9⟩ := h; exact ⟨F9, e9, h9.on hb⟩), fun _ _ _ _ h => h, fun _ _ _ _ h => h, fun _ _ _ _ h => h, fun _ _ _ _ h => h, fun _ _ _ _ h => h, fun _ _ _ _ h => h, fun _ _ _ _ h => h, fun _ _ _ _ h => h, fun _ _ _ _ h => h, fun _ _ _ _ h => h, (fun _ _ _ hb h => by obtain ⟨F9, e9, h9⟩ := h; exact ⟨F9, e9, h9.on hb⟩), fun _ _ _ _ h => h, fun _ _ _ _ h => h, fun _ _ _ _ h => h, fun _ _ _ _ h => h, fun _ _ _ _ h => h, fun _ _ _ _ h => h, fun _ _ _ _ h => h, fun _ _ _ _ h => h, fun _ _ _ _ h => h, fun _ _ _ _ h => h, fun _ _ _ _ h => h, trivial⟩
  case g0 => exact ⟨rfl, rfl, rfl, Nat.le_refl _, fun _ _ => rfl⟩
  case os =>
    refine ⟨?_, ?_, ?_, ?_, ?_, ?_, ?_, ?_, ?_, ?_, ?_, ?_, ?_, ?_, ?_, ?_, ?_, ?_, ?_, ?_, ?_, ?_, ?_, ?_, ?_, ?_, ?_, ?_, ?_, ?_, ?_, ?_, ?_, ?_, ?_, ?_, ?_, ?_, ?_, ?_, ?_, ?_, ?_, ?_, ?_, ?_, ?_, ?_, ?_, ?_, ?_, ?_, ?_, ?_, ?_, ?_, trivial⟩
    · exact fun ρ X9 fl hg hn hl hp ho hc hf hr => .inl ⟨rfl, Runs.val _ (op_f76_0 (show ρ (.tmp 1) = .pointer (some ⟨Y, 0, none⟩) from ho 1 rfl)) ⟨hg, Below.refl _ _, rfl⟩⟩
    · exact fun ρ X9 fl hg hn hl hp ho hc hf hr => .inl ⟨rfl, Runs.val _ (op_load3 (show ρ (.tmp 3) = .pointer (some ⟨Y, 0, none⟩) from hr 0 3 rfl rfl) (cell_on hg (cell_blk HJ.out 0))) ⟨hg, Below.refl _ _, rfl⟩⟩
    · intro ρ X9 fl hg hn hl hp ho hc hf hr
      refine .inl ⟨rfl, ?_⟩
      refine Runs.goes 64 #[.int .i64 a.kd] (op_call1 hf (by go_simp) (show ρ (.tmp 4) = .int .i64 a.kd from hr 1 4 rfl rfl)) ((Ck.out X9).mono ?_)
      rintro e7 w7 ⟨rfl, b7⟩
      exact ⟨_, rfl, bgo hg b7, b7, rfl⟩
    · exact fun ρ X9 fl hg hn hl hp ho hc hf hr => .inl ⟨rfl, Runs.val _ (op_f76_1 (show ρ (.tmp 1) = .pointer (some ⟨Y, 0, none⟩) from ho 1 rfl)) ⟨hg, Below.refl _ _, rfl⟩⟩
    · exact fun ρ X9 fl hg hn hl hp ho hc hf hr => .inl ⟨rfl, Runs.val _ (op_loadAt (show ρ (.tmp 6) = .pointer (some ⟨Y, 1, none⟩) from hr 3 6 rfl rfl) (run_loadAt_mid X9 Y 1 37 [.int .i64 0, .int .i64 0, .int .i64 0] _ (fun j u hu => by
              have h9 := (hg.block _ (blk_lt HJ.out)).trans HJ.out
              rw [cell_blk h9]
              match j, hu with
              | 0, hu => exact hu
              | 1, hu => exact hu
              | 2, hu => exact hu
              | m + 3, hu => cases hu) Try.underlying37 rfl size37)) ⟨hg, Below.refl _ _, rfl⟩⟩
    · intro ρ X9 fl hg hn hl hp ho hc hf hr
      refine .inl ⟨rfl, ?_⟩
      refine Runs.goes 65 #[.agg #[.int .i64 0, .int .i64 0, .int .i64 0]] (op_call1 hf (by go_simp) (show ρ (.tmp 7) = .agg #[.int .i64 0, .int .i64 0, .int .i64 0] from hr 4 7 rfl rfl)) ((Co.out X9).mono ?_)
      rintro e7 w7 ⟨rfl, b7⟩
      exact ⟨_, rfl, bgo hg b7, b7, rfl⟩
    · exact fun ρ X9 fl hg hn hl hp ho hc hf hr => .inl ⟨rfl, Runs.val _ (op_cat0 (show ρ (.tmp 5) = .string k from hr 2 5 rfl rfl) (show ρ (.tmp 8) = .string o from hr 5 8 rfl rfl) (by (try simp only [ByteArray.size_append]); omega)) ⟨hg, Below.refl _ _, rfl⟩⟩
    · exact fun ρ X9 fl hg hn hl hp ho hc hf hr => .inl ⟨rfl, Runs.val _ (op_f76_2 (show ρ (.tmp 1) = .pointer (some ⟨Y, 0, none⟩) from ho 1 rfl)) ⟨hg, Below.refl _ _, rfl⟩⟩
    · exact fun ρ X9 fl hg hn hl hp ho hc hf hr => .inl ⟨rfl, Runs.val _ (op_loadAt (show ρ (.tmp 10) = .pointer (some ⟨Y, 4, none⟩) from hr 7 10 rfl rfl) (run_loadAt_mid X9 Y 4 37 [.int .i64 a.t0, .int .i64 a.t1, .int .i64 a.t2] _ (fun j u hu => by
              have h9 := (hg.block _ (blk_lt HJ.out)).trans HJ.out
              rw [cell_blk h9]
              match j, hu with
              | 0, hu => exact hu
              | 1, hu => exact hu
              | 2, hu => exact hu
              | m + 3, hu => cases hu) Try.underlying37 rfl size37)) ⟨hg, Below.refl _ _, rfl⟩⟩
    · intro ρ X9 fl hg hn hl hp ho hc hf hr
      refine .inl ⟨rfl, ?_⟩
      refine Runs.goes 65 #[.agg #[.int .i64 a.t0, .int .i64 a.t1, .int .i64 a.t2]] (op_call1 hf (by go_simp) (show ρ (.tmp 11) = .agg #[.int .i64 a.t0, .int .i64 a.t1, .int .i64 a.t2] from hr 8 11 rfl rfl)) ((Cq.out X9).mono ?_)
      rintro e7 w7 ⟨rfl, b7⟩
      exact ⟨_, rfl, bgo hg b7, b7, rfl⟩
    · exact fun ρ X9 fl hg hn hl hp ho hc hf hr => .inl ⟨rfl, Runs.val _ (op_cat0 (show ρ (.tmp 9) = .string (k ++ o) from hr 6 9 rfl rfl) (show ρ (.tmp 12) = .string q from hr 9 12 rfl rfl) (by (try simp only [ByteArray.size_append]); omega)) ⟨hg, Below.refl _ _, rfl⟩⟩
    · exact fun ρ X9 fl hg hn hl hp ho hc hf hr => .inl ⟨rfl, Runs.val _ (op_f76_3 (show ρ (.tmp 1) = .pointer (some ⟨Y, 0, none⟩) from ho 1 rfl)) ⟨hg, Below.refl _ _, rfl⟩⟩
    · exact fun ρ X9 fl hg hn hl hp ho hc hf hr => .inl ⟨rfl, Runs.val _ (op_load3 (show ρ (.tmp 14) = .pointer (some ⟨Y, 7, none⟩) from hr 11 14 rfl rfl) (cell_on hg (cell_blk HJ.out 7))) ⟨hg, Below.refl _ _, rfl⟩⟩
    · intro ρ X9 fl hg hn hl hp ho hc hf hr
      refine .inl ⟨rfl, ?_⟩
      refine Runs.goes 64 #[.int .i64 a.home] (op_call1 hf (by go_simp) (show ρ (.tmp 15) = .int .i64 a.home from hr 12 15 rfl rfl)) ((Ch.out X9).mono ?_)
      rintro e7 w7 ⟨rfl, b7⟩
      exact ⟨_, rfl, bgo hg b7, b7, rfl⟩
    · exact fun ρ X9 fl hg hn hl hp ho hc hf hr => .inl ⟨rfl, Runs.val _ (op_cat0 (show ρ (.tmp 13) = .string (k ++ o ++ q) from hr 10 13 rfl rfl) (show ρ (.tmp 16) = .string h from hr 13 16 rfl rfl) (by (try simp only [ByteArray.size_append]); omega)) ⟨hg, Below.refl _ _, rfl⟩⟩
    · exact fun ρ X9 fl hg hn hl hp ho hc hf hr => .inl ⟨rfl, Runs.val _ (op_f76_4 (show ρ (.tmp 1) = .pointer (some ⟨Y, 0, none⟩) from ho 1 rfl)) ⟨hg, Below.refl _ _, rfl⟩⟩
    · exact fun ρ X9 fl hg hn hl hp ho hc hf hr => .inl ⟨rfl, Runs.val _ (op_load22 (show ρ (.tmp 18) = .pointer (some ⟨Y, 8, none⟩) from hr 15 18 rfl rfl) (cell_on hg (cell_blk HJ.out 8))) ⟨hg, Below.refl _ _, rfl⟩⟩
    · intro ρ X9 fl hg hn hl hp ho hc hf hr
      refine .inl ⟨rfl, ?_⟩
      refine Runs.goes 66 #[.slice ra 0 rc] (op_call1 hf (by go_simp) (show ρ (.tmp 19) = .slice ra 0 rc from hr 16 19 rfl rfl)) ((CR.out X9).mono ?_)
      rintro e7 w7 ⟨rfl, b7⟩
      exact ⟨_, rfl, bgo hg b7, b7, rfl⟩
    · exact fun ρ X9 fl hg hn hl hp ho hc hf hr => .inl ⟨rfl, Runs.val _ (op_cat0 (show ρ (.tmp 17) = .string (k ++ o ++ q ++ h) from hr 14 17 rfl rfl) (show ρ (.tmp 20) = .string z from hr 17 20 rfl rfl) (by (try simp only [ByteArray.size_append]); omega)) ⟨hg, Below.refl _ _, rfl⟩⟩
    · exact fun ρ X9 fl hg hn hl hp ho hc hf hr => .inl ⟨rfl, Runs.val _ (op_f76_5 (show ρ (.tmp 1) = .pointer (some ⟨Y, 0, none⟩) from ho 1 rfl)) ⟨hg, Below.refl _ _, rfl⟩⟩
    · exact fun ρ X9 fl hg hn hl hp ho hc hf hr => .inl ⟨rfl, Runs.val _ (op_load23 (show ρ (.tmp 22) = .pointer (some ⟨Y, 9, none⟩) from hr 19 22 rfl rfl) (cell_on hg (cell_blk HJ.out 9))) ⟨hg, Below.refl _ _, rfl⟩⟩
    · intro ρ X9 fl hg hn hl hp ho hc hf hr
      refine .inl ⟨rfl, ?_⟩
      refine Runs.goes 67 #[.slice wa 0 wc] (op_call1 hf (by go_simp) (show ρ (.tmp 23) = .slice wa 0 wc from hr 20 23 rfl rfl)) ((CW.out X9).mono ?_)
      rintro e7 w7 ⟨rfl, b7⟩
      exact ⟨_, rfl, bgo hg b7, b7, rfl⟩
    · exact fun ρ X9 fl hg hn hl hp ho hc hf hr => .inl ⟨rfl, Runs.val _ (op_cat0 (show ρ (.tmp 21) = .string (k ++ o ++ q ++ h ++ z) from hr 18 21 rfl rfl) (show ρ (.tmp 24) = .string z from hr 21 24 rfl rfl) (by (try simp only [ByteArray.size_append]); omega)) ⟨hg, Below.refl _ _, rfl⟩⟩
    · exact fun ρ X9 fl hg hn hl hp ho hc hf hr => .inl ⟨rfl, Runs.val _ (op_f76_6 (show ρ (.tmp 1) = .pointer (some ⟨Y, 0, none⟩) from ho 1 rfl)) ⟨hg, Below.refl _ _, rfl⟩⟩
    · exact fun ρ X9 fl hg hn hl hp ho hc hf hr => .inl ⟨rfl, Runs.val _ (op_load3 (show ρ (.tmp 26) = .pointer (some ⟨Y, 10, none⟩) from hr 23 26 rfl rfl) (cell_on hg (cell_blk HJ.out 10))) ⟨hg, Below.refl _ _, rfl⟩⟩
    · exact fun ρ X9 fl hg hn hl hp ho hc hf hr => .inl ⟨rfl, Runs.val _ (op_f76_7 (show ρ (.tmp 1) = .pointer (some ⟨Y, 0, none⟩) from ho 1 rfl)) ⟨hg, Below.refl _ _, rfl⟩⟩
    · exact fun ρ X9 fl hg hn hl hp ho hc hf hr => .inl ⟨rfl, Runs.val _ (op_load3 (show ρ (.tmp 28) = .pointer (some ⟨Y, 11, none⟩) from hr 25 28 rfl rfl) (cell_on hg (cell_blk HJ.out 11))) ⟨hg, Below.refl _ _, rfl⟩⟩
    · exact fun ρ X9 fl hg hn hl hp ho hc hf hr => .inl ⟨rfl, Runs.val _ (op_f76_8 (show ρ (.tmp 1) = .pointer (some ⟨Y, 0, none⟩) from ho 1 rfl)) ⟨hg, Below.refl _ _, rfl⟩⟩
    · exact fun ρ X9 fl hg hn hl hp ho hc hf hr => .inl ⟨rfl, Runs.val _ (op_load3 (show ρ (.tmp 30) = .pointer (some ⟨Y, 12, none⟩) from hr 27 30 rfl rfl) (cell_on hg (cell_blk HJ.out 12))) ⟨hg, Below.refl _ _, rfl⟩⟩
    · exact fun ρ X9 fl hg hn hl hp ho hc hf hr => .inl ⟨rfl, Runs.val _ (op_f76_9 (show ρ (.tmp 1) = .pointer (some ⟨Y, 0, none⟩) from ho 1 rfl)) ⟨hg, Below.refl _ _, rfl⟩⟩
    · exact fun ρ X9 fl hg hn hl hp ho hc hf hr => .inl ⟨rfl, Runs.val _ (op_load3 (show ρ (.tmp 32) = .pointer (some ⟨Y, 13, none⟩) from hr 29 32 rfl rfl) (cell_on hg (cell_blk HJ.out 13))) ⟨hg, Below.refl _ _, rfl⟩⟩
    · exact fun ρ X9 fl hg hn hl hp ho hc hf hr => .inl ⟨rfl, Runs.val _ (op_f76_10 (show ρ (.tmp 1) = .pointer (some ⟨Y, 0, none⟩) from ho 1 rfl)) ⟨hg, Below.refl _ _, rfl⟩⟩
    · exact fun ρ X9 fl hg hn hl hp ho hc hf hr => .inl ⟨rfl, Runs.val _ (op_load3 (show ρ (.tmp 34) = .pointer (some ⟨Y, 14, none⟩) from hr 31 34 rfl rfl) (cell_on hg (cell_blk HJ.out 14))) ⟨hg, Below.refl _ _, rfl⟩⟩
    · intro ρ X9 fl hg hn hl hp ho hc hf hr
      exact .inl ⟨rfl, Runs.val _ (op_ints5 (show ρ (.tmp 27) = .int .i64 a.mn from hr 24 27 rfl rfl) (show ρ (.tmp 29) = .int .i64 a.til from hr 26 29 rfl rfl) (show ρ (.tmp 31) = .int .i64 a.ts from hr 28 31 rfl rfl) (show ρ (.tmp 33) = .int .i64 a.ver from hr 30 33 rfl rfl) (show ρ (.tmp 35) = .int .i64 a.call from hr 32 35 rfl rfl)) ⟨bgo hg (bnew _ _), bnew _ _, _, rfl, _, _, heap_alloc_new _ _, fun i h => by match i, h with | 0, _ => rfl | 1, _ => rfl | 2, _ => rfl | 3, _ => rfl | 4, _ => rfl⟩⟩
    · intro ρ X9 fl hg hn hl hp ho hc hf hr
      obtain ⟨F9, e9, h9⟩ : ∃ F9, ρ (.tmp 36) = .slice (some ⟨F9, 0, none⟩) 5 5 ∧ Ints X9 F9 [a.mn, a.til, a.ts, a.ver, a.call] := hr 33 36 rfl rfl
      refine .inl ⟨rfl, ?_⟩
      refine Runs.goes 68 #[.slice (some ⟨F9, 0, none⟩) 5 5] (op_call1 hf (by go_simp) e9) ((Cm.out X9 F9 h9).mono ?_)
      rintro e7 w7 ⟨rfl, b7⟩
      exact ⟨_, rfl, bgo hg b7, b7, rfl⟩
    · exact fun ρ X9 fl hg hn hl hp ho hc hf hr => .inl ⟨rfl, Runs.val _ (op_cat0 (show ρ (.tmp 25) = .string (k ++ o ++ q ++ h ++ z ++ z) from hr 22 25 rfl rfl) (show ρ (.tmp 37) = .string m from hr 34 37 rfl rfl) (by (try simp only [ByteArray.size_append]); omega)) ⟨hg, Below.refl _ _, rfl⟩⟩
    · exact fun ρ X9 fl hg hn hl hp ho hc hf hr => .inl ⟨rfl, Runs.val _ (op_f76_11 (show ρ (.tmp 1) = .pointer (some ⟨Y, 0, none⟩) from ho 1 rfl)) ⟨hg, Below.refl _ _, rfl⟩⟩
    · exact fun ρ X9 fl hg hn hl hp ho hc hf hr => .inl ⟨rfl, Runs.val _ (op_loadAt (show ρ (.tmp 39) = .pointer (some ⟨Y, 15, none⟩) from hr 36 39 rfl rfl) (run_loadAt_mid X9 Y 15 74 [.int .i64 0, .string ⟨#[]⟩, .string ⟨#[]⟩, .string ⟨#[]⟩, .string ⟨#[]⟩, .bool false, .int .i64 0, .int .i64 0, .int .i64 0, .string ⟨#[]⟩, .slice none 0 0] _ (fun j u hu => by
              have h9 := (hg.block _ (blk_lt HJ.out)).trans HJ.out
              rw [cell_blk h9]
              match j, hu with
              | 0, hu => exact hu
              | 1, hu => exact hu
              | 2, hu => exact hu
              | 3, hu => exact hu
              | 4, hu => exact hu
              | 5, hu => exact hu
              | 6, hu => exact hu
              | 7, hu => exact hu
              | 8, hu => exact hu
              | 9, hu => exact hu
              | 10, hu => exact hu
              | m + 11, hu => cases hu) Try.underlying74 rfl size74)) ⟨hg, Below.refl _ _, rfl⟩⟩
    · intro ρ X9 fl hg hn hl hp ho hc hf hr
      refine .inl ⟨rfl, ?_⟩
      refine Runs.goes 69 #[.agg #[.int .i64 0, .string ⟨#[]⟩, .string ⟨#[]⟩, .string ⟨#[]⟩, .string ⟨#[]⟩, .bool false, .int .i64 0, .int .i64 0, .int .i64 0, .string ⟨#[]⟩, .slice none 0 0]] (op_call1 hf (by go_simp) (show ρ (.tmp 40) = .agg #[.int .i64 0, .string ⟨#[]⟩, .string ⟨#[]⟩, .string ⟨#[]⟩, .string ⟨#[]⟩, .bool false, .int .i64 0, .int .i64 0, .int .i64 0, .string ⟨#[]⟩, .slice none 0 0] from hr 37 40 rfl rfl)) ((Cu.out X9).mono ?_)
      rintro e7 w7 ⟨rfl, b7⟩
      exact ⟨_, rfl, bgo hg b7, b7, rfl⟩
    · exact fun ρ X9 fl hg hn hl hp ho hc hf hr => .inl ⟨rfl, Runs.val _ (op_cat0 (show ρ (.tmp 38) = .string (k ++ o ++ q ++ h ++ z ++ z ++ m) from hr 35 38 rfl rfl) (show ρ (.tmp 41) = .string u from hr 38 41 rfl rfl) (by (try simp only [ByteArray.size_append]); omega)) ⟨hg, Below.refl _ _, rfl⟩⟩
    · exact fun ρ X9 fl hg hn hl hp ho hc hf hr => .inl ⟨rfl, Runs.val _ (op_f76_12 (show ρ (.tmp 1) = .pointer (some ⟨Y, 0, none⟩) from ho 1 rfl)) ⟨hg, Below.refl _ _, rfl⟩⟩
    · exact fun ρ X9 fl hg hn hl hp ho hc hf hr => .inl ⟨rfl, Runs.val _ (op_load3 (show ρ (.tmp 43) = .pointer (some ⟨Y, 26, none⟩) from hr 40 43 rfl rfl) (cell_on hg (cell_blk HJ.out 26))) ⟨hg, Below.refl _ _, rfl⟩⟩
    · exact fun ρ X9 fl hg hn hl hp ho hc hf hr => .inl ⟨rfl, Runs.val _ (op_f76_13 (show ρ (.tmp 1) = .pointer (some ⟨Y, 0, none⟩) from ho 1 rfl)) ⟨hg, Below.refl _ _, rfl⟩⟩
    · exact fun ρ X9 fl hg hn hl hp ho hc hf hr => .inl ⟨rfl, Runs.val _ (op_load3 (show ρ (.tmp 45) = .pointer (some ⟨Y, 27, none⟩) from hr 42 45 rfl rfl) (cell_on hg (cell_blk HJ.out 27))) ⟨hg, Below.refl _ _, rfl⟩⟩
    · intro ρ X9 fl hg hn hl hp ho hc hf hr
      exact .inl ⟨rfl, Runs.val _ (op_ints2 (show ρ (.tmp 44) = .int .i64 0 from hr 41 44 rfl rfl) (show ρ (.tmp 46) = .int .i64 0 from hr 43 46 rfl rfl)) ⟨bgo hg (bnew _ _), bnew _ _, _, rfl, _, _, heap_alloc_new _ _, fun i h => by match i, h with | 0, _ => rfl | 1, _ => rfl⟩⟩
    · intro ρ X9 fl hg hn hl hp ho hc hf hr
      obtain ⟨F9, e9, h9⟩ : ∃ F9, ρ (.tmp 47) = .slice (some ⟨F9, 0, none⟩) 2 2 ∧ Ints X9 F9 [0, 0] := hr 44 47 rfl rfl
      refine .inl ⟨rfl, ?_⟩
      refine Runs.goes 68 #[.slice (some ⟨F9, 0, none⟩) 2 2] (op_call1 hf (by go_simp) e9) ((Cp.out X9 F9 h9).mono ?_)
      rintro e7 w7 ⟨rfl, b7⟩
      exact ⟨_, rfl, bgo hg b7, b7, rfl⟩
    · exact fun ρ X9 fl hg hn hl hp ho hc hf hr => .inl ⟨rfl, Runs.val _ (op_cat0 (show ρ (.tmp 42) = .string (k ++ o ++ q ++ h ++ z ++ z ++ m ++ u) from hr 39 42 rfl rfl) (show ρ (.tmp 48) = .string p from hr 45 48 rfl rfl) (by (try simp only [ByteArray.size_append]); omega)) ⟨hg, Below.refl _ _, rfl⟩⟩
    · exact fun ρ X9 fl hg hn hl hp ho hc hf hr => .inl ⟨rfl, Runs.val _ (op_f76_14 (show ρ (.tmp 1) = .pointer (some ⟨Y, 0, none⟩) from ho 1 rfl)) ⟨hg, Below.refl _ _, rfl⟩⟩
    · exact fun ρ X9 fl hg hn hl hp ho hc hf hr => .inl ⟨rfl, Runs.val _ (op_load9 (show ρ (.tmp 50) = .pointer (some ⟨Y, 28, none⟩) from hr 47 50 rfl rfl) (cell_on hg (cell_blk HJ.out 28))) ⟨hg, Below.refl _ _, rfl⟩⟩
    · intro ρ X9 fl hg hn hl hp ho hc hf hr
      refine .inl ⟨rfl, ?_⟩
      refine Runs.goes 70 #[.string ⟨#[]⟩] (op_call1 hf (by go_simp) (show ρ (.tmp 51) = .string ⟨#[]⟩ from hr 48 51 rfl rfl)) ((Ct.out X9).mono ?_)
      rintro e7 w7 ⟨rfl, b7⟩
      exact ⟨_, rfl, bgo hg b7, b7, rfl⟩
    · exact fun ρ X9 fl hg hn hl hp ho hc hf hr => .inl ⟨rfl, Runs.val _ (op_cat0 (show ρ (.tmp 49) = .string (k ++ o ++ q ++ h ++ z ++ z ++ m ++ u ++ p) from hr 46 49 rfl rfl) (show ρ (.tmp 52) = .string t from hr 49 52 rfl rfl) (by (try simp only [ByteArray.size_append]); omega)) ⟨hg, Below.refl _ _, rfl⟩⟩
    · exact fun ρ X9 fl hg hn hl hp ho hc hf hr => .inl ⟨rfl, Runs.val _ (op_f76_15 (show ρ (.tmp 1) = .pointer (some ⟨Y, 0, none⟩) from ho 1 rfl)) ⟨hg, Below.refl _ _, rfl⟩⟩
    · exact fun ρ X9 fl hg hn hl hp ho hc hf hr => .inl ⟨rfl, Runs.val _ (op_load31 (show ρ (.tmp 54) = .pointer (some ⟨Y, 29, none⟩) from hr 51 54 rfl rfl) (cell_on hg (cell_blk HJ.out 29))) ⟨hg, Below.refl _ _, rfl⟩⟩
    · intro ρ X9 fl hg hn hl hp ho hc hf hr
      refine .inl ⟨rfl, ?_⟩
      refine Runs.goes 64 #[.int .i64 0] (op_call1 hf (by go_simp) (show ρ (.tmp 55) = .int .i64 0 from hr 52 55 rfl rfl)) ((Cz.out X9).mono ?_)
      rintro e7 w7 ⟨rfl, b7⟩
      exact ⟨_, rfl, bgo hg b7, b7, rfl⟩
    · exact fun ρ X9 fl hg hn hl hp ho hc hf hr => .inl ⟨rfl, Runs.val _ (op_cat0 (show ρ (.tmp 53) = .string (k ++ o ++ q ++ h ++ z ++ z ++ m ++ u ++ p ++ t) from hr 50 53 rfl rfl) (show ρ (.tmp 56) = .string z from hr 53 56 rfl rfl) (by (try simp only [ByteArray.size_append]); omega)) ⟨hg, Below.refl _ _, rfl⟩⟩
    · exact fun ρ X9 fl hg hn hl hp ho hc hf hr => .inl ⟨rfl, Runs.val _ (op_assign (show ρ (.tmp 57) = .string (k ++ o ++ q ++ h ++ z ++ z ++ m ++ u ++ p ++ t ++ z) from hr 54 57 rfl rfl)) ⟨hg, Below.refl _ _, rfl⟩⟩
  case en =>
    intro a9 w6 fl hfl hG9 hs9 hd9 ho9 hr9
    obtain ⟨x9, hx, hxt⟩ := act_put hs9 hd9 ho9
    have xk2 : x9 2 = .string (k ++ o ++ q ++ h ++ z ++ z ++ m ++ u ++ p ++ t ++ z) := (hxt 2).symm.trans (hr9 55 2 rfl)
    change a9 = putAll _ x9 [3, 4, 5, 6, 7, 8, 9, 10, 11, 12, 13, 14, 15, 16, 17, 18, 19, 20, 21, 22, 23, 24, 25, 26, 27, 28, 29, 30, 31, 32, 33, 34, 35, 36, 37, 38, 39, 40, 41, 42, 43, 44, 45, 46, 47, 48, 49, 50, 51, 52, 53, 54, 55, 56, 57, 2] at hx
    simp only [putAll, Act.put, List.setIfInBounds_toArray, List.set_cons_zero, List.set_cons_succ, xk2] at hx
    subst hx
    clear hs9 hd9 ho9 hr9 hxt hfl xk2
    generalize x9 3 = z3, x9 4 = z4, x9 5 = z5, x9 6 = z6, x9 7 = z7, x9 8 = z8, x9 9 = z9, x9 10 = z10, x9 11 = z11, x9 12 = z12, x9 13 = z13, x9 14 = z14, x9 15 = z15, x9 16 = z16, x9 17 = z17, x9 18 = z18, x9 19 = z19, x9 20 = z20, x9 21 = z21, x9 22 = z22, x9 23 = z23, x9 24 = z24, x9 25 = z25, x9 26 = z26, x9 27 = z27, x9 28 = z28, x9 29 = z29, x9 30 = z30, x9 31 = z31, x9 32 = z32, x9 33 = z33, x9 34 = z34, x9 35 = z35, x9 36 = z36, x9 37 = z37, x9 38 = z38, x9 39 = z39, x9 40 = z40, x9 41 = z41, x9 42 = z42, x9 43 = z43, x9 44 = z44, x9 45 = z45, x9 46 = z46, x9 47 = z47, x9 48 = z48, x9 49 = z49, x9 50 = z50, x9 51 = z51, x9 52 = z52, x9 53 = z53, x9 54 = z54, x9 55 = z55, x9 56 = z56, x9 57 = z57
    have HE := Lib.hid hG9
    clear hG9
    go_wp2
    refine bodyPost_ret (v := .string (k ++ o ++ q ++ h ++ z ++ z ++ m ++ u ++ p ++ t ++ z)) (by simp [results, Try.results48, go_sem]) rfl ?_
    exact ⟨by rw [Ek.out, Eo.out, Eq.out, Eh.out, Ez.out, Em.out, Eu.out, Ep.out, Et.out]; rfl, bgo HB.out HE.out⟩
end Go.Proofs.Ytfokgalgdlajlaa
