/- The law RowsKeys. -/
import Derived.Test.YtbepekgaipipjaaRs
import Derived.Test.YtbepekgaipipjaaWo
namespace Go.Proofs.Ytbepekgaipipjaa
open Go.RowKit
section
variable {ρ : Operand → Value} {X : World} {d : Option Tmp} {ty : TypeId} {ps : String} {af : Array Edge} {g : Option (Nat × Bool)}
theorem op_neq28 {x y : Operand} {l : List UInt8} (e : ρ x = spV l) (e2 : ρ y = spV l) : (execOp ρ ⟨d, .binOp .neq 28 x y 28, ty, ps, af, g⟩).run Try.prog X = .ok (.value (.bool false)) X := by
  have h1 := same_eq (bs l) (bs l)
  have h2 := same_eq (bs l ++ ⟨#[255]⟩) (bs l ++ ⟨#[255]⟩)
  simp only [decide_true] at h1 h2
  simp only [execOp, e, e2]
  go_simp
end
theorem keyA_none {l : List UInt8} (h : decL 8 l = none) : keyA l = nullV0 ∧ keyE l = 20 := by unfold keyA keyE lastP; rw [h]; exact ⟨rfl, rfl⟩
theorem keyA_nil {l : List UInt8} (h : decL 8 l = some []) : keyA l = nullV0 ∧ keyE l = 20 := by unfold keyA keyE lastP; rw [h]; exact ⟨rfl, rfl⟩
theorem keyA_some {l : List UInt8} {M : List V} {m : Nat} (h : decL 8 l = some M) (hm : M.length = m + 1) (hml : m < M.length) : keyA l = M[m] ∧ keyE l = 0 := by
  have : lastP l = some M[m] := by
    unfold lastP
    rw [h]
    show M.getLast? = _
    rw [List.getLast?_eq_getElem?, hm, Nat.add_sub_cancel, List.getElem?_eq_getElem hml]
  unfold keyA keyE
  rw [this]
  exact ⟨rfl, rfl⟩
set_option maxHeartbeats 8000000 in
set_option maxRecDepth 100000 in
theorem keys_law {id : Int} {v k : V} {s : ByteArray} (hid : Fit id) (hv : Fit v.n) (hk : Fit k.n) (hs : s.size ≤ 140737488351232) (w : World) : Calls Try.prog 3 #[.int .i64 id, vlV v, vlV k, .string s] w fun e w' => e = .returned (.bool true) ∧ Below w.heap.size w w' := by
  obtain ⟨W0, hW0⟩ : ∃ W, W = w.alloc (.cells (vlA v) 23) := ⟨_, rfl⟩
  obtain ⟨W, hW⟩ : ∃ W, W = W0.alloc (.cells (vlA k) 23) := ⟨_, rfl⟩
  obtain ⟨Y0, hY0⟩ : ∃ Y, w.heap.size = Y := ⟨_, rfl⟩
  obtain ⟨Y1, hY1⟩ : ∃ Y, Y0 + 1 = Y := ⟨_, rfl⟩
  have sW0 : W0.heap.size = Y1 := by rw [hW0]; simp; omega
  have b0 : Below w.heap.size w W0 := by rw [hW0]; exact bnew _ _
  have b1 : Below W0.heap.size W0 W := by rw [hW]; exact bnew _ _
  have j0 : W.heap[Y0]? = some (.cells (vlA v) 23 (0, 0)) := by
    have : W0.heap[Y0]? = some (.cells (vlA v) 23 (0, 0)) := by rw [hW0, ← hY0]; exact heap_alloc_new w _
    exact (b1.block Y0 (blk_lt this)).trans this
  have j1 : W.heap[Y1]? = some (.cells (vlA k) 23 (0, 0)) := by rw [hW, ← sW0]; exact heap_alloc_new W0 _
  have c00 : W.cell? ⟨Y0, 0, none⟩ = some (.int .i64 v.k) := cell_blk j0 0
  have c01 : W.cell? ⟨Y0, 0 + 1, none⟩ = some (.int .i64 v.n) := cell_blk j0 1
  have c02 : W.cell? ⟨Y0, 0 + 2, none⟩ = some (.string v.s) := cell_blk j0 2
  have c10 : W.cell? ⟨Y1, 0, none⟩ = some (.int .i64 k.k) := cell_blk j1 0
  have c11 : W.cell? ⟨Y1, 0 + 1, none⟩ = some (.int .i64 k.n) := cell_blk j1 1
  have c12 : W.cell? ⟨Y1, 0 + 2, none⟩ = some (.string k.s) := cell_blk j1 2
  have HB := Lib.hid (bgo b0 b1)
  have HW : Hid (W = (w.alloc (.cells (vlA v) 23)).alloc (.cells (vlA k) 23)) := Lib.hid (by rw [hW, hW0])
  have HY0 := Lib.hid hY0
  have HY1 := Lib.hid hY1
  have HS := Lib.hid hs
  have hfA : Fits [nv 0, nv id] := fits22 (fit_small (by decide) (by decide)) hid
  have hfB : Fits [nv 1, nv id] := fits22 (fit_small (by decide) (by decide)) hid
  have hfC : Fits [nv 1, nv id, v] := fits3 (fit_small (by decide) (by decide)) hid hv
  clear hW hW0 hY0 hY1 sW0 b0 b1 j0 j1 hs
  go_enter Try.func3, Try.ntmps3
  go_upto_region 1 with fail
  rw [← HW.out, HY0.out, HY1.out]
  refine wp_region_fb (fun _ X9 => Below W.heap.size W X9) (fun X9 X8 => Below X9.heap.size X9 X8) [
    fun v9 _ => v9 = .bool true,
    fun v9 _ => v9 = .bool false,
    fun v9 _ => v9 = .bool false,
    fun v9 _ => v9 = .int .i64 id,
    fun v9 _ => v9 = vlV k,
    fun v9 _ => v9 = .string (bs (encS [nv 0, nv id, k])),
    fun v9 _ => v9 = .int .i64 id,
    fun v9 _ => v9 = vlV k,
    fun v9 _ => v9 = .string (bs (encS [nv 0, nv id, k])),
    fun v9 _ => v9 = .bool false,
    fun v9 _ => v9 = .bool false,
    fun v9 _ => v9 = .bool false,
    fun v9 _ => v9 = .int .i64 id,
    fun v9 _ => v9 = vlV v,
    fun v9 _ => v9 = vlV k,
    fun v9 _ => v9 = .string (bs (encS [nv 1, nv id, v, k])),
    fun v9 _ => v9 = .int .i64 id,
    fun v9 _ => v9 = vlV v,
    fun v9 _ => v9 = vlV k,
    fun v9 _ => v9 = .string (bs (encS [nv 1, nv id, v, k])),
    fun v9 _ => v9 = .bool false,
    fun v9 _ => v9 = .bool false]
    (by kernel_rfl) (by kernel_rfl) (by kernel_rfl) ?st ?g0 ?os ?en
  case st => exact ⟨fun _ _ _ _ h => h, fun _ _ _ _ h => h, fun _ _ _ _ h => h, fun _ _ _ _ h => h, fun _ _ _ _ h => h, fun _ _ _ _ h => h, fun _ _ _ _ h => h, fun _ _ _ _ h => h, fun _ _ _ _ h => h, fun _ _ _ _ h => h, fun _ _ _ _ h => h, fun _ _ _ _ h => h, fun _ _ _ _ h => h, fun _ _ _ _ h => h, fun _ _ _ _ h => h, fun _ _ _ _ h => h, fun _ _ _ _ h => h, fun _ _ _ _ h => h, fun _ _ _ _ h => h, fun _ _ _ _ h => h, fun _ _ _ _ h => h, fun _ _ _ _ h => h, trivial⟩
  case g0 => exact ⟨rfl, rfl, rfl, Nat.le_refl _, fun _ _ => rfl⟩
  case os =>
    refine ⟨?_, ?_, ?_, ?_, ?_, ?_, ?_, ?_, ?_, ?_, ?_, ?_, ?_, ?_, ?_, ?_, ?_, ?_, ?_, ?_, ?_, ?_, trivial⟩
    · intro ρ X9 fl hg hn hl hp ho hc hf hr
      refine .inl ⟨rfl, ?_⟩
      refine Runs.goes 10 #[] (op_call0 hf (by go_simp) ) ((awake_any X9).mono ?_)
      rintro e7 w7 ⟨rfl, b7⟩
      exact ⟨_, rfl, bgo hg b7, b7, rfl⟩
    · exact fun ρ X9 fl hg hn hl hp ho hc hf hr => .inl ⟨rfl, Runs.val _ (op_not (show ρ (.tmp 13) = .bool true from hr 0 13 rfl rfl) ) ⟨hg, Below.refl _ _, rfl⟩⟩
    · exact fun ρ X9 fl hg hn hl hp ho hc hf hr => .inl ⟨rfl, Runs.val _ (op_move (show ρ (.tmp 14) = .bool false from hr 1 14 rfl rfl)) ⟨hg, Below.refl _ _, rfl⟩⟩
    · exact fun ρ X9 fl hg hn hl hp ho hc hf hr => .inr (.inl ⟨2, 15, false, fun _ => rfl, rfl, hr 2 15 rfl rfl, Runs.val _ (op_move (show ρ (.tmp 0) = .int .i64 id from ho 0 rfl)) ⟨hg, Below.refl _ _, rfl⟩⟩)
    · exact fun ρ X9 fl hg hn hl hp ho hc hf hr => .inr (.inl ⟨2, 15, false, fun _ => rfl, rfl, hr 2 15 rfl rfl, Runs.val _ (op_load23 (show ρ (.tmp 6) = .pointer (some ⟨Y1, 0, none⟩) from ho 6 rfl) (cell_on hg c10) (cell_on hg c11) (cell_on hg c12)) ⟨hg, Below.refl _ _, rfl⟩⟩)
    · intro ρ X9 fl hg hn hl hp ho hc hf hr
      refine .inr (.inl ⟨2, 15, false, fun _ => rfl, rfl, hr 2 15 rfl rfl, ?_⟩)
      refine Runs.goes 11 #[.int .i64 id, vlV k] (op_call2 hf (by go_simp) (show ρ (.tmp 16) = .int .i64 id from hr 3 16 rfl rfl) (show ρ (.tmp 17) = vlV k from hr 4 17 rfl rfl)) ((row_any hid hk X9).mono ?_)
      rintro e7 w7 ⟨rfl, b7⟩
      exact ⟨_, rfl, bgo hg b7, b7, rfl⟩
    · exact fun ρ X9 fl hg hn hl hp ho hc hf hr => .inr (.inl ⟨2, 15, false, fun _ => rfl, rfl, hr 2 15 rfl rfl, Runs.val _ (op_move (show ρ (.tmp 0) = .int .i64 id from ho 0 rfl)) ⟨hg, Below.refl _ _, rfl⟩⟩)
    · exact fun ρ X9 fl hg hn hl hp ho hc hf hr => .inr (.inl ⟨2, 15, false, fun _ => rfl, rfl, hr 2 15 rfl rfl, Runs.val _ (op_load23 (show ρ (.tmp 6) = .pointer (some ⟨Y1, 0, none⟩) from ho 6 rfl) (cell_on hg c10) (cell_on hg c11) (cell_on hg c12)) ⟨hg, Below.refl _ _, rfl⟩⟩)
    · intro ρ X9 fl hg hn hl hp ho hc hf hr
      refine .inr (.inl ⟨2, 15, false, fun _ => rfl, rfl, hr 2 15 rfl rfl, ?_⟩)
      refine Runs.goes 12 #[.int .i64 id, vlV k] (op_call2 hf (by go_simp) (show ρ (.tmp 19) = .int .i64 id from hr 6 19 rfl rfl) (show ρ (.tmp 20) = vlV k from hr 7 20 rfl rfl)) ((refRow_any hid hk X9).mono ?_)
      rintro e7 w7 ⟨rfl, b7⟩
      exact ⟨_, rfl, bgo hg b7, b7, rfl⟩
    · exact fun ρ X9 fl hg hn hl hp ho hc hf hr => .inr (.inl ⟨2, 15, false, fun _ => rfl, rfl, hr 2 15 rfl rfl, Runs.val _ (op_neq9 (show ρ (.tmp 18) = .string (bs (encS [nv 0, nv id, k])) from hr 5 18 rfl rfl) (show ρ (.tmp 21) = .string (bs (encS [nv 0, nv id, k])) from hr 8 21 rfl rfl) (b := false) (by simp)) ⟨hg, Below.refl _ _, rfl⟩⟩)
    · exact fun ρ X9 fl hg hn hl hp ho hc hf hr => .inl ⟨rfl, Runs.val _ (op_pick (show ρ (.tmp 15) = .bool false from hr 2 15 rfl rfl) (show ρ (.tmp 22) = .bool false from hr 9 22 rfl rfl)) ⟨hg, Below.refl _ _, rfl⟩⟩
    · exact fun ρ X9 fl hg hn hl hp ho hc hf hr => .inl ⟨rfl, Runs.val _ (op_move (show ρ (.tmp 23) = .bool false from hr 10 23 rfl rfl)) ⟨hg, Below.refl _ _, rfl⟩⟩
    · exact fun ρ X9 fl hg hn hl hp ho hc hf hr => .inr (.inl ⟨11, 24, false, fun _ => rfl, rfl, hr 11 24 rfl rfl, Runs.val _ (op_move (show ρ (.tmp 0) = .int .i64 id from ho 0 rfl)) ⟨hg, Below.refl _ _, rfl⟩⟩)
    · exact fun ρ X9 fl hg hn hl hp ho hc hf hr => .inr (.inl ⟨11, 24, false, fun _ => rfl, rfl, hr 11 24 rfl rfl, Runs.val _ (op_load23 (show ρ (.tmp 5) = .pointer (some ⟨Y0, 0, none⟩) from ho 5 rfl) (cell_on hg c00) (cell_on hg c01) (cell_on hg c02)) ⟨hg, Below.refl _ _, rfl⟩⟩)
    · exact fun ρ X9 fl hg hn hl hp ho hc hf hr => .inr (.inl ⟨11, 24, false, fun _ => rfl, rfl, hr 11 24 rfl rfl, Runs.val _ (op_load23 (show ρ (.tmp 6) = .pointer (some ⟨Y1, 0, none⟩) from ho 6 rfl) (cell_on hg c10) (cell_on hg c11) (cell_on hg c12)) ⟨hg, Below.refl _ _, rfl⟩⟩)
    · intro ρ X9 fl hg hn hl hp ho hc hf hr
      refine .inr (.inl ⟨11, 24, false, fun _ => rfl, rfl, hr 11 24 rfl rfl, ?_⟩)
      refine Runs.goes 13 #[.int .i64 id, vlV v, vlV k] (op_call3 hf (by go_simp) (show ρ (.tmp 25) = .int .i64 id from hr 12 25 rfl rfl) (show ρ (.tmp 26) = vlV v from hr 13 26 rfl rfl) (show ρ (.tmp 27) = vlV k from hr 14 27 rfl rfl)) ((entry_any hid hv hk X9).mono ?_)
      rintro e7 w7 ⟨rfl, b7⟩
      exact ⟨_, rfl, bgo hg b7, b7, rfl⟩
    · exact fun ρ X9 fl hg hn hl hp ho hc hf hr => .inr (.inl ⟨11, 24, false, fun _ => rfl, rfl, hr 11 24 rfl rfl, Runs.val _ (op_move (show ρ (.tmp 0) = .int .i64 id from ho 0 rfl)) ⟨hg, Below.refl _ _, rfl⟩⟩)
    · exact fun ρ X9 fl hg hn hl hp ho hc hf hr => .inr (.inl ⟨11, 24, false, fun _ => rfl, rfl, hr 11 24 rfl rfl, Runs.val _ (op_load23 (show ρ (.tmp 5) = .pointer (some ⟨Y0, 0, none⟩) from ho 5 rfl) (cell_on hg c00) (cell_on hg c01) (cell_on hg c02)) ⟨hg, Below.refl _ _, rfl⟩⟩)
    · exact fun ρ X9 fl hg hn hl hp ho hc hf hr => .inr (.inl ⟨11, 24, false, fun _ => rfl, rfl, hr 11 24 rfl rfl, Runs.val _ (op_load23 (show ρ (.tmp 6) = .pointer (some ⟨Y1, 0, none⟩) from ho 6 rfl) (cell_on hg c10) (cell_on hg c11) (cell_on hg c12)) ⟨hg, Below.refl _ _, rfl⟩⟩)
    · intro ρ X9 fl hg hn hl hp ho hc hf hr
      refine .inr (.inl ⟨11, 24, false, fun _ => rfl, rfl, hr 11 24 rfl rfl, ?_⟩)
      refine Runs.goes 14 #[.int .i64 id, vlV v, vlV k] (op_call3 hf (by go_simp) (show ρ (.tmp 29) = .int .i64 id from hr 16 29 rfl rfl) (show ρ (.tmp 30) = vlV v from hr 17 30 rfl rfl) (show ρ (.tmp 31) = vlV k from hr 18 31 rfl rfl)) ((refEntry_any hid hv hk X9).mono ?_)
      rintro e7 w7 ⟨rfl, b7⟩
      exact ⟨_, rfl, bgo hg b7, b7, rfl⟩
    · exact fun ρ X9 fl hg hn hl hp ho hc hf hr => .inr (.inl ⟨11, 24, false, fun _ => rfl, rfl, hr 11 24 rfl rfl, Runs.val _ (op_neq9 (show ρ (.tmp 28) = .string (bs (encS [nv 1, nv id, v, k])) from hr 15 28 rfl rfl) (show ρ (.tmp 32) = .string (bs (encS [nv 1, nv id, v, k])) from hr 19 32 rfl rfl) (b := false) (by simp)) ⟨hg, Below.refl _ _, rfl⟩⟩)
    · exact fun ρ X9 fl hg hn hl hp ho hc hf hr => .inl ⟨rfl, Runs.val _ (op_pick (show ρ (.tmp 24) = .bool false from hr 11 24 rfl rfl) (show ρ (.tmp 33) = .bool false from hr 20 33 rfl rfl)) ⟨hg, Below.refl _ _, rfl⟩⟩
  case en =>
    intro a9 w6 fl hfl b6 hs9 hd9 ho9 hr9
    obtain ⟨x9, hx, hxt⟩ := act_put hs9 hd9 ho9
    have x34 : x9 34 = .bool false := (hxt 34).symm.trans (hr9 21 34 rfl)
    change a9 = putAll _ x9 [13, 14, 15, 16, 17, 18, 19, 20, 21, 22, 23, 24, 25, 26, 27, 28, 29, 30, 31, 32, 33, 34] at hx
    simp only [putAll, Act.put, List.setIfInBounds_toArray, List.set_cons_zero, List.set_cons_succ, x34] at hx
    subst hx
    clear hs9 hd9 ho9 hr9 hfl x34
    generalize x9 13 = z13, x9 14 = z14, x9 15 = z15, x9 16 = z16, x9 17 = z17, x9 18 = z18, x9 19 = z19, x9 20 = z20, x9 21 = z21, x9 22 = z22, x9 23 = z23, x9 24 = z24, x9 25 = z25, x9 26 = z26, x9 27 = z27, x9 28 = z28, x9 29 = z29, x9 30 = z30, x9 31 = z31, x9 32 = z32, x9 33 = z33
    have HB6 := Lib.hid (bgo HB.out b6)
    have c00 := cell_on b6 c00
    have c01 := cell_on b6 c01
    have c02 := cell_on b6 c02
    clear b6 c10 c11 c12
    go_upto_region 3 with fail
    refine wp_region_fb (fun _ X9 => Below w6.heap.size w6 X9) (fun X9 X8 => Below X9.heap.size X9 X8) [
      fun v9 _ => v9 = .int .i64 id,
      fun v9 _ => v9 = spV (encS [nv 0, nv id]),
      fun v9 _ => v9 = vlV (nv 0),
      fun v9 _ => v9 = .int .i64 id,
      fun v9 _ => v9 = vlV (nv id),
      fun v9 X9 => ∃ F9, v9 = .slice (some ⟨F9, 0, none⟩) 2 2 ∧ Li [nv 0, nv id] (some ⟨F9, 0, none⟩) X9,
      fun v9 _ => v9 = spV (encS [nv 0, nv id]),
      fun v9 _ => v9 = .bool false,
      fun v9 _ => v9 = .bool false,
      fun v9 _ => v9 = .int .i64 id,
      fun v9 _ => v9 = spV (encS [nv 1, nv id]),
      fun v9 _ => v9 = vlV (nv 1),
      fun v9 _ => v9 = .int .i64 id,
      fun v9 _ => v9 = vlV (nv id),
      fun v9 X9 => ∃ F9, v9 = .slice (some ⟨F9, 0, none⟩) 2 2 ∧ Li [nv 1, nv id] (some ⟨F9, 0, none⟩) X9,
      fun v9 _ => v9 = spV (encS [nv 1, nv id]),
      fun v9 _ => v9 = .bool false,
      fun v9 _ => v9 = .bool false,
      fun v9 _ => v9 = .bool false,
      fun v9 _ => v9 = .int .i64 id,
      fun v9 _ => v9 = vlV v,
      fun v9 _ => v9 = spV (encS [nv 1, nv id, v]),
      fun v9 _ => v9 = vlV (nv 1),
      fun v9 _ => v9 = .int .i64 id,
      fun v9 _ => v9 = vlV (nv id),
      fun v9 _ => v9 = vlV v,
      fun v9 X9 => ∃ F9, v9 = .slice (some ⟨F9, 0, none⟩) 3 3 ∧ Li [nv 1, nv id, v] (some ⟨F9, 0, none⟩) X9,
      fun v9 _ => v9 = spV (encS [nv 1, nv id, v]),
      fun v9 _ => v9 = .bool false,
      fun v9 _ => v9 = .bool false]
      (by kernel_rfl) (by kernel_rfl) (by kernel_rfl) ?st ?g0 ?os ?en
    case st => exact ⟨fun _ _ _ _ h => h, fun _ _ _ _ h => h, fun _ _ _ _ h => h, fun _ _ _ _ h => h, fun _ _ _ _ h => h, (fun _ _ _ hb h => by obtain ⟨F9, e9, h9⟩ := h; exact ⟨F9, e9, h9.on hb⟩), fun _ _ _ _ h => h, fun _ _ _ _ h => h, fun _ _ _ _ h => h, fun _ _ _ _ h => h, fun _ _ _ _ h => h, fun _ _ _ _ h => h, fun _ _ _ _ h => h, fun _ _ _ _ h => h, (fun _ _ _ hb h => by obtain ⟨F9, e9, h9⟩ := h; exact ⟨F9, e9, h9.on hb⟩), fun _ _ _ _ h => h, fun _ _ _ _ h => h, fun _ _ _ _ h => h, fun _ _ _ _ h => h, fun _ _ _ _ h => h, fun _ _ _ _ h => h, fun _ _ _ _ h => h, fun _ _ _ _ h => h, fun _ _ _ _ h => h, fun _ _ _ _ h => h, fun _ _ _ _ h => h, (fun _ _ _ hb h => by obtain ⟨F9, e9, h9⟩ := h; exact ⟨F9, e9, h9.on hb⟩), fun _ _ _ _ h => h, fun _ _ _ _ h => h, fun _ _ _ _ h => h, trivial⟩
    case g0 => exact ⟨rfl, rfl, rfl, Nat.le_refl _, fun _ _ => rfl⟩
    case os =>
      refine ⟨?_, ?_, ?_, ?_, ?_, ?_, ?_, ?_, ?_, ?_, ?_, ?_, ?_, ?_, ?_, ?_, ?_, ?_, ?_, ?_, ?_, ?_, ?_, ?_, ?_, ?_, ?_, ?_, ?_, ?_, trivial⟩
      · exact fun ρ X9 fl hg hn hl hp ho hc hf hr => .inl ⟨rfl, Runs.val _ (op_move (show ρ (.tmp 0) = .int .i64 id from ho 0 rfl)) ⟨hg, Below.refl _ _, rfl⟩⟩
      · intro ρ X9 fl hg hn hl hp ho hc hf hr
        refine .inl ⟨rfl, ?_⟩
        refine Runs.goes 15 #[.int .i64 id] (op_call1 hf (by go_simp) (show ρ (.tmp 35) = .int .i64 id from hr 0 35 rfl rfl)) ((table_any hid X9).mono ?_)
        rintro e7 w7 ⟨rfl, b7⟩
        exact ⟨_, rfl, bgo hg b7, b7, rfl⟩
      · intro ρ X9 fl hg hn hl hp ho hc hf hr
        refine .inl ⟨rfl, ?_⟩
        refine Runs.goes 17 #[.int .i64 0] (op_call1 hf (by go_simp) (hc _)) ((num_any _ X9).mono ?_)
        rintro e7 w7 ⟨rfl, b7⟩
        exact ⟨_, rfl, bgo hg b7, b7, rfl⟩
      · exact fun ρ X9 fl hg hn hl hp ho hc hf hr => .inl ⟨rfl, Runs.val _ (op_move (show ρ (.tmp 0) = .int .i64 id from ho 0 rfl)) ⟨hg, Below.refl _ _, rfl⟩⟩
      · intro ρ X9 fl hg hn hl hp ho hc hf hr
        refine .inl ⟨rfl, ?_⟩
        refine Runs.goes 17 #[.int .i64 id] (op_call1 hf (by go_simp) (show ρ (.tmp 38) = .int .i64 id from hr 3 38 rfl rfl)) ((num_any _ X9).mono ?_)
        rintro e7 w7 ⟨rfl, b7⟩
        exact ⟨_, rfl, bgo hg b7, b7, rfl⟩
      · intro ρ X9 fl hg hn hl hp ho hc hf hr
        refine .inl ⟨rfl, ?_⟩
        exact Runs.val _ (op_s32_2 (show ρ (.tmp 37) = vlV (nv 0) from hr 2 37 rfl rfl) (show ρ (.tmp 39) = vlV (nv id) from hr 4 39 rfl rfl)) ⟨bgo hg (bnew _ _), bnew _ _, _, rfl, li_new _ _⟩
      · intro ρ X9 fl hg hn hl hp ho hc hf hr
        obtain ⟨F9, e9, h9⟩ : ∃ F9, ρ (.tmp 40) = .slice (some ⟨F9, 0, none⟩) 2 2 ∧ Li [nv 0, nv id] (some ⟨F9, 0, none⟩) X9 := hr 5 40 rfl rfl
        refine .inl ⟨rfl, ?_⟩
        refine Runs.goes 16 #[.slice (some ⟨F9, 0, none⟩) 2 2] (op_call1 hf (by go_simp) e9) ((refUnder_any [nv 0, nv id] _ 2 X9 h9 hfA).mono ?_)
        rintro e7 w7 ⟨rfl, b7⟩
        exact ⟨_, rfl, bgo hg b7, b7, rfl⟩
      · exact fun ρ X9 fl hg hn hl hp ho hc hf hr => .inl ⟨rfl, Runs.val _ (op_neq28 (show ρ (.tmp 36) = spV (encS [nv 0, nv id]) from hr 1 36 rfl rfl) (show ρ (.tmp 41) = spV (encS [nv 0, nv id]) from hr 6 41 rfl rfl) ) ⟨hg, Below.refl _ _, rfl⟩⟩
      · exact fun ρ X9 fl hg hn hl hp ho hc hf hr => .inl ⟨rfl, Runs.val _ (op_move (show ρ (.tmp 42) = .bool false from hr 7 42 rfl rfl)) ⟨hg, Below.refl _ _, rfl⟩⟩
      · exact fun ρ X9 fl hg hn hl hp ho hc hf hr => .inr (.inl ⟨8, 43, false, fun _ => rfl, rfl, hr 8 43 rfl rfl, Runs.val _ (op_move (show ρ (.tmp 0) = .int .i64 id from ho 0 rfl)) ⟨hg, Below.refl _ _, rfl⟩⟩)
      · intro ρ X9 fl hg hn hl hp ho hc hf hr
        refine .inr (.inl ⟨8, 43, false, fun _ => rfl, rfl, hr 8 43 rfl rfl, ?_⟩)
        refine Runs.goes 18 #[.int .i64 id] (op_call1 hf (by go_simp) (show ρ (.tmp 44) = .int .i64 id from hr 9 44 rfl rfl)) ((index_any hid X9).mono ?_)
        rintro e7 w7 ⟨rfl, b7⟩
        exact ⟨_, rfl, bgo hg b7, b7, rfl⟩
      · intro ρ X9 fl hg hn hl hp ho hc hf hr
        refine .inr (.inl ⟨8, 43, false, fun _ => rfl, rfl, hr 8 43 rfl rfl, ?_⟩)
        refine Runs.goes 17 #[.int .i64 1] (op_call1 hf (by go_simp) (hc _)) ((num_any _ X9).mono ?_)
        rintro e7 w7 ⟨rfl, b7⟩
        exact ⟨_, rfl, bgo hg b7, b7, rfl⟩
      · exact fun ρ X9 fl hg hn hl hp ho hc hf hr => .inr (.inl ⟨8, 43, false, fun _ => rfl, rfl, hr 8 43 rfl rfl, Runs.val _ (op_move (show ρ (.tmp 0) = .int .i64 id from ho 0 rfl)) ⟨hg, Below.refl _ _, rfl⟩⟩)
      · intro ρ X9 fl hg hn hl hp ho hc hf hr
        refine .inr (.inl ⟨8, 43, false, fun _ => rfl, rfl, hr 8 43 rfl rfl, ?_⟩)
        refine Runs.goes 17 #[.int .i64 id] (op_call1 hf (by go_simp) (show ρ (.tmp 47) = .int .i64 id from hr 12 47 rfl rfl)) ((num_any _ X9).mono ?_)
        rintro e7 w7 ⟨rfl, b7⟩
        exact ⟨_, rfl, bgo hg b7, b7, rfl⟩
      · intro ρ X9 fl hg hn hl hp ho hc hf hr
        refine .inr (.inl ⟨8, 43, false, fun _ => rfl, rfl, hr 8 43 rfl rfl, ?_⟩)
        exact Runs.val _ (op_s32_2 (show ρ (.tmp 46) = vlV (nv 1) from hr 11 46 rfl rfl) (show ρ (.tmp 48) = vlV (nv id) from hr 13 48 rfl rfl)) ⟨bgo hg (bnew _ _), bnew _ _, _, rfl, li_new _ _⟩
      · intro ρ X9 fl hg hn hl hp ho hc hf hr
        obtain ⟨F9, e9, h9⟩ : ∃ F9, ρ (.tmp 49) = .slice (some ⟨F9, 0, none⟩) 2 2 ∧ Li [nv 1, nv id] (some ⟨F9, 0, none⟩) X9 := hr 14 49 rfl rfl
        refine .inr (.inl ⟨8, 43, false, fun _ => rfl, rfl, hr 8 43 rfl rfl, ?_⟩)
        refine Runs.goes 16 #[.slice (some ⟨F9, 0, none⟩) 2 2] (op_call1 hf (by go_simp) e9) ((refUnder_any [nv 1, nv id] _ 2 X9 h9 hfB).mono ?_)
        rintro e7 w7 ⟨rfl, b7⟩
        exact ⟨_, rfl, bgo hg b7, b7, rfl⟩
      · exact fun ρ X9 fl hg hn hl hp ho hc hf hr => .inr (.inl ⟨8, 43, false, fun _ => rfl, rfl, hr 8 43 rfl rfl, Runs.val _ (op_neq28 (show ρ (.tmp 45) = spV (encS [nv 1, nv id]) from hr 10 45 rfl rfl) (show ρ (.tmp 50) = spV (encS [nv 1, nv id]) from hr 15 50 rfl rfl) ) ⟨hg, Below.refl _ _, rfl⟩⟩)
      · exact fun ρ X9 fl hg hn hl hp ho hc hf hr => .inl ⟨rfl, Runs.val _ (op_pick (show ρ (.tmp 43) = .bool false from hr 8 43 rfl rfl) (show ρ (.tmp 51) = .bool false from hr 16 51 rfl rfl)) ⟨hg, Below.refl _ _, rfl⟩⟩
      · exact fun ρ X9 fl hg hn hl hp ho hc hf hr => .inl ⟨rfl, Runs.val _ (op_move (show ρ (.tmp 52) = .bool false from hr 17 52 rfl rfl)) ⟨hg, Below.refl _ _, rfl⟩⟩
      · exact fun ρ X9 fl hg hn hl hp ho hc hf hr => .inr (.inl ⟨18, 53, false, fun _ => rfl, rfl, hr 18 53 rfl rfl, Runs.val _ (op_move (show ρ (.tmp 0) = .int .i64 id from ho 0 rfl)) ⟨hg, Below.refl _ _, rfl⟩⟩)
      · exact fun ρ X9 fl hg hn hl hp ho hc hf hr => .inr (.inl ⟨18, 53, false, fun _ => rfl, rfl, hr 18 53 rfl rfl, Runs.val _ (op_load23 (show ρ (.tmp 5) = .pointer (some ⟨Y0, 0, none⟩) from ho 5 rfl) (cell_on hg c00) (cell_on hg c01) (cell_on hg c02)) ⟨hg, Below.refl _ _, rfl⟩⟩)
      · intro ρ X9 fl hg hn hl hp ho hc hf hr
        refine .inr (.inl ⟨18, 53, false, fun _ => rfl, rfl, hr 18 53 rfl rfl, ?_⟩)
        refine Runs.goes 19 #[.int .i64 id, vlV v] (op_call2 hf (by go_simp) (show ρ (.tmp 54) = .int .i64 id from hr 19 54 rfl rfl) (show ρ (.tmp 55) = vlV v from hr 20 55 rfl rfl)) ((equal_any hid hv X9).mono ?_)
        rintro e7 w7 ⟨rfl, b7⟩
        exact ⟨_, rfl, bgo hg b7, b7, rfl⟩
      · intro ρ X9 fl hg hn hl hp ho hc hf hr
        refine .inr (.inl ⟨18, 53, false, fun _ => rfl, rfl, hr 18 53 rfl rfl, ?_⟩)
        refine Runs.goes 17 #[.int .i64 1] (op_call1 hf (by go_simp) (hc _)) ((num_any _ X9).mono ?_)
        rintro e7 w7 ⟨rfl, b7⟩
        exact ⟨_, rfl, bgo hg b7, b7, rfl⟩
      · exact fun ρ X9 fl hg hn hl hp ho hc hf hr => .inr (.inl ⟨18, 53, false, fun _ => rfl, rfl, hr 18 53 rfl rfl, Runs.val _ (op_move (show ρ (.tmp 0) = .int .i64 id from ho 0 rfl)) ⟨hg, Below.refl _ _, rfl⟩⟩)
      · intro ρ X9 fl hg hn hl hp ho hc hf hr
        refine .inr (.inl ⟨18, 53, false, fun _ => rfl, rfl, hr 18 53 rfl rfl, ?_⟩)
        refine Runs.goes 17 #[.int .i64 id] (op_call1 hf (by go_simp) (show ρ (.tmp 58) = .int .i64 id from hr 23 58 rfl rfl)) ((num_any _ X9).mono ?_)
        rintro e7 w7 ⟨rfl, b7⟩
        exact ⟨_, rfl, bgo hg b7, b7, rfl⟩
      · exact fun ρ X9 fl hg hn hl hp ho hc hf hr => .inr (.inl ⟨18, 53, false, fun _ => rfl, rfl, hr 18 53 rfl rfl, Runs.val _ (op_load23 (show ρ (.tmp 5) = .pointer (some ⟨Y0, 0, none⟩) from ho 5 rfl) (cell_on hg c00) (cell_on hg c01) (cell_on hg c02)) ⟨hg, Below.refl _ _, rfl⟩⟩)
      · intro ρ X9 fl hg hn hl hp ho hc hf hr
        refine .inr (.inl ⟨18, 53, false, fun _ => rfl, rfl, hr 18 53 rfl rfl, ?_⟩)
        exact Runs.val _ (op_s32_3 (show ρ (.tmp 57) = vlV (nv 1) from hr 22 57 rfl rfl) (show ρ (.tmp 59) = vlV (nv id) from hr 24 59 rfl rfl) (show ρ (.tmp 60) = vlV v from hr 25 60 rfl rfl)) ⟨bgo hg (bnew _ _), bnew _ _, _, rfl, li_new _ _⟩
      · intro ρ X9 fl hg hn hl hp ho hc hf hr
        obtain ⟨F9, e9, h9⟩ : ∃ F9, ρ (.tmp 61) = .slice (some ⟨F9, 0, none⟩) 3 3 ∧ Li [nv 1, nv id, v] (some ⟨F9, 0, none⟩) X9 := hr 26 61 rfl rfl
        refine .inr (.inl ⟨18, 53, false, fun _ => rfl, rfl, hr 18 53 rfl rfl, ?_⟩)
        refine Runs.goes 16 #[.slice (some ⟨F9, 0, none⟩) 3 3] (op_call1 hf (by go_simp) e9) ((refUnder_any [nv 1, nv id, v] _ 3 X9 h9 hfC).mono ?_)
        rintro e7 w7 ⟨rfl, b7⟩
        exact ⟨_, rfl, bgo hg b7, b7, rfl⟩
      · exact fun ρ X9 fl hg hn hl hp ho hc hf hr => .inr (.inl ⟨18, 53, false, fun _ => rfl, rfl, hr 18 53 rfl rfl, Runs.val _ (op_neq28 (show ρ (.tmp 56) = spV (encS [nv 1, nv id, v]) from hr 21 56 rfl rfl) (show ρ (.tmp 62) = spV (encS [nv 1, nv id, v]) from hr 27 62 rfl rfl) ) ⟨hg, Below.refl _ _, rfl⟩⟩)
      · exact fun ρ X9 fl hg hn hl hp ho hc hf hr => .inl ⟨rfl, Runs.val _ (op_pick (show ρ (.tmp 53) = .bool false from hr 18 53 rfl rfl) (show ρ (.tmp 63) = .bool false from hr 28 63 rfl rfl)) ⟨hg, Below.refl _ _, rfl⟩⟩
    case en =>
      intro a9 w7 fl hfl b7 hs9 hd9 ho9 hr9
      obtain ⟨x9, hx, hxt⟩ := act_put hs9 hd9 ho9
      have x64 : x9 64 = .bool false := (hxt 64).symm.trans (hr9 29 64 rfl)
      change a9 = putAll _ x9 [35, 36, 37, 38, 39, 40, 41, 42, 43, 44, 45, 46, 47, 48, 49, 50, 51, 52, 53, 54, 55, 56, 57, 58, 59, 60, 61, 62, 63, 64] at hx
      simp only [putAll, Act.put, List.setIfInBounds_toArray, List.set_cons_zero, List.set_cons_succ, x64] at hx
      subst hx
      clear hs9 hd9 ho9 hr9 hfl x64
      generalize x9 35 = z35, x9 36 = z36, x9 37 = z37, x9 38 = z38, x9 39 = z39, x9 40 = z40, x9 41 = z41, x9 42 = z42, x9 43 = z43, x9 44 = z44, x9 45 = z45, x9 46 = z46, x9 47 = z47, x9 48 = z48, x9 49 = z49, x9 50 = z50, x9 51 = z51, x9 52 = z52, x9 53 = z53, x9 54 = z54, x9 55 = z55, x9 56 = z56, x9 57 = z57, x9 58 = z58, x9 59 = z59, x9 60 = z60, x9 61 = z61, x9 62 = z62, x9 63 = z63
      go_upto_region 5 with fail
      have HB7 := Lib.hid (bgo HB6.out b7)
      clear b7 c00 c01 c02 hfA hfB hfC hid hv hk
      have hkey := keyLast_any s w7 (by unfold maxLen; have := HS.out; omega)
      cases hd : decL 8 s.data.toList with
      | none =>
        have hka := keyA_none hd
        rw [hka.1, hka.2] at hkey
        clear hka 
        go_upto_region 6 with (go_at_call 20; refine hkey.mono ?_; rintro e w8 ⟨rfl, b8⟩; refine Hid.out ?_)
        refine Lib.hid ?_
        obtain ⟨V, hV⟩ : ∃ V, V = w8.alloc (.cells (vlA nullV0) 23) := ⟨_, rfl⟩
        obtain ⟨K, hK⟩ : ∃ K, w8.heap.size = K := ⟨_, rfl⟩
        have bV : Below w8.heap.size w8 V := by rw [hV]; exact bnew _ _
        have jK : V.heap[K]? = some (.cells (vlA nullV0) 23 (0, 0)) := by rw [hV, ← hK]; exact heap_alloc_new w8 _
        have JK := Lib.hid jK
        have HBV := Lib.hid (bgo HB7.out (bgo b8 bV))
        have hdec := refDecode_any s V HS.out
        have HV := Lib.hid hV
        have HK := Lib.hid hK
        clear hkey hV hK bV jK b8
        go_upto_region 6 with fail
        rw [← HV.out, HK.out]
        have hdec2 : Calls Try.prog 21 #[.string s] V fun e w' => e = .returned (.tuple #[.slice none 0 0, .int .i64 20]) ∧ Below V.heap.size V w' := by
          refine hdec.mono ?_
          rintro e w' ⟨hb, ⟨M, v', h, _⟩ | ⟨_, rfl⟩⟩
          · rw [hd] at h; cases h
          · exact ⟨rfl, hb⟩
        clear hdec hd
        go_wp2_with (go_at_call 21; refine hdec2.mono ?_; rintro e w9 ⟨rfl, b9⟩; refine Hid.out ?_)
        refine Lib.hid ?_
        have HB9 := Lib.hid (bgo HBV.out b9)
        have JK9 := Lib.hid ((b9.block K (blk_lt JK.out)).trans JK.out)
        clear hdec2 b9
        have k0 : w9.cell? ⟨K, 0, none⟩ = some (.int .i64 0) := cell_blk JK9.out 0
        have k1 : w9.cell? ⟨K, 1, none⟩ = some (.int .i64 0) := cell_blk JK9.out 1
        have k2 : w9.cell? ⟨K, 2, none⟩ = some (.string ⟨#[]⟩) := cell_blk JK9.out 2
        go_wp2
        go_ret
        exact ⟨rfl, HB9.out⟩
      | some M =>
        obtain ⟨hl8, _, _⟩ := encL_decL _ _ _ hd
        rcases hM : M.length with _ | m
        · obtain rfl : M = [] := List.eq_nil_of_length_eq_zero hM
          clear hM
          have hka := keyA_nil hd
          rw [hka.1, hka.2] at hkey
          clear hka hl8
          go_upto_region 6 with (go_at_call 20; refine hkey.mono ?_; rintro e w8 ⟨rfl, b8⟩; refine Hid.out ?_)
          refine Lib.hid ?_
          obtain ⟨V, hV⟩ : ∃ V, V = w8.alloc (.cells (vlA nullV0) 23) := ⟨_, rfl⟩
          obtain ⟨K, hK⟩ : ∃ K, w8.heap.size = K := ⟨_, rfl⟩
          have bV : Below w8.heap.size w8 V := by rw [hV]; exact bnew _ _
          have jK : V.heap[K]? = some (.cells (vlA nullV0) 23 (0, 0)) := by rw [hV, ← hK]; exact heap_alloc_new w8 _
          have JK := Lib.hid jK
          have HBV := Lib.hid (bgo HB7.out (bgo b8 bV))
          have hdec := refDecode_any s V HS.out
          have HV := Lib.hid hV
          have HK := Lib.hid hK
          clear hkey hV hK bV jK b8
          go_upto_region 6 with fail
          rw [← HV.out, HK.out]
          have hdec2 : Calls Try.prog 21 #[.string s] V fun e w' => ∃ ad cap, e = .returned (.tuple #[.slice ad 0 cap, .int .i64 0]) ∧ Below V.heap.size V w' ∧ Li [] ad w' := by
            refine hdec.mono ?_
            rintro e w' ⟨hb, ⟨M', v', h, rfl, ho⟩ | ⟨h, _⟩⟩
            · rw [hd] at h
              obtain rfl := Option.some.inj h
              obtain ⟨ad, cap, rfl, hli, _⟩ := li_of_own ho
              exact ⟨ad, cap, by rfl, hb, hli⟩
            · rw [hd] at h; cases h
          clear hdec hd 
          go_wp2_with (go_at_call 21; refine hdec2.mono ?_; rintro e w9 ⟨ad, cap, rfl, b9, hli⟩; refine Hid.out ?_)
          refine Lib.hid ?_
          have HB9 := Lib.hid (bgo HBV.out b9)
          have JK9 := Lib.hid ((b9.block K (blk_lt JK.out)).trans JK.out)
          clear hdec2 b9
          have k0 : w9.cell? ⟨K, 0, none⟩ = some (.int .i64 0) := cell_blk JK9.out 0
          have k1 : w9.cell? ⟨K, 1, none⟩ = some (.int .i64 0) := cell_blk JK9.out 1
          have k2 : w9.cell? ⟨K, 2, none⟩ = some (.string ⟨#[]⟩) := cell_blk JK9.out 2
          go_wp2
          go_ret
          exact ⟨rfl, HB9.out⟩
        · have hml : m < M.length := by omega
          obtain ⟨x, hx⟩ : ∃ x, M[m]'hml = x := ⟨_, rfl⟩
          have hka := keyA_some hd hM hml
          rw [hka.1, hka.2, hx] at hkey
          have hm8 : m ≤ 8 := by omega
          clear hka hl8
          go_upto_region 6 with (go_at_call 20; refine hkey.mono ?_; rintro e w8 ⟨rfl, b8⟩; refine Hid.out ?_)
          refine Lib.hid ?_
          obtain ⟨V, hV⟩ : ∃ V, V = w8.alloc (.cells (vlA x) 23) := ⟨_, rfl⟩
          obtain ⟨K, hK⟩ : ∃ K, w8.heap.size = K := ⟨_, rfl⟩
          have bV : Below w8.heap.size w8 V := by rw [hV]; exact bnew _ _
          have jK : V.heap[K]? = some (.cells (vlA x) 23 (0, 0)) := by rw [hV, ← hK]; exact heap_alloc_new w8 _
          have JK := Lib.hid jK
          have HBV := Lib.hid (bgo HB7.out (bgo b8 bV))
          have hdec := refDecode_any s V HS.out
          have HV := Lib.hid hV
          have HK := Lib.hid hK
          clear hkey hV hK bV jK b8
          go_upto_region 6 with fail
          rw [← HV.out, HK.out]
          have hdec2 : Calls Try.prog 21 #[.string s] V fun e w' => ∃ ad cap, e = .returned (.tuple #[.slice ad (m + 1) cap, .int .i64 0]) ∧ Below V.heap.size V w' ∧ Li M ad w' := by
            refine hdec.mono ?_
            rintro e w' ⟨hb, ⟨M', v', h, rfl, ho⟩ | ⟨h, _⟩⟩
            · rw [hd] at h
              obtain rfl := Option.some.inj h
              obtain ⟨ad, cap, rfl, hli, _⟩ := li_of_own ho
              exact ⟨ad, cap, by rw [hM], hb, hli⟩
            · rw [hd] at h; cases h
          clear hdec hd hM
          go_upto_region 7 with (go_at_call 21; refine hdec2.mono ?_; rintro e w9 ⟨ad, cap, rfl, b9, hli⟩; refine Hid.out ?_)
          refine Lib.hid ?_
          have HB9 := Lib.hid (bgo HBV.out b9)
          have JK9 := Lib.hid ((b9.block K (blk_lt JK.out)).trans JK.out)
          clear hdec2 b9
          obtain ⟨b1, o1, rfl, _, d0, d1, d2⟩ := hli.at' m hml
          rw [hx] at d0 d1 d2
          have k0 : w9.cell? ⟨K, 0, none⟩ = some (.int .i64 x.k) := cell_blk JK9.out 0
          have k1 : w9.cell? ⟨K, 0 + 1, none⟩ = some (.int .i64 x.n) := cell_blk JK9.out 1
          have k2 : w9.cell? ⟨K, 0 + 2, none⟩ = some (.string x.s) := cell_blk JK9.out 2
          have z0 : ¬ ((m : Int) + 1 = 0) := by omega
          have z1 : ((m : Int) + 1 == 0) = false := by rw [beq_eq_false_iff_ne]; exact z0
          clear hli hx
          go_upto_region 9 with fail
          refine wp_region_fb (fun _ X9 => Below w9.heap.size w9 X9) (fun X9 X8 => Below X9.heap.size X9 X8) [
            fun v9 _ => v9 = .int .i64 0,
            fun v9 _ => v9 = .bool true,
            fun v9 _ => v9 = .bool true,
            fun v9 _ => v9 = vlV x,
            fun v9 _ => v9 = .slice (some ⟨b1, o1, none⟩) (m + 1) cap,
            fun v9 _ => v9 = .slice (some ⟨b1, o1, none⟩) (m + 1) cap,
            fun v9 _ => v9 = .int .i64 ((m + 1 : Nat) : Int),
            fun v9 _ => v9 = .int .i64 (m : Int),
            fun v9 _ => v9 = .pointer (some ⟨b1, o1 + m * 3, none⟩),
            fun v9 _ => v9 = vlV x,
            fun v9 _ => v9 = .bool true,
            fun v9 _ => v9 = .bool true,
            fun v9 _ => v9 = .bool true]
            (by kernel_rfl) (by kernel_rfl) (by kernel_rfl) ?st ?g0 ?os ?en
          case st => exact ⟨fun _ _ _ _ h => h, fun _ _ _ _ h => h, fun _ _ _ _ h => h, fun _ _ _ _ h => h, fun _ _ _ _ h => h, fun _ _ _ _ h => h, fun _ _ _ _ h => h, fun _ _ _ _ h => h, fun _ _ _ _ h => h, fun _ _ _ _ h => h, fun _ _ _ _ h => h, fun _ _ _ _ h => h, fun _ _ _ _ h => h, trivial⟩
          case g0 => exact ⟨rfl, rfl, rfl, Nat.le_refl _, fun _ _ => rfl⟩
          case os =>
            refine ⟨?_, ?_, ?_, ?_, ?_, ?_, ?_, ?_, ?_, ?_, ?_, ?_, ?_, trivial⟩
            · exact fun ρ X9 fl hg hn hl hp ho hc hf hr => .inl ⟨rfl, Runs.val _ (op_move (show ρ (.tmp 10) = .int .i64 0 from ho 10 rfl)) ⟨hg, Below.refl _ _, rfl⟩⟩
            · exact fun ρ X9 fl hg hn hl hp ho hc hf hr => .inl ⟨rfl, Runs.val _ (op_eql34 (show ρ (.tmp 89) = .int .i64 0 from hr 0 89 rfl rfl) (hc _) (b := true) (by decide)) ⟨hg, Below.refl _ _, rfl⟩⟩
            · exact fun ρ X9 fl hg hn hl hp ho hc hf hr => .inl ⟨rfl, Runs.val _ (op_move (show ρ (.tmp 90) = .bool true from hr 1 90 rfl rfl)) ⟨hg, Below.refl _ _, rfl⟩⟩
            · exact fun ρ X9 fl hg hn hl hp ho hc hf hr => .inr (.inl ⟨2, 91, true, fun _ => rfl, rfl, hr 2 91 rfl rfl, Runs.val _ (op_load23 (show ρ (.tmp 9) = .pointer (some ⟨K, 0, none⟩) from ho 9 rfl) (cell_on hg k0) (cell_on hg k1) (cell_on hg k2)) ⟨hg, Below.refl _ _, rfl⟩⟩)
            · exact fun ρ X9 fl hg hn hl hp ho hc hf hr => .inr (.inl ⟨2, 91, true, fun _ => rfl, rfl, hr 2 91 rfl rfl, Runs.val _ (op_move (show ρ (.tmp 11) = .slice (some ⟨b1, o1, none⟩) (m + 1) cap from ho 11 rfl)) ⟨hg, Below.refl _ _, rfl⟩⟩)
            · exact fun ρ X9 fl hg hn hl hp ho hc hf hr => .inr (.inl ⟨2, 91, true, fun _ => rfl, rfl, hr 2 91 rfl rfl, Runs.val _ (op_move (show ρ (.tmp 11) = .slice (some ⟨b1, o1, none⟩) (m + 1) cap from ho 11 rfl)) ⟨hg, Below.refl _ _, rfl⟩⟩)
            · exact fun ρ X9 fl hg hn hl hp ho hc hf hr => .inr (.inl ⟨2, 91, true, fun _ => rfl, rfl, hr 2 91 rfl rfl, Runs.val _ (op_len32 (show ρ (.tmp 94) = .slice (some ⟨b1, o1, none⟩) (m + 1) cap from hr 5 94 rfl rfl)) ⟨hg, Below.refl _ _, rfl⟩⟩)
            · exact fun ρ X9 fl hg hn hl hp ho hc hf hr => .inr (.inl ⟨2, 91, true, fun _ => rfl, rfl, hr 2 91 rfl rfl, Runs.val _ (op_sub3 (show ρ (.tmp 95) = .int .i64 ((m + 1 : Nat) : Int) from hr 6 95 rfl rfl) (hc _) (r := (m : Int)) (by omega) (by omega) (by omega)) ⟨hg, Below.refl _ _, rfl⟩⟩)
            · exact fun ρ X9 fl hg hn hl hp ho hc hf hr => .inr (.inl ⟨2, 91, true, fun _ => rfl, rfl, hr 2 91 rfl rfl, Runs.val _ (op_i32 (show ρ (.tmp 93) = .slice (some ⟨b1, o1, none⟩) (m + 1) cap from hr 4 93 rfl rfl) (show ρ (.tmp 96) = .int .i64 (m : Int) from hr 7 96 rfl rfl) (Nat.lt_succ_self m)) ⟨hg, Below.refl _ _, rfl⟩⟩)
            · exact fun ρ X9 fl hg hn hl hp ho hc hf hr => .inr (.inl ⟨2, 91, true, fun _ => rfl, rfl, hr 2 91 rfl rfl, Runs.val _ (op_load23 (show ρ (.tmp 97) = .pointer (some ⟨b1, o1 + m * 3, none⟩) from hr 8 97 rfl rfl) (cell_on hg d0) (cell_on hg d1) (cell_on hg d2)) ⟨hg, Below.refl _ _, rfl⟩⟩)
            · exact fun ρ X9 fl hg hn hl hp ho hc hf hr => .inr (.inl ⟨2, 91, true, fun _ => rfl, rfl, hr 2 91 rfl rfl, Runs.val _ (op_eql23 (show ρ (.tmp 92) = vlV x from hr 3 92 rfl rfl) (show ρ (.tmp 98) = vlV x from hr 9 98 rfl rfl) (r := true) (by simp)) ⟨hg, Below.refl _ _, rfl⟩⟩)
            · exact fun ρ X9 fl hg hn hl hp ho hc hf hr => .inl ⟨rfl, Runs.val _ (op_pick (show ρ (.tmp 91) = .bool true from hr 2 91 rfl rfl) (show ρ (.tmp 99) = .bool true from hr 10 99 rfl rfl)) ⟨hg, Below.refl _ _, rfl⟩⟩
            · exact fun ρ X9 fl hg hn hl hp ho hc hf hr => .inl ⟨rfl, Runs.val _ (op_assign (show ρ (.tmp 100) = .bool true from hr 11 100 rfl rfl)) ⟨hg, Below.refl _ _, rfl⟩⟩
          case en =>
            intro a9 w10 fl hfl b10 hs9 hd9 ho9 hr9
            obtain ⟨x9, hx, hxt⟩ := act_put hs9 hd9 ho9
            have x8 : x9 8 = .bool true := (hxt 8).symm.trans (hr9 12 8 rfl)
            change a9 = putAll _ x9 [89, 90, 91, 92, 93, 94, 95, 96, 97, 98, 99, 100, 8] at hx
            simp only [putAll, Act.put, List.setIfInBounds_toArray, List.set_cons_zero, List.set_cons_succ, x8] at hx
            subst hx
            clear hs9 hd9 ho9 hr9 hfl x8
            generalize x9 89 = z89, x9 90 = z90, x9 91 = z91, x9 92 = z92, x9 93 = z93, x9 94 = z94, x9 95 = z95, x9 96 = z96, x9 97 = z97, x9 98 = z98, x9 99 = z99, x9 100 = z100
            have HB10 := Lib.hid (bgo HB9.out b10)
            clear b10
            go_wp2
            go_ret
            exact ⟨rfl, HB10.out⟩
end Go.Proofs.Ytbepekgaipipjaa
