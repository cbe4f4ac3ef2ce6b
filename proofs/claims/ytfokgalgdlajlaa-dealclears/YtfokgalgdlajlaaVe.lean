/- The walk of cut. -/
import Derived.Test.YtfokgalgdlajlaaVd
namespace Go.Proofs.Ytfokgalgdlajlaa
open Go.RowKit
theorem max_run (x y : ByteArray) (w : World) : (Builtin.max_ #[9, 9] 9 #[.string x, .string y]).run Try.prog w = .ok (.string (maxB x y)) w := by
  have h := less_eq x y
  unfold maxB
  by_cases c : cb x y < 0
  · rw [decide_eq_true c] at h
    simp [Builtin.max_, Builtin.max2, Op.stringOp, asBool, h, c]
  · rw [decide_eq_false c] at h
    simp [Builtin.max_, Builtin.max2, Op.stringOp, asBool, h, c]
theorem min_run (x y : ByteArray) (w : World) : (Builtin.min_ #[9, 9] 9 #[.string x, .string y]).run Try.prog w = .ok (.string (minB x y)) w := by
  have h := leq_eq x y
  have t := cb_turn x y
  unfold minB
  by_cases c : 0 < cb x y
  · rw [decide_eq_false (fun q => q (by omega))] at h
    simp [Builtin.min_, Builtin.min2, Op.stringOp, asBool, h, c]
  · rw [decide_eq_true (by omega)] at h
    simp [Builtin.min_, Builtin.min2, Op.stringOp, asBool, h, c]
section
variable {w w' W V X : World} {L : List ByteArray} {v : Value}
/-- What cut has in hand. -/
structure Ct (w X : World) (Y : Nat) (p q : ByteArray) : Prop where
  at' : w.heap.size = Y
  one : X.heap[Y]? = some (.cells #[.string p, .string q] 62 (0, 0))
  two : X.heap[Y + 1]? = some (.cells #[.string ⟨#[]⟩, .string ⟨#[]⟩] 62 (0, 0))
  bl : Below w.heap.size w X
theorem Ct.set0 {Y : Nat} {p q : ByteArray} (h : Ct w X Y p q) (r : ByteArray) : Ct w (X.setCell ⟨Y, 0, none⟩ (.string r)).drew Y r q :=
  ⟨h.at', (set_blk h.one _).trans rfl, (set_other _ (by show Y + 1 ≠ Y; omega)).trans h.two, below_draw (((Fr.ofBelow (fun k => k = Y) h.bl).set (.inl rfl) _).fresh (fun k hk => by subst hk; rw [h.at']; exact Nat.le_refl _)) 1⟩
theorem Ct.set1 {Y : Nat} {p q : ByteArray} (h : Ct w X Y p q) (r : ByteArray) : Ct w (X.setCell ⟨Y, 1, none⟩ (.string r)).drew Y p r :=
  ⟨h.at', (set_blk h.one _).trans rfl, (set_other _ (by show Y + 1 ≠ Y; omega)).trans h.two, below_draw (((Fr.ofBelow (fun k => k = Y) h.bl).set (.inl rfl) _).fresh (fun k hk => by subst hk; rw [h.at']; exact Nat.le_refl _)) 1⟩
theorem Ct.done {Y : Nat} {p q : ByteArray} (h : Ct w X Y p q) : ∃ Z, Z = (X.setCell ⟨Y + 1, 0, none⟩ (.string p)).setCell ⟨Y + 1, 1, none⟩ (.string q) ∧ Z.cell? ⟨Y + 1, 0, none⟩ = some (.string p) ∧ Z.cell? ⟨Y + 1, 1, none⟩ = some (.string q) ∧ Below w.heap.size w Z := by
  have e1 := set_blk (i := 0) h.two (.string p)
  have e2 := set_blk (i := 1) e1 (.string q)
  refine ⟨_, rfl, (cell_blk e2 0).trans rfl, (cell_blk e2 1).trans rfl, ?_⟩
  exact (((Fr.ofBelow (fun k => k = Y + 1) h.bl).set (.inl rfl) _).set (.inl rfl) _).fresh (fun k hk => by subst hk; rw [h.at']; exact Nat.le_succ _)
set_option maxHeartbeats 2000000 in
set_option maxRecDepth 100000 in
theorem cut_any {lo B : Nat} (h : Sp w lo B L) (i : Nat) (hi : i ≤ L.length) (a b : ByteArray) : Calls Try.prog 63 #[.pointer (some ⟨B, 0, none⟩), .int .i64 (i : Int), .agg #[.string a, .string b]] w fun e w' => e = .returned (.agg #[.string (loB L a i), .string (hiB L b i)]) ∧ Below w.heap.size w w' := by
  have hf := h.few
  obtain ⟨⟨v, h1, h2⟩, _, _⟩ := h
  obtain ⟨ad, cap, rfl, _, _, _, h3⟩ := Ls.own h2
  have hB := blk_lt h1
  obtain ⟨W, hW⟩ : ∃ W, W = (w.alloc (.cells #[.string a, .string b] 62)).alloc (.cells #[.string ⟨#[]⟩, .string ⟨#[]⟩] 62) := ⟨_, rfl⟩
  obtain ⟨Y, hY⟩ : ∃ Y, w.heap.size = Y := ⟨_, rfl⟩
  have ct : Ct w W Y a b := by
    refine ⟨hY, ?_, ?_, ?_⟩
    · rw [hW, ← hY, Below.heap_alloc _ _ _ (by simp)]
      exact heap_alloc_new w _
    · have := heap_alloc_new (w.alloc (.cells #[.string a, .string b] 62)) (.cells #[.string ⟨#[]⟩, .string ⟨#[]⟩] 62)
      rw [hW, ← hY]
      simpa using this
    · rw [hW]
      exact ((Below.refl _ w).alloc (Nat.le_refl _) _).alloc (by simp) _
  have H3 := Lib.hid h3
  have H1 := Lib.hid h1
  have HW := Lib.hid hW
  have HYY := Lib.hid hY
  have CT := Lib.hid ct
  clear hW hY h1 h2 h3 ct
  by_cases i0 : 0 < i
  · obtain ⟨bb, o, rfl, hbl, c0⟩ := H3.out (i - 1) (by omega)
    obtain ⟨x, hx⟩ : ∃ x, L[i - 1] = x := ⟨_, rfl⟩
    rw [hx] at c0
    have HX := Lib.hid hx
    have c1 : W.cell? ⟨bb, o + (i - 1), none⟩ = some (.string x) := cell_on CT.out.bl c0
    have hmx := max_run a x
    have k0 : (i : Int) > 0 := by omega
    have k2 : (i : Int) - 1 = ((i - 1 : Nat) : Int) := by omega
    clear hx c0
    have cB : W.cell? ⟨B, 0, none⟩ = some (.slice (some ⟨bb, o, none⟩) L.length cap) := cell_on CT.out.bl (cell_blk H1.out 0)
    have y0 : W.cell? ⟨Y, 0, none⟩ = some (.string a) := cell_blk CT.out.one 0
    have y1 : W.cell? ⟨Y, 1, none⟩ = some (.string b) := cell_blk CT.out.one 1
    have f0 : W.frozen? ⟨Y, 0, none⟩ = false := frozen_blk CT.out.one 0
    have f1 : W.frozen? ⟨Y, 1, none⟩ = false := frozen_blk CT.out.one 1
    have g0 : W.frozen? ⟨Y + 1, 0, none⟩ = false := frozen_blk CT.out.two 0
    have g1 : W.frozen? ⟨Y + 1, 1, none⟩ = false := frozen_blk CT.out.two 1
    have d0 : W.cell? ⟨Y + 1, 0, none⟩ = some (.string ⟨#[]⟩) := cell_blk CT.out.two 0
    have d1 : W.cell? ⟨Y + 1, 1, none⟩ = some (.string ⟨#[]⟩) := cell_blk CT.out.two 1
    go_enter Try.func63, Try.ntmps63
    go_upto_region 1 with fail
    rw [← HW.out, HYY.out]
    go_wp2
    go_region
    obtain ⟨X1, hX1⟩ : ∃ X1, X1 = (W.setCell ⟨Y, 0, none⟩ (.string (maxB a x))).drew := ⟨_, rfl⟩
    have CT2 : Hid (Ct w X1 Y (maxB a x) b) := Lib.hid (by rw [hX1]; exact CT.out.set0 _)
    rw [← hX1]
    clear cB y0 y1 f0 f1 g0 g1 d0 d1 CT c1 hX1
    have CT := CT2
    clear CT2
    by_cases i1 : i < L.length
    · obtain ⟨b2, o2, e2, hbl2, c2⟩ := H3.out i i1
      cases e2
      obtain ⟨y, hy⟩ : ∃ y, L[i] = y := ⟨_, rfl⟩
      rw [hy] at c2
      have HY := Lib.hid hy
      clear hy
      have c3 : X1.cell? ⟨bb, o + i, none⟩ = some (.string y) := cell_on CT.out.bl c2
      have hmn := min_run b y
      have k3 : (i : Int) < L.length := by omega
      clear c2
      have cB : X1.cell? ⟨B, 0, none⟩ = some (.slice (some ⟨bb, o, none⟩) L.length cap) := cell_on CT.out.bl (cell_blk H1.out 0)
      have y0 : X1.cell? ⟨Y, 0, none⟩ = some (.string (maxB a x)) := cell_blk CT.out.one 0
      have y1 : X1.cell? ⟨Y, 1, none⟩ = some (.string b) := cell_blk CT.out.one 1
      have f0 : X1.frozen? ⟨Y, 0, none⟩ = false := frozen_blk CT.out.one 0
      have f1 : X1.frozen? ⟨Y, 1, none⟩ = false := frozen_blk CT.out.one 1
      have g0 : X1.frozen? ⟨Y + 1, 0, none⟩ = false := frozen_blk CT.out.two 0
      have g1 : X1.frozen? ⟨Y + 1, 1, none⟩ = false := frozen_blk CT.out.two 1
      have d0 : X1.cell? ⟨Y + 1, 0, none⟩ = some (.string ⟨#[]⟩) := cell_blk CT.out.two 0
      have d1 : X1.cell? ⟨Y + 1, 1, none⟩ = some (.string ⟨#[]⟩) := cell_blk CT.out.two 1
      have hlo : loB L a i = (maxB a x) := by unfold loB; rw [if_pos i0, atB_get (by omega), HX.out]
      have hhi : hiB L b i = minB b y := by unfold hiB; rw [if_pos i1, atB_get i1, HY.out]
      have HLO := Lib.hid hlo
      have HHI := Lib.hid hhi
      clear hlo hhi
      go_wp2
      go_region
      obtain ⟨X2, hX2⟩ : ∃ X2, X2 = (X1.setCell ⟨Y, 1, none⟩ (.string (minB b y))).drew := ⟨_, rfl⟩
      have CT2 : Hid (Ct w X2 Y (maxB a x) (minB b y)) := Lib.hid (by rw [hX2]; exact CT.out.set1 _)
      rw [← hX2]
      clear cB y0 y1 f0 f1 g0 g1 d0 d1 CT c3 hX2
      have CT := CT2
      clear CT2
      have cB : X2.cell? ⟨B, 0, none⟩ = some (.slice (some ⟨bb, o, none⟩) L.length cap) := cell_on CT.out.bl (cell_blk H1.out 0)
      have y0 : X2.cell? ⟨Y, 0, none⟩ = some (.string (maxB a x)) := cell_blk CT.out.one 0
      have y1 : X2.cell? ⟨Y, 1, none⟩ = some (.string (minB b y)) := cell_blk CT.out.one 1
      have f0 : X2.frozen? ⟨Y, 0, none⟩ = false := frozen_blk CT.out.one 0
      have f1 : X2.frozen? ⟨Y, 1, none⟩ = false := frozen_blk CT.out.one 1
      have g0 : X2.frozen? ⟨Y + 1, 0, none⟩ = false := frozen_blk CT.out.two 0
      have g1 : X2.frozen? ⟨Y + 1, 1, none⟩ = false := frozen_blk CT.out.two 1
      have d0 : X2.cell? ⟨Y + 1, 0, none⟩ = some (.string ⟨#[]⟩) := cell_blk CT.out.two 0
      have d1 : X2.cell? ⟨Y + 1, 1, none⟩ = some (.string ⟨#[]⟩) := cell_blk CT.out.two 1
      go_wp2
      obtain ⟨Z, hZ, z0, z1, hz⟩ := CT.out.done
      rw [← hZ]
      clear hZ
      refine bodyPost_ret (v := .agg #[.string (maxB a x), .string (minB b y)]) (by simp [results, Try.results63, go_sem, z0, z1]) rfl ?_
      exact ⟨by rw [HLO.out, HHI.out], hz⟩
    · have cB : X1.cell? ⟨B, 0, none⟩ = some (.slice (some ⟨bb, o, none⟩) L.length cap) := cell_on CT.out.bl (cell_blk H1.out 0)
      have y0 : X1.cell? ⟨Y, 0, none⟩ = some (.string (maxB a x)) := cell_blk CT.out.one 0
      have y1 : X1.cell? ⟨Y, 1, none⟩ = some (.string b) := cell_blk CT.out.one 1
      have f0 : X1.frozen? ⟨Y, 0, none⟩ = false := frozen_blk CT.out.one 0
      have f1 : X1.frozen? ⟨Y, 1, none⟩ = false := frozen_blk CT.out.one 1
      have g0 : X1.frozen? ⟨Y + 1, 0, none⟩ = false := frozen_blk CT.out.two 0
      have g1 : X1.frozen? ⟨Y + 1, 1, none⟩ = false := frozen_blk CT.out.two 1
      have d0 : X1.cell? ⟨Y + 1, 0, none⟩ = some (.string ⟨#[]⟩) := cell_blk CT.out.two 0
      have d1 : X1.cell? ⟨Y + 1, 1, none⟩ = some (.string ⟨#[]⟩) := cell_blk CT.out.two 1
      have hlo : loB L a i = (maxB a x) := by unfold loB; rw [if_pos i0, atB_get (by omega), HX.out]
      have hhi : hiB L b i = b := by unfold hiB; rw [if_neg i1]
      have k3 : ¬ ((i : Int) < L.length) := by omega
      have HLO := Lib.hid hlo
      have HHI := Lib.hid hhi
      clear hlo hhi
      go_wp2
      obtain ⟨Z, hZ, z0, z1, hz⟩ := CT.out.done
      rw [← hZ]
      clear hZ
      refine bodyPost_ret (v := .agg #[.string (maxB a x), .string b]) (by simp [results, Try.results63, go_sem, z0, z1]) rfl ?_
      exact ⟨by rw [HLO.out, HHI.out], hz⟩
  · have k0 : ¬ ((i : Int) > 0) := by omega
    by_cases i1 : i < L.length
    · obtain ⟨b2, o2, e2, hbl2, c2⟩ := H3.out i i1
      subst e2
      obtain ⟨y, hy⟩ : ∃ y, L[i] = y := ⟨_, rfl⟩
      rw [hy] at c2
      have HY := Lib.hid hy
      clear hy
      have c3 : W.cell? ⟨b2, o2 + i, none⟩ = some (.string y) := cell_on CT.out.bl c2
      have hmn := min_run b y
      have k3 : (i : Int) < L.length := by omega
      clear c2
      have cB : W.cell? ⟨B, 0, none⟩ = some (.slice (some ⟨b2, o2, none⟩) L.length cap) := cell_on CT.out.bl (cell_blk H1.out 0)
      have y0 : W.cell? ⟨Y, 0, none⟩ = some (.string a) := cell_blk CT.out.one 0
      have y1 : W.cell? ⟨Y, 1, none⟩ = some (.string b) := cell_blk CT.out.one 1
      have f0 : W.frozen? ⟨Y, 0, none⟩ = false := frozen_blk CT.out.one 0
      have f1 : W.frozen? ⟨Y, 1, none⟩ = false := frozen_blk CT.out.one 1
      have g0 : W.frozen? ⟨Y + 1, 0, none⟩ = false := frozen_blk CT.out.two 0
      have g1 : W.frozen? ⟨Y + 1, 1, none⟩ = false := frozen_blk CT.out.two 1
      have d0 : W.cell? ⟨Y + 1, 0, none⟩ = some (.string ⟨#[]⟩) := cell_blk CT.out.two 0
      have d1 : W.cell? ⟨Y + 1, 1, none⟩ = some (.string ⟨#[]⟩) := cell_blk CT.out.two 1
      have hlo : loB L a i = a := by unfold loB; rw [if_neg i0]
      have hhi : hiB L b i = minB b y := by unfold hiB; rw [if_pos i1, atB_get i1, HY.out]
      have HLO := Lib.hid hlo
      have HHI := Lib.hid hhi
      clear hlo hhi
      go_enter Try.func63, Try.ntmps63
      go_upto_region 1 with fail
      rw [← HW.out, HYY.out]
      go_wp2
      go_region
      obtain ⟨X2, hX2⟩ : ∃ X2, X2 = (W.setCell ⟨Y, 1, none⟩ (.string (minB b y))).drew := ⟨_, rfl⟩
      have CT2 : Hid (Ct w X2 Y a (minB b y)) := Lib.hid (by rw [hX2]; exact CT.out.set1 _)
      rw [← hX2]
      clear cB y0 y1 f0 f1 g0 g1 d0 d1 CT c3 hX2
      have CT := CT2
      clear CT2
      have cB : X2.cell? ⟨B, 0, none⟩ = some (.slice (some ⟨b2, o2, none⟩) L.length cap) := cell_on CT.out.bl (cell_blk H1.out 0)
      have y0 : X2.cell? ⟨Y, 0, none⟩ = some (.string a) := cell_blk CT.out.one 0
      have y1 : X2.cell? ⟨Y, 1, none⟩ = some (.string (minB b y)) := cell_blk CT.out.one 1
      have f0 : X2.frozen? ⟨Y, 0, none⟩ = false := frozen_blk CT.out.one 0
      have f1 : X2.frozen? ⟨Y, 1, none⟩ = false := frozen_blk CT.out.one 1
      have g0 : X2.frozen? ⟨Y + 1, 0, none⟩ = false := frozen_blk CT.out.two 0
      have g1 : X2.frozen? ⟨Y + 1, 1, none⟩ = false := frozen_blk CT.out.two 1
      have d0 : X2.cell? ⟨Y + 1, 0, none⟩ = some (.string ⟨#[]⟩) := cell_blk CT.out.two 0
      have d1 : X2.cell? ⟨Y + 1, 1, none⟩ = some (.string ⟨#[]⟩) := cell_blk CT.out.two 1
      go_wp2
      obtain ⟨Z, hZ, z0, z1, hz⟩ := CT.out.done
      rw [← hZ]
      clear hZ
      refine bodyPost_ret (v := .agg #[.string a, .string (minB b y)]) (by simp [results, Try.results63, go_sem, z0, z1]) rfl ?_
      exact ⟨by rw [HLO.out, HHI.out], hz⟩
    · have cB : W.cell? ⟨B, 0, none⟩ = some (.slice ad L.length cap) := cell_on CT.out.bl (cell_blk H1.out 0)
      have y0 : W.cell? ⟨Y, 0, none⟩ = some (.string a) := cell_blk CT.out.one 0
      have y1 : W.cell? ⟨Y, 1, none⟩ = some (.string b) := cell_blk CT.out.one 1
      have f0 : W.frozen? ⟨Y, 0, none⟩ = false := frozen_blk CT.out.one 0
      have f1 : W.frozen? ⟨Y, 1, none⟩ = false := frozen_blk CT.out.one 1
      have g0 : W.frozen? ⟨Y + 1, 0, none⟩ = false := frozen_blk CT.out.two 0
      have g1 : W.frozen? ⟨Y + 1, 1, none⟩ = false := frozen_blk CT.out.two 1
      have d0 : W.cell? ⟨Y + 1, 0, none⟩ = some (.string ⟨#[]⟩) := cell_blk CT.out.two 0
      have d1 : W.cell? ⟨Y + 1, 1, none⟩ = some (.string ⟨#[]⟩) := cell_blk CT.out.two 1
      have hlo : loB L a i = a := by unfold loB; rw [if_neg i0]
      have hhi : hiB L b i = b := by unfold hiB; rw [if_neg i1]
      have k3 : ¬ ((i : Int) < L.length) := by omega
      have HLO := Lib.hid hlo
      have HHI := Lib.hid hhi
      clear hlo hhi
      go_enter Try.func63, Try.ntmps63
      go_upto_region 1 with fail
      rw [← HW.out, HYY.out]
      go_wp2
      obtain ⟨Z, hZ, z0, z1, hz⟩ := CT.out.done
      rw [← hZ]
      clear hZ
      refine bodyPost_ret (v := .agg #[.string a, .string b]) (by simp [results, Try.results63, go_sem, z0, z1]) rfl ?_
      exact ⟨by rw [HLO.out, HHI.out], hz⟩
end
end Go.Proofs.Ytfokgalgdlajlaa
