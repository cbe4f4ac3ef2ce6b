/- The closures that make commands; each. -/
import Derived.Test.YtfokgalgdlajlaaCd
namespace Go.Proofs.Ytfokgalgdlajlaa
open Go.RowKit
/-- What holds amid 'list = append(list, x)' in any order: ahead of the box, behind it, behind the append; the variable's slot. -/
def EG (A0 : World → Prop) (A1 A2 : Value → World → Prop) (lv : Value) (f1 f2 f3 : Bool) (v0 v1 v2 : Value) (X : World) : Prop := (f3 = false → v0 = lv) ∧ (f3 = true → v0 = v2) ∧ (if f2 then A2 v2 X else if f1 then A1 v1 X else A0 X)
theorem EG.same {A0 : World → Prop} {A1 A2 : Value → World → Prop} {lv : Value} {f1 f2 f3 g1 g2 g3 : Bool} {v0 v1 v2 u0 u1 u2 : Value} {X : World} (h : EG A0 A1 A2 lv f1 f2 f3 v0 v1 v2 X) (e1 : g1 = f1) (e2 : g2 = f2) (e3 : g3 = f3) (q0 : u0 = v0) (q1 : u1 = v1) (q2 : u2 = v2) : EG A0 A1 A2 lv g1 g2 g3 u0 u1 u2 X := by rw [e1, e2, e3, q0, q1, q2]; exact h
theorem fr_cell {V X : World} {Q B j : Nat} {u : Value} (hf : Fr V X (fun k => k = Q)) (c : V.cell? ⟨B, j, none⟩ = some u) (hne : B ≠ Q) : X.cell? ⟨B, j, none⟩ = some u := by
  have hl : B < V.heap.size := by
    refine Classical.byContradiction fun q => ?_
    unfold World.cell? at c
    rw [Array.getElem?_eq_none (by simpa using q)] at c
    simp at c
  exact (cell_like (hf.block B hl hne) j).trans c
def Dl.prepF (d : Dl) (g : Gp) (f1 f2 f3 : Bool) : Ak := { d.cmd 0 1 with til := cond f1 d.til 0, r := cond f2 g.r .nil, w := cond f3 g.w .nil }
section
variable {w : World} {A : Nat} {d : Dl} {pa wa : Option Addr} {pc wc : Nat}
set_option maxHeartbeats 4000000 in
set_option maxRecDepth 100000 in
theorem prep_clo (h : Dx w A d pa pc wa wc) {E : Nat} (hE : w.cell? ⟨E, 0, none⟩ = some (.pointer (some ⟨A, 0, none⟩))) (g : Gp) : Calls Try.prog 72 #[.agg (gpA g), .pointer (some ⟨E, 0, none⟩)] w fun e w' => e = .returned (.agg (cmA (d.prep g))) ∧ Below w.heap.size w w' := by
  obtain ⟨W, hW⟩ : ∃ W, W = (w.alloc (.cells (gpA g) 84)).alloc (.cells zC 76) := ⟨_, rfl⟩
  obtain ⟨Y, hY⟩ : ∃ Y, w.heap.size = Y := ⟨_, rfl⟩
  obtain ⟨Z, hZ⟩ : ∃ Z, Y + 1 = Z := ⟨_, rfl⟩
  have hb : Below w.heap.size w W := by rw [hW]; exact ((Below.refl _ w).alloc (Nat.le_refl _) _).alloc (by simp) _
  have jY : W.heap[Y]? = some (.cells (gpA g) 84 (0, 0)) := by
    have := heap_alloc_new w (.cells (gpA g) 84)
    rw [hW, ← hY, Below.heap_alloc _ _ _ (by simp only [World.size_alloc]; omega)]
    exact this
  have jZ : W.heap[Z]? = some (.cells zC 76 (0, 0)) := by
    have := heap_alloc_new (w.alloc (.cells (gpA g) 84)) (.cells zC 76)
    simp only [World.size_alloc] at this
    rw [hW, ← hZ, ← hY]
    exact this
  have cE := cell_on hb hE
  have hD := h.on hb
  have hc := command_any hD 1
  have hAl := hD.lt
  have HD := Lib.hid hD
  have HE := Lib.hid cE
  have HW := Lib.hid hW
  have HN := Lib.hid (And.intro hY hZ)
  have HB := Lib.hid hb
  have HJ := Lib.hid (And.intro jY jZ)
  have HC := Lib.hid hc
  have HL := Lib.hid (And.intro hAl (And.intro (blk_lt jY) (blk_lt jZ)))
  clear h hE hW hY hZ hb jY jZ hc hD hAl
  go_enter Try.func72, Try.ntmps72
  go_upto_region 1 with fail
  rw [← HW.out, HN.out.1, HN.out.2]
  go_upto_region 2 with (first | (go_at_call 73; refine HC.out.mono ?_; rintro e v6 ⟨rfl, b6⟩; have B6 := Lib.hid b6; have cE6 := cell_on b6 HE.out; clear b6; obtain ⟨V2, e2, k2, f2⟩ := st_row (heap_alloc_new v6 (.cells zC 76)) (us := cmA (d.cmd 0 1)) rfl size76 (by simp [Value.oneCell']); have HS2 := Lib.hid e2; have HK2 := Lib.hid k2; have HF2 := Lib.hid f2; clear e2 k2 f2) | (refine wpl_store _ _ rfl (by first | rfl | simp [Act.eval]) (by first | rfl | simp [Act.eval]) HS2.out ?_))
  have BV : Hid (Below v6.heap.size v6 V2) := Lib.hid (below_put (bnew v6 _) (Nat.le_refl _) HF2.out (Nat.le_refl _))
  have HDV := Lib.hid (HD.out.on (bgo B6.out BV.out))
  have CE := Lib.hid (cell_on BV.out cE6)
  have B62 := bgo B6.out BV.out
  have HJV := Lib.hid (And.intro ((B62.block Y HL.out.2.1).trans HJ.out.1) ((B62.block Z HL.out.2.2).trans HJ.out.2))
  have HLT : Hid (A < v6.heap.size ∧ Y < v6.heap.size ∧ Z < v6.heap.size) := Lib.hid (by
    have := B6.out.size
    have := HL.out
    omega)
  have HLE : Hid (E < v6.heap.size) := Lib.hid (by
    refine Classical.byContradiction fun q => ?_
    have h9 := cE6
    unfold World.cell? at h9
    rw [Array.getElem?_eq_none (by simpa using q)] at h9
    simp at h9)
  clear B62 cE6 cE
  refine wp_region_fb (fun fl X9 => Fr V2 X9 (fun k => k = v6.heap.size) ∧ X9.heap[v6.heap.size]? = some (.cells (cmA (d.prepF g (fl 9) (fl 11) (fl 13))) 76 (0, 0))) (fun _ _ => True) [
    fun v9 _ => v9 = .pointer (some ⟨A, 0, none⟩),
    fun v9 _ => v9 = .pointer (some ⟨A, 0, none⟩),
    fun v9 _ => v9 = .pointer (some ⟨A, 5, none⟩),
    fun v9 _ => v9 = .int .i64 d.til,
    fun v9 _ => v9 = .pointer (some ⟨Y, 1, none⟩),
    fun v9 _ => v9 = .slice g.r.a g.r.n g.r.c,
    fun v9 _ => v9 = .pointer (some ⟨Y, 2, none⟩),
    fun v9 _ => v9 = .slice g.w.a g.w.n g.w.c,
    fun v9 _ => v9 = .pointer (some ⟨v6.heap.size, 11, none⟩),
    fun _ _ => True,
    fun v9 _ => v9 = .pointer (some ⟨v6.heap.size, 8, none⟩),
    fun _ _ => True,
    fun v9 _ => v9 = .pointer (some ⟨v6.heap.size, 9, none⟩),
    fun _ _ => True]
    (by kernel_rfl) (by kernel_rfl) (by kernel_rfl) ?st ?g0 ?os ?en
  case st => exact ⟨fun _ _ _ _ h => h, fun _ _ _ _ h => h, fun _ _ _ _ h => h, fun _ _ _ _ h => h, fun _ _ _ _ h => h, fun _ _ _ _ h => h, fun _ _ _ _ h => h, fun _ _ _ _ h => h, fun _ _ _ _ h => h, fun _ _ _ _ h => h, fun _ _ _ _ h => h, fun _ _ _ _ h => h, fun _ _ _ _ h => h, fun _ _ _ _ h => h, trivial⟩
  case g0 => exact ⟨Fr.ofBelow _ ⟨rfl, rfl, rfl, Nat.le_refl _, fun _ _ => rfl⟩, HK2.out⟩
  case os =>
    refine ⟨?_, ?_, ?_, ?_, ?_, ?_, ?_, ?_, ?_, ?_, ?_, ?_, ?_, ?_, trivial⟩
    · exact fun ρ X9 fl hg hn hl hp ho hc hf hr => .inl ⟨rfl, Runs.val _ (op_load38 (show ρ (.tmp 1) = .pointer (some ⟨E, 0, none⟩) from ho 1 rfl) (fr_cell hg.1 CE.out (Nat.ne_of_lt HLE.out))) ⟨hg, trivial, rfl⟩⟩
    · exact fun ρ X9 fl hg hn hl hp ho hc hf hr => .inl ⟨rfl, Runs.val _ (op_nil (show ρ (.tmp 7) = .pointer (some ⟨A, 0, none⟩) from hr 0 7 rfl rfl)) ⟨hg, trivial, rfl⟩⟩
    · exact fun ρ X9 fl hg hn hl hp ho hc hf hr => .inl ⟨rfl, Runs.val _ (op_f82_3 (show ρ (.tmp 8) = .pointer (some ⟨A, 0, none⟩) from hr 1 8 rfl rfl)) ⟨hg, trivial, rfl⟩⟩
    · exact fun ρ X9 fl hg hn hl hp ho hc hf hr => .inl ⟨rfl, Runs.val _ (op_load3 (show ρ (.tmp 9) = .pointer (some ⟨A, 5, none⟩) from hr 2 9 rfl rfl) (fr_cell hg.1 (HDV.out.cell 5) (Nat.ne_of_lt HLT.out.1))) ⟨hg, trivial, rfl⟩⟩
    · exact fun ρ X9 fl hg hn hl hp ho hc hf hr => .inl ⟨rfl, Runs.val _ (op_f84_1 (show ρ (.tmp 2) = .pointer (some ⟨Y, 0, none⟩) from ho 2 rfl)) ⟨hg, trivial, rfl⟩⟩
    · exact fun ρ X9 fl hg hn hl hp ho hc hf hr => .inl ⟨rfl, Runs.val _ (op_load22 (show ρ (.tmp 11) = .pointer (some ⟨Y, 1, none⟩) from hr 4 11 rfl rfl) (fr_cell hg.1 (cell_blk HJV.out.1 1) (Nat.ne_of_lt HLT.out.2.1))) ⟨hg, trivial, rfl⟩⟩
    · exact fun ρ X9 fl hg hn hl hp ho hc hf hr => .inl ⟨rfl, Runs.val _ (op_f84_2 (show ρ (.tmp 2) = .pointer (some ⟨Y, 0, none⟩) from ho 2 rfl)) ⟨hg, trivial, rfl⟩⟩
    · exact fun ρ X9 fl hg hn hl hp ho hc hf hr => .inl ⟨rfl, Runs.val _ (op_load23 (show ρ (.tmp 13) = .pointer (some ⟨Y, 2, none⟩) from hr 6 13 rfl rfl) (fr_cell hg.1 (cell_blk HJV.out.1 2) (Nat.ne_of_lt HLT.out.2.1))) ⟨hg, trivial, rfl⟩⟩
    · exact fun ρ X9 fl hg hn hl hp ho hc hf hr => .inl ⟨rfl, Runs.val _ (op_f76_7 (show ρ (.tmp 4) = .pointer (some ⟨v6.heap.size, 0, none⟩) from ho 4 rfl)) ⟨hg, trivial, rfl⟩⟩
    · intro ρ X9 fl hg hn hl hp ho hc hf hr
      have hG : Fr V2 X9 (fun k => k = v6.heap.size) ∧ X9.heap[v6.heap.size]? = some (.cells (cmA (d.prepF g (fl 9) (fl 11) (fl 13))) 76 (0, 0)) := hg
      exact .inl ⟨rfl, Runs.skips (op_store3 (show ρ (.tmp 15) = .pointer (some ⟨v6.heap.size, 11, none⟩) from hr 8 15 rfl rfl) (show ρ (.tmp 10) = .int .i64 d.til from hr 3 10 rfl rfl) (cell_blk hG.2 11) (frozen_blk hG.2 _)) ⟨⟨hG.1.set (a := ⟨v6.heap.size, 11, none⟩) (.inl rfl) _, set_blk hG.2 _⟩, trivial, trivial⟩⟩
    · exact fun ρ X9 fl hg hn hl hp ho hc hf hr => .inl ⟨rfl, Runs.val _ (op_f76_4 (show ρ (.tmp 4) = .pointer (some ⟨v6.heap.size, 0, none⟩) from ho 4 rfl)) ⟨hg, trivial, rfl⟩⟩
    · intro ρ X9 fl hg hn hl hp ho hc hf hr
      have hG : Fr V2 X9 (fun k => k = v6.heap.size) ∧ X9.heap[v6.heap.size]? = some (.cells (cmA (d.prepF g (fl 9) (fl 11) (fl 13))) 76 (0, 0)) := hg
      exact .inl ⟨rfl, Runs.skips (op_store22 (show ρ (.tmp 16) = .pointer (some ⟨v6.heap.size, 8, none⟩) from hr 10 16 rfl rfl) (show ρ (.tmp 12) = .slice g.r.a g.r.n g.r.c from hr 5 12 rfl rfl) (cell_blk hG.2 8) (frozen_blk hG.2 _)) ⟨⟨hG.1.set (a := ⟨v6.heap.size, 8, none⟩) (.inl rfl) _, set_blk hG.2 _⟩, trivial, trivial⟩⟩
    · exact fun ρ X9 fl hg hn hl hp ho hc hf hr => .inl ⟨rfl, Runs.val _ (op_f76_5 (show ρ (.tmp 4) = .pointer (some ⟨v6.heap.size, 0, none⟩) from ho 4 rfl)) ⟨hg, trivial, rfl⟩⟩
    · intro ρ X9 fl hg hn hl hp ho hc hf hr
      have hG : Fr V2 X9 (fun k => k = v6.heap.size) ∧ X9.heap[v6.heap.size]? = some (.cells (cmA (d.prepF g (fl 9) (fl 11) (fl 13))) 76 (0, 0)) := hg
      exact .inl ⟨rfl, Runs.skips (op_store23 (show ρ (.tmp 17) = .pointer (some ⟨v6.heap.size, 9, none⟩) from hr 12 17 rfl rfl) (show ρ (.tmp 14) = .slice g.w.a g.w.n g.w.c from hr 7 14 rfl rfl) (cell_blk hG.2 9) (frozen_blk hG.2 _)) ⟨⟨hG.1.set (a := ⟨v6.heap.size, 9, none⟩) (.inl rfl) _, set_blk hG.2 _⟩, trivial, trivial⟩⟩
  case en =>
    intro a9 w6 fl hfl hG9 hs9 hd9 ho9 hr9
    obtain ⟨x9, hx, hxt⟩ := act_put hs9 hd9 ho9
    change a9 = putAll _ x9 [7, 8, 9, 10, 11, 12, 13, 14, 15, 16, 17] at hx
    simp only [putAll, Act.put, List.setIfInBounds_toArray, List.set_cons_zero, List.set_cons_succ] at hx
    subst hx
    clear hs9 hd9 ho9 hr9 hxt 
    generalize x9 7 = z7, x9 8 = z8, x9 9 = z9, x9 10 = z10, x9 11 = z11, x9 12 = z12, x9 13 = z13, x9 14 = z14, x9 15 = z15, x9 16 = z16, x9 17 = z17
    have hG : Fr V2 w6 (fun k => k = v6.heap.size) ∧ w6.heap[v6.heap.size]? = some (.cells (cmA (d.prep g)) 76 (0, 0)) := by
      have h9 := hG9
      rw [hfl 9 (by decide), hfl 11 (by decide), hfl 13 (by decide)] at h9
      exact h9
    clear hfl hG9
    have hld := load_row hG.2 Try.underlying76 rfl size76
    have jZ6 := (hG.1.block Z (blk_lt HJV.out.2) (Nat.ne_of_lt HLT.out.2.2)).trans HJV.out.2
    obtain ⟨V3, e3, k3, f3⟩ := st_row jZ6 (us := cmA (d.prep g)) rfl size76 (by simp [Value.oneCell'])
    have HLD := Lib.hid hld
    have HS3 := Lib.hid e3
    have b0 : Below w.heap.size w v6 := bgo HB.out B6.out
    have b1 : Below w.heap.size w w6 := below_put (bgo b0 BV.out) (Nat.le_refl _) hG.1 b0.size
    have b2 : Below w.heap.size w V3 := below_put b1 (Nat.le_refl _) f3 (by have := HN.out; omega)
    have HE3 := Lib.hid (And.intro k3 b2)
    clear hG hld jZ6 e3 k3 f3 b0 b1 b2
    go_wp2_with (first | (refine wpl_load _ rfl (by first | rfl | simp [Act.eval]) HLD.out ?_) | (refine wpl_store _ _ rfl (by first | rfl | simp [Act.eval]) (by first | rfl | simp [Act.eval]) HS3.out ?_))
    refine bodyPost_ret (results_one rfl rfl (load_var HE3.out.1 Try.underlying76 rfl size76)) rfl ?_
    exact ⟨rfl, HE3.out.2⟩
set_option maxHeartbeats 4000000 in
set_option maxRecDepth 100000 in
theorem reso_clo (h : Dx w A d pa pc wa wc) {E : Nat} (hE : w.cell? ⟨E, 0, none⟩ = some (.pointer (some ⟨A, 0, none⟩))) (g : Gp) : Calls Try.prog 74 #[.agg (gpA g), .pointer (some ⟨E, 0, none⟩)] w fun e w' => e = .returned (.agg (cmA (d.reso g))) ∧ Below w.heap.size w w' := by
  obtain ⟨W, hW⟩ : ∃ W, W = (w.alloc (.cells (gpA g) 84)).alloc (.cells zC 76) := ⟨_, rfl⟩
  obtain ⟨Y, hY⟩ : ∃ Y, w.heap.size = Y := ⟨_, rfl⟩
  obtain ⟨Z, hZ⟩ : ∃ Z, Y + 1 = Z := ⟨_, rfl⟩
  have hb : Below w.heap.size w W := by rw [hW]; exact ((Below.refl _ w).alloc (Nat.le_refl _) _).alloc (by simp) _
  have jY : W.heap[Y]? = some (.cells (gpA g) 84 (0, 0)) := by
    have := heap_alloc_new w (.cells (gpA g) 84)
    rw [hW, ← hY, Below.heap_alloc _ _ _ (by simp only [World.size_alloc]; omega)]
    exact this
  have jZ : W.heap[Z]? = some (.cells zC 76 (0, 0)) := by
    have := heap_alloc_new (w.alloc (.cells (gpA g) 84)) (.cells zC 76)
    simp only [World.size_alloc] at this
    rw [hW, ← hZ, ← hY]
    exact this
  have cE := cell_on hb hE
  have hD := h.on hb
  have hc := command_any hD 4
  have hAl := hD.lt
  have HD := Lib.hid hD
  have HE := Lib.hid cE
  have HW := Lib.hid hW
  have HN := Lib.hid (And.intro hY hZ)
  have HB := Lib.hid hb
  have HJ := Lib.hid (And.intro jY jZ)
  have HC := Lib.hid hc
  have HL := Lib.hid (And.intro hAl (And.intro (blk_lt jY) (blk_lt jZ)))
  clear h hE hW hY hZ hb jY jZ hc hD hAl
  go_enter Try.func74, Try.ntmps74
  go_upto_region 1 with fail
  rw [← HW.out, HN.out.1, HN.out.2]
  go_upto_region 2 with (first | (go_at_call 73; refine HC.out.mono ?_; rintro e v6 ⟨rfl, b6⟩; have B6 := Lib.hid b6; have cE6 := cell_on b6 HE.out; clear b6; obtain ⟨V2, e2, k2, f2⟩ := st_row (heap_alloc_new v6 (.cells zC 76)) (us := cmA (d.cmd 0 4)) rfl size76 (by simp [Value.oneCell']); have HS2 := Lib.hid e2; have HK2 := Lib.hid k2; have HF2 := Lib.hid f2; clear e2 k2 f2) | (refine wpl_store _ _ rfl (by first | rfl | simp [Act.eval]) (by first | rfl | simp [Act.eval]) HS2.out ?_))
  have BV : Hid (Below v6.heap.size v6 V2) := Lib.hid (below_put (bnew v6 _) (Nat.le_refl _) HF2.out (Nat.le_refl _))
  have HDV := Lib.hid (HD.out.on (bgo B6.out BV.out))
  have CE := Lib.hid (cell_on BV.out cE6)
  have B62 := bgo B6.out BV.out
  have HJV := Lib.hid (And.intro ((B62.block Y HL.out.2.1).trans HJ.out.1) ((B62.block Z HL.out.2.2).trans HJ.out.2))
  have HLT : Hid (A < v6.heap.size ∧ Y < v6.heap.size ∧ Z < v6.heap.size) := Lib.hid (by
    have := B6.out.size
    have := HL.out
    omega)
  have HLE : Hid (E < v6.heap.size) := Lib.hid (by
    refine Classical.byContradiction fun q => ?_
    have h9 := cE6
    unfold World.cell? at h9
    rw [Array.getElem?_eq_none (by simpa using q)] at h9
    simp at h9)
  clear B62 cE6 cE
  have lE := CE.out
  have l12 : V2.cell? ⟨A, 12, none⟩ = some (.int .i64 d.ts) := HDV.out.cell 12
  obtain ⟨w6, hw6⟩ : ∃ X, X = V2.setCell ⟨v6.heap.size, 12, none⟩ (.int .i64 d.ts) := ⟨_, rfl⟩
  have q12 : V2.cell? ⟨v6.heap.size, 12, none⟩ = some (.int .i64 0) := cell_blk HK2.out 12
  have z12 : V2.frozen? ⟨v6.heap.size, 12, none⟩ = false := frozen_blk HK2.out _
  have hst : (Instr.storeAt 3 (.pointer (some ⟨v6.heap.size, 12, none⟩)) (.int .i64 d.ts)).run Try.prog V2 = .ok () w6 := by rw [hw6]; go_simp
  have hG : Fr V2 w6 (fun k => k = v6.heap.size) ∧ w6.heap[v6.heap.size]? = some (.cells (cmA (d.reso g)) 76 (0, 0)) := by
    rw [hw6]
    exact ⟨(Fr.refl V2 (fun k => k = v6.heap.size)).set (a := ⟨v6.heap.size, 12, none⟩) (.inl rfl) _, set_blk HK2.out _⟩
  have HST := Lib.hid hst
  clear hw6 q12 z12 hst
  have hld := load_row hG.2 Try.underlying76 rfl size76
  have jZ6 := (hG.1.block Z (blk_lt HJV.out.2) (Nat.ne_of_lt HLT.out.2.2)).trans HJV.out.2
  obtain ⟨V3, e3, k3, f3⟩ := st_row jZ6 (us := cmA (d.reso g)) rfl size76 (by simp [Value.oneCell'])
  have HLD := Lib.hid hld
  have HS3 := Lib.hid e3
  have b0 : Below w.heap.size w v6 := bgo HB.out B6.out
  have b1 : Below w.heap.size w w6 := below_put (bgo b0 BV.out) (Nat.le_refl _) hG.1 b0.size
  have b2 : Below w.heap.size w V3 := below_put b1 (Nat.le_refl _) f3 (by have := HN.out; omega)
  have HE3 := Lib.hid (And.intro k3 b2)
  clear hG hld jZ6 e3 k3 f3 b0 b1 b2
  go_wp2_with (first | (refine wpl_store _ _ rfl (by first | rfl | simp [Act.eval]) (by first | rfl | simp [Act.eval]) HST.out ?_) | (refine wpl_load _ rfl (by first | rfl | simp [Act.eval]) HLD.out ?_) | (refine wpl_store _ _ rfl (by first | rfl | simp [Act.eval]) (by first | rfl | simp [Act.eval]) HS3.out ?_))
  refine bodyPost_ret (results_one rfl rfl (load_var HE3.out.1 Try.underlying76 rfl size76)) rfl ?_
  exact ⟨rfl, HE3.out.2⟩
end
end Go.Proofs.Ytfokgalgdlajlaa
