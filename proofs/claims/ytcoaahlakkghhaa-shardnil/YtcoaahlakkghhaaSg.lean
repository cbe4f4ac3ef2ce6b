/- The walks of isOver, Record, lockOf. -/
import Derived.Test.YtcoaahlakkghhaaSf
namespace Go.Proofs.Ytcoaahlakkghhaa
open Go.RowKit
section
variable {w w' : World} {A : Nat} {S1 S2 : Nat → Prop} {s : Sh} {P M N : Nat} {G : List Gl} {lv rv ov : Value}
set_option maxHeartbeats 2000000 in
set_option maxRecDepth 100000 in
theorem isOver_any (h : Sx w A S1 S2 s P M N G lv rv ov) {t : Td} (ht : TdOk t) : Calls Try.prog 50 #[.pointer (some ⟨A, 0, none⟩), tdV t] w fun e w' => e = .returned (.bool (decide (t ∈ s.over))) ∧ Below w.heap.size w w' := by
  obtain ⟨W, hW⟩ : ∃ W, W = w.alloc (.cells #[.int .i64 t.1, .int .i64 t.2.1, .int .i64 t.2.2] 37) := ⟨_, rfl⟩
  have hb : Below w.heap.size w W := by rw [hW]; exact (Below.refl _ w).alloc (Nat.le_refl _) _
  obtain ⟨Y, hY⟩ : ∃ Y, w.heap.size = Y := ⟨_, rfl⟩
  have jY : W.heap[Y]? = some (.cells #[.int .i64 t.1, .int .i64 t.2.1, .int .i64 t.2.2] 37 (0, 0)) := by rw [hW, ← hY]; exact heap_alloc_new w _
  have b0 : W.cell? ⟨Y, 0, none⟩ = some (.int .i64 t.1) := cell_blk jY 0
  have b1 : W.cell? ⟨Y, 1, none⟩ = some (.int .i64 t.2.1) := cell_blk jY 1
  have b2 : W.cell? ⟨Y, 2, none⟩ = some (.int .i64 t.2.2) := cell_blk jY 2
  have HW := Lib.hid hW
  have HY := Lib.hid hY
  have HB := Lib.hid hb
  have hlk : ∀ X, Below W.heap.size W X → (Instr.lookup 90 (.map (some N)) (tdV t) true).run Try.prog X = .ok (.tuple #[.agg #[], .bool (decide (t ∈ s.over))]) X := fun X hX => by
    have := ((h.en.on hb).on hX).look Try.underlying90 (zero154 X) ht
    rw [this]
    by_cases q : t ∈ s.over
    · simp [q]
    · simp [q]
  have a5 : W.cell? ⟨A, 5, none⟩ = some (.map (some N)) := cell_on hb (cell_blk h.ob 5)
  have HLK := Lib.hid hlk
  clear hW hY hb jY hlk h
  go_enter Try.func50, Try.ntmps50
  go_upto_region 1 with fail
  rw [← HW.out, HY.out]
  refine wp_region_fb (fun _ X9 => Below W.heap.size W X9) (fun _ _ => True) [
    fun v9 _ => v9 = .pointer (some ⟨A, 0, none⟩),
    fun v9 _ => v9 = .pointer (some ⟨A, 0, none⟩),
    fun v9 _ => v9 = .pointer (some ⟨A, 5, none⟩),
    fun v9 _ => v9 = .map (some N),
    fun v9 _ => v9 = tdV t,
    fun v9 _ => v9 = .tuple #[.agg #[], .bool (decide (t ∈ s.over))],
    fun v9 _ => v9 = .tuple #[.agg #[], .bool (decide (t ∈ s.over))],
    fun v9 _ => v9 = .agg #[],
    fun v9 _ => v9 = .bool (decide (t ∈ s.over)),
    fun v9 _ => ∃ Z, v9 = .pointer (some ⟨Z, 0, none⟩),
    fun _ _ => True,
    fun v9 _ => v9 = .bool (decide (t ∈ s.over))]
    (by kernel_rfl) (by kernel_rfl) (by kernel_rfl) ?st ?g0 ?os ?en
  case st => exact ⟨fun _ _ _ _ h => h, fun _ _ _ _ h => h, fun _ _ _ _ h => h, fun _ _ _ _ h => h, fun _ _ _ _ h => h, fun _ _ _ _ h => h, fun _ _ _ _ h => h, fun _ _ _ _ h => h, fun _ _ _ _ h => h, fun _ _ _ _ h => h, fun _ _ _ _ h => h, fun _ _ _ _ h => h, trivial⟩
  case g0 => exact ⟨rfl, rfl, rfl, Nat.le_refl _, fun _ _ => rfl⟩
  case os =>
    refine ⟨?_, ?_, ?_, ?_, ?_, ?_, ?_, ?_, ?_, ?_, ?_, ?_, trivial⟩
    · exact fun ρ X9 fl hg hn hl hp ho hc hf hr => .inl ⟨rfl, Runs.val _ (op_move (show ρ (.tmp 0) = .pointer (some ⟨A, 0, none⟩) from ho 0 rfl)) ⟨hg, trivial, rfl⟩⟩
    · exact fun ρ X9 fl hg hn hl hp ho hc hf hr => .inl ⟨rfl, Runs.val _ (op_nil (show ρ (.tmp 8) = .pointer (some ⟨A, 0, none⟩) from hr 0 8 rfl rfl)) ⟨hg, trivial, rfl⟩⟩
    · exact fun ρ X9 fl hg hn hl hp ho hc hf hr => .inl ⟨rfl, Runs.val _ (op_f92_5 (show ρ (.tmp 9) = .pointer (some ⟨A, 0, none⟩) from hr 1 9 rfl rfl)) ⟨hg, trivial, rfl⟩⟩
    · exact fun ρ X9 fl hg hn hl hp ho hc hf hr => .inl ⟨rfl, Runs.val _ (op_load90 (show ρ (.tmp 10) = .pointer (some ⟨A, 5, none⟩) from hr 2 10 rfl rfl) (cell_on hg a5)) ⟨hg, trivial, rfl⟩⟩
    · exact fun ρ X9 fl hg hn hl hp ho hc hf hr => .inl ⟨rfl, Runs.val _ (op_load37 (show ρ (.tmp 3) = .pointer (some ⟨Y, 0, none⟩) from ho 3 rfl) (cell_on hg b0) (cell_on hg b1) (cell_on hg b2)) ⟨hg, trivial, rfl⟩⟩
    · exact fun ρ X9 fl hg hn hl hp ho hc hf hr => .inl ⟨rfl, Runs.val _ (op_lookup (show ρ (.tmp 11) = .map (some N) from hr 3 11 rfl rfl) (show ρ (.tmp 12) = tdV t from hr 4 12 rfl rfl) (HLK.out X9 hg)) ⟨hg, trivial, rfl⟩⟩
    · exact fun ρ X9 fl hg hn hl hp ho hc hf hr => .inl ⟨rfl, Runs.val _ (op_move (show ρ (.tmp 13) = .tuple #[.agg #[], .bool (decide (t ∈ s.over))] from hr 5 13 rfl rfl)) ⟨hg, trivial, rfl⟩⟩
    · exact fun ρ X9 fl hg hn hl hp ho hc hf hr => .inl ⟨rfl, Runs.val _ (op_extract0 (show ρ (.tmp 7) = .tuple #[.agg #[], .bool (decide (t ∈ s.over))] from hr 6 7 rfl rfl)) ⟨hg, trivial, rfl⟩⟩
    · exact fun ρ X9 fl hg hn hl hp ho hc hf hr => .inl ⟨rfl, Runs.val _ (op_extract1 (show ρ (.tmp 7) = .tuple #[.agg #[], .bool (decide (t ∈ s.over))] from hr 6 7 rfl rfl)) ⟨hg, trivial, rfl⟩⟩
    · refine fun ρ X9 fl hg hn hl hp ho hc hf hr => .inl ⟨rfl, ?_⟩
      exact Runs.val _ op_alloc154 ⟨hg.alloc hg.size _, trivial, _, rfl⟩
    · refine fun ρ X9 fl hg hn hl hp ho hc hf hr => .inl ⟨rfl, ?_⟩
      obtain ⟨Z, e⟩ : ∃ Z, ρ (.tmp 5) = .pointer (some ⟨Z, 0, none⟩) := hr 9 5 rfl rfl
      exact Runs.skips (op_store154 e (show ρ (.tmp 14) = .agg #[] from hr 7 14 rfl rfl)) ⟨hg, trivial, trivial⟩
    · exact fun ρ X9 fl hg hn hl hp ho hc hf hr => .inl ⟨rfl, Runs.val _ (op_assign (show ρ (.tmp 15) = .bool (decide (t ∈ s.over)) from hr 8 15 rfl rfl)) ⟨hg, trivial, rfl⟩⟩
  case en =>
    intro a X9 fl hfl hG hs hd ho hr
    obtain ⟨x, hx, hxt⟩ := act_put hs hd ho
    have x6 : x 6 = .bool (decide (t ∈ s.over)) := (hxt 6).symm.trans (hr 11 6 rfl)
    change a = putAll _ x [8, 9, 10, 11, 12, 13, 7, 14, 15, 5, 6] at hx
    simp only [putAll, Act.put, List.setIfInBounds_toArray, List.set_cons_zero, List.set_cons_succ, x6] at hx
    have HBX := Lib.hid (HB.out.trans (hG.mono HB.out.size))
    clear hG hs hd ho hr hxt x6
    subst hx
    go_wp2
    go_ret
    exact ⟨rfl, HBX.out⟩
set_option maxHeartbeats 2000000 in
set_option maxRecDepth 100000 in
theorem record_any (h : Sx w A S1 S2 s P M N G lv rv ov) {t : Td} (ht : TdOk t) : Calls Try.prog 18 #[.pointer (some ⟨A, 0, none⟩), tdV t] w fun e w' => e = .returned (.tuple #[.int .i64 ((recOf s.recs t).getD 0), .bool (recOf s.recs t).isSome]) ∧ Below w.heap.size w w' := by
  obtain ⟨W, hW⟩ : ∃ W, W = w.alloc (.cells #[.int .i64 t.1, .int .i64 t.2.1, .int .i64 t.2.2] 37) := ⟨_, rfl⟩
  have hb : Below w.heap.size w W := by rw [hW]; exact (Below.refl _ w).alloc (Nat.le_refl _) _
  obtain ⟨Y, hY⟩ : ∃ Y, w.heap.size = Y := ⟨_, rfl⟩
  have jY : W.heap[Y]? = some (.cells #[.int .i64 t.1, .int .i64 t.2.1, .int .i64 t.2.2] 37 (0, 0)) := by rw [hW, ← hY]; exact heap_alloc_new w _
  have b0 : W.cell? ⟨Y, 0, none⟩ = some (.int .i64 t.1) := cell_blk jY 0
  have b1 : W.cell? ⟨Y, 1, none⟩ = some (.int .i64 t.2.1) := cell_blk jY 1
  have b2 : W.cell? ⟨Y, 2, none⟩ = some (.int .i64 t.2.2) := cell_blk jY 2
  have HW := Lib.hid hW
  have HY := Lib.hid hY
  have HB := Lib.hid hb
  have hlk : ∀ X, Below W.heap.size W X → (Instr.lookup 89 (.map (some M)) (tdV t) true).run Try.prog X = .ok (.tuple #[.int .i64 ((recOf s.recs t).getD 0), .bool (recOf s.recs t).isSome]) X := fun X hX => by
    have := ((h.tm.on hb).on hX).look Try.underlying89 (zero3 X) ht
    rw [this]
    cases recOf s.recs t <;> rfl
  have a3 : W.cell? ⟨A, 3, none⟩ = some (.map (some M)) := cell_on hb (cell_blk h.ob 3)
  have HLK := Lib.hid hlk
  obtain ⟨rn, hrn⟩ : ∃ rn, (recOf s.recs t).getD 0 = rn := ⟨_, rfl⟩
  obtain ⟨rb, hrb⟩ : ∃ rb, (recOf s.recs t).isSome = rb := ⟨_, rfl⟩
  rw [hrn, hrb] at HLK
  rw [hrn, hrb]
  clear hW hY hb jY hlk h hrn hrb
  go_enter Try.func18, Try.ntmps18
  go_upto_region 1 with fail
  rw [← HW.out, HY.out]
  go_upto_region 3 with fail
  refine wp_region_fb (fun _ X9 => Below W.heap.size W X9) (fun _ _ => True) [
    fun v9 _ => v9 = .pointer (some ⟨A, 0, none⟩),
    fun v9 _ => v9 = .pointer (some ⟨A, 0, none⟩),
    fun v9 _ => v9 = .pointer (some ⟨A, 3, none⟩),
    fun v9 _ => v9 = .map (some M),
    fun v9 _ => v9 = tdV t,
    fun v9 _ => v9 = .tuple #[.int .i64 rn, .bool rb],
    fun v9 _ => v9 = .tuple #[.int .i64 rn, .bool rb],
    fun v9 _ => v9 = .int .i64 rn,
    fun v9 _ => v9 = .bool rb,
    fun v9 _ => v9 = .int .i64 rn,
    fun v9 _ => v9 = .bool rb]
    (by kernel_rfl) (by kernel_rfl) (by kernel_rfl) ?st ?g0 ?os ?en
  case st => exact ⟨fun _ _ _ _ h => h, fun _ _ _ _ h => h, fun _ _ _ _ h => h, fun _ _ _ _ h => h, fun _ _ _ _ h => h, fun _ _ _ _ h => h, fun _ _ _ _ h => h, fun _ _ _ _ h => h, fun _ _ _ _ h => h, fun _ _ _ _ h => h, fun _ _ _ _ h => h, trivial⟩
  case g0 => exact ⟨rfl, rfl, rfl, Nat.le_refl _, fun _ _ => rfl⟩
  case os =>
    refine ⟨?_, ?_, ?_, ?_, ?_, ?_, ?_, ?_, ?_, ?_, ?_, trivial⟩
    · exact fun ρ X9 fl hg hn hl hp ho hc hf hr => .inl ⟨rfl, Runs.val _ (op_move (show ρ (.tmp 0) = .pointer (some ⟨A, 0, none⟩) from ho 0 rfl)) ⟨hg, trivial, rfl⟩⟩
    · exact fun ρ X9 fl hg hn hl hp ho hc hf hr => .inl ⟨rfl, Runs.val _ (op_nil (show ρ (.tmp 11) = .pointer (some ⟨A, 0, none⟩) from hr 0 11 rfl rfl)) ⟨hg, trivial, rfl⟩⟩
    · exact fun ρ X9 fl hg hn hl hp ho hc hf hr => .inl ⟨rfl, Runs.val _ (op_f92_3 (show ρ (.tmp 12) = .pointer (some ⟨A, 0, none⟩) from hr 1 12 rfl rfl)) ⟨hg, trivial, rfl⟩⟩
    · exact fun ρ X9 fl hg hn hl hp ho hc hf hr => .inl ⟨rfl, Runs.val _ (op_load89 (show ρ (.tmp 13) = .pointer (some ⟨A, 3, none⟩) from hr 2 13 rfl rfl) (cell_on hg a3)) ⟨hg, trivial, rfl⟩⟩
    · exact fun ρ X9 fl hg hn hl hp ho hc hf hr => .inl ⟨rfl, Runs.val _ (op_load37 (show ρ (.tmp 3) = .pointer (some ⟨Y, 0, none⟩) from ho 3 rfl) (cell_on hg b0) (cell_on hg b1) (cell_on hg b2)) ⟨hg, trivial, rfl⟩⟩
    · exact fun ρ X9 fl hg hn hl hp ho hc hf hr => .inl ⟨rfl, Runs.val _ (op_lookup (show ρ (.tmp 14) = .map (some M) from hr 3 14 rfl rfl) (show ρ (.tmp 15) = tdV t from hr 4 15 rfl rfl) (HLK.out X9 hg)) ⟨hg, trivial, rfl⟩⟩
    · exact fun ρ X9 fl hg hn hl hp ho hc hf hr => .inl ⟨rfl, Runs.val _ (op_move (show ρ (.tmp 16) = .tuple #[.int .i64 rn, .bool rb] from hr 5 16 rfl rfl)) ⟨hg, trivial, rfl⟩⟩
    · exact fun ρ X9 fl hg hn hl hp ho hc hf hr => .inl ⟨rfl, Runs.val _ (op_extract0 (show ρ (.tmp 10) = .tuple #[.int .i64 rn, .bool rb] from hr 6 10 rfl rfl)) ⟨hg, trivial, rfl⟩⟩
    · exact fun ρ X9 fl hg hn hl hp ho hc hf hr => .inl ⟨rfl, Runs.val _ (op_extract1 (show ρ (.tmp 10) = .tuple #[.int .i64 rn, .bool rb] from hr 6 10 rfl rfl)) ⟨hg, trivial, rfl⟩⟩
    · exact fun ρ X9 fl hg hn hl hp ho hc hf hr => .inl ⟨rfl, Runs.val _ (op_assign (show ρ (.tmp 17) = .int .i64 rn from hr 7 17 rfl rfl)) ⟨hg, trivial, rfl⟩⟩
    · exact fun ρ X9 fl hg hn hl hp ho hc hf hr => .inl ⟨rfl, Runs.val _ (op_assign (show ρ (.tmp 18) = .bool rb from hr 8 18 rfl rfl)) ⟨hg, trivial, rfl⟩⟩
  case en =>
    intro a X9 fl hfl hG hs hd ho hr
    obtain ⟨x, hx, hxt⟩ := act_put hs hd ho
    have x6 : x 6 = .int .i64 rn := (hxt 6).symm.trans (hr 9 6 rfl)
    have x7 : x 7 = .bool rb := (hxt 7).symm.trans (hr 10 7 rfl)
    change a = putAll _ x [11, 12, 13, 14, 15, 16, 10, 17, 18, 6, 7] at hx
    simp only [putAll, Act.put, List.setIfInBounds_toArray, List.set_cons_zero, List.set_cons_succ, x6, x7] at hx
    have HBX := Lib.hid (HB.out.trans (hG.mono HB.out.size))
    clear hG hs hd ho hr hxt x6 x7
    subst hx
    go_wp2
    refine bodyPost_ret (v := .tuple #[.int .i64 rn, .bool rb]) (by simp [results, Try.results18, go_sem]) rfl ?_
    exact ⟨rfl, HBX.out⟩
theorem record_nil (w : World) (t : Td) : Calls Try.prog 18 #[.pointer none, tdV t] w fun e w' => e = .returned (.tuple #[.int .i64 0, .bool false]) ∧ Below w.heap.size w w' := by
  have HB : Hid (∀ o, Below w.heap.size w (w.alloc o)) := fun o => (Below.refl _ w).alloc (Nat.le_refl _) o
  go_enter Try.func18, Try.ntmps18
  go_wp2
  refine bodyPost_ret (v := .tuple #[.int .i64 0, .bool false]) (by simp [results, Try.results18, go_sem]) rfl ?_
  exact ⟨rfl, HB.out _⟩
set_option maxHeartbeats 1000000 in
set_option maxRecDepth 100000 in
theorem ofL_f {l : Lk} {sa wa : Option Addr} {sc wc Z : Nat} {t : Td} (c0 : w.cell? ⟨Z, 0, none⟩ = some (.int .i64 t.1)) (c1 : w.cell? ⟨Z, 1, none⟩ = some (.int .i64 t.2.1)) (c2 : w.cell? ⟨Z, 2, none⟩ = some (.int .i64 t.2.2)) : Calls Try.prog 83 #[lkV l sa sc wa wc, .pointer (some ⟨Z, 0, none⟩)] w fun e w' => e = .returned (.bool (decide (l.txn = t))) ∧ Below w.heap.size w w' := by
  obtain ⟨W, hW⟩ : ∃ W, W = w.alloc (lkO l sa sc wa wc) := ⟨_, rfl⟩
  have hb : Below w.heap.size w W := by rw [hW]; exact (Below.refl _ w).alloc (Nat.le_refl _) _
  obtain ⟨Y, hY⟩ : ∃ Y, w.heap.size = Y := ⟨_, rfl⟩
  have jY : W.heap[Y]? = some (.cells #[.int .i64 l.txn.1, .int .i64 l.txn.2.1, .int .i64 l.txn.2.2, .int .i64 l.home, .int .i64 l.til, .slice sa l.spans.length sc, .slice wa l.writes.length wc] 68 (0, 0)) := by rw [hW, ← hY]; exact heap_alloc_new w _
  have b0 : W.cell? ⟨Y, 0, none⟩ = some (.int .i64 l.txn.1) := cell_blk jY 0
  have b1 : W.cell? ⟨Y, 1, none⟩ = some (.int .i64 l.txn.2.1) := cell_blk jY 1
  have b2 : W.cell? ⟨Y, 2, none⟩ = some (.int .i64 l.txn.2.2) := cell_blk jY 2
  have d0 := cell_on hb c0
  have d1 := cell_on hb c1
  have d2 := cell_on hb c2
  have HW := Lib.hid hW
  have HY := Lib.hid hY
  have HB := Lib.hid hb
  have HQ : Hid (decide (l.txn = t) = (decide (l.txn.1 = t.1) && (decide (l.txn.2.1 = t.2.1) && decide (l.txn.2.2 = t.2.2)))) := by
    show _ = _
    obtain ⟨x, y, z⟩ := t
    rw [show l.txn = (l.txn.1, l.txn.2.1, l.txn.2.2) from rfl]
    simp only [Prod.mk.injEq, Bool.decide_and]
  rw [HQ.out]
  obtain ⟨x0, hx0⟩ : ∃ x0, l.txn.1 = x0 := ⟨_, rfl⟩
  obtain ⟨x1, hx1⟩ : ∃ x1, l.txn.2.1 = x1 := ⟨_, rfl⟩
  obtain ⟨x2, hx2⟩ : ∃ x2, l.txn.2.2 = x2 := ⟨_, rfl⟩
  obtain ⟨y0, hy0⟩ : ∃ y0, t.1 = y0 := ⟨_, rfl⟩
  obtain ⟨y1, hy1⟩ : ∃ y1, t.2.1 = y1 := ⟨_, rfl⟩
  obtain ⟨y2, hy2⟩ : ∃ y2, t.2.2 = y2 := ⟨_, rfl⟩
  rw [hx0] at b0 ⊢
  rw [hx1] at b1 ⊢
  rw [hx2] at b2 ⊢
  rw [hy0] at d0 ⊢
  rw [hy1] at d1 ⊢
  rw [hy2] at d2 ⊢
  clear hW hY hb jY c0 c1 c2 HQ hx0 hx1 hx2 hy0 hy1 hy2
  go_enter Try.func83, Try.ntmps83
  go_upto_region 1 with fail
  rw [← HW.out, HY.out]
  by_cases q0 : x0 = y0
  · by_cases q1 : x1 = y1
    · by_cases q2 : x2 = y2
      · go_wp2
        go_ret
        exact ⟨by simp [q0, q1, q2], HB.out⟩
      · go_wp2
        go_ret
        exact ⟨by simp [q0, q1, q2], HB.out⟩
    · go_wp2
      go_ret
      exact ⟨by simp [q0, q1], HB.out⟩
  · go_wp2
    go_ret
    exact ⟨by simp [q0], HB.out⟩
set_option maxHeartbeats 2000000 in
set_option maxRecDepth 100000 in
theorem lockOf_any (h : Sx w A S1 S2 s P M N G lv rv ov) {t : Td}  : Calls Try.prog 51 #[.pointer (some ⟨A, 0, none⟩), tdV t] w fun e w' => e = .returned (.int .i64 (lockI s.locks t)) ∧ Below w.heap.size w w' := by
  obtain ⟨W, hW⟩ : ∃ W, W = w.alloc (.cells #[.int .i64 t.1, .int .i64 t.2.1, .int .i64 t.2.2] 37) := ⟨_, rfl⟩
  have hb : Below w.heap.size w W := by rw [hW]; exact (Below.refl _ w).alloc (Nat.le_refl _) _
  obtain ⟨Y, hY⟩ : ∃ Y, w.heap.size = Y := ⟨_, rfl⟩
  have jY : W.heap[Y]? = some (.cells #[.int .i64 t.1, .int .i64 t.2.1, .int .i64 t.2.2] 37 (0, 0)) := by rw [hW, ← hY]; exact heap_alloc_new w _
  have b0 : W.cell? ⟨Y, 0, none⟩ = some (.int .i64 t.1) := cell_blk jY 0
  have b1 : W.cell? ⟨Y, 1, none⟩ = some (.int .i64 t.2.1) := cell_blk jY 1
  have b2 : W.cell? ⟨Y, 2, none⟩ = some (.int .i64 t.2.2) := cell_blk jY 2
  have HW := Lib.hid hW
  have HY := Lib.hid hY
  have HB := Lib.hid hb
  have hl := (h.on hb).locks
  obtain ⟨lad, lcap, e1, _⟩ := hl
  have hl := (h.on hb).locks
  have a1 : W.cell? ⟨A, 1, none⟩ = some lv := cell_on hb (cell_blk h.ob 1)
  rw [e1] at a1 hl
  have hix := ixL_of (p := fun l => decide (l.txn = t)) (c := .pointer (some ⟨Y, 0, none⟩)) hl (fun X hX i hi sa sc wa wc _ _ => ofL_f (t := t) (cell_on hX b0) (cell_on hX b1) (cell_on hX b2))
  have HI : Hid (lockI s.locks t = fidx (fun l => decide (l.txn = t)) s.locks) := rfl
  rw [HI.out]
  clear hW hY hb jY h hl e1 HI
  go_enter Try.func51, Try.ntmps51
  go_upto_region 1 with fail
  rw [← HW.out, HY.out]
  go_wp2_with fail
  refine hix.mono ?_
  rintro e w1 ⟨rfl, b1⟩
  go_wp2
  go_ret
  exact ⟨rfl, HB.out.trans (b1.mono HB.out.size)⟩
end
end Go.Proofs.Ytcoaahlakkghhaa
