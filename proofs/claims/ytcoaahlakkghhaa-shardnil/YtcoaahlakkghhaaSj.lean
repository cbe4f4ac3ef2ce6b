/- The walks of busy and of the functions that it is handed. -/
import Derived.Test.YtcoaahlakkghhaaSi
namespace Go.Proofs.Ytcoaahlakkghhaa
open Go.RowKit
section
variable {w w' : World} {A : Nat} {S1 S2 : Nat → Prop} {s : Sh} {P M N : Nat} {G : List Gl} {lv rv ov : Value}
set_option maxHeartbeats 2000000 in
set_option maxRecDepth 100000 in
theorem rdL_f {l : Lk} {sa wa : Option Addr} {sc wc Z : Nat} {p : Sn} (c0 : w.cell? ⟨Z, 0, none⟩ = some (.string p.lo)) (c1 : w.cell? ⟨Z, 1, none⟩ = some (.string p.hi)) (hl : Lr wrE 3 w l.writes (.slice wa l.writes.length wc)) : Calls Try.prog 85 #[lkV l sa sc wa wc, .pointer (some ⟨Z, 0, none⟩)] w fun e w' => e = .returned (.bool (holdsInB l p)) ∧ Below w.heap.size w w' := by
  obtain ⟨W, hW⟩ : ∃ W, W = w.alloc (lkO l sa sc wa wc) := ⟨_, rfl⟩
  have hb : Below w.heap.size w W := by rw [hW]; exact (Below.refl _ w).alloc (Nat.le_refl _) _
  obtain ⟨Y, hY⟩ : ∃ Y, w.heap.size = Y := ⟨_, rfl⟩
  have jY : W.heap[Y]? = some (.cells #[.int .i64 l.txn.1, .int .i64 l.txn.2.1, .int .i64 l.txn.2.2, .int .i64 l.home, .int .i64 l.til, .slice sa l.spans.length sc, .slice wa l.writes.length wc] 68 (0, 0)) := by rw [hW, ← hY]; exact heap_alloc_new w _
  have b0 : W.cell? ⟨Y, 0, none⟩ = some (.int .i64 l.txn.1) := cell_blk jY 0
  have b01 : W.cell? ⟨Y, 1, none⟩ = some (.int .i64 l.txn.2.1) := cell_blk jY 1
  have b02 : W.cell? ⟨Y, 2, none⟩ = some (.int .i64 l.txn.2.2) := cell_blk jY 2
  have b03 : W.cell? ⟨Y, 3, none⟩ = some (.int .i64 l.home) := cell_blk jY 3
  have b04 : W.cell? ⟨Y, 4, none⟩ = some (.int .i64 l.til) := cell_blk jY 4
  have b05 : W.cell? ⟨Y, 5, none⟩ = some (.slice sa l.spans.length sc) := cell_blk jY 5
  have b06 : W.cell? ⟨Y, 6, none⟩ = some (.slice wa l.writes.length wc) := cell_blk jY 6
  have HW := Lib.hid hW
  have HY := Lib.hid hY
  have HB := Lib.hid hb
  have d0 := cell_on hb c0
  have d1 := cell_on hb c1
  have hcall := holdsIn_any (sa := sa) (sc := sc) p (hl.on wrE_held hb)
  clear hW hY hb jY c0 c1 hl
  go_enter Try.func85, Try.ntmps85
  go_upto_region 1 with fail
  rw [← HW.out, HY.out]
  go_wp2_with fail
  refine hcall.mono ?_
  rintro e w1 ⟨rfl, b1⟩
  go_wp2
  go_ret
  exact ⟨rfl, HB.out.trans (b1.mono HB.out.size)⟩
set_option maxHeartbeats 2000000 in
set_option maxRecDepth 100000 in
theorem wrL_f {l : Lk} {sa wa : Option Addr} {sc wc Z : Nat} {k : ByteArray} (c0 : w.cell? ⟨Z, 0, none⟩ = some (.string k)) (hs : Lr snE 2 w l.spans (.slice sa l.spans.length sc)) (hl : Lr wrE 3 w l.writes (.slice wa l.writes.length wc)) : Calls Try.prog 88 #[lkV l sa sc wa wc, .pointer (some ⟨Z, 0, none⟩)] w fun e w' => e = .returned (.bool (holdsB l k || coversB l k)) ∧ Below w.heap.size w w' := by
  obtain ⟨W, hW⟩ : ∃ W, W = w.alloc (lkO l sa sc wa wc) := ⟨_, rfl⟩
  have hb : Below w.heap.size w W := by rw [hW]; exact (Below.refl _ w).alloc (Nat.le_refl _) _
  obtain ⟨Y, hY⟩ : ∃ Y, w.heap.size = Y := ⟨_, rfl⟩
  have jY : W.heap[Y]? = some (.cells #[.int .i64 l.txn.1, .int .i64 l.txn.2.1, .int .i64 l.txn.2.2, .int .i64 l.home, .int .i64 l.til, .slice sa l.spans.length sc, .slice wa l.writes.length wc] 68 (0, 0)) := by rw [hW, ← hY]; exact heap_alloc_new w _
  have b0 : W.cell? ⟨Y, 0, none⟩ = some (.int .i64 l.txn.1) := cell_blk jY 0
  have b01 : W.cell? ⟨Y, 1, none⟩ = some (.int .i64 l.txn.2.1) := cell_blk jY 1
  have b02 : W.cell? ⟨Y, 2, none⟩ = some (.int .i64 l.txn.2.2) := cell_blk jY 2
  have b03 : W.cell? ⟨Y, 3, none⟩ = some (.int .i64 l.home) := cell_blk jY 3
  have b04 : W.cell? ⟨Y, 4, none⟩ = some (.int .i64 l.til) := cell_blk jY 4
  have b05 : W.cell? ⟨Y, 5, none⟩ = some (.slice sa l.spans.length sc) := cell_blk jY 5
  have b06 : W.cell? ⟨Y, 6, none⟩ = some (.slice wa l.writes.length wc) := cell_blk jY 6
  have HW := Lib.hid hW
  have HY := Lib.hid hY
  have HB := Lib.hid hb
  have d0 := cell_on hb c0
  have hcall := holds_any (sa := sa) (sc := sc) k (hl.on wrE_held hb)
  have hcall2 := fun X (hX : Below W.heap.size W X) => covers_any (wa := wa) (wc := wc) k ((hs.on snE_held hb).on snE_held hX)
  have HJY := Lib.hid jY
  have HC2 := Lib.hid hcall2
  have HD0 := Lib.hid d0
  obtain ⟨q1, hq1⟩ : ∃ q1, holdsB l k = q1 := ⟨_, rfl⟩
  rw [hq1] at hcall ⊢
  obtain ⟨q2, hq2⟩ : ∃ q2, coversB l k = q2 := ⟨_, rfl⟩
  rw [hq2] at HC2 ⊢
  clear hW hY hb jY c0 hl hs hq1 hq2 hcall2
  go_enter Try.func88, Try.ntmps88
  go_upto_region 1 with fail
  rw [← HW.out, HY.out]
  go_wp2_with fail
  refine hcall.mono ?_
  rintro e w1 ⟨rfl, b1⟩
  have HB1 := Lib.hid (HB.out.trans (b1.mono HB.out.size))
  cases q1 with
  | true =>
    clear b1 hcall
    go_wp2
    go_ret
    exact ⟨rfl, HB1.out⟩
  | false =>
    have hc2 := HC2.out w1 b1
    have jY1 := (b1.block Y (blk_lt HJY.out)).trans HJY.out
    have b0 : w1.cell? ⟨Y, 0, none⟩ = some (.int .i64 l.txn.1) := cell_blk jY1 0
    have b01 : w1.cell? ⟨Y, 1, none⟩ = some (.int .i64 l.txn.2.1) := cell_blk jY1 1
    have b02 : w1.cell? ⟨Y, 2, none⟩ = some (.int .i64 l.txn.2.2) := cell_blk jY1 2
    have b03 : w1.cell? ⟨Y, 3, none⟩ = some (.int .i64 l.home) := cell_blk jY1 3
    have b04 : w1.cell? ⟨Y, 4, none⟩ = some (.int .i64 l.til) := cell_blk jY1 4
    have b05 : w1.cell? ⟨Y, 5, none⟩ = some (.slice sa l.spans.length sc) := cell_blk jY1 5
    have b06 : w1.cell? ⟨Y, 6, none⟩ = some (.slice wa l.writes.length wc) := cell_blk jY1 6
    have d0 := cell_on b1 HD0.out
    clear b1 hcall jY1
    go_wp2_with fail
    refine hc2.mono ?_
    rintro e w2 ⟨rfl, b2⟩
    go_wp2
    go_ret
    exact ⟨rfl, HB1.out.trans (b2.mono HB1.out.size)⟩
set_option maxHeartbeats 4000000 in
set_option maxRecDepth 100000 in
theorem busy_rd (h : Sx w A S1 S2 s P M N G lv rv ov) {p : Lk → Bool} {c : Value} (hf : ∀ X, Below w.heap.size w X → ∀ i (h : i < s.locks.length) sa sc wa wc, Lr snE 2 X s.locks[i].spans (.slice sa s.locks[i].spans.length sc) → Lr wrE 3 X s.locks[i].writes (.slice wa s.locks[i].writes.length wc) → Calls Try.prog 85 #[lkV s.locks[i] sa sc wa wc, c] X fun e w' => e = .returned (.bool (p s.locks[i])) ∧ Below X.heap.size X w') :
    Calls Try.prog 84 #[.pointer (some ⟨A, 0, none⟩), .func (.func 85) #[] #[c]] w fun e w' => e = .returned (rzV (busyR p s.locks)) ∧ Below w.heap.size w w' := by
  obtain ⟨W, hW⟩ : ∃ W, W = w.alloc (.cells #[.int .i64 0, .int .i64 0, .int .i64 0, .int .i64 0, .int .i64 0, .int .i64 0, .int .i64 0, .int .i64 0, .bool false] 52) := ⟨_, rfl⟩
  have hb : Below w.heap.size w W := by rw [hW]; exact (Below.refl _ w).alloc (Nat.le_refl _) _
  obtain ⟨Z, hZ⟩ : ∃ Z, w.heap.size = Z := ⟨_, rfl⟩
  have jZ : W.heap[Z]? = some (.cells #[.int .i64 0, .int .i64 0, .int .i64 0, .int .i64 0, .int .i64 0, .int .i64 0, .int .i64 0, .int .i64 0, .bool false] 52 (0, 0)) := by rw [hW, ← hZ]; exact heap_alloc_new w _
  have hlr := (h.on hb).locks
  have hix := ixL_rd hlr (fun X hX i hi sa sc wa wc h1 h2 => hf X (hb.trans (hX.mono hb.size)) i hi sa sc wa wc h1 h2)
  have a1 : W.cell? ⟨A, 1, none⟩ = some lv := cell_on hb (cell_blk h.ob 1)
  have HLR := Lib.hid hlr
  obtain ⟨lad, lcap, e1, _, _, _, hcs⟩ := hlr
  have HCS := Lib.hid hcs
  rw [e1] at a1 hix HLR
  obtain ⟨n, hn⟩ : ∃ n, fidx p s.locks = n := ⟨_, rfl⟩
  rw [hn] at hix
  have hAZ : A ≠ Z := by have := h.lt A h.cA; omega
  have HN := Lib.hid hn
  have HW := Lib.hid hW
  have HZ := Lib.hid hZ
  have HB := Lib.hid hb
  have HJZ := Lib.hid jZ
  have HA1 := Lib.hid a1
  clear hW hZ hb jZ h e1 hcs hn hf
  go_enter Try.func84, Try.ntmps84
  go_upto_region 1 with fail
  rw [← HW.out, HZ.out]
  go_wp2_with fail
  refine hix.mono ?_
  rintro e w1 ⟨rfl, b1⟩
  have jZ1 := (b1.block Z (blk_lt HJZ.out)).trans HJZ.out
  have HB1 := Lib.hid (HB.out.trans (b1.mono HB.out.size))
  by_cases hneg : n < 0
  · obtain ⟨X, hst, jX, fX⟩ := put_rz jZ1 rfl rz0
    have HR : Hid (busyR p s.locks = rz0) := busy_no (by rw [HN.out]; exact hneg)
    have HBX : Hid (Below w.heap.size w X) := HB1.out.trans (fX.toBelow (fun k hk e => by have e' : k = Z := e; have := HZ.out; omega) HB1.out.size)
    have HJX := Lib.hid jX
    clear jX fX b1 hix a1 jZ1
    go_wp2_with (refine wpl_store _ _ rfl (by simp [Act.eval]) (by simp [Act.eval, rz0]) hst ?_)
    refine bodyPost_ret (ret_rz HJX.out Try.results84 rfl) rfl ?_
    exact ⟨by rw [HR.out], HBX.out⟩
  · obtain ⟨i, hi, hni, hbr⟩ := busy_yes (p := p) (L := s.locks) (by rw [HN.out]; exact hneg)
    have hni' : n = (i : Int) := by rw [← HN.out]; exact hni
    subst hni'
    obtain ⟨b, o, cs, rfl, _, ⟨sa, sc, wa, wc, rfl, _, _⟩, _, hcell⟩ := HCS.out i hi
    have c0 := cell_on b1 (hcell 0 _ rfl)
    have c1 := cell_on b1 (hcell 1 _ rfl)
    have c2 := cell_on b1 (hcell 2 _ rfl)
    have c4 := cell_on b1 (hcell 4 _ rfl)
    simp only [Nat.add_zero] at c0
    have a1 := cell_on b1 HA1.out
    obtain ⟨l, hl⟩ : ∃ l, s.locks[i] = l := ⟨_, rfl⟩
    rw [hl] at c0 c1 c2 c4 hbr
    have HR := Lib.hid hbr
    have HJ1 := Lib.hid jZ1
    clear hcell b1 hix jZ1 hbr hl hni HCS HLR
    go_upto_region 4 with fail
    refine wp_region_last (fun X9 => Below w1.heap.size w1 X9) (fun _ _ => True) [
      fun v9 _ => v9 = .pointer (some ⟨A, 0, none⟩),
      fun v9 _ => v9 = .pointer (some ⟨A, 0, none⟩),
      fun v9 _ => v9 = .pointer (some ⟨A, 1, none⟩),
      fun v9 _ => v9 = (.slice (some ⟨b, o, none⟩) s.locks.length lcap),
      fun v9 _ => v9 = .int .i64 (i : Int),
      fun v9 _ => v9 = .pointer (some ⟨b, o + i * 7, none⟩),
      fun v9 _ => v9 = .pointer (some ⟨b, o + i * 7, none⟩),
      fun v9 _ => v9 = tdV l.txn,
      fun v9 _ => v9 = .pointer (some ⟨A, 0, none⟩),
      fun v9 _ => v9 = .pointer (some ⟨A, 0, none⟩),
      fun v9 _ => v9 = .pointer (some ⟨A, 1, none⟩),
      fun v9 _ => v9 = (.slice (some ⟨b, o, none⟩) s.locks.length lcap),
      fun v9 _ => v9 = .int .i64 (i : Int),
      fun v9 _ => v9 = .pointer (some ⟨b, o + i * 7, none⟩),
      fun v9 _ => v9 = .pointer (some ⟨b, o + i * 7 + 4, none⟩),
      fun v9 _ => v9 = .int .i64 l.til,
      fun v9 _ => v9 = rzV ⟨131, 0, l.txn, l.til, false⟩]
      (fun _ X9 => X9.heap[Z]? = some (.cells (rzA ⟨131, 0, l.txn, l.til, false⟩) 52 (0, 0)) ∧ Below w.heap.size w X9) rfl (by kernel_rfl) (by kernel_rfl) (by kernel_rfl) (by kernel_rfl) ?st ?g0 ?os ?la ?en
    case st => exact ⟨fun _ _ _ _ h => h, fun _ _ _ _ h => h, fun _ _ _ _ h => h, fun _ _ _ _ h => h, fun _ _ _ _ h => h, fun _ _ _ _ h => h, fun _ _ _ _ h => h, fun _ _ _ _ h => h, fun _ _ _ _ h => h, fun _ _ _ _ h => h, fun _ _ _ _ h => h, fun _ _ _ _ h => h, fun _ _ _ _ h => h, fun _ _ _ _ h => h, fun _ _ _ _ h => h, fun _ _ _ _ h => h, fun _ _ _ _ h => h, trivial⟩
    case g0 => exact ⟨rfl, rfl, rfl, Nat.le_refl _, fun _ _ => rfl⟩
    case os =>
      refine ⟨?_, ?_, ?_, ?_, ?_, ?_, ?_, ?_, ?_, ?_, ?_, ?_, ?_, ?_, ?_, ?_, ?_, trivial⟩
      · exact ⟨rfl, fun ρ X9 hg ho hc hf hr => Runs.val _ (op_move (show ρ (.tmp 0) = .pointer (some ⟨A, 0, none⟩) from ho 0 rfl)) ⟨hg, trivial, rfl⟩⟩
      · exact ⟨rfl, fun ρ X9 hg ho hc hf hr => Runs.val _ (op_nil (show ρ (.tmp 15) = .pointer (some ⟨A, 0, none⟩) from hr 0 15 rfl rfl)) ⟨hg, trivial, rfl⟩⟩
      · exact ⟨rfl, fun ρ X9 hg ho hc hf hr => Runs.val _ (op_f92_1 (show ρ (.tmp 16) = .pointer (some ⟨A, 0, none⟩) from hr 1 16 rfl rfl)) ⟨hg, trivial, rfl⟩⟩
      · exact ⟨rfl, fun ρ X9 hg ho hc hf hr => Runs.val _ (op_load31 (show ρ (.tmp 17) = .pointer (some ⟨A, 1, none⟩) from hr 2 17 rfl rfl) (cell_on hg a1)) ⟨hg, trivial, rfl⟩⟩
      · exact ⟨rfl, fun ρ X9 hg ho hc hf hr => Runs.val _ (op_move (show ρ (.tmp 5) = .int .i64 (i : Int) from ho 5 rfl)) ⟨hg, trivial, rfl⟩⟩
      · exact ⟨rfl, fun ρ X9 hg ho hc hf hr => Runs.val _ (op_i31o (show ρ (.tmp 18) = (.slice (some ⟨b, o, none⟩) s.locks.length lcap) from hr 3 18 rfl rfl) (show ρ (.tmp 19) = .int .i64 (i : Int) from hr 4 19 rfl rfl) hi) ⟨hg, trivial, rfl⟩⟩
      · exact ⟨rfl, fun ρ X9 hg ho hc hf hr => Runs.val _ (op_f68_0 (show ρ (.tmp 20) = .pointer (some ⟨b, o + i * 7, none⟩) from hr 5 20 rfl rfl)) ⟨hg, trivial, rfl⟩⟩
      · exact ⟨rfl, fun ρ X9 hg ho hc hf hr => Runs.val _ (op_load37 (show ρ (.tmp 21) = .pointer (some ⟨b, o + i * 7, none⟩) from hr 6 21 rfl rfl) (cell_on hg c0) (cell_on hg c1) (cell_on hg c2)) ⟨hg, trivial, rfl⟩⟩
      · exact ⟨rfl, fun ρ X9 hg ho hc hf hr => Runs.val _ (op_move (show ρ (.tmp 0) = .pointer (some ⟨A, 0, none⟩) from ho 0 rfl)) ⟨hg, trivial, rfl⟩⟩
      · exact ⟨rfl, fun ρ X9 hg ho hc hf hr => Runs.val _ (op_nil (show ρ (.tmp 23) = .pointer (some ⟨A, 0, none⟩) from hr 8 23 rfl rfl)) ⟨hg, trivial, rfl⟩⟩
      · exact ⟨rfl, fun ρ X9 hg ho hc hf hr => Runs.val _ (op_f92_1 (show ρ (.tmp 24) = .pointer (some ⟨A, 0, none⟩) from hr 9 24 rfl rfl)) ⟨hg, trivial, rfl⟩⟩
      · exact ⟨rfl, fun ρ X9 hg ho hc hf hr => Runs.val _ (op_load31 (show ρ (.tmp 25) = .pointer (some ⟨A, 1, none⟩) from hr 10 25 rfl rfl) (cell_on hg a1)) ⟨hg, trivial, rfl⟩⟩
      · exact ⟨rfl, fun ρ X9 hg ho hc hf hr => Runs.val _ (op_move (show ρ (.tmp 5) = .int .i64 (i : Int) from ho 5 rfl)) ⟨hg, trivial, rfl⟩⟩
      · exact ⟨rfl, fun ρ X9 hg ho hc hf hr => Runs.val _ (op_i31o (show ρ (.tmp 26) = (.slice (some ⟨b, o, none⟩) s.locks.length lcap) from hr 11 26 rfl rfl) (show ρ (.tmp 27) = .int .i64 (i : Int) from hr 12 27 rfl rfl) hi) ⟨hg, trivial, rfl⟩⟩
      · exact ⟨rfl, fun ρ X9 hg ho hc hf hr => Runs.val _ (op_f68_2 (show ρ (.tmp 28) = .pointer (some ⟨b, o + i * 7, none⟩) from hr 13 28 rfl rfl)) ⟨hg, trivial, rfl⟩⟩
      · exact ⟨rfl, fun ρ X9 hg ho hc hf hr => Runs.val _ (op_load3 (show ρ (.tmp 29) = .pointer (some ⟨b, o + i * 7 + 4, none⟩) from hr 14 29 rfl rfl) (cell_on hg c4)) ⟨hg, trivial, rfl⟩⟩
      · exact ⟨rfl, fun ρ X9 hg ho hc hf hr => Runs.val _ (op_b52_busy (show ρ (.tmp 22) = tdV l.txn from hr 7 22 rfl rfl) (show ρ (.tmp 30) = .int .i64 l.til from hr 15 30 rfl rfl) hc) ⟨hg, trivial, rfl⟩⟩
    case la =>
      refine ⟨rfl, fun ρ X9 hg ho hc hf hr => ?_⟩
      have j9 := (hg.block Z (blk_lt HJ1.out)).trans HJ1.out
      obtain ⟨X, hst, jX, fX⟩ := put_rz j9 rfl ⟨131, 0, l.txn, l.til, false⟩
      exact Runs.skips (op_storeAt (show ρ (.tmp 4) = .pointer (some ⟨Z, 0, none⟩) from ho 4 rfl) (show ρ (.tmp 31) = rzV ⟨131, 0, l.txn, l.til, false⟩ from hr 16 31 (by decide) rfl) hst) ⟨jX, (HB1.out.trans (hg.mono HB1.out.size)).trans (fX.toBelow (fun k hk e => by have e' : k = Z := e; have := HZ.out; omega) (Nat.le_trans HB1.out.size hg.size))⟩
    case en =>
      intro a X9 Xb v9 hF hs hd ho hv9 hr
      obtain ⟨x, hx, hxt⟩ := act_put hs hd ho
      change a = putAll _ x [15, 16, 17, 18, 19, 20, 21, 22, 23, 24, 25, 26, 27, 28, 29, 30, 31] at hx
      simp only [putAll, Act.put, List.setIfInBounds_toArray, List.set_cons_zero, List.set_cons_succ] at hx
      have HF := Lib.hid hF
      clear hF hs hd ho hr hxt hv9
      subst hx
      go_wp2
      refine bodyPost_ret (ret_rz HF.out.1 Try.results84 rfl) rfl ?_
      exact ⟨by rw [HR.out], HF.out.2⟩
set_option maxHeartbeats 4000000 in
set_option maxRecDepth 100000 in
theorem busy_wr (h : Sx w A S1 S2 s P M N G lv rv ov) {p : Lk → Bool} {c : Value} (hf : ∀ X, Below w.heap.size w X → ∀ i (h : i < s.locks.length) sa sc wa wc, Lr snE 2 X s.locks[i].spans (.slice sa s.locks[i].spans.length sc) → Lr wrE 3 X s.locks[i].writes (.slice wa s.locks[i].writes.length wc) → Calls Try.prog 88 #[lkV s.locks[i] sa sc wa wc, c] X fun e w' => e = .returned (.bool (p s.locks[i])) ∧ Below X.heap.size X w') :
    Calls Try.prog 84 #[.pointer (some ⟨A, 0, none⟩), .func (.func 88) #[] #[c]] w fun e w' => e = .returned (rzV (busyR p s.locks)) ∧ Below w.heap.size w w' := by
  obtain ⟨W, hW⟩ : ∃ W, W = w.alloc (.cells #[.int .i64 0, .int .i64 0, .int .i64 0, .int .i64 0, .int .i64 0, .int .i64 0, .int .i64 0, .int .i64 0, .bool false] 52) := ⟨_, rfl⟩
  have hb : Below w.heap.size w W := by rw [hW]; exact (Below.refl _ w).alloc (Nat.le_refl _) _
  obtain ⟨Z, hZ⟩ : ∃ Z, w.heap.size = Z := ⟨_, rfl⟩
  have jZ : W.heap[Z]? = some (.cells #[.int .i64 0, .int .i64 0, .int .i64 0, .int .i64 0, .int .i64 0, .int .i64 0, .int .i64 0, .int .i64 0, .bool false] 52 (0, 0)) := by rw [hW, ← hZ]; exact heap_alloc_new w _
  have hlr := (h.on hb).locks
  have hix := ixL_wr hlr (fun X hX i hi sa sc wa wc h1 h2 => hf X (hb.trans (hX.mono hb.size)) i hi sa sc wa wc h1 h2)
  have a1 : W.cell? ⟨A, 1, none⟩ = some lv := cell_on hb (cell_blk h.ob 1)
  have HLR := Lib.hid hlr
  obtain ⟨lad, lcap, e1, _, _, _, hcs⟩ := hlr
  have HCS := Lib.hid hcs
  rw [e1] at a1 hix HLR
  obtain ⟨n, hn⟩ : ∃ n, fidx p s.locks = n := ⟨_, rfl⟩
  rw [hn] at hix
  have hAZ : A ≠ Z := by have := h.lt A h.cA; omega
  have HN := Lib.hid hn
  have HW := Lib.hid hW
  have HZ := Lib.hid hZ
  have HB := Lib.hid hb
  have HJZ := Lib.hid jZ
  have HA1 := Lib.hid a1
  clear hW hZ hb jZ h e1 hcs hn hf
  go_enter Try.func84, Try.ntmps84
  go_upto_region 1 with fail
  rw [← HW.out, HZ.out]
  go_wp2_with fail
  refine hix.mono ?_
  rintro e w1 ⟨rfl, b1⟩
  have jZ1 := (b1.block Z (blk_lt HJZ.out)).trans HJZ.out
  have HB1 := Lib.hid (HB.out.trans (b1.mono HB.out.size))
  by_cases hneg : n < 0
  · obtain ⟨X, hst, jX, fX⟩ := put_rz jZ1 rfl rz0
    have HR : Hid (busyR p s.locks = rz0) := busy_no (by rw [HN.out]; exact hneg)
    have HBX : Hid (Below w.heap.size w X) := HB1.out.trans (fX.toBelow (fun k hk e => by have e' : k = Z := e; have := HZ.out; omega) HB1.out.size)
    have HJX := Lib.hid jX
    clear jX fX b1 hix a1 jZ1
    go_wp2_with (refine wpl_store _ _ rfl (by simp [Act.eval]) (by simp [Act.eval, rz0]) hst ?_)
    refine bodyPost_ret (ret_rz HJX.out Try.results84 rfl) rfl ?_
    exact ⟨by rw [HR.out], HBX.out⟩
  · obtain ⟨i, hi, hni, hbr⟩ := busy_yes (p := p) (L := s.locks) (by rw [HN.out]; exact hneg)
    have hni' : n = (i : Int) := by rw [← HN.out]; exact hni
    subst hni'
    obtain ⟨b, o, cs, rfl, _, ⟨sa, sc, wa, wc, rfl, _, _⟩, _, hcell⟩ := HCS.out i hi
    have c0 := cell_on b1 (hcell 0 _ rfl)
    have c1 := cell_on b1 (hcell 1 _ rfl)
    have c2 := cell_on b1 (hcell 2 _ rfl)
    have c4 := cell_on b1 (hcell 4 _ rfl)
    simp only [Nat.add_zero] at c0
    have a1 := cell_on b1 HA1.out
    obtain ⟨l, hl⟩ : ∃ l, s.locks[i] = l := ⟨_, rfl⟩
    rw [hl] at c0 c1 c2 c4 hbr
    have HR := Lib.hid hbr
    have HJ1 := Lib.hid jZ1
    clear hcell b1 hix jZ1 hbr hl hni HCS HLR
    go_upto_region 4 with fail
    refine wp_region_last (fun X9 => Below w1.heap.size w1 X9) (fun _ _ => True) [
      fun v9 _ => v9 = .pointer (some ⟨A, 0, none⟩),
      fun v9 _ => v9 = .pointer (some ⟨A, 0, none⟩),
      fun v9 _ => v9 = .pointer (some ⟨A, 1, none⟩),
      fun v9 _ => v9 = (.slice (some ⟨b, o, none⟩) s.locks.length lcap),
      fun v9 _ => v9 = .int .i64 (i : Int),
      fun v9 _ => v9 = .pointer (some ⟨b, o + i * 7, none⟩),
      fun v9 _ => v9 = .pointer (some ⟨b, o + i * 7, none⟩),
      fun v9 _ => v9 = tdV l.txn,
      fun v9 _ => v9 = .pointer (some ⟨A, 0, none⟩),
      fun v9 _ => v9 = .pointer (some ⟨A, 0, none⟩),
      fun v9 _ => v9 = .pointer (some ⟨A, 1, none⟩),
      fun v9 _ => v9 = (.slice (some ⟨b, o, none⟩) s.locks.length lcap),
      fun v9 _ => v9 = .int .i64 (i : Int),
      fun v9 _ => v9 = .pointer (some ⟨b, o + i * 7, none⟩),
      fun v9 _ => v9 = .pointer (some ⟨b, o + i * 7 + 4, none⟩),
      fun v9 _ => v9 = .int .i64 l.til,
      fun v9 _ => v9 = rzV ⟨131, 0, l.txn, l.til, false⟩]
      (fun _ X9 => X9.heap[Z]? = some (.cells (rzA ⟨131, 0, l.txn, l.til, false⟩) 52 (0, 0)) ∧ Below w.heap.size w X9) rfl (by kernel_rfl) (by kernel_rfl) (by kernel_rfl) (by kernel_rfl) ?st ?g0 ?os ?la ?en
    case st => exact ⟨fun _ _ _ _ h => h, fun _ _ _ _ h => h, fun _ _ _ _ h => h, fun _ _ _ _ h => h, fun _ _ _ _ h => h, fun _ _ _ _ h => h, fun _ _ _ _ h => h, fun _ _ _ _ h => h, fun _ _ _ _ h => h, fun _ _ _ _ h => h, fun _ _ _ _ h => h, fun _ _ _ _ h => h, fun _ _ _ _ h => h, fun _ _ _ _ h => h, fun _ _ _ _ h => h, fun _ _ _ _ h => h, fun _ _ _ _ h => h, trivial⟩
    case g0 => exact ⟨rfl, rfl, rfl, Nat.le_refl _, fun _ _ => rfl⟩
    case os =>
      refine ⟨?_, ?_, ?_, ?_, ?_, ?_, ?_, ?_, ?_, ?_, ?_, ?_, ?_, ?_, ?_, ?_, ?_, trivial⟩
      · exact ⟨rfl, fun ρ X9 hg ho hc hf hr => Runs.val _ (op_move (show ρ (.tmp 0) = .pointer (some ⟨A, 0, none⟩) from ho 0 rfl)) ⟨hg, trivial, rfl⟩⟩
      · exact ⟨rfl, fun ρ X9 hg ho hc hf hr => Runs.val _ (op_nil (show ρ (.tmp 15) = .pointer (some ⟨A, 0, none⟩) from hr 0 15 rfl rfl)) ⟨hg, trivial, rfl⟩⟩
      · exact ⟨rfl, fun ρ X9 hg ho hc hf hr => Runs.val _ (op_f92_1 (show ρ (.tmp 16) = .pointer (some ⟨A, 0, none⟩) from hr 1 16 rfl rfl)) ⟨hg, trivial, rfl⟩⟩
      · exact ⟨rfl, fun ρ X9 hg ho hc hf hr => Runs.val _ (op_load31 (show ρ (.tmp 17) = .pointer (some ⟨A, 1, none⟩) from hr 2 17 rfl rfl) (cell_on hg a1)) ⟨hg, trivial, rfl⟩⟩
      · exact ⟨rfl, fun ρ X9 hg ho hc hf hr => Runs.val _ (op_move (show ρ (.tmp 5) = .int .i64 (i : Int) from ho 5 rfl)) ⟨hg, trivial, rfl⟩⟩
      · exact ⟨rfl, fun ρ X9 hg ho hc hf hr => Runs.val _ (op_i31o (show ρ (.tmp 18) = (.slice (some ⟨b, o, none⟩) s.locks.length lcap) from hr 3 18 rfl rfl) (show ρ (.tmp 19) = .int .i64 (i : Int) from hr 4 19 rfl rfl) hi) ⟨hg, trivial, rfl⟩⟩
      · exact ⟨rfl, fun ρ X9 hg ho hc hf hr => Runs.val _ (op_f68_0 (show ρ (.tmp 20) = .pointer (some ⟨b, o + i * 7, none⟩) from hr 5 20 rfl rfl)) ⟨hg, trivial, rfl⟩⟩
      · exact ⟨rfl, fun ρ X9 hg ho hc hf hr => Runs.val _ (op_load37 (show ρ (.tmp 21) = .pointer (some ⟨b, o + i * 7, none⟩) from hr 6 21 rfl rfl) (cell_on hg c0) (cell_on hg c1) (cell_on hg c2)) ⟨hg, trivial, rfl⟩⟩
      · exact ⟨rfl, fun ρ X9 hg ho hc hf hr => Runs.val _ (op_move (show ρ (.tmp 0) = .pointer (some ⟨A, 0, none⟩) from ho 0 rfl)) ⟨hg, trivial, rfl⟩⟩
      · exact ⟨rfl, fun ρ X9 hg ho hc hf hr => Runs.val _ (op_nil (show ρ (.tmp 23) = .pointer (some ⟨A, 0, none⟩) from hr 8 23 rfl rfl)) ⟨hg, trivial, rfl⟩⟩
      · exact ⟨rfl, fun ρ X9 hg ho hc hf hr => Runs.val _ (op_f92_1 (show ρ (.tmp 24) = .pointer (some ⟨A, 0, none⟩) from hr 9 24 rfl rfl)) ⟨hg, trivial, rfl⟩⟩
      · exact ⟨rfl, fun ρ X9 hg ho hc hf hr => Runs.val _ (op_load31 (show ρ (.tmp 25) = .pointer (some ⟨A, 1, none⟩) from hr 10 25 rfl rfl) (cell_on hg a1)) ⟨hg, trivial, rfl⟩⟩
      · exact ⟨rfl, fun ρ X9 hg ho hc hf hr => Runs.val _ (op_move (show ρ (.tmp 5) = .int .i64 (i : Int) from ho 5 rfl)) ⟨hg, trivial, rfl⟩⟩
      · exact ⟨rfl, fun ρ X9 hg ho hc hf hr => Runs.val _ (op_i31o (show ρ (.tmp 26) = (.slice (some ⟨b, o, none⟩) s.locks.length lcap) from hr 11 26 rfl rfl) (show ρ (.tmp 27) = .int .i64 (i : Int) from hr 12 27 rfl rfl) hi) ⟨hg, trivial, rfl⟩⟩
      · exact ⟨rfl, fun ρ X9 hg ho hc hf hr => Runs.val _ (op_f68_2 (show ρ (.tmp 28) = .pointer (some ⟨b, o + i * 7, none⟩) from hr 13 28 rfl rfl)) ⟨hg, trivial, rfl⟩⟩
      · exact ⟨rfl, fun ρ X9 hg ho hc hf hr => Runs.val _ (op_load3 (show ρ (.tmp 29) = .pointer (some ⟨b, o + i * 7 + 4, none⟩) from hr 14 29 rfl rfl) (cell_on hg c4)) ⟨hg, trivial, rfl⟩⟩
      · exact ⟨rfl, fun ρ X9 hg ho hc hf hr => Runs.val _ (op_b52_busy (show ρ (.tmp 22) = tdV l.txn from hr 7 22 rfl rfl) (show ρ (.tmp 30) = .int .i64 l.til from hr 15 30 rfl rfl) hc) ⟨hg, trivial, rfl⟩⟩
    case la =>
      refine ⟨rfl, fun ρ X9 hg ho hc hf hr => ?_⟩
      have j9 := (hg.block Z (blk_lt HJ1.out)).trans HJ1.out
      obtain ⟨X, hst, jX, fX⟩ := put_rz j9 rfl ⟨131, 0, l.txn, l.til, false⟩
      exact Runs.skips (op_storeAt (show ρ (.tmp 4) = .pointer (some ⟨Z, 0, none⟩) from ho 4 rfl) (show ρ (.tmp 31) = rzV ⟨131, 0, l.txn, l.til, false⟩ from hr 16 31 (by decide) rfl) hst) ⟨jX, (HB1.out.trans (hg.mono HB1.out.size)).trans (fX.toBelow (fun k hk e => by have e' : k = Z := e; have := HZ.out; omega) (Nat.le_trans HB1.out.size hg.size))⟩
    case en =>
      intro a X9 Xb v9 hF hs hd ho hv9 hr
      obtain ⟨x, hx, hxt⟩ := act_put hs hd ho
      change a = putAll _ x [15, 16, 17, 18, 19, 20, 21, 22, 23, 24, 25, 26, 27, 28, 29, 30, 31] at hx
      simp only [putAll, Act.put, List.setIfInBounds_toArray, List.set_cons_zero, List.set_cons_succ] at hx
      have HF := Lib.hid hF
      clear hF hs hd ho hr hxt hv9
      subst hx
      go_wp2
      refine bodyPost_ret (ret_rz HF.out.1 Try.results84 rfl) rfl ?_
      exact ⟨by rw [HR.out], HF.out.2⟩
end
end Go.Proofs.Ytcoaahlakkghhaa
