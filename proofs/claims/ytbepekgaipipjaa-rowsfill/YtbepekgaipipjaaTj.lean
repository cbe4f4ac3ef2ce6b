/- What the index should hold: the law's wanted. -/
import Derived.Test.YtbepekgaipipjaaTi
namespace Go.Proofs.Ytbepekgaipipjaa
open Go.RowKit Go.Maps
/-- The entry of a row. -/
def entB (j b : Nat) : ByteArray := bs (encS [nv 1, nv 4, nv b, nv j])
theorem entB_size (j b : Nat) : (entB j b).size ≤ 1048 := by unfold entB; rw [bs_size]; exact encS_size _
/-- The entries of the rows below i. -/
def WtB (R : Nat → List Ce) (i : Nat) (x : ByteArray) : Prop := ∃ j b : Nat, j < i ∧ b < 3 ∧ R j = rowC j b ∧ x = entB j b
theorem WtB.nil {R : Nat → List Ce} {i : Nat} (h : R i = []) (x : ByteArray) : WtB R (i + 1) x ↔ WtB R i x := by
  constructor
  · rintro ⟨j, b, hj, hb, e, rfl⟩
    rcases (show j < i ∨ j = i by omega) with q | rfl
    · exact ⟨j, b, q, hb, e, rfl⟩
    · rw [h] at e; cases e
  · rintro ⟨j, b, hj, hb, e, rfl⟩
    exact ⟨j, b, by omega, hb, e, rfl⟩
theorem rowC_inj {i b c : Nat} (h : rowC i b = rowC i c) : b = c := by
  simp only [rowC, List.cons.injEq, Ce.mk.injEq, nv, V.mk.injEq, and_true, true_and] at h
  omega
theorem WtB.row {R : Nat → List Ce} {i b : Nat} (hb : b < 3) (h : R i = rowC i b) (x : ByteArray) : WtB R (i + 1) x ↔ (WtB R i x ∨ x = entB i b) := by
  constructor
  · rintro ⟨j, c, hj, hc, e, rfl⟩
    rcases (show j < i ∨ j = i by omega) with q | rfl
    · exact .inl ⟨j, c, q, hc, e, rfl⟩
    · rw [h] at e
      rw [rowC_inj e]
      exact .inr rfl
  · rintro (⟨j, c, hj, hc, e, rfl⟩ | rfl)
    · exact ⟨j, c, by omega, hc, e, rfl⟩
    · exact ⟨i, b, by omega, hb, h, rfl⟩
theorem ofP_row (i b : Nat) : ofP (rowC i b) 3 = nv b := rfl
set_option maxHeartbeats 8000000 in
set_option maxRecDepth 100000 in
theorem wanted_any {X : World} {A M N m : Nat} {R : Nat → List Ce} {P : ByteArray → Prop} (h : Wd X A M N m R P) (hR : RowsK R) :
    Calls Try.prog 34 #[.pointer (some ⟨A, 0, none⟩)] X fun e w' => ∃ M2 N2 m2, e = .returned (.map (some M2)) ∧ Es w' M2 N2 m2 (WtB R 4) ∧ Below X.heap.size X w' := by
  obtain ⟨⟨s, ja, ho⟩, _⟩ := h
  obtain ⟨a0, p0, e0⟩ := own_shape (ho 0)
  have HL0 : Hid (Lr ceE 4 X (R 0) (.slice a0 (R 0).length p0)) := Lib.hid (by have q := ho 0; rw [e0] at q; exact Lr.own (f := ceL) ceL_len q)
  obtain ⟨a1, p1, e1⟩ := own_shape (ho 1)
  have HL1 : Hid (Lr ceE 4 X (R 1) (.slice a1 (R 1).length p1)) := Lib.hid (by have q := ho 1; rw [e1] at q; exact Lr.own (f := ceL) ceL_len q)
  obtain ⟨a2, p2, e2⟩ := own_shape (ho 2)
  have HL2 : Hid (Lr ceE 4 X (R 2) (.slice a2 (R 2).length p2)) := Lib.hid (by have q := ho 2; rw [e2] at q; exact Lr.own (f := ceL) ceL_len q)
  obtain ⟨a3, p3, e3⟩ := own_shape (ho 3)
  have HL3 : Hid (Lr ceE 4 X (R 3) (.slice a3 (R 3).length p3)) := Lib.hid (by have q := ho 3; rw [e3] at q; exact Lr.own (f := ceL) ceL_len q)
  rw [e0, e1, e2, e3] at ja
  obtain ⟨W, hW⟩ : ∃ W, W = X.alloc (.map #[] 0) := ⟨_, rfl⟩
  obtain ⟨M2, hM2⟩ : ∃ Y, X.heap.size = Y := ⟨_, rfl⟩
  have hes : Es W M2 0 0 (fun _ => False) := by rw [hW, ← hM2]; exact Es.made X
  have bW : Below X.heap.size X W := by rw [hW]; exact bnew _ _
  have jw := (bW.block A (blk_lt ja)).trans ja
  have c0 : W.cell? ⟨A, 0, none⟩ = some (.slice a0 (R 0).length p0) := cell_blk jw 0
  have c1 : W.cell? ⟨A, 1, none⟩ = some (.slice a1 (R 1).length p1) := cell_blk jw 1
  have c2 : W.cell? ⟨A, 2, none⟩ = some (.slice a2 (R 2).length p2) := cell_blk jw 2
  have c3 : W.cell? ⟨A, 3, none⟩ = some (.slice a3 (R 3).length p3) := cell_blk jw 3
  have HES : Hid (∃ N2 m2 Q, Es W M2 N2 m2 Q ∧ N2 ≤ 0 ∧ ∀ x, Q x ↔ WtB R 0 x) := Lib.hid ⟨_, _, _, hes, Nat.le_refl _, fun x => ⟨fun h => h.elim, fun ⟨j, _, hj, _⟩ => by omega⟩⟩
  have HBW := Lib.hid bW
  have HW := Lib.hid hW
  have HM2 := Lib.hid hM2
  have HRK := Lib.hid hR
  have hmm := @run_makeMap Try.prog
  clear ja jw bW hW hM2 hes ho e0 e1 e2 e3 hR
  go_enter Try.func34, Try.ntmps34
  go_upto_region 2 with fail
  rw [← HW.out, HM2.out]
  go_wp2
  clear c0 c1 c2 c3 hmm
  have i0 : ∀ w : World, (Instr.index 62 (.agg #[.slice a0 (R 0).length p0, .slice a1 (R 1).length p1, .slice a2 (R 2).length p2, .slice a3 (R 3).length p3]) (.int .i64 0)).run Try.prog w = .ok (.slice a0 (R 0).length p0) w := fun _ => by kernel_rfl
  have i1 : ∀ w : World, (Instr.index 62 (.agg #[.slice a0 (R 0).length p0, .slice a1 (R 1).length p1, .slice a2 (R 2).length p2, .slice a3 (R 3).length p3]) (.int .i64 1)).run Try.prog w = .ok (.slice a1 (R 1).length p1) w := fun _ => by kernel_rfl
  have i2 : ∀ w : World, (Instr.index 62 (.agg #[.slice a0 (R 0).length p0, .slice a1 (R 1).length p1, .slice a2 (R 2).length p2, .slice a3 (R 3).length p3]) (.int .i64 2)).run Try.prog w = .ok (.slice a2 (R 2).length p2) w := fun _ => by kernel_rfl
  have i3 : ∀ w : World, (Instr.index 62 (.agg #[.slice a0 (R 0).length p0, .slice a1 (R 1).length p1, .slice a2 (R 2).length p2, .slice a3 (R 3).length p3]) (.int .i64 3)).run Try.prog w = .ok (.slice a3 (R 3).length p3) w := fun _ => by kernel_rfl
  go_loopw [11] (fun iv wr => ∃ i : Nat, i ≤ 4 ∧ iv = .int .i64 (i : Int) ∧ (∃ N2 m2 Q, Es wr M2 N2 m2 Q ∧ N2 ≤ i ∧ ∀ x, Q x ↔ WtB R i x) ∧ Below X.heap.size X wr) (fun iv _ => 4 - (intOf iv).toNat)
  case atStart => exact ⟨0, by omega, rfl, HES.out, HBW.out⟩
  case round =>
    obtain ⟨i, hi, rfl, ⟨N2, m2, Q, hes, hN, hQ⟩, hb⟩ := hrel
    have HE := Lib.hid hes
    have HQ := Lib.hid hQ
    have HN := Lib.hid hN
    have HBX := Lib.hid hb
    clear hes hQ hN hb
    rcases (show i = 0 ∨ i = 1 ∨ i = 2 ∨ i = 3 ∨ i = 4 by omega) with rfl | rfl | rfl | rfl | rfl
    · rcases HRK.out 0 with hr | ⟨b, _, hb3, hr⟩
      · have HRR := Lib.hid hr
        have k1 : ¬ ((0 : Int) < ((R 0).length : Int)) := by rw [hr]; simp
        clear hr
        go_wp2
        go_roundw
        case rel => exact ⟨1, by omega, by go_num, ⟨N2, m2, Q, HE.out, by have := HN.out; omega, fun x => by rw [WtB.nil HRR.out, HQ.out]⟩, HBX.out⟩
        case measure => simp [intOf]
      · have HRR := Lib.hid hr
        have HBB := Lib.hid hb3
        have k1 : (0 : Int) < ((R 0).length : Int) := by rw [hr]; simp [rowC]
        obtain ⟨u, hu⟩ : ∃ u, u = nv b := ⟨_, rfl⟩
        obtain ⟨K, hK⟩ : ∃ K, K = entB 0 b := ⟨_, rfl⟩
        have H31 : Hid (∀ Y, Below X.heap.size X Y → Calls Try.prog 31 #[.slice a0 (R 0).length p0, .int .i64 3] Y fun e w' => e = .returned (vlV u) ∧ Below Y.heap.size Y w') := Lib.hid fun Y hY => by
          have q := refOf_any 3 Y (HL0.out.on ceE_held hY)
          rw [show ofP (R 0) 3 = u by rw [hr, hu]; exact ofP_row 0 b] at q
          exact q
        have H14 : Hid (∀ Y, Calls Try.prog 14 #[.int .i64 4, vlV u, vlV (nv 0)] Y fun e w' => e = .returned (.string K) ∧ Below Y.heap.size Y w') := Lib.hid fun Y => by
          rw [hK, hu]
          exact refEntry_any fit_4 (fit5 (n := (b : Int)) (by omega) (by omega)) (fit5 (n := 0) (by decide) (by decide)) Y
        have HKS : Hid (K.size ≤ 1048) := Lib.hid (by rw [hK]; exact entB_size _ _)
        have HKB : Hid (K = entB 0 b) := Lib.hid hK
        clear hr hb3 hu hK
        have h31 := H31.out wr HBX.out
        go_wp2_with (go_at_call 31; refine h31.mono ?_; rintro e w1 ⟨rfl, b1⟩; refine Hid.out ?_)
        refine Lib.hid ?_
        have HB1 := Lib.hid b1
        have h17 := num_any 0 w1
        clear h31 b1 k1
        go_wp2_with (go_at_call 17; refine h17.mono ?_; rintro e w2 ⟨rfl, b2⟩; refine Hid.out ?_)
        refine Lib.hid ?_
        have HB2 := Lib.hid (bgo HB1.out b2)
        have h14 := H14.out w2
        clear h17 b2
        go_wp2_with (go_at_call 14; refine h14.mono ?_; rintro e w3 ⟨rfl, b3⟩; refine Hid.out ?_)
        refine Lib.hid ?_
        have HB3 := Lib.hid (bgo HB2.out b3)
        obtain ⟨m9, hm9⟩ : ∃ m9, (Q K ∧ m9 = m2) ∨ (¬ Q K ∧ m9 = m2 + 1) := by
          by_cases hq : Q K
          · exact ⟨_, .inl ⟨hq, rfl⟩⟩
          · exact ⟨_, .inr ⟨hq, rfl⟩⟩
        obtain ⟨X', hrun, hes, hgr⟩ := Es.put (HE.out.stays (HB3.out.block M2 HE.out.lt)) (show K.size ≤ maxLen by have := HKS.out; unfold maxLen; omega) (show N2 < maxLen by have := HN.out; unfold maxLen; omega) hm9 (Q := fun x => Q x ∨ x = K) (fun _ => Iff.rfl)
        have HF : Hid (Es X' M2 (N2 + 1) m9 (fun x => Q x ∨ x = K) ∧ Fr wr X' (fun j => j = M2)) := Lib.hid ⟨hes, (Fr.ofBelow (fun j => j = M2) HB3.out).grown hgr (fun q e => .inl (by cases e; rfl))⟩
        clear h14 b3 hm9 hes hgr
        go_wp2
        go_roundw
        case rel => exact ⟨1, by omega, by go_num, ⟨_, _, _, HF.out.1, by have := HN.out; omega, fun x => by rw [WtB.row HBB.out HRR.out, ← HKB.out, HQ.out]⟩, HBX.out.trans (HF.out.2.toBelow (fun q hq e => by have := HM2.out; omega) HBX.out.size)⟩
        case measure => simp [intOf]
    · rcases HRK.out 1 with hr | ⟨b, _, hb3, hr⟩
      · have HRR := Lib.hid hr
        have k1 : ¬ ((0 : Int) < ((R 1).length : Int)) := by rw [hr]; simp
        clear hr
        go_wp2
        go_roundw
        case rel => exact ⟨2, by omega, by go_num, ⟨N2, m2, Q, HE.out, by have := HN.out; omega, fun x => by rw [WtB.nil HRR.out, HQ.out]⟩, HBX.out⟩
        case measure => simp [intOf]
      · have HRR := Lib.hid hr
        have HBB := Lib.hid hb3
        have k1 : (0 : Int) < ((R 1).length : Int) := by rw [hr]; simp [rowC]
        obtain ⟨u, hu⟩ : ∃ u, u = nv b := ⟨_, rfl⟩
        obtain ⟨K, hK⟩ : ∃ K, K = entB 1 b := ⟨_, rfl⟩
        have H31 : Hid (∀ Y, Below X.heap.size X Y → Calls Try.prog 31 #[.slice a1 (R 1).length p1, .int .i64 3] Y fun e w' => e = .returned (vlV u) ∧ Below Y.heap.size Y w') := Lib.hid fun Y hY => by
          have q := refOf_any 3 Y (HL1.out.on ceE_held hY)
          rw [show ofP (R 1) 3 = u by rw [hr, hu]; exact ofP_row 1 b] at q
          exact q
        have H14 : Hid (∀ Y, Calls Try.prog 14 #[.int .i64 4, vlV u, vlV (nv 1)] Y fun e w' => e = .returned (.string K) ∧ Below Y.heap.size Y w') := Lib.hid fun Y => by
          rw [hK, hu]
          exact refEntry_any fit_4 (fit5 (n := (b : Int)) (by omega) (by omega)) (fit5 (n := 1) (by decide) (by decide)) Y
        have HKS : Hid (K.size ≤ 1048) := Lib.hid (by rw [hK]; exact entB_size _ _)
        have HKB : Hid (K = entB 1 b) := Lib.hid hK
        clear hr hb3 hu hK
        have h31 := H31.out wr HBX.out
        go_wp2_with (go_at_call 31; refine h31.mono ?_; rintro e w1 ⟨rfl, b1⟩; refine Hid.out ?_)
        refine Lib.hid ?_
        have HB1 := Lib.hid b1
        have h17 := num_any 1 w1
        clear h31 b1 k1
        go_wp2_with (go_at_call 17; refine h17.mono ?_; rintro e w2 ⟨rfl, b2⟩; refine Hid.out ?_)
        refine Lib.hid ?_
        have HB2 := Lib.hid (bgo HB1.out b2)
        have h14 := H14.out w2
        clear h17 b2
        go_wp2_with (go_at_call 14; refine h14.mono ?_; rintro e w3 ⟨rfl, b3⟩; refine Hid.out ?_)
        refine Lib.hid ?_
        have HB3 := Lib.hid (bgo HB2.out b3)
        obtain ⟨m9, hm9⟩ : ∃ m9, (Q K ∧ m9 = m2) ∨ (¬ Q K ∧ m9 = m2 + 1) := by
          by_cases hq : Q K
          · exact ⟨_, .inl ⟨hq, rfl⟩⟩
          · exact ⟨_, .inr ⟨hq, rfl⟩⟩
        obtain ⟨X', hrun, hes, hgr⟩ := Es.put (HE.out.stays (HB3.out.block M2 HE.out.lt)) (show K.size ≤ maxLen by have := HKS.out; unfold maxLen; omega) (show N2 < maxLen by have := HN.out; unfold maxLen; omega) hm9 (Q := fun x => Q x ∨ x = K) (fun _ => Iff.rfl)
        have HF : Hid (Es X' M2 (N2 + 1) m9 (fun x => Q x ∨ x = K) ∧ Fr wr X' (fun j => j = M2)) := Lib.hid ⟨hes, (Fr.ofBelow (fun j => j = M2) HB3.out).grown hgr (fun q e => .inl (by cases e; rfl))⟩
        clear h14 b3 hm9 hes hgr
        go_wp2
        go_roundw
        case rel => exact ⟨2, by omega, by go_num, ⟨_, _, _, HF.out.1, by have := HN.out; omega, fun x => by rw [WtB.row HBB.out HRR.out, ← HKB.out, HQ.out]⟩, HBX.out.trans (HF.out.2.toBelow (fun q hq e => by have := HM2.out; omega) HBX.out.size)⟩
        case measure => simp [intOf]
    · rcases HRK.out 2 with hr | ⟨b, _, hb3, hr⟩
      · have HRR := Lib.hid hr
        have k1 : ¬ ((0 : Int) < ((R 2).length : Int)) := by rw [hr]; simp
        clear hr
        go_wp2
        go_roundw
        case rel => exact ⟨3, by omega, by go_num, ⟨N2, m2, Q, HE.out, by have := HN.out; omega, fun x => by rw [WtB.nil HRR.out, HQ.out]⟩, HBX.out⟩
        case measure => simp [intOf]
      · have HRR := Lib.hid hr
        have HBB := Lib.hid hb3
        have k1 : (0 : Int) < ((R 2).length : Int) := by rw [hr]; simp [rowC]
        obtain ⟨u, hu⟩ : ∃ u, u = nv b := ⟨_, rfl⟩
        obtain ⟨K, hK⟩ : ∃ K, K = entB 2 b := ⟨_, rfl⟩
        have H31 : Hid (∀ Y, Below X.heap.size X Y → Calls Try.prog 31 #[.slice a2 (R 2).length p2, .int .i64 3] Y fun e w' => e = .returned (vlV u) ∧ Below Y.heap.size Y w') := Lib.hid fun Y hY => by
          have q := refOf_any 3 Y (HL2.out.on ceE_held hY)
          rw [show ofP (R 2) 3 = u by rw [hr, hu]; exact ofP_row 2 b] at q
          exact q
        have H14 : Hid (∀ Y, Calls Try.prog 14 #[.int .i64 4, vlV u, vlV (nv 2)] Y fun e w' => e = .returned (.string K) ∧ Below Y.heap.size Y w') := Lib.hid fun Y => by
          rw [hK, hu]
          exact refEntry_any fit_4 (fit5 (n := (b : Int)) (by omega) (by omega)) (fit5 (n := 2) (by decide) (by decide)) Y
        have HKS : Hid (K.size ≤ 1048) := Lib.hid (by rw [hK]; exact entB_size _ _)
        have HKB : Hid (K = entB 2 b) := Lib.hid hK
        clear hr hb3 hu hK
        have h31 := H31.out wr HBX.out
        go_wp2_with (go_at_call 31; refine h31.mono ?_; rintro e w1 ⟨rfl, b1⟩; refine Hid.out ?_)
        refine Lib.hid ?_
        have HB1 := Lib.hid b1
        have h17 := num_any 2 w1
        clear h31 b1 k1
        go_wp2_with (go_at_call 17; refine h17.mono ?_; rintro e w2 ⟨rfl, b2⟩; refine Hid.out ?_)
        refine Lib.hid ?_
        have HB2 := Lib.hid (bgo HB1.out b2)
        have h14 := H14.out w2
        clear h17 b2
        go_wp2_with (go_at_call 14; refine h14.mono ?_; rintro e w3 ⟨rfl, b3⟩; refine Hid.out ?_)
        refine Lib.hid ?_
        have HB3 := Lib.hid (bgo HB2.out b3)
        obtain ⟨m9, hm9⟩ : ∃ m9, (Q K ∧ m9 = m2) ∨ (¬ Q K ∧ m9 = m2 + 1) := by
          by_cases hq : Q K
          · exact ⟨_, .inl ⟨hq, rfl⟩⟩
          · exact ⟨_, .inr ⟨hq, rfl⟩⟩
        obtain ⟨X', hrun, hes, hgr⟩ := Es.put (HE.out.stays (HB3.out.block M2 HE.out.lt)) (show K.size ≤ maxLen by have := HKS.out; unfold maxLen; omega) (show N2 < maxLen by have := HN.out; unfold maxLen; omega) hm9 (Q := fun x => Q x ∨ x = K) (fun _ => Iff.rfl)
        have HF : Hid (Es X' M2 (N2 + 1) m9 (fun x => Q x ∨ x = K) ∧ Fr wr X' (fun j => j = M2)) := Lib.hid ⟨hes, (Fr.ofBelow (fun j => j = M2) HB3.out).grown hgr (fun q e => .inl (by cases e; rfl))⟩
        clear h14 b3 hm9 hes hgr
        go_wp2
        go_roundw
        case rel => exact ⟨3, by omega, by go_num, ⟨_, _, _, HF.out.1, by have := HN.out; omega, fun x => by rw [WtB.row HBB.out HRR.out, ← HKB.out, HQ.out]⟩, HBX.out.trans (HF.out.2.toBelow (fun q hq e => by have := HM2.out; omega) HBX.out.size)⟩
        case measure => simp [intOf]
    · rcases HRK.out 3 with hr | ⟨b, _, hb3, hr⟩
      · have HRR := Lib.hid hr
        have k1 : ¬ ((0 : Int) < ((R 3).length : Int)) := by rw [hr]; simp
        clear hr
        go_wp2
        go_roundw
        case rel => exact ⟨4, by omega, by go_num, ⟨N2, m2, Q, HE.out, by have := HN.out; omega, fun x => by rw [WtB.nil HRR.out, HQ.out]⟩, HBX.out⟩
        case measure => simp [intOf]
      · have HRR := Lib.hid hr
        have HBB := Lib.hid hb3
        have k1 : (0 : Int) < ((R 3).length : Int) := by rw [hr]; simp [rowC]
        obtain ⟨u, hu⟩ : ∃ u, u = nv b := ⟨_, rfl⟩
        obtain ⟨K, hK⟩ : ∃ K, K = entB 3 b := ⟨_, rfl⟩
        have H31 : Hid (∀ Y, Below X.heap.size X Y → Calls Try.prog 31 #[.slice a3 (R 3).length p3, .int .i64 3] Y fun e w' => e = .returned (vlV u) ∧ Below Y.heap.size Y w') := Lib.hid fun Y hY => by
          have q := refOf_any 3 Y (HL3.out.on ceE_held hY)
          rw [show ofP (R 3) 3 = u by rw [hr, hu]; exact ofP_row 3 b] at q
          exact q
        have H14 : Hid (∀ Y, Calls Try.prog 14 #[.int .i64 4, vlV u, vlV (nv 3)] Y fun e w' => e = .returned (.string K) ∧ Below Y.heap.size Y w') := Lib.hid fun Y => by
          rw [hK, hu]
          exact refEntry_any fit_4 (fit5 (n := (b : Int)) (by omega) (by omega)) (fit5 (n := 3) (by decide) (by decide)) Y
        have HKS : Hid (K.size ≤ 1048) := Lib.hid (by rw [hK]; exact entB_size _ _)
        have HKB : Hid (K = entB 3 b) := Lib.hid hK
        clear hr hb3 hu hK
        have h31 := H31.out wr HBX.out
        go_wp2_with (go_at_call 31; refine h31.mono ?_; rintro e w1 ⟨rfl, b1⟩; refine Hid.out ?_)
        refine Lib.hid ?_
        have HB1 := Lib.hid b1
        have h17 := num_any 3 w1
        clear h31 b1 k1
        go_wp2_with (go_at_call 17; refine h17.mono ?_; rintro e w2 ⟨rfl, b2⟩; refine Hid.out ?_)
        refine Lib.hid ?_
        have HB2 := Lib.hid (bgo HB1.out b2)
        have h14 := H14.out w2
        clear h17 b2
        go_wp2_with (go_at_call 14; refine h14.mono ?_; rintro e w3 ⟨rfl, b3⟩; refine Hid.out ?_)
        refine Lib.hid ?_
        have HB3 := Lib.hid (bgo HB2.out b3)
        obtain ⟨m9, hm9⟩ : ∃ m9, (Q K ∧ m9 = m2) ∨ (¬ Q K ∧ m9 = m2 + 1) := by
          by_cases hq : Q K
          · exact ⟨_, .inl ⟨hq, rfl⟩⟩
          · exact ⟨_, .inr ⟨hq, rfl⟩⟩
        obtain ⟨X', hrun, hes, hgr⟩ := Es.put (HE.out.stays (HB3.out.block M2 HE.out.lt)) (show K.size ≤ maxLen by have := HKS.out; unfold maxLen; omega) (show N2 < maxLen by have := HN.out; unfold maxLen; omega) hm9 (Q := fun x => Q x ∨ x = K) (fun _ => Iff.rfl)
        have HF : Hid (Es X' M2 (N2 + 1) m9 (fun x => Q x ∨ x = K) ∧ Fr wr X' (fun j => j = M2)) := Lib.hid ⟨hes, (Fr.ofBelow (fun j => j = M2) HB3.out).grown hgr (fun q e => .inl (by cases e; rfl))⟩
        clear h14 b3 hm9 hes hgr
        go_wp2
        go_roundw
        case rel => exact ⟨4, by omega, by go_num, ⟨_, _, _, HF.out.1, by have := HN.out; omega, fun x => by rw [WtB.row HBB.out HRR.out, ← HKB.out, HQ.out]⟩, HBX.out.trans (HF.out.2.toBelow (fun q hq e => by have := HM2.out; omega) HBX.out.size)⟩
        case measure => simp [intOf]
    · have HQ4 : Hid (∃ N2 m2, Es wr M2 N2 m2 (WtB R 4)) := Lib.hid (by
        have e : Q = WtB R 4 := funext fun x => propext (HQ.out x)
        rw [← e]
        exact ⟨_, _, HE.out⟩)
      obtain ⟨N4, m4, h4⟩ := HQ4.out
      have H4 := Lib.hid h4
      clear h4
      go_wp2
      go_ret
      exact ⟨_, _, _, rfl, H4.out, HBX.out⟩
end Go.Proofs.Ytbepekgaipipjaa
