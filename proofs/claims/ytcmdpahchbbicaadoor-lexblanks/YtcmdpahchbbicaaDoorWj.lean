/- The walk of number. -/
import Derived.Test.YtcmdpahchbbicaaDoorWi
namespace Go.Proofs.YtcmdpahchbbicaaDoor
open Go.RowKit
theorem takeW_all (p : UInt8 → Bool) : ∀ (l : List UInt8), ∀ x ∈ l.take (cnt p l), p x = true
  | [], x, h => by simp at h
  | c :: r, x, h => by
    by_cases hc : p c = true
    · rw [cnt_yes hc, List.take_succ_cons] at h
      rcases List.mem_cons.1 h with rfl | h
      · exact hc
      · exact takeW_all p r x h
    · rw [cnt_no (by simpa using hc)] at h
      simp at h
theorem word_num {s : ByteArray} {k m : Nat} (hk : k < s.size) (hc : isD s[k] = true ∨ s[k].toNat = 45) (hm : cnt isD (s.data.toList.drop (k + 1)) = m) (h0 : ¬ (s[k].toNat = 45 ∧ m = 0)) : wordL s[k] (s.data.toList.drop (k + 1)) = (match numP ((s.data.toList.drop k).take (1 + m)) with | none => .inl 172 | some v => .inr (2, (s.data.toList.drop k).take (1 + m), v, 1 + m)) ∧ (∀ v, numP ((s.data.toList.drop k).take (1 + m)) = some v → Lib.parseIntB 64 ((s.data.toList.drop k).take (1 + m)) = .ok v) ∧ (numP ((s.data.toList.drop k).take (1 + m)) = none → ∀ v, Lib.parseIntB 64 ((s.data.toList.drop k).take (1 + m)) ≠ .ok v) := by
  have hL : ¬ isL s[k] = true := fun q => ((apart_all s[k]).1 q).1 hc
  constructor
  · unfold wordL
    rw [if_neg hL, if_pos hc, hm, if_neg h0, ← drop_at s k hk]
    rfl
  · have hd := drop_at s k hk
    have e : (s.data.toList.drop k).take (1 + m) = s[k] :: (s.data.toList.drop (k + 1)).take m := by rw [hd, Nat.add_comm 1 m, List.take_succ_cons]
    rw [e]
    have hall : ∀ x ∈ (s.data.toList.drop (k + 1)).take m, isD x = true := by rw [← hm]; exact takeW_all isD _
    have hle := cnt_le isD (s.data.toList.drop (k + 1))
    refine parse_num hall ?_
    rcases hc with hc | hc
    · exact .inl hc
    · refine .inr ⟨hc, fun q => ?_⟩
      have hlen : ((s.data.toList.drop (k + 1)).take m).length = m := by rw [List.length_take]; omega
      rw [q] at hlen
      exact h0 ⟨hc, hlen.symm⟩
set_option maxHeartbeats 2000000 in
set_option maxRecDepth 100000 in
theorem number_none {w : World} {R : Nat} {s : ByteArray} {k : Nat} (hR : Rd w R s k) (hs : s.size ≤ 1024) (hk : k < s.size) (hq : s[k].toNat = 45) (hm : cnt isD (s.data.toList.drop (k + 1)) = 0) :
    Calls Tryd.prog 19 #[.pointer (some ⟨R, 0, none⟩)] w (RdAns w R s k (wordL s[k] (s.data.toList.drop (k + 1)))) := by
  have hw : wordL s[k] (s.data.toList.drop (k + 1)) = .inl 170 := by
    have hL : ¬ isL s[k] = true := fun q => ((apart_all s[k]).1 q).1 (.inr hq)
    unfold wordL
    rw [if_neg hL, if_pos (.inr hq), if_pos ⟨hq, hm⟩]
  rw [hw]
  have hk0 : (0 : Int) ≤ (k : Int) := by omega
  have hk1 : (k : Int) < (s.size : Int) := by omega
  obtain ⟨w0, hw0⟩ : ∃ w0, w0 = w.alloc (.cells zW 31) := ⟨_, rfl⟩
  obtain ⟨A, hA⟩ : ∃ A, w.heap.size = A := ⟨_, rfl⟩
  have hb0 : Below w.heap.size w w0 := by rw [hw0]; exact (Below.refl _ w).alloc (Nat.le_refl _) _
  have jR : Rd w0 R s k := (hb0.block R (blk_lt hR)).trans hR
  have jA : w0.heap[A]? = some (.cells zW 31 (0, 0)) := by rw [hw0, ← hA]; exact heap_alloc_new w _
  have hRA : R ≠ A := by have := blk_lt hR; omega
  have c0 : w0.cell? ⟨R, 0, none⟩ = some (.string s) := cell_blk jR 0
  have c1 : w0.cell? ⟨R, 1, none⟩ = some (.int .i64 k) := cell_blk jR 1
  have HW := Lib.hid hw0
  have HA := Lib.hid hA
  have HB := Lib.hid hb0
  have JA := Lib.hid jA
  have JR := Lib.hid jR
  clear hw0 hA hb0 jA jR hR
  have hq' : ((s[k].toNat : Int) == 45) = true := by rw [hq]; rfl
  have hp : ∀ X, X.heap[R]? = some (.cells #[.string s, .int .i64 k] 40 (0, 0)) → Calls Tryd.prog 13 #[.pointer (some ⟨R, 0, none⟩), .int .i64 ((k : Int) + 1), .string ⟨#[48, 49, 50, 51, 52, 53, 54, 55, 56, 57]⟩] X fun e w' => e = .returned (.int .i64 ((k : Int) + 1)) ∧ w' = X := by
    intro X hX
    have h := past_any (k := k + 1) (t := ⟨#[48, 49, 50, 51, 52, 53, 54, 55, 56, 57]⟩) isD (cell_blk hX 0) isD_in (by omega) hs
    rw [hm] at h
    exact h
  have HP := Lib.hid hp
  clear hp hw hq hm
  have hq'' : ((s[k].toNat : Int) == (((⟨#[45]⟩ : ByteArray)[0]).toNat : Int)) = true := hq'
  clear hq'
  go_enter Tryd.func19, Tryd.ntmps19
  go_upto_region 1 with fail
  rw [← HW.out, HA.out]
  go_wp2_with fail
  go_quiet (fail)
  obtain ⟨W1, hW1⟩ : ∃ W1, W1 = w0.drewN nq := ⟨_, rfl⟩
  have jR1 : Rd W1 R s k := by rw [hW1]; exact JR.out
  have jA1 : W1.heap[A]? = some (.cells zW 31 (0, 0)) := by rw [hW1]; exact JA.out
  have hb1 : Below w.heap.size w W1 := by rw [hW1]; exact ⟨HB.out.os, HB.out.tape, HB.out.output, HB.out.size, HB.out.block⟩
  rw [← hW1]
  have HB1 := Lib.hid hb1
  have JR1 := Lib.hid jR1
  have JA1 := Lib.hid jA1
  clear hW1 jR1 jA1 hb1 JR JA HB HW c0 c1 hq''
  obtain ⟨X1, st1, k1, g1, l1⟩ := put_four JA1.out rfl zW rfl (by simp [Value.oneCell'])
  have hAl := HA.out
  have e1 : Fr w X1 (fun j => j = R) := (Fr.ofBelow _ HB1.out).step g1 (fun j hj => .inr (by omega))
  have L1 := Lib.hid l1
  have E1 := Lib.hid e1
  have HPW := Lib.hid (HP.out W1 JR1.out)
  clear k1 g1 l1 e1 hAl HP
  go_wp2_with (first | (go_at_call 13; refine (HPW.out).mono ?_; rintro e w1 ⟨rfl, rfl⟩) | refine wpl_store _ _ rfl rfl rfl st1 ?_)
  exact bodyPost_ret (results_two rfl rfl rfl L1.out) rfl ⟨rfl, E1.out⟩
set_option maxHeartbeats 4000000 in
set_option maxRecDepth 100000 in
theorem number_minus {w : World} {R : Nat} {s : ByteArray} {k m B0 : Nat} (hg : Gd B0 w) (hB0 : B0 ≤ w.heap.size) (hRB0 : B0 ≤ R) (hR : Rd w R s k) (hs : s.size ≤ 1024) (hk : k < s.size) (hq : s[k].toNat = 45) (hm : cnt isD (s.data.toList.drop (k + 1)) = m) (h0 : ¬ (s[k].toNat = 45 ∧ m = 0)) :
    Calls Tryd.prog 19 #[.pointer (some ⟨R, 0, none⟩)] w (RdAns w R s k (wordL s[k] (s.data.toList.drop (k + 1)))) := by
  obtain ⟨hw, hp1, hp2⟩ := word_num hk (.inr hq) hm h0
  rw [hw]
  obtain ⟨o, ho⟩ : ∃ o, (match numP ((s.data.toList.drop k).take (1 + m)) with | none => .inl 172 | some v => .inr (2, (s.data.toList.drop k).take (1 + m), v, 1 + m) : Int ⊕ Wr) = o := ⟨_, rfl⟩
  rw [ho]
  have HO := Lib.hid ho
  have hroom := cnt_room isD s (k + 1) (by omega)
  rw [hm] at hroom
  have hext := ext_take s k (1 + m)
  obtain ⟨T, hT⟩ : ∃ T, s.extract k (k + (1 + m)) = T := ⟨_, rfl⟩
  rw [hT] at hext
  have hTd : T.data.toList = (s.data.toList.drop k).take (1 + m) := by rw [hext]
  have hTz : T.size ≤ 1024 := by rw [← hT]; simp; omega
  rw [← hTd] at hp1 hp2
  have HP1 := Lib.hid hp1
  have HP2 := Lib.hid hp2
  have HE := Lib.hid hext
  have HTD := Lib.hid hTd
  clear ho hw hp1 hp2 hext hTd
  have hgd : ∀ X, Fr w X (fun j => j = R) → Gd B0 X := fun X h => hg.on (h.toBelow (fun q hq e => by omega) hB0)
  have hk0 : (0 : Int) ≤ (k : Int) := by omega
  have hk1 : (k : Int) < (s.size : Int) := by omega
  obtain ⟨w0, hw0⟩ : ∃ w0, w0 = w.alloc (.cells zW 31) := ⟨_, rfl⟩
  obtain ⟨A, hA⟩ : ∃ A, w.heap.size = A := ⟨_, rfl⟩
  have hb0 : Below w.heap.size w w0 := by rw [hw0]; exact (Below.refl _ w).alloc (Nat.le_refl _) _
  have jR : Rd w0 R s k := (hb0.block R (blk_lt hR)).trans hR
  have jA : w0.heap[A]? = some (.cells zW 31 (0, 0)) := by rw [hw0, ← hA]; exact heap_alloc_new w _
  have hRA : R ≠ A := by have := blk_lt hR; omega
  have c0 : w0.cell? ⟨R, 0, none⟩ = some (.string s) := cell_blk jR 0
  have c1 : w0.cell? ⟨R, 1, none⟩ = some (.int .i64 k) := cell_blk jR 1
  have HW := Lib.hid hw0
  have HA := Lib.hid hA
  have HB := Lib.hid hb0
  have JA := Lib.hid jA
  have JR := Lib.hid jR
  clear hw0 hA hb0 jA jR hR
  have hq' : ((s[k].toNat : Int) == 45) = true := by rw [hq]; rfl
  have hp : ∀ X, X.heap[R]? = some (.cells #[.string s, .int .i64 k] 40 (0, 0)) → Calls Tryd.prog 13 #[.pointer (some ⟨R, 0, none⟩), .int .i64 ((k : Int) + 1), .string ⟨#[48, 49, 50, 51, 52, 53, 54, 55, 56, 57]⟩] X fun e w' => e = .returned (.int .i64 ((k + (1 + m) : Nat) : Int)) ∧ w' = X := by
    intro X hX
    have h := past_any (k := k + 1) (t := ⟨#[48, 49, 50, 51, 52, 53, 54, 55, 56, 57]⟩) isD (cell_blk hX 0) isD_in (by omega) hs
    rw [hm, Nat.add_assoc] at h
    exact h
  have hne : (((k + (1 + m) : Nat) : Int) == (k : Int) + 1) = false := by rw [beq_eq_false_iff_ne]; omega
  obtain ⟨en, hen⟩ : ∃ en, k + (1 + m) = en := ⟨_, rfl⟩
  rw [hen] at hp hne hT
  have hke : k ≤ en := by omega
  have hes : en ≤ s.size := by omega
  have HP := Lib.hid hp
  have HEN := Lib.hid hen
  have HGD := Lib.hid hgd
  have hu : ∀ X, Rd X R s k → Calls Tryd.prog 27 #[.pointer (some ⟨R, 0, none⟩), .int .i64 (en : Int), .int .i64 2] X fun e w' => e = .returned (wdV 2 k T 0) ∧ Rd w' R s en ∧ Fr X w' (fun j => j = R) := fun X hX => by rw [← hT]; exact upTo_any 2 hX hs hke hes
  have HU := Lib.hid hu
  clear hp hq hm hen hgd hu hT h0
  have hq'' : ((s[k].toNat : Int) == (((⟨#[45]⟩ : ByteArray)[0]).toNat : Int)) = true := hq'
  clear hq'
  go_enter Tryd.func19, Tryd.ntmps19
  go_upto_region 1 with fail
  rw [← HW.out, HA.out]
  go_wp2_with fail
  go_quiet (fail)
  obtain ⟨W1, hW1⟩ : ∃ W1, W1 = w0.drewN nq := ⟨_, rfl⟩
  have jR1 : Rd W1 R s k := by rw [hW1]; exact JR.out
  have jA1 : W1.heap[A]? = some (.cells zW 31 (0, 0)) := by rw [hW1]; exact JA.out
  have hb1 : Below w.heap.size w W1 := by rw [hW1]; exact ⟨HB.out.os, HB.out.tape, HB.out.output, HB.out.size, HB.out.block⟩
  rw [← hW1]
  have HB1 := Lib.hid hb1
  have JR1 := Lib.hid jR1
  have JA1 := Lib.hid jA1
  clear hW1 jR1 jA1 hb1 JR JA HB HW c0 c1 hq''
  have HPW := Lib.hid (HP.out W1 JR1.out)
  have HUW := Lib.hid (HU.out W1 JR1.out)
  clear HP HU
  go_wp2_with (first | (go_at_call 13; refine (HPW.out).mono ?_; rintro e w1 ⟨rfl, rfl⟩) | (go_at_call 27; refine (HUW.out).mono ?_; rintro e w2 ⟨rfl, jR2, f2⟩; refine Hid.out ?_))
  refine Lib.hid ?_
  obtain ⟨W3, hW3⟩ : ∃ W3, W3 = w2.alloc (.cells #[.int .i64 2, .int .i64 k, .string T, .int .i64 0] 31) := ⟨_, rfl⟩
  obtain ⟨B, hB⟩ : ∃ B, w2.heap.size = B := ⟨_, rfl⟩
  have jB : W3.heap[B]? = some (.cells #[.int .i64 2, .int .i64 k, .string T, .int .i64 0] 31 (0, 0)) := by rw [hW3, ← hB]; exact heap_alloc_new w2 _
  have hb3 : Below w2.heap.size w2 W3 := by rw [hW3]; exact (Below.refl _ w2).alloc (Nat.le_refl _) _
  have jA2 : w2.heap[A]? = some (.cells zW 31 (0, 0)) := (f2.block A (blk_lt JA1.out) (fun e => hRA e.symm)).trans JA1.out
  have jA3 : W3.heap[A]? = some (.cells zW 31 (0, 0)) := (hb3.block A (blk_lt jA2)).trans jA2
  have jR3 : Rd W3 R s en := (hb3.block R (blk_lt jR2)).trans jR2
  have f3 : Fr w W3 (fun j => j = R) := Fr.below ((Fr.ofBelow _ HB1.out).trans f2) hb3
  have hAB : A ≠ B := by rw [← hB]; have := blk_lt jA2; omega
  have hRB : R ≠ B := by rw [← hB]; have := blk_lt jR2; omega
  have cB : W3.cell? ⟨B, 2, none⟩ = some (.string T) := cell_blk jB 2
  have hlB0 : w.heap.size ≤ B := by rw [← hB]; exact Nat.le_trans HB1.out.size f2.size
  have HLB := Lib.hid hlB0
  clear hlB0
  have HW3 := Lib.hid hW3
  have HBB := Lib.hid hB
  have JB := Lib.hid jB
  have JA3 := Lib.hid jA3
  have JR3 := Lib.hid jR3
  have F3 := Lib.hid f3
  clear hW3 hB jB hb3 jA2 jA3 jR3 f3 f2 jR2 JA1 JR1 HPW HUW HB1
  go_upto_region 8 with fail
  rw [← HW3.out, HBB.out]
  cases hn : numP ((s.data.toList.drop k).take (1 + m)) with
  | none =>
    have hO : o = .inl 172 := by rw [← HO.out, hn]
    have HOO := Lib.hid hO
    have HC := Lib.hid (parse_no T hTz (HP2.out (by rw [HTD.out]; exact hn)) W3 (HGD.out W3 F3.out))
    clear hO hn HO HP1 HP2 HGD
    go_wp2_with (go_at_call 28; refine (HC.out).mono ?_; rintro e w4 ⟨n4, N4, rfl, b4⟩; refine Hid.out ?_)
    refine Lib.hid ?_
    have jA4 := (b4.block A (blk_lt JA3.out)).trans JA3.out
    obtain ⟨X1, st1, k1, g1, l1⟩ := put_four jA4 rfl zW rfl (by simp [Value.oneCell'])
    have hAl := HA.out
    have e1 : Fr w X1 (fun j => j = R) := (F3.out.below b4).step g1 (fun j hj => .inr (by omega))
    have L1 := Lib.hid l1
    have E1 := Lib.hid e1
    clear k1 g1 l1 e1 hAl jA4 b4
    go_wp2_with (first | refine wpl_store _ _ rfl rfl rfl st1 ?_)
    exact bodyPost_ret (results_two rfl rfl rfl L1.out) rfl (by rw [HOO.out]; exact ⟨rfl, E1.out⟩)
  | some v =>
    have hO : o = .inr (2, (s.data.toList.drop k).take (1 + m), v, 1 + m) := by rw [← HO.out, hn]
    have HOO := Lib.hid hO
    have HC := Lib.hid (parse_ok T hTz v (HP1.out v (by rw [HTD.out]; exact hn)) W3)
    clear hO hn HO HP1 HP2 HGD
    go_wp2_with (go_at_call 28; refine (HC.out).mono ?_; rintro e w4 ⟨rfl, b4⟩; refine Hid.out ?_)
    refine Lib.hid ?_
    have jA4 := (b4.block A (blk_lt JA3.out)).trans JA3.out
    have jB4 := (b4.block B (blk_lt JB.out)).trans JB.out
    have jR4 := (b4.block R (blk_lt JR3.out)).trans JR3.out
    have hAl := HA.out
    have f4 := F3.out.below b4
    have cN := cell_blk jB4 3
    have fN := frozen_blk jB4 3
    obtain ⟨W5, hW5⟩ : ∃ W5, W5 = w4.setCell ⟨B, 3, none⟩ (.int .i64 v) := ⟨_, rfl⟩
    have jB5 : W5.heap[B]? = some (.cells #[.int .i64 2, .int .i64 k, .string T, .int .i64 v] 31 (0, 0)) := by rw [hW5]; exact set_blk jB4 _
    have jA5 : W5.heap[A]? = some (.cells zW 31 (0, 0)) := by rw [hW5, set_other (a := ⟨B, 3, none⟩) _ hAB]; exact jA4
    have jR5 : W5.heap[R]? = some (.cells #[.string s, .int .i64 en] 40 (0, 0)) := by rw [hW5, set_other (a := ⟨B, 3, none⟩) _ hRB]; exact jR4
    have hlB : w.heap.size ≤ B := HLB.out
    have f5 : Fr w W5 (fun j => j = R) := by rw [hW5]; exact Fr.set (S := fun j => j = R) (a := ⟨B, 3, none⟩) f4 (.inr hlB) _
    have hld := load_row (ty := 31) jB5 Tryd.underlying31 rfl (by kernel_rfl)
    obtain ⟨X2, st2, k2, g2, l2⟩ := put_four jA5 rfl #[.int .i64 2, .int .i64 k, .string T, .int .i64 v] rfl (by simp [Value.oneCell'])
    have e2 : Fr w X2 (fun j => j = R) := f5.step g2 (fun j hj => .inr (by omega))
    have jR6 : Rd X2 R s en := (g2.block R (blk_lt jR5) hRA).trans jR5
    have L2 := Lib.hid l2
    have E2 := Lib.hid e2
    have JR6 := Lib.hid jR6
    have HW5 := Lib.hid hW5
    clear hW5 jA4 jB4 jR4 hAl f4 jB5 jA5 jR5 f5 k2 g2 l2 e2 jR6 b4 hlB
    go_upto_region 12 with fail
    rw [← HW5.out]
    go_wp2_with (first | refine wpl_load _ rfl rfl hld ?_ | refine wpl_store _ _ rfl rfl rfl st2 ?_)
    exact bodyPost_ret (results_two rfl rfl rfl L2.out) rfl (by rw [HOO.out]; exact ⟨by rw [← HE.out]; rfl, by have := JR6.out; rw [← HEN.out] at this; exact this, E2.out⟩)
set_option maxHeartbeats 4000000 in
set_option maxRecDepth 100000 in
theorem number_digit {w : World} {R : Nat} {s : ByteArray} {k m B0 : Nat} (hg : Gd B0 w) (hB0 : B0 ≤ w.heap.size) (hRB0 : B0 ≤ R) (hR : Rd w R s k) (hs : s.size ≤ 1024) (hk : k < s.size) (hq : isD s[k] = true) (hm : cnt isD (s.data.toList.drop (k + 1)) = m) (h0 : ¬ (s[k].toNat = 45 ∧ m = 0)) :
    Calls Tryd.prog 19 #[.pointer (some ⟨R, 0, none⟩)] w (RdAns w R s k (wordL s[k] (s.data.toList.drop (k + 1)))) := by
  obtain ⟨hw, hp1, hp2⟩ := word_num hk (.inl hq) hm h0
  rw [hw]
  obtain ⟨o, ho⟩ : ∃ o, (match numP ((s.data.toList.drop k).take (1 + m)) with | none => .inl 172 | some v => .inr (2, (s.data.toList.drop k).take (1 + m), v, 1 + m) : Int ⊕ Wr) = o := ⟨_, rfl⟩
  rw [ho]
  have HO := Lib.hid ho
  have hroom := cnt_room isD s (k + 1) (by omega)
  rw [hm] at hroom
  have hext := ext_take s k (1 + m)
  obtain ⟨T, hT⟩ : ∃ T, s.extract k (k + (1 + m)) = T := ⟨_, rfl⟩
  rw [hT] at hext
  have hTd : T.data.toList = (s.data.toList.drop k).take (1 + m) := by rw [hext]
  have hTz : T.size ≤ 1024 := by rw [← hT]; simp; omega
  rw [← hTd] at hp1 hp2
  have HP1 := Lib.hid hp1
  have HP2 := Lib.hid hp2
  have HE := Lib.hid hext
  have HTD := Lib.hid hTd
  clear ho hw hp1 hp2 hext hTd
  have hgd : ∀ X, Fr w X (fun j => j = R) → Gd B0 X := fun X h => hg.on (h.toBelow (fun q hq e => by omega) hB0)
  have hk0 : (0 : Int) ≤ (k : Int) := by omega
  have hk1 : (k : Int) < (s.size : Int) := by omega
  obtain ⟨w0, hw0⟩ : ∃ w0, w0 = w.alloc (.cells zW 31) := ⟨_, rfl⟩
  obtain ⟨A, hA⟩ : ∃ A, w.heap.size = A := ⟨_, rfl⟩
  have hb0 : Below w.heap.size w w0 := by rw [hw0]; exact (Below.refl _ w).alloc (Nat.le_refl _) _
  have jR : Rd w0 R s k := (hb0.block R (blk_lt hR)).trans hR
  have jA : w0.heap[A]? = some (.cells zW 31 (0, 0)) := by rw [hw0, ← hA]; exact heap_alloc_new w _
  have hRA : R ≠ A := by have := blk_lt hR; omega
  have c0 : w0.cell? ⟨R, 0, none⟩ = some (.string s) := cell_blk jR 0
  have c1 : w0.cell? ⟨R, 1, none⟩ = some (.int .i64 k) := cell_blk jR 1
  have HW := Lib.hid hw0
  have HA := Lib.hid hA
  have HB := Lib.hid hb0
  have JA := Lib.hid jA
  have JR := Lib.hid jR
  clear hw0 hA hb0 jA jR hR
  have hq' : ((s[k].toNat : Int) == 45) = false := by rw [beq_eq_false_iff_ne]; have := (isD_iff s[k]).1 hq; omega
  have hp : ∀ X, X.heap[R]? = some (.cells #[.string s, .int .i64 k] 40 (0, 0)) → Calls Tryd.prog 13 #[.pointer (some ⟨R, 0, none⟩), .int .i64 (k : Int), .string ⟨#[48, 49, 50, 51, 52, 53, 54, 55, 56, 57]⟩] X fun e w' => e = .returned (.int .i64 ((k + (1 + m) : Nat) : Int)) ∧ w' = X := by
    intro X hX
    have h := past_any (k := k) (t := ⟨#[48, 49, 50, 51, 52, 53, 54, 55, 56, 57]⟩) isD (cell_blk hX 0) isD_in (by omega) hs
    rw [drop_at s k hk, cnt_yes hq, hm, Nat.add_comm m 1] at h
    exact h
  have hne : (((k + (1 + m) : Nat) : Int) == (k : Int)) = false := by rw [beq_eq_false_iff_ne]; omega
  obtain ⟨en, hen⟩ : ∃ en, k + (1 + m) = en := ⟨_, rfl⟩
  rw [hen] at hp hne hT
  have hke : k ≤ en := by omega
  have hes : en ≤ s.size := by omega
  have HP := Lib.hid hp
  have HEN := Lib.hid hen
  have HGD := Lib.hid hgd
  have hu : ∀ X, Rd X R s k → Calls Tryd.prog 27 #[.pointer (some ⟨R, 0, none⟩), .int .i64 (en : Int), .int .i64 2] X fun e w' => e = .returned (wdV 2 k T 0) ∧ Rd w' R s en ∧ Fr X w' (fun j => j = R) := fun X hX => by rw [← hT]; exact upTo_any 2 hX hs hke hes
  have HU := Lib.hid hu
  clear hp hq hm hen hgd hu hT h0
  have hq'' : ((s[k].toNat : Int) == (((⟨#[45]⟩ : ByteArray)[0]).toNat : Int)) = false := hq'
  clear hq'
  go_enter Tryd.func19, Tryd.ntmps19
  go_upto_region 1 with fail
  rw [← HW.out, HA.out]
  go_wp2_with fail
  go_quiet (fail)
  obtain ⟨W1, hW1⟩ : ∃ W1, W1 = w0.drewN nq := ⟨_, rfl⟩
  have jR1 : Rd W1 R s k := by rw [hW1]; exact JR.out
  have jA1 : W1.heap[A]? = some (.cells zW 31 (0, 0)) := by rw [hW1]; exact JA.out
  have hb1 : Below w.heap.size w W1 := by rw [hW1]; exact ⟨HB.out.os, HB.out.tape, HB.out.output, HB.out.size, HB.out.block⟩
  rw [← hW1]
  have HB1 := Lib.hid hb1
  have JR1 := Lib.hid jR1
  have JA1 := Lib.hid jA1
  clear hW1 jR1 jA1 hb1 JR JA HB HW c0 c1 hq''
  have HPW := Lib.hid (HP.out W1 JR1.out)
  have HUW := Lib.hid (HU.out W1 JR1.out)
  clear HP HU
  go_wp2_with (first | (go_at_call 13; refine (HPW.out).mono ?_; rintro e w1 ⟨rfl, rfl⟩) | (go_at_call 27; refine (HUW.out).mono ?_; rintro e w2 ⟨rfl, jR2, f2⟩; refine Hid.out ?_))
  refine Lib.hid ?_
  obtain ⟨W3, hW3⟩ : ∃ W3, W3 = w2.alloc (.cells #[.int .i64 2, .int .i64 k, .string T, .int .i64 0] 31) := ⟨_, rfl⟩
  obtain ⟨B, hB⟩ : ∃ B, w2.heap.size = B := ⟨_, rfl⟩
  have jB : W3.heap[B]? = some (.cells #[.int .i64 2, .int .i64 k, .string T, .int .i64 0] 31 (0, 0)) := by rw [hW3, ← hB]; exact heap_alloc_new w2 _
  have hb3 : Below w2.heap.size w2 W3 := by rw [hW3]; exact (Below.refl _ w2).alloc (Nat.le_refl _) _
  have jA2 : w2.heap[A]? = some (.cells zW 31 (0, 0)) := (f2.block A (blk_lt JA1.out) (fun e => hRA e.symm)).trans JA1.out
  have jA3 : W3.heap[A]? = some (.cells zW 31 (0, 0)) := (hb3.block A (blk_lt jA2)).trans jA2
  have jR3 : Rd W3 R s en := (hb3.block R (blk_lt jR2)).trans jR2
  have f3 : Fr w W3 (fun j => j = R) := Fr.below ((Fr.ofBelow _ HB1.out).trans f2) hb3
  have hAB : A ≠ B := by rw [← hB]; have := blk_lt jA2; omega
  have hRB : R ≠ B := by rw [← hB]; have := blk_lt jR2; omega
  have cB : W3.cell? ⟨B, 2, none⟩ = some (.string T) := cell_blk jB 2
  have hlB0 : w.heap.size ≤ B := by rw [← hB]; exact Nat.le_trans HB1.out.size f2.size
  have HLB := Lib.hid hlB0
  clear hlB0
  have HW3 := Lib.hid hW3
  have HBB := Lib.hid hB
  have JB := Lib.hid jB
  have JA3 := Lib.hid jA3
  have JR3 := Lib.hid jR3
  have F3 := Lib.hid f3
  clear hW3 hB jB hb3 jA2 jA3 jR3 f3 f2 jR2 JA1 JR1 HPW HUW HB1
  go_upto_region 8 with fail
  rw [← HW3.out, HBB.out]
  cases hn : numP ((s.data.toList.drop k).take (1 + m)) with
  | none =>
    have hO : o = .inl 172 := by rw [← HO.out, hn]
    have HOO := Lib.hid hO
    have HC := Lib.hid (parse_no T hTz (HP2.out (by rw [HTD.out]; exact hn)) W3 (HGD.out W3 F3.out))
    clear hO hn HO HP1 HP2 HGD
    go_wp2_with (go_at_call 28; refine (HC.out).mono ?_; rintro e w4 ⟨n4, N4, rfl, b4⟩; refine Hid.out ?_)
    refine Lib.hid ?_
    have jA4 := (b4.block A (blk_lt JA3.out)).trans JA3.out
    obtain ⟨X1, st1, k1, g1, l1⟩ := put_four jA4 rfl zW rfl (by simp [Value.oneCell'])
    have hAl := HA.out
    have e1 : Fr w X1 (fun j => j = R) := (F3.out.below b4).step g1 (fun j hj => .inr (by omega))
    have L1 := Lib.hid l1
    have E1 := Lib.hid e1
    clear k1 g1 l1 e1 hAl jA4 b4
    go_wp2_with (first | refine wpl_store _ _ rfl rfl rfl st1 ?_)
    exact bodyPost_ret (results_two rfl rfl rfl L1.out) rfl (by rw [HOO.out]; exact ⟨rfl, E1.out⟩)
  | some v =>
    have hO : o = .inr (2, (s.data.toList.drop k).take (1 + m), v, 1 + m) := by rw [← HO.out, hn]
    have HOO := Lib.hid hO
    have HC := Lib.hid (parse_ok T hTz v (HP1.out v (by rw [HTD.out]; exact hn)) W3)
    clear hO hn HO HP1 HP2 HGD
    go_wp2_with (go_at_call 28; refine (HC.out).mono ?_; rintro e w4 ⟨rfl, b4⟩; refine Hid.out ?_)
    refine Lib.hid ?_
    have jA4 := (b4.block A (blk_lt JA3.out)).trans JA3.out
    have jB4 := (b4.block B (blk_lt JB.out)).trans JB.out
    have jR4 := (b4.block R (blk_lt JR3.out)).trans JR3.out
    have hAl := HA.out
    have f4 := F3.out.below b4
    have cN := cell_blk jB4 3
    have fN := frozen_blk jB4 3
    obtain ⟨W5, hW5⟩ : ∃ W5, W5 = w4.setCell ⟨B, 3, none⟩ (.int .i64 v) := ⟨_, rfl⟩
    have jB5 : W5.heap[B]? = some (.cells #[.int .i64 2, .int .i64 k, .string T, .int .i64 v] 31 (0, 0)) := by rw [hW5]; exact set_blk jB4 _
    have jA5 : W5.heap[A]? = some (.cells zW 31 (0, 0)) := by rw [hW5, set_other (a := ⟨B, 3, none⟩) _ hAB]; exact jA4
    have jR5 : W5.heap[R]? = some (.cells #[.string s, .int .i64 en] 40 (0, 0)) := by rw [hW5, set_other (a := ⟨B, 3, none⟩) _ hRB]; exact jR4
    have hlB : w.heap.size ≤ B := HLB.out
    have f5 : Fr w W5 (fun j => j = R) := by rw [hW5]; exact Fr.set (S := fun j => j = R) (a := ⟨B, 3, none⟩) f4 (.inr hlB) _
    have hld := load_row (ty := 31) jB5 Tryd.underlying31 rfl (by kernel_rfl)
    obtain ⟨X2, st2, k2, g2, l2⟩ := put_four jA5 rfl #[.int .i64 2, .int .i64 k, .string T, .int .i64 v] rfl (by simp [Value.oneCell'])
    have e2 : Fr w X2 (fun j => j = R) := f5.step g2 (fun j hj => .inr (by omega))
    have jR6 : Rd X2 R s en := (g2.block R (blk_lt jR5) hRA).trans jR5
    have L2 := Lib.hid l2
    have E2 := Lib.hid e2
    have JR6 := Lib.hid jR6
    have HW5 := Lib.hid hW5
    clear hW5 jA4 jB4 jR4 hAl f4 jB5 jA5 jR5 f5 k2 g2 l2 e2 jR6 b4 hlB
    go_upto_region 12 with fail
    rw [← HW5.out]
    go_wp2_with (first | refine wpl_load _ rfl rfl hld ?_ | refine wpl_store _ _ rfl rfl rfl st2 ?_)
    exact bodyPost_ret (results_two rfl rfl rfl L2.out) rfl (by rw [HOO.out]; exact ⟨by rw [← HE.out]; rfl, by have := JR6.out; rw [← HEN.out] at this; exact this, E2.out⟩)
end Go.Proofs.YtcmdpahchbbicaaDoor
