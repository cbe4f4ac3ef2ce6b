import Derived.Test.YtkfnphhoebknnaaQBe
namespace Go.Proofs.Ytkfnphhoebknnaa
open Go.RowKit
section
variable {w : World}
theorem letB_iff {c : UInt8} : letB c = true ↔ 97 ≤ c.toNat ∧ c.toNat ≤ 122 := by
  unfold letB
  simp only [Bool.and_eq_true, decide_eq_true_eq]
theorem chB_iff {c : UInt8} : chB c = true ↔ ((97 ≤ c.toNat ∧ c.toNat ≤ 122) ∨ (48 ≤ c.toNat ∧ c.toNat ≤ 57)) ∨ c.toNat = 95 := by
  unfold chB letB digB
  simp only [Bool.or_eq_true, Bool.and_eq_true, decide_eq_true_eq]
theorem kind_ref (k : Int) : Calls Try.prog 24 #[.int .i64 k] w fun e w' => e = .returned (.bool (kindB k)) ∧ w' = w := by
  by_cases h1 : k = 1
  · subst h1
    go_enter Try.func24, Try.ntmps24
    go_wp2
    go_ret
    exact ⟨rfl, rfl⟩
  · by_cases h2 : k = 2
    · subst h2
      go_enter Try.func24, Try.ntmps24
      go_wp2
      go_ret
      exact ⟨rfl, rfl⟩
    · have g1 : (k == 1) = false := by simpa using h1
      have g2 : (k == 2) = false := by simpa using h2
      go_enter Try.func24, Try.ntmps24
      go_wp2
      go_ret
      exact ⟨by simp [kindB, h1, h2], rfl⟩
set_option maxHeartbeats 1000000 in
theorem fits_ref (v : Vl) (k : Int) : Calls Try.prog 25 #[vlV v, .int .i64 k] w fun e w' => e = .returned (.bool (fitB v k)) ∧ Below w.heap.size w w' := by
  obtain ⟨W, hW⟩ : ∃ W, W = w.alloc (.cells #[.int .i64 v.k, .int .i64 v.n, .string v.s] 37) := ⟨_, rfl⟩
  have hb : Below w.heap.size w W := by rw [hW]; exact bnew _ _
  obtain ⟨Y, hY⟩ : ∃ Y, w.heap.size = Y := ⟨_, rfl⟩
  have jY : W.heap[Y]? = some (.cells #[.int .i64 v.k, .int .i64 v.n, .string v.s] 37 (0, 0)) := by rw [hW, ← hY]; exact heap_alloc_new w _
  have c0 : W.cell? ⟨Y, 0, none⟩ = some (.int .i64 v.k) := cell_blk jY 0
  have c1 : W.cell? ⟨Y, 1, none⟩ = some (.int .i64 v.n) := cell_blk jY 1
  have c2 : W.cell? ⟨Y, 2, none⟩ = some (.string v.s) := cell_blk jY 2
  have hcall := right_any v.k v.n v.s W
  obtain ⟨r, hr⟩ : ∃ r, rightB v.k v.n v.s = r := ⟨_, rfl⟩
  have HF : Hid (fitB v k = (r && (decide (v.k = 0) || decide (v.k = k)))) := by rw [← hr]; exact Lib.hid rfl
  rw [hr] at hcall
  have HW := Lib.hid hW
  have HY := Lib.hid hY
  have HB := Lib.hid hb
  have HC := Lib.hid c0
  clear hW hY hb jY hr
  cases r with
  | false =>
    go_enter Try.func25, Try.ntmps25
    go_upto_region 1 with fail
    rw [← HW.out, HY.out]
    go_wp2_with fail
    refine hcall.mono ?_
    rintro e w1 ⟨rfl, b1⟩
    clear hcall
    go_wp2
    go_ret
    exact ⟨by rw [HF.out]; rfl, bgo HB.out b1⟩
  | true =>
    go_enter Try.func25, Try.ntmps25
    go_upto_region 1 with fail
    rw [← HW.out, HY.out]
    go_wp2_with fail
    refine hcall.mono ?_
    rintro e w1 ⟨rfl, b1⟩
    have d0 := cell_on b1 HC.out
    have HB1 := Lib.hid b1
    clear hcall b1 c0 c1 c2
    obtain ⟨q, hq⟩ : ∃ q, v.k = q := ⟨_, rfl⟩
    rw [hq] at d0 HF
    by_cases h1 : q = 0
    · subst h1
      go_wp2
      go_ret
      exact ⟨by rw [HF.out]; rfl, bgo HB.out HB1.out⟩
    · have g1 : (q == 0) = false := by simpa using h1
      by_cases h2 : q = k
      · subst h2
        go_wp2
        go_ret
        exact ⟨by rw [HF.out]; simp [h1], bgo HB.out HB1.out⟩
      · have g2 : (q == k) = false := by simpa using h2
        go_wp2
        go_ret
        exact ⟨by rw [HF.out]; simp [h1, h2], bgo HB.out HB1.out⟩
set_option maxHeartbeats 4000000 in
set_option maxRecDepth 100000 in
theorem named_ref (s : ByteArray) : Calls Try.prog 21 #[.string s] w fun e w' => e = .returned (.bool (nameB s)) ∧ w' = w := by
  by_cases h0 : s.size = 0
  · have HE := Lib.hid (nameB_no (.inl h0))
    have g0 : ((s.size : Int) == 0) = true := by simp [h0]
    have g1 : (s.size : Int) = 0 := by omega
    go_enter Try.func21, Try.ntmps21
    go_wp2
    go_ret
    exact ⟨by rw [HE.out]; rfl, rfl⟩
  · have g0 : ((s.size : Int) == 0) = false := by rw [beq_eq_false_iff_ne]; omega
    have g1 : ¬ (s.size : Int) = 0 := by omega
    by_cases h1 : 16 < s.size
    · have k1 : (16 : Int) < s.size := by omega
      have HE := Lib.hid (nameB_no (.inr h1))
      go_enter Try.func21, Try.ntmps21
      go_wp2
      go_ret
      exact ⟨by rw [HE.out]; rfl, rfl⟩
    · have k1 : ¬ (16 : Int) < s.size := by omega
      have p0 : 0 < s.size := by omega
      have HI := Lib.hid (nameB_iff p0 (by omega))
      go_enter Try.func21, Try.ntmps21
      go_wp2
      go_loopw [3] (fun iv wr => ∃ i : Nat, i ≤ s.size ∧ iv = .int .i64 (i : Int) ∧ (∀ j (hj : j < s.size), j < i → chB s[j] = true ∧ (j = 0 → letB s[j] = true)) ∧ wr = w) (fun iv _ => s.size - (intOf iv).toNat)
      case atStart => exact ⟨0, Nat.zero_le _, rfl, fun j _ hj => absurd hj (Nat.not_lt_zero _), by first | rfl | trivial⟩
      case round =>
        obtain ⟨i, hi, rfl, hno, hwr⟩ := hrel
        have hV : w = wr := hwr.symm
        clear hwr
        subst hV
        have HN := Lib.hid hno
        clear hno
        by_cases hlt : i < s.size
        · have k2 : (0 : Int) ≤ i := by omega
          have k3 : (i : Int) < s.size := by omega
          have HNO : Hid (chB s[i] = false → nameB s = false) := Lib.hid fun q => by
            cases z : nameB s with
            | false => rfl
            | true => rw [(HI.out.1 z).2 i hlt] at q; cases q
          have HN0 : Hid (i = 0 → letB s[i] = false → nameB s = false) := Lib.hid fun e q => by
            subst e
            cases z : nameB s with
            | false => rfl
            | true => rw [(HI.out.1 z).1] at q; cases q
          have HYES : Hid (chB s[i] = true → (i = 0 → letB s[i] = true) → ∀ j (hj : j < s.size), j < i + 1 → chB s[j] = true ∧ (j = 0 → letB s[j] = true)) := Lib.hid fun q q0 j hj hji => by
            rcases Nat.lt_or_ge j i with z | z
            · exact HN.out j hj z
            · obtain rfl : j = i := by omega
              exact ⟨q, q0⟩
          obtain ⟨b, hb⟩ : ∃ b, s[i] = b := ⟨_, rfl⟩
          rw [hb] at HNO HN0 HYES
          have hall : (b.toNat < 48) ∨ (48 ≤ b.toNat ∧ b.toNat ≤ 57) ∨ (58 ≤ b.toNat ∧ b.toNat ≤ 94) ∨ (b.toNat = 95) ∨ (b.toNat = 96) ∨ (97 ≤ b.toNat ∧ b.toNat ≤ 122) ∨ (123 ≤ b.toNat) := by omega
          rcases hall with z | z | z | z | z | z | z
          · have p1 : ¬ 97 ≤ ((b.toNat : Nat) : Int) := by omega
            have p2 : ((b.toNat : Nat) : Int) ≤ 122 := by omega
            have p3 : ¬ ((b.toNat : Nat) : Int) = 95 := by omega
            have p4 : ¬ 48 ≤ ((b.toNat : Nat) : Int) := by omega
            have p5 : ((b.toNat : Nat) : Int) ≤ 57 := by omega
            have p6 : ((((b.toNat) : Nat) : Int) == 95) = false := by rw [beq_eq_false_iff_ne]; omega
            have HE := Lib.hid (HNO.out (Bool.eq_false_iff.2 (fun q => by have := chB_iff.1 q; omega)))
            clear z HNO HN0 HYES HN
            go_wp2
            go_ret
            exact ⟨by rw [HE.out]; rfl, rfl⟩
          · have p1 : ¬ 97 ≤ ((b.toNat : Nat) : Int) := by omega
            have p2 : ((b.toNat : Nat) : Int) ≤ 122 := by omega
            have p3 : ¬ ((b.toNat : Nat) : Int) = 95 := by omega
            have p4 : 48 ≤ ((b.toNat : Nat) : Int) := by omega
            have p5 : ((b.toNat : Nat) : Int) ≤ 57 := by omega
            have p6 : ((((b.toNat) : Nat) : Int) == 95) = false := by rw [beq_eq_false_iff_ne]; omega
            by_cases hi0 : i = 0
            · have HE := Lib.hid (HN0.out hi0 (Bool.eq_false_iff.2 (fun q => by have := letB_iff.1 q; omega)))
              subst hi0
              clear z HNO HN0 HYES HN
              go_wp2
              go_ret
              exact ⟨by rw [HE.out]; rfl, rfl⟩
            · have HY := Lib.hid (HYES.out (chB_iff.2 (by omega)) (fun q => absurd q hi0))
              have g2 : ((i : Int) == 0) = false := by rw [beq_eq_false_iff_ne]; omega
              have g3 : ¬ (i : Int) = 0 := by omega
              clear z HNO HN0 HYES HN
              go_wp2
              go_roundw
              case rel => exact ⟨i + 1, hlt, by go_num, HY.out, by first | rfl | trivial⟩
              case measure => simp [intOf]; omega
          · have p1 : ¬ 97 ≤ ((b.toNat : Nat) : Int) := by omega
            have p2 : ((b.toNat : Nat) : Int) ≤ 122 := by omega
            have p3 : ¬ ((b.toNat : Nat) : Int) = 95 := by omega
            have p4 : 48 ≤ ((b.toNat : Nat) : Int) := by omega
            have p5 : ¬ ((b.toNat : Nat) : Int) ≤ 57 := by omega
            have p6 : ((((b.toNat) : Nat) : Int) == 95) = false := by rw [beq_eq_false_iff_ne]; omega
            have HE := Lib.hid (HNO.out (Bool.eq_false_iff.2 (fun q => by have := chB_iff.1 q; omega)))
            clear z HNO HN0 HYES HN
            go_wp2
            go_ret
            exact ⟨by rw [HE.out]; rfl, rfl⟩
          · have p1 : ¬ 97 ≤ ((b.toNat : Nat) : Int) := by omega
            have p2 : ((b.toNat : Nat) : Int) ≤ 122 := by omega
            have p3 : ((b.toNat : Nat) : Int) = 95 := by omega
            have p4 : 48 ≤ ((b.toNat : Nat) : Int) := by omega
            have p5 : ¬ ((b.toNat : Nat) : Int) ≤ 57 := by omega
            have p6 : ((((b.toNat) : Nat) : Int) == 95) = true := by rw [beq_iff_eq]; omega
            by_cases hi0 : i = 0
            · have HE := Lib.hid (HN0.out hi0 (Bool.eq_false_iff.2 (fun q => by have := letB_iff.1 q; omega)))
              subst hi0
              clear z HNO HN0 HYES HN
              go_wp2
              go_ret
              exact ⟨by rw [HE.out]; rfl, rfl⟩
            · have HY := Lib.hid (HYES.out (chB_iff.2 (by omega)) (fun q => absurd q hi0))
              have g2 : ((i : Int) == 0) = false := by rw [beq_eq_false_iff_ne]; omega
              have g3 : ¬ (i : Int) = 0 := by omega
              clear z HNO HN0 HYES HN
              go_wp2
              go_roundw
              case rel => exact ⟨i + 1, hlt, by go_num, HY.out, by first | rfl | trivial⟩
              case measure => simp [intOf]; omega
          · have p1 : ¬ 97 ≤ ((b.toNat : Nat) : Int) := by omega
            have p2 : ((b.toNat : Nat) : Int) ≤ 122 := by omega
            have p3 : ¬ ((b.toNat : Nat) : Int) = 95 := by omega
            have p4 : 48 ≤ ((b.toNat : Nat) : Int) := by omega
            have p5 : ¬ ((b.toNat : Nat) : Int) ≤ 57 := by omega
            have p6 : ((((b.toNat) : Nat) : Int) == 95) = false := by rw [beq_eq_false_iff_ne]; omega
            have HE := Lib.hid (HNO.out (Bool.eq_false_iff.2 (fun q => by have := chB_iff.1 q; omega)))
            clear z HNO HN0 HYES HN
            go_wp2
            go_ret
            exact ⟨by rw [HE.out]; rfl, rfl⟩
          · have p1 : 97 ≤ ((b.toNat : Nat) : Int) := by omega
            have p2 : ((b.toNat : Nat) : Int) ≤ 122 := by omega
            have p3 : ¬ ((b.toNat : Nat) : Int) = 95 := by omega
            have p4 : 48 ≤ ((b.toNat : Nat) : Int) := by omega
            have p5 : ¬ ((b.toNat : Nat) : Int) ≤ 57 := by omega
            have p6 : ((((b.toNat) : Nat) : Int) == 95) = false := by rw [beq_eq_false_iff_ne]; omega
            have HY := Lib.hid (HYES.out (chB_iff.2 (by omega)) (fun _ => letB_iff.2 (by omega)))
            clear z HNO HN0 HYES HN
            go_wp2
            go_roundw
            case rel => exact ⟨i + 1, hlt, by go_num, HY.out, by first | rfl | trivial⟩
            case measure => simp [intOf]; omega
          · have p1 : 97 ≤ ((b.toNat : Nat) : Int) := by omega
            have p2 : ¬ ((b.toNat : Nat) : Int) ≤ 122 := by omega
            have p3 : ¬ ((b.toNat : Nat) : Int) = 95 := by omega
            have p4 : 48 ≤ ((b.toNat : Nat) : Int) := by omega
            have p5 : ¬ ((b.toNat : Nat) : Int) ≤ 57 := by omega
            have p6 : ((((b.toNat) : Nat) : Int) == 95) = false := by rw [beq_eq_false_iff_ne]; omega
            have HE := Lib.hid (HNO.out (Bool.eq_false_iff.2 (fun q => by have := chB_iff.1 q; omega)))
            clear z HNO HN0 HYES HN
            go_wp2
            go_ret
            exact ⟨by rw [HE.out]; rfl, rfl⟩
        · have k3 : ¬ (i : Int) < s.size := by omega
          have HY : Hid (nameB s = true) := Lib.hid (HI.out.2 ⟨(HN.out 0 p0 (by omega)).2 rfl, fun j hj => (HN.out j hj (by omega)).1⟩)
          go_wp2
          go_ret
          exact ⟨by rw [HY.out]; rfl, rfl⟩
end
end Go.Proofs.Ytkfnphhoebknnaa
