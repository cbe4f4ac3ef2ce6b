import Derived.Test.YtkfnphhoebknnaaQBc
import Derived.Test.YtkfnphhoebknnaaQBo
namespace Go.Proofs.Ytkfnphhoebknnaa
open Go.RowKit
section
variable {w : World}
set_option maxHeartbeats 1000000 in
theorem let_any (c : UInt8) : Calls Try.prog 66 #[.int .u8 c.toNat] w fun e w' => e = .returned (.bool (letB c)) ∧ w' = w := by
  by_cases h1 : 97 ≤ c.toNat
  · have k1 : (97 : Int) ≤ c.toNat := by omega
    by_cases h2 : c.toNat ≤ 122
    · have k2 : (c.toNat : Int) ≤ 122 := by omega
      go_enter Try.func66, Try.ntmps66
      go_wp2
      go_ret
      exact ⟨by simp [letB, h1, h2], rfl⟩
    · have k2 : ¬ (c.toNat : Int) ≤ 122 := by omega
      go_enter Try.func66, Try.ntmps66
      go_wp2
      go_ret
      exact ⟨by simp [letB, h1, h2], rfl⟩
  · have k1 : ¬ (97 : Int) ≤ c.toNat := by omega
    go_enter Try.func66, Try.ntmps66
    go_wp2
    go_ret
    exact ⟨by simp [letB, h1], rfl⟩
set_option maxHeartbeats 1000000 in
theorem dig_any (c : UInt8) : Calls Try.prog 67 #[.int .u8 c.toNat] w fun e w' => e = .returned (.bool (digB c)) ∧ w' = w := by
  by_cases h1 : 48 ≤ c.toNat
  · have k1 : (48 : Int) ≤ c.toNat := by omega
    by_cases h2 : c.toNat ≤ 57
    · have k2 : (c.toNat : Int) ≤ 57 := by omega
      go_enter Try.func67, Try.ntmps67
      go_wp2
      go_ret
      exact ⟨by simp [digB, h1, h2], rfl⟩
    · have k2 : ¬ (c.toNat : Int) ≤ 57 := by omega
      go_enter Try.func67, Try.ntmps67
      go_wp2
      go_ret
      exact ⟨by simp [digB, h1, h2], rfl⟩
  · have k1 : ¬ (48 : Int) ≤ c.toNat := by omega
    go_enter Try.func67, Try.ntmps67
    go_wp2
    go_ret
    exact ⟨by simp [digB, h1], rfl⟩
set_option maxHeartbeats 1000000 in
theorem kind_any (k : Int) : Calls Try.prog 70 #[.int .i64 k] w fun e w' => e = .returned (.bool (kindB k)) ∧ w' = w := by
  by_cases h1 : k = 1
  · subst h1
    go_enter Try.func70, Try.ntmps70
    go_wp2
    go_ret
    exact ⟨rfl, rfl⟩
  · by_cases h2 : k = 2
    · subst h2
      go_enter Try.func70, Try.ntmps70
      go_wp2
      go_ret
      exact ⟨rfl, rfl⟩
    · go_enter Try.func70, Try.ntmps70
      go_wp2
      go_ret
      exact ⟨by simp [kindB, h1, h2], rfl⟩
theorem empty_iff (s : ByteArray) : s.toList.isEmpty = decide (s.size = 0) := by
  rw [ByteArray.toList_eq]
  have hl := nameB_len s
  cases e : s.data.toList with
  | nil => rw [e] at hl; simp at hl; simp [← hl]
  | cons c r =>
    rw [e, List.length_cons] at hl
    have : ¬ s.size = 0 := by omega
    simp [this]
set_option maxHeartbeats 2000000 in
set_option maxRecDepth 100000 in
theorem name_any (s : ByteArray) : Calls Try.prog 45 #[.string s] w fun e w' => e = .returned (.bool (nameB s)) ∧ w' = w := by
  have he := empty_iff s
  by_cases h0 : s.size = 0
  · rw [decide_eq_true h0] at he
    have HE := Lib.hid (nameB_no (.inl h0))
    clear h0
    go_enter Try.func45, Try.ntmps45
    go_wp2
    go_ret
    exact ⟨by rw [HE.out]; rfl, rfl⟩
  · rw [decide_eq_false h0] at he
    by_cases h1 : 16 < s.size
    · have k1 : (16 : Int) < s.size := by omega
      have HE := Lib.hid (nameB_no (.inr h1))
      go_enter Try.func45, Try.ntmps45
      go_wp2
      go_ret
      exact ⟨by rw [HE.out]; rfl, rfl⟩
    · have k1 : ¬ (16 : Int) < s.size := by omega
      have p0 : 0 < s.size := by omega
      have p1 : (0 : Int) < s.size := by omega
      have HI := Lib.hid (nameB_iff p0 (by omega))
      have hcall := let_any (w := w) s[0]
      cases hl : letB s[0] with
      | false =>
        rw [hl] at hcall
        have HE : Hid (nameB s = false) := by
          cases q : nameB s with
          | false => exact Lib.hid rfl
          | true => rw [(HI.out.1 q).1] at hl; cases hl
        clear hl
        go_enter Try.func45, Try.ntmps45
        go_wp2_with fail
        refine hcall.mono ?_
        rintro e w1 ⟨rfl, rfl⟩
        go_wp2
        go_ret
        exact ⟨by rw [HE.out]; rfl, rfl⟩
      | true =>
        rw [hl] at hcall
        have HL := Lib.hid hl
        clear hl
        go_enter Try.func45, Try.ntmps45
        go_wp2_with fail
        refine hcall.mono ?_
        rintro e w1 ⟨rfl, rfl⟩
        clear hcall
        go_wp2
        go_loopw [19] (fun iv wr => ∃ i : Nat, i ≤ s.size ∧ iv = .int .i64 (i : Int) ∧ (∀ j (hj : j < s.size), j < i → chB s[j] = true) ∧ wr = w1) (fun iv _ => s.size - (intOf iv).toNat)
        case atStart => exact ⟨0, Nat.zero_le _, rfl, fun j _ hj => by omega, rfl⟩
        case round =>
          obtain ⟨i, hi, rfl, hno, rfl⟩ := hrel
          have HN := Lib.hid hno
          clear hno
          by_cases hlt : i < s.size
          · have k2 : (0 : Int) ≤ i := by omega
            have k3 : (i : Int) < s.size := by omega
            have hc1 := let_any (w := wr) s[i]
            have hc2 := dig_any (w := wr) s[i]
            have HNO : Hid (chB s[i] = false → nameB s = false) := fun q => by
              cases z : nameB s with
              | false => rfl
              | true => rw [(HI.out.1 z).2 i hlt] at q; cases q
            have HYES : Hid (chB s[i] = true → ∀ j (hj : j < s.size), j < i + 1 → chB s[j] = true) := fun q j hj hji => by
              rcases Nat.lt_or_ge j i with z | z
              · exact HN.out j hj z
              · obtain rfl : j = i := by omega
                exact q
            obtain ⟨b, hb⟩ : ∃ b, s[i] = b := ⟨_, rfl⟩
            rw [hb] at hc1 hc2 HNO HYES
            cases q1 : letB b with
            | true =>
              rw [q1] at hc1
              have HY := Lib.hid (HYES.out (by simp [chB, q1]))
              clear q1 hc2 HNO HYES
              go_wp2_with fail
              refine hc1.mono ?_
              rintro e w2 ⟨rfl, rfl⟩
              clear hc1
              go_wp2
              go_roundw
              case rel => exact ⟨i + 1, hlt, by go_num, HY.out, by trivial⟩
              case measure => simp [intOf]; omega
            | false =>
              rw [q1] at hc1
              cases q2 : digB b with
              | true =>
                rw [q2] at hc2
                have HY := Lib.hid (HYES.out (by simp [chB, q2]))
                clear q1 q2 HNO HYES
                go_wp2_with fail
                refine hc1.mono ?_
                rintro e w2 ⟨rfl, rfl⟩
                clear hc1
                go_wp2_with fail
                refine hc2.mono ?_
                rintro e w3 ⟨rfl, rfl⟩
                clear hc2
                go_wp2
                go_roundw
                case rel => exact ⟨i + 1, hlt, by go_num, HY.out, by trivial⟩
                case measure => simp [intOf]; omega
              | false =>
                rw [q2] at hc2
                by_cases q3 : b.toNat = 95
                · have HY := Lib.hid (HYES.out (by simp [chB, q3]))
                  have k4 : (b.toNat : Int) = 95 := by omega
                  rw [k4] at hc1 hc2
                  clear q1 q2 q3 HNO HYES
                  go_wp2_with fail
                  refine hc1.mono ?_
                  rintro e w2 ⟨rfl, rfl⟩
                  clear hc1
                  go_wp2_with fail
                  refine hc2.mono ?_
                  rintro e w3 ⟨rfl, rfl⟩
                  clear hc2
                  go_wp2
                  go_roundw
                  case rel => exact ⟨i + 1, hlt, by go_num, HY.out, by trivial⟩
                  case measure => simp [intOf]; omega
                · have k4 : ¬ (b.toNat : Int) = 95 := by omega
                  have HY := Lib.hid (HNO.out (by simp [chB, q1, q2, q3]))
                  clear q1 q2 q3 HNO HYES
                  go_wp2_with fail
                  refine hc1.mono ?_
                  rintro e w2 ⟨rfl, rfl⟩
                  clear hc1
                  go_wp2_with fail
                  refine hc2.mono ?_
                  rintro e w3 ⟨rfl, rfl⟩
                  clear hc2
                  go_wp2
                  go_ret
                  exact ⟨by rw [HY.out]; rfl, rfl⟩
          · have k3 : ¬ (i : Int) < s.size := by omega
            have HY : Hid (nameB s = true) := HI.out.2 ⟨HL.out, fun j hj => HN.out j hj (by omega)⟩
            go_wp2
            go_ret
            exact ⟨by rw [HY.out]; rfl, rfl⟩
set_option maxHeartbeats 1000000 in
theorem fit_any (v : Vl) (k : Int) : Calls Try.prog 71 #[vlV v, .int .i64 k] w fun e w' => e = .returned (.bool (fitB v k)) ∧ Below w.heap.size w w' := by
  obtain ⟨W, hW⟩ : ∃ W, W = w.alloc (.cells #[.int .i64 v.k, .int .i64 v.n, .string v.s] 37) := ⟨_, rfl⟩
  have hb : Below w.heap.size w W := by rw [hW]; exact bnew _ _
  obtain ⟨Y, hY⟩ : ∃ Y, w.heap.size = Y := ⟨_, rfl⟩
  have jY : W.heap[Y]? = some (.cells #[.int .i64 v.k, .int .i64 v.n, .string v.s] 37 (0, 0)) := by rw [hW, ← hY]; exact heap_alloc_new w _
  have c0 : W.cell? ⟨Y, 0, none⟩ = some (.int .i64 v.k) := cell_blk jY 0
  have c1 : W.cell? ⟨Y, 1, none⟩ = some (.int .i64 v.n) := cell_blk jY 1
  have c2 : W.cell? ⟨Y, 2, none⟩ = some (.string v.s) := cell_blk jY 2
  have hcall := check_any v.k v.n v.s W
  obtain ⟨r, hr⟩ : ∃ r, rightB v.k v.n v.s = r := ⟨_, rfl⟩
  have HF : Hid (fitB v k = (r && (decide (v.k = 0) || decide (v.k = k)))) := by rw [← hr]; exact Lib.hid rfl
  rw [hr] at hcall
  have HW := Lib.hid hW
  have HY := Lib.hid hY
  have HB := Lib.hid hb
  have HC := Lib.hid c0
  clear hW hY hb jY hr
  cases r with
  | false =>
    go_enter Try.func71, Try.ntmps71
    go_upto_region 1 with fail
    rw [← HW.out, HY.out]
    go_wp2_with fail
    refine hcall.mono ?_
    rintro e w1 ⟨rfl, b1⟩
    clear hcall
    go_wp2
    go_ret
    exact ⟨by rw [HF.out]; rfl, bgo HB.out b1⟩
  | true =>
    go_enter Try.func71, Try.ntmps71
    go_upto_region 1 with fail
    rw [← HW.out, HY.out]
    go_wp2_with fail
    refine hcall.mono ?_
    rintro e w1 ⟨rfl, b1⟩
    have d0 := cell_on b1 HC.out
    have HB1 := Lib.hid b1
    clear hcall b1 c0 c1 c2
    obtain ⟨q, hq⟩ : ∃ q, v.k = q := ⟨_, rfl⟩
    rw [hq] at d0 HF
    by_cases h1 : q = 0
    · subst h1
      go_wp2
      go_ret
      exact ⟨by rw [HF.out]; rfl, bgo HB.out HB1.out⟩
    · by_cases h2 : q = k
      · subst h2
        go_wp2
        go_ret
        exact ⟨by rw [HF.out]; simp [h1], bgo HB.out HB1.out⟩
      · go_wp2
        go_ret
        exact ⟨by rw [HF.out]; simp [h1, h2], bgo HB.out HB1.out⟩
end
end Go.Proofs.Ytkfnphhoebknnaa
namespace Go.Proofs.Ytkfnphhoebknnaa
open Go.RowKit
section
variable {w : World}
theorem pt_lt {a : Addr} {v : Value} (c0 : w.cell? a = some v) : a.block < w.heap.size := by
  refine Classical.byContradiction fun z => ?_
  unfold World.cell? at c0
  rw [Array.getElem?_eq_none (by simpa using z)] at c0
  cases c0
theorem field156_0 (a b c : Value) (X : World) : (Instr.field 129 (.agg #[a, b, c]) 0).run Try.prog X = .ok a X := by kernel_rfl
theorem field156_2 (a b c : Value) (X : World) : (Instr.field 129 (.agg #[a, b, c]) 2).run Try.prog X = .ok c X := by kernel_rfl
theorem bdrew {X : World} (h : Below w.heap.size w X) : Below w.heap.size w X.drew := ⟨h.os, h.tape, h.output, h.size, h.block⟩
theorem bdrewN {X : World} (h : Below w.heap.size w X) (n : Nat) : Below w.heap.size w (X.drewN n) := ⟨h.os, h.tape, h.output, h.size, h.block⟩
theorem goes84 : Goes 84 := fun X a => by go_simp
theorem goes49 : Goes 49 := fun X a => by go_simp
theorem goes53 : Goes 53 := fun X a => by go_simp
theorem goes69 : Goes 69 := fun X a => by go_simp
theorem goes79 : Goes 79 := fun X a => by go_simp
theorem goes82 : Goes 82 := fun X a => by go_simp
theorem goes95 : Goes 95 := fun X a => by go_simp
theorem goes96 : Goes 96 := fun X a => by go_simp
set_option maxHeartbeats 2000000 in
set_option maxRecDepth 100000 in
theorem ofC_any {x : Col} {B q : Nat} (h : Pt colE w B q x) : Calls Try.prog 56 #[.pointer (some ⟨B, q, none⟩)] w fun e w' => e = .returned (.agg #[.int .i64 x.id, .string x.nm, .pointer (some ⟨B, q + 3, none⟩)]) ∧ Below w.heap.size w w' := by
  obtain ⟨cs, hE, hc⟩ := h
  cases hE
  have c0 : w.cell? ⟨B, q, none⟩ = some (.int .i64 x.id) := hc 0 _ rfl
  have c1 : w.cell? ⟨B, q + 1, none⟩ = some (.string x.nm) := hc 1 _ rfl
  have hbl := pt_lt c0
  have hne : ¬ B = w.heap.size := by simp only at hbl; omega
  clear hc
  go_enter Try.func56, Try.ntmps56
  go_wp2
  go_region
  go_wp2
  have hj := heap_alloc_new w (.cells #[.int .i64 x.id, .string x.nm, .pointer (some ⟨B, q + 3, none⟩)] 129)
  refine bodyPost_ret (results_one rfl rfl (load_var (w := (w.alloc _).drew) hj Try.underlying129 rfl size129)) rfl ?_
  exact ⟨rfl, bdrew (bnew _ _)⟩
set_option maxHeartbeats 2000000 in
set_option maxRecDepth 100000 in
theorem ofI_any {x : Ix} {B q : Nat} (h : Pt ixE w B q x) : Calls Try.prog 58 #[.pointer (some ⟨B, q, none⟩)] w fun e w' => e = .returned (.agg #[.int .i64 x.id, .string x.nm, .pointer (some ⟨B, q + 4, none⟩)]) ∧ Below w.heap.size w w' := by
  obtain ⟨cs, hE, hc⟩ := h
  cases hE
  have c0 : w.cell? ⟨B, q, none⟩ = some (.int .i64 x.id) := hc 0 _ rfl
  have c1 : w.cell? ⟨B, q + 1, none⟩ = some (.string x.nm) := hc 1 _ rfl
  have hbl := pt_lt c0
  have hne : ¬ B = w.heap.size := by simp only at hbl; omega
  clear hc
  go_enter Try.func58, Try.ntmps58
  go_wp2
  go_region
  go_wp2
  have hj := heap_alloc_new w (.cells #[.int .i64 x.id, .string x.nm, .pointer (some ⟨B, q + 4, none⟩)] 129)
  refine bodyPost_ret (results_one rfl rfl (load_var (w := (w.alloc _).drew) hj Try.underlying129 rfl size129)) rfl ?_
  exact ⟨rfl, bdrew (bnew _ _)⟩
set_option maxHeartbeats 2000000 in
set_option maxRecDepth 100000 in
theorem ofK_any {x : Fk} {B q : Nat} (h : Pt fkE w B q x) : Calls Try.prog 60 #[.pointer (some ⟨B, q, none⟩)] w fun e w' => e = .returned (.agg #[.int .i64 x.id, .string x.nm, .pointer (some ⟨B, q + 4, none⟩)]) ∧ Below w.heap.size w w' := by
  obtain ⟨cs, hE, hc⟩ := h
  cases hE
  have c0 : w.cell? ⟨B, q, none⟩ = some (.int .i64 x.id) := hc 0 _ rfl
  have c1 : w.cell? ⟨B, q + 1, none⟩ = some (.string x.nm) := hc 1 _ rfl
  have hbl := pt_lt c0
  have hne : ¬ B = w.heap.size := by simp only at hbl; omega
  clear hc
  go_enter Try.func60, Try.ntmps60
  go_wp2
  go_region
  go_wp2
  have hj := heap_alloc_new w (.cells #[.int .i64 x.id, .string x.nm, .pointer (some ⟨B, q + 4, none⟩)] 129)
  refine bodyPost_ret (results_one rfl rfl (load_var (w := (w.alloc _).drew) hj Try.underlying129 rfl size129)) rfl ?_
  exact ⟨rfl, bdrew (bnew _ _)⟩
end
end Go.Proofs.Ytkfnphhoebknnaa
