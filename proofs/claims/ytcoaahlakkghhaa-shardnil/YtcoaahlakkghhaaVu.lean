/- The walks of the document's Stands and Within. -/
import Derived.Test.YtcoaahlakkghhaaVs
namespace Go.Proofs.Ytcoaahlakkghhaa
open Go.RowKit
theorem cb_end1 (a b : List UInt8) (h : a = []) (h2 : b ≠ []) : Lib.compareBytes a b = -1 := by
  subst h
  cases b with
  | nil => exact absurd rfl h2
  | cons x y => rfl
theorem cb_end2 (a b : List UInt8) (h : b = []) (h2 : a ≠ []) : Lib.compareBytes a b = 1 := by
  subst h
  cases a with
  | nil => exact absurd rfl h2
  | cons x y => rfl
theorem drop_atS (s : ByteArray) (k : Nat) (h : k < s.size) : s.data.toList.drop k = s[k] :: s.data.toList.drop (k + 1) := by
  rw [List.drop_eq_getElem_cons (by simpa using h)]; rfl
theorem drop_nil (s : ByteArray) (k : Nat) (h : ¬ k < s.size) : s.data.toList.drop k = [] := List.drop_eq_nil_of_le (by simp; omega)
theorem drop_ne (s : ByteArray) (k : Nat) (h : k < s.size) : s.data.toList.drop k ≠ [] := by rw [drop_atS s k h]; exact List.cons_ne_nil _ _

set_option maxHeartbeats 1000000 in
set_option maxRecDepth 100000 in
theorem stands_any (a b : ByteArray) (w : World) (ha : a.size ≤ maxLen) (hb : b.size ≤ maxLen) :
    Calls Try.prog 79 #[.string a, .string b] w fun e w' => e = .returned (.int .i64 (cb a b)) ∧ Below w.heap.size w w' := by
  unfold cb
  unfold maxLen at ha hb
  go_enter Try.func79, Try.ntmps79
  go_wp2
  go_loopw [5] (fun i wr => ∃ k : Nat, k ≤ a.size ∧ k ≤ b.size ∧ i = .int .i64 k ∧ Hid (Lib.compareBytes (a.data.toList.drop k) (b.data.toList.drop k) = Lib.compareBytes a.data.toList b.data.toList) ∧ Below w.heap.size w wr) (fun i _ => a.size - (intOf i).toNat)
  case atStart => exact ⟨0, by omega, by omega, rfl, rfl, Below.refl _ _⟩
  case round =>
    obtain ⟨k, hka, hkb, rfl, H, hw⟩ := hrel
    by_cases h1 : k < a.size
    · by_cases h2 : k < b.size
      · have e1 := drop_atS a k h1
        have e2 := drop_atS b k h2
        by_cases c1 : (a[k].toNat : Int) < (b[k].toNat : Int)
        · have HR : Hid (Lib.compareBytes a.data.toList b.data.toList = -1) := by
            have h := H.out
            rw [e1, e2, Lib.compareBytes, if_pos (UInt8.lt_iff_toNat_lt.2 (by omega))] at h
            exact h.symm
          clear e1 e2 H
          go_wp2
          go_quiet (fail)
          go_wp2
          go_ret
          rw [HR.out]
          exact ⟨rfl, below_draw hw _⟩
        · by_cases c2 : (b[k].toNat : Int) < (a[k].toNat : Int)
          · have HR : Hid (Lib.compareBytes a.data.toList b.data.toList = 1) := by
              have h := H.out
              rw [e1, e2, Lib.compareBytes, if_neg (by rw [UInt8.lt_iff_toNat_lt]; omega), if_pos (UInt8.lt_iff_toNat_lt.2 (by omega))] at h
              exact h.symm
            clear e1 e2 H
            go_wp2
            go_quiet (fail)
            go_wp2
            go_quiet (fail)
            go_wp2
            go_ret
            rw [HR.out]
            exact ⟨rfl, below_draw (below_draw hw _) _⟩
          · have HR : Hid (Lib.compareBytes (a.data.toList.drop (k + 1)) (b.data.toList.drop (k + 1)) = Lib.compareBytes a.data.toList b.data.toList) := by
              have h := H.out
              rw [e1, e2, Lib.compareBytes, if_neg (by rw [UInt8.lt_iff_toNat_lt]; omega), if_neg (by rw [UInt8.lt_iff_toNat_lt]; omega)] at h
              exact h
            clear e1 e2 H
            go_wp2
            go_quiet (fail)
            go_wp2
            go_quiet (fail)
            go_wp2
            exact ⟨⟨k + 1, by omega, by omega, by go_num, HR, below_draw hw _⟩, by simp [intOf]; omega⟩
      · have HR : Hid (Lib.compareBytes a.data.toList b.data.toList = 1) := by
          have h := H.out
          rw [cb_end2 _ _ (drop_nil b k h2) (drop_ne a k h1)] at h
          exact h.symm
        clear H
        go_wp2
        go_ret
        rw [HR.out]
        exact ⟨rfl, hw⟩
    · by_cases h2 : k < b.size
      · have HR : Hid (Lib.compareBytes a.data.toList b.data.toList = -1) := by
          have h := H.out
          rw [cb_end1 _ _ (drop_nil a k h1) (drop_ne b k h2)] at h
          exact h.symm
        clear H
        go_wp2
        go_ret
        rw [HR.out]
        exact ⟨rfl, hw⟩
      · have HR : Hid (Lib.compareBytes a.data.toList b.data.toList = 0) := by
          have h := H.out
          rw [drop_nil a k h1, drop_nil b k h2] at h
          exact h.symm
        clear H
        go_wp2
        go_ret
        rw [HR.out]
        exact ⟨rfl, hw⟩


set_option maxHeartbeats 1000000 in
set_option maxRecDepth 100000 in
theorem within_any (w : World) (k x y : ByteArray) (hk : k.size ≤ maxLen) (hx : x.size ≤ maxLen) (hy : y.size ≤ maxLen) :
    Calls Try.prog 48 #[.string k, .agg #[.string x, .string y]] w fun e w' => e = .returned (.bool (inSpan x y k)) ∧ Below w.heap.size w w' := by
  obtain ⟨W, hW⟩ : ∃ W, W = w.alloc (.cells #[.string x, .string y] 57) := ⟨_, rfl⟩
  have hb : Below w.heap.size w W := by rw [hW]; exact (Below.refl _ w).alloc (Nat.le_refl _) _
  obtain ⟨Y, hY⟩ : ∃ Y, w.heap.size = Y := ⟨_, rfl⟩
  have jY : W.heap[Y]? = some (.cells #[.string x, .string y] 57 (0, 0)) := by rw [hW, ← hY]; exact heap_alloc_new w _
  have y0 : W.cell? ⟨Y, 0, none⟩ = some (.string x) := cell_blk jY 0
  have s1 := stands_any x k W hx hk
  have HW := Lib.hid hW
  have HYY := Lib.hid hY
  have HB := Lib.hid hb
  have HJ := Lib.hid jY
  clear hW hY hb jY
  go_enter Try.func48, Try.ntmps48
  go_upto_region 1 with fail
  rw [← HW.out, HYY.out]
  go_wp2_with fail
  refine s1.mono ?_
  rintro e w1 ⟨rfl, b1⟩
  have y1 : w1.cell? ⟨Y, 1, none⟩ = some (.string y) := cell_blk ((b1.block Y (blk_lt HJ.out)).trans HJ.out) 1
  have HB1 := Lib.hid (HB.out.trans (b1.mono HB.out.size))
  have s2 := stands_any k y w1 hk hy
  clear b1
  by_cases h1 : cb x k ≤ 0
  · go_wp2_with fail
    refine s2.mono ?_
    rintro e w2 ⟨rfl, b2⟩
    have HB2 := Lib.hid (HB1.out.trans (b2.mono HB1.out.size))
    clear b2 s1 s2
    go_wp2
    go_ret
    exact ⟨by unfold inSpan; simp [h1], HB2.out⟩
  · clear s1 s2
    go_wp2
    go_ret
    exact ⟨by have e : inSpan x y k = false := by unfold inSpan; rw [decide_eq_false (by omega), Bool.false_and]
              rw [e]; rfl, HB1.out⟩
end Go.Proofs.Ytcoaahlakkghhaa
