import Derived.Test.YtkfnphhoebknnaaQBo
import Derived.Test.YtkfnphhoebknnaaQBe
namespace Go.Proofs.Ytkfnphhoebknnaa
open Go.RowKit
section
variable {w : World}
set_option maxHeartbeats 2000000 in
set_option maxRecDepth 100000 in
theorem tabAt_any {s : Sc} {tv : Value} (hL : Lr tbE 5 w s.tabs tv) (z : ByteArray) : Calls Try.prog 22 #[scV s tv, .string z] w fun e w' => e = .returned (.int .i64 (fidx (fun x => decide (x.nm = z)) s.tabs)) ∧ Below w.heap.size w w' := by
  obtain ⟨ta, tc, rfl, q0, q1, q2, hX⟩ := hL
  have hmx : (s.tabs.length : Int) ≤ 9223372036854775807 := by unfold maxLen at q2; omega
  obtain ⟨W, hW⟩ : ∃ W, W = w.alloc (.cells #[.int .i64 s.ver, .int .i64 s.last, .slice ta s.tabs.length tc] 24) := ⟨_, rfl⟩
  have hbW : Below w.heap.size w W := by rw [hW]; exact bnew _ _
  obtain ⟨Y, hY⟩ : ∃ Y, w.heap.size = Y := ⟨_, rfl⟩
  have jY : W.heap[Y]? = some (.cells #[.int .i64 s.ver, .int .i64 s.last, .slice ta s.tabs.length tc] 24 (0, 0)) := by rw [hW, ← hY]; exact heap_alloc_new w _
  obtain ⟨n, hn⟩ : ∃ n, s.tabs.length = n := ⟨_, rfl⟩
  have cY : W.cell? ⟨Y, 2, none⟩ = some (.slice ta n tc) := by rw [← hn]; exact cell_blk jY 2
  have HX := Lib.hid hX
  have HN := Lib.hid hn
  have HW := Lib.hid hW
  have HB := Lib.hid hbW
  have HY := Lib.hid hY
  rw [hn] at hmx
  clear hW hbW hY jY hX hn q0 q1 q2
  go_enter Try.func22, Try.ntmps22
  go_upto_region 1 with fail
  rw [← HW.out, HY.out]
  go_wp2
  go_loopw [5] (fun iv wr => ∃ i : Nat, i ≤ n ∧ iv = .int .i64 (i : Int) ∧ Hid (∀ j (hj : j < s.tabs.length), j < i → decide (s.tabs[j].nm = z) = false) ∧ wr = W) (fun iv _ => n - (intOf iv).toNat)
  case atStart => exact ⟨0, Nat.zero_le _, rfl, Lib.hid (fun j _ hj => by omega), rfl⟩
  case round =>
    obtain ⟨i, hi, rfl, hno, rfl⟩ := hrel
    by_cases hlt : i < n
    · have hiL : i < s.tabs.length := by rw [HN.out]; exact hlt
      have k0 : (0 : Int) ≤ i := by omega
      have k1 : (i : Int) < n := by omega
      obtain ⟨b, p, cs, rfl, hbl, hE, _, hcell⟩ := HX.out i hiL
      obtain ⟨x, hx⟩ : ∃ x, s.tabs[i] = x := ⟨_, rfl⟩
      obtain ⟨cv, iv, kv, rfl, _⟩ := hE
      rw [hx] at hcell
      have c1 : wr.cell? ⟨b, p + i * 5 + 1, none⟩ = some (.string x.nm) := cell_on HB.out (hcell 1 _ rfl)
      have hs := same_eq x.nm z
      obtain ⟨y, hy⟩ : ∃ y, x.nm = y := ⟨_, rfl⟩
      rw [hy] at c1 hs
      have hpi : s.tabs[i].nm = y := by rw [hx, hy]
      have HPI := Lib.hid hpi
      clear hcell hx hy hpi hbl
      by_cases q : y = z
      · subst q
        have HE : Hid (fidx (fun x => decide (x.nm = y)) s.tabs = (i : Int)) := Lib.hid (fidx_at hiL (by rw [HPI.out]; simp) (fun j hj hji => hno.out j hj hji))
        simp only [decide_true] at hs
        clear hno
        go_wp2
        go_ret
        exact ⟨by rw [HE.out]; rfl, HB.out⟩
      · have HNO : Hid (∀ j (hj : j < s.tabs.length), j < i + 1 → decide (s.tabs[j].nm = z) = false) := Lib.hid (fun j hj hji => by
          rcases Nat.lt_or_ge j i with r | r
          · exact hno.out j hj r
          · obtain rfl : j = i := by omega
            rw [HPI.out]
            simpa using q)
        simp only [q, decide_false] at hs
        clear hno
        go_wp2
        go_roundw
        case rel => exact ⟨i + 1, hlt, by go_num, HNO.out, by first | rfl | trivial⟩
        case measure => simp [intOf]; omega
    · have k1 : ¬ (i : Int) < n := by omega
      obtain rfl : i = n := by omega
      have HE : Hid (fidx (fun x => decide (x.nm = z)) s.tabs = -1) := Lib.hid (fidx_none (fun j hj => hno.out j hj (by rw [← HN.out]; exact hj)))
      clear hno
      go_wp2
      go_ret
      exact ⟨by rw [HE.out]; rfl, HB.out⟩
set_option maxHeartbeats 2000000 in
set_option maxRecDepth 100000 in
theorem tabOfR_any {s : Sc} {tv : Value} (hL : Lr tbE 5 w s.tabs tv) (z : Int) : Calls Try.prog 28 #[scV s tv, .int .i64 z] w fun e w' => e = .returned (.int .i64 (fidx (fun x => decide (x.id = z)) s.tabs)) ∧ Below w.heap.size w w' := by
  obtain ⟨ta, tc, rfl, q0, q1, q2, hX⟩ := hL
  have hmx : (s.tabs.length : Int) ≤ 9223372036854775807 := by unfold maxLen at q2; omega
  obtain ⟨W, hW⟩ : ∃ W, W = w.alloc (.cells #[.int .i64 s.ver, .int .i64 s.last, .slice ta s.tabs.length tc] 24) := ⟨_, rfl⟩
  have hbW : Below w.heap.size w W := by rw [hW]; exact bnew _ _
  obtain ⟨Y, hY⟩ : ∃ Y, w.heap.size = Y := ⟨_, rfl⟩
  have jY : W.heap[Y]? = some (.cells #[.int .i64 s.ver, .int .i64 s.last, .slice ta s.tabs.length tc] 24 (0, 0)) := by rw [hW, ← hY]; exact heap_alloc_new w _
  obtain ⟨n, hn⟩ : ∃ n, s.tabs.length = n := ⟨_, rfl⟩
  have cY : W.cell? ⟨Y, 2, none⟩ = some (.slice ta n tc) := by rw [← hn]; exact cell_blk jY 2
  have HX := Lib.hid hX
  have HN := Lib.hid hn
  have HW := Lib.hid hW
  have HB := Lib.hid hbW
  have HY := Lib.hid hY
  rw [hn] at hmx
  clear hW hbW hY jY hX hn q0 q1 q2
  go_enter Try.func28, Try.ntmps28
  go_upto_region 1 with fail
  rw [← HW.out, HY.out]
  go_wp2
  go_loopw [5] (fun iv wr => ∃ i : Nat, i ≤ n ∧ iv = .int .i64 (i : Int) ∧ Hid (∀ j (hj : j < s.tabs.length), j < i → decide (s.tabs[j].id = z) = false) ∧ wr = W) (fun iv _ => n - (intOf iv).toNat)
  case atStart => exact ⟨0, Nat.zero_le _, rfl, Lib.hid (fun j _ hj => by omega), rfl⟩
  case round =>
    obtain ⟨i, hi, rfl, hno, rfl⟩ := hrel
    by_cases hlt : i < n
    · have hiL : i < s.tabs.length := by rw [HN.out]; exact hlt
      have k0 : (0 : Int) ≤ i := by omega
      have k1 : (i : Int) < n := by omega
      obtain ⟨b, p, cs, rfl, hbl, hE, _, hcell⟩ := HX.out i hiL
      obtain ⟨x, hx⟩ : ∃ x, s.tabs[i] = x := ⟨_, rfl⟩
      obtain ⟨cv, iv, kv, rfl, _⟩ := hE
      rw [hx] at hcell
      have c1 : wr.cell? ⟨b, p + i * 5, none⟩ = some (.int .i64 x.id) := cell_on HB.out (hcell 0 _ rfl)
      obtain ⟨y, hy⟩ : ∃ y, x.id = y := ⟨_, rfl⟩
      rw [hy] at c1
      have hpi : s.tabs[i].id = y := by rw [hx, hy]
      have HPI := Lib.hid hpi
      clear hcell hx hy hpi hbl
      by_cases q : y = z
      · subst q
        have HE : Hid (fidx (fun x => decide (x.id = y)) s.tabs = (i : Int)) := Lib.hid (fidx_at hiL (by rw [HPI.out]; simp) (fun j hj hji => hno.out j hj hji))
        skip
        clear hno
        go_wp2
        go_ret
        exact ⟨by rw [HE.out]; rfl, HB.out⟩
      · have HNO : Hid (∀ j (hj : j < s.tabs.length), j < i + 1 → decide (s.tabs[j].id = z) = false) := Lib.hid (fun j hj hji => by
          rcases Nat.lt_or_ge j i with r | r
          · exact hno.out j hj r
          · obtain rfl : j = i := by omega
            rw [HPI.out]
            simpa using q)
        skip
        clear hno
        go_wp2
        go_roundw
        case rel => exact ⟨i + 1, hlt, by go_num, HNO.out, by first | rfl | trivial⟩
        case measure => simp [intOf]; omega
    · have k1 : ¬ (i : Int) < n := by omega
      obtain rfl : i = n := by omega
      have HE : Hid (fidx (fun x => decide (x.id = z)) s.tabs = -1) := Lib.hid (fidx_none (fun j hj => hno.out j hj (by rw [← HN.out]; exact hj)))
      clear hno
      go_wp2
      go_ret
      exact ⟨by rw [HE.out]; rfl, HB.out⟩
set_option maxHeartbeats 2000000 in
set_option maxRecDepth 100000 in
theorem colAt_any {t : Tb} {cv iv kv : Value} (h : Three w t cv iv kv) (z : ByteArray) : Calls Try.prog 23 #[tbV t cv iv kv, .string z] w fun e w' => e = .returned (.int .i64 (fidx (fun x => decide (x.nm = z)) t.cols)) ∧ Below w.heap.size w w' := by
  obtain ⟨hc, hi, hk⟩ := h
  obtain ⟨ca, cc, rfl, rc⟩ := hc
  obtain ⟨ia, ic, rfl, ri⟩ := hi
  obtain ⟨ka, kc, rfl, rk⟩ := hk
  obtain ⟨q0, q1, q2, hX⟩ := rc
  have hmx : (t.cols.length : Int) ≤ 9223372036854775807 := by unfold maxLen at q2; omega
  obtain ⟨W, hW⟩ : ∃ W, W = w.alloc (.cells #[.int .i64 t.id, .string t.nm, .slice ca t.cols.length cc, .slice ia t.ixs.length ic, .slice ka t.fks.length kc] 54) := ⟨_, rfl⟩
  have hbW : Below w.heap.size w W := by rw [hW]; exact bnew _ _
  obtain ⟨Y, hY⟩ : ∃ Y, w.heap.size = Y := ⟨_, rfl⟩
  have jY : W.heap[Y]? = some (.cells #[.int .i64 t.id, .string t.nm, .slice ca t.cols.length cc, .slice ia t.ixs.length ic, .slice ka t.fks.length kc] 54 (0, 0)) := by rw [hW, ← hY]; exact heap_alloc_new w _
  obtain ⟨n, hn⟩ : ∃ n, t.cols.length = n := ⟨_, rfl⟩
  have cY : W.cell? ⟨Y, 2, none⟩ = some (.slice ca n cc) := by rw [← hn]; exact cell_blk jY 2
  have HX := Lib.hid hX
  have HN := Lib.hid hn
  have HW := Lib.hid hW
  have HB := Lib.hid hbW
  have HY := Lib.hid hY
  rw [hn] at hmx
  clear hW hbW hY jY hX hn q0 q1 q2 ri rk
  go_enter Try.func23, Try.ntmps23
  go_upto_region 1 with fail
  rw [← HW.out, HY.out]
  go_wp2
  go_loopw [5] (fun iv wr => ∃ i : Nat, i ≤ n ∧ iv = .int .i64 (i : Int) ∧ Hid (∀ j (hj : j < t.cols.length), j < i → decide (t.cols[j].nm = z) = false) ∧ wr = W) (fun iv _ => n - (intOf iv).toNat)
  case atStart => exact ⟨0, Nat.zero_le _, rfl, Lib.hid (fun j _ hj => by omega), rfl⟩
  case round =>
    obtain ⟨i, hi, rfl, hno, rfl⟩ := hrel
    by_cases hlt : i < n
    · have hiL : i < t.cols.length := by rw [HN.out]; exact hlt
      have k0 : (0 : Int) ≤ i := by omega
      have k1 : (i : Int) < n := by omega
      obtain ⟨b, p, cs, rfl, hbl, hE, _, hcell⟩ := HX.out i hiL
      obtain ⟨x, hx⟩ : ∃ x, t.cols[i] = x := ⟨_, rfl⟩
      cases hE
      rw [hx] at hcell
      have c1 : wr.cell? ⟨b, p + i * 7 + 1, none⟩ = some (.string x.nm) := cell_on HB.out (hcell 1 _ rfl)
      have hs := same_eq x.nm z
      obtain ⟨y, hy⟩ : ∃ y, x.nm = y := ⟨_, rfl⟩
      rw [hy] at c1 hs
      have hpi : t.cols[i].nm = y := by rw [hx, hy]
      have HPI := Lib.hid hpi
      clear hcell hx hy hpi hbl
      by_cases q : y = z
      · subst q
        have HE : Hid (fidx (fun x => decide (x.nm = y)) t.cols = (i : Int)) := Lib.hid (fidx_at hiL (by rw [HPI.out]; simp) (fun j hj hji => hno.out j hj hji))
        simp only [decide_true] at hs
        clear hno
        go_wp2
        go_ret
        exact ⟨by rw [HE.out]; rfl, HB.out⟩
      · have HNO : Hid (∀ j (hj : j < t.cols.length), j < i + 1 → decide (t.cols[j].nm = z) = false) := Lib.hid (fun j hj hji => by
          rcases Nat.lt_or_ge j i with r | r
          · exact hno.out j hj r
          · obtain rfl : j = i := by omega
            rw [HPI.out]
            simpa using q)
        simp only [q, decide_false] at hs
        clear hno
        go_wp2
        go_roundw
        case rel => exact ⟨i + 1, hlt, by go_num, HNO.out, by first | rfl | trivial⟩
        case measure => simp [intOf]; omega
    · have k1 : ¬ (i : Int) < n := by omega
      obtain rfl : i = n := by omega
      have HE : Hid (fidx (fun x => decide (x.nm = z)) t.cols = -1) := Lib.hid (fidx_none (fun j hj => hno.out j hj (by rw [← HN.out]; exact hj)))
      clear hno
      go_wp2
      go_ret
      exact ⟨by rw [HE.out]; rfl, HB.out⟩
set_option maxHeartbeats 2000000 in
set_option maxRecDepth 100000 in
theorem colOfR_any {t : Tb} {cv iv kv : Value} (h : Three w t cv iv kv) (z : Int) : Calls Try.prog 27 #[tbV t cv iv kv, .int .i64 z] w fun e w' => e = .returned (.int .i64 (fidx (fun x => decide (x.id = z)) t.cols)) ∧ Below w.heap.size w w' := by
  obtain ⟨hc, hi, hk⟩ := h
  obtain ⟨ca, cc, rfl, rc⟩ := hc
  obtain ⟨ia, ic, rfl, ri⟩ := hi
  obtain ⟨ka, kc, rfl, rk⟩ := hk
  obtain ⟨q0, q1, q2, hX⟩ := rc
  have hmx : (t.cols.length : Int) ≤ 9223372036854775807 := by unfold maxLen at q2; omega
  obtain ⟨W, hW⟩ : ∃ W, W = w.alloc (.cells #[.int .i64 t.id, .string t.nm, .slice ca t.cols.length cc, .slice ia t.ixs.length ic, .slice ka t.fks.length kc] 54) := ⟨_, rfl⟩
  have hbW : Below w.heap.size w W := by rw [hW]; exact bnew _ _
  obtain ⟨Y, hY⟩ : ∃ Y, w.heap.size = Y := ⟨_, rfl⟩
  have jY : W.heap[Y]? = some (.cells #[.int .i64 t.id, .string t.nm, .slice ca t.cols.length cc, .slice ia t.ixs.length ic, .slice ka t.fks.length kc] 54 (0, 0)) := by rw [hW, ← hY]; exact heap_alloc_new w _
  obtain ⟨n, hn⟩ : ∃ n, t.cols.length = n := ⟨_, rfl⟩
  have cY : W.cell? ⟨Y, 2, none⟩ = some (.slice ca n cc) := by rw [← hn]; exact cell_blk jY 2
  have HX := Lib.hid hX
  have HN := Lib.hid hn
  have HW := Lib.hid hW
  have HB := Lib.hid hbW
  have HY := Lib.hid hY
  rw [hn] at hmx
  clear hW hbW hY jY hX hn q0 q1 q2 ri rk
  go_enter Try.func27, Try.ntmps27
  go_upto_region 1 with fail
  rw [← HW.out, HY.out]
  go_wp2
  go_loopw [5] (fun iv wr => ∃ i : Nat, i ≤ n ∧ iv = .int .i64 (i : Int) ∧ Hid (∀ j (hj : j < t.cols.length), j < i → decide (t.cols[j].id = z) = false) ∧ wr = W) (fun iv _ => n - (intOf iv).toNat)
  case atStart => exact ⟨0, Nat.zero_le _, rfl, Lib.hid (fun j _ hj => by omega), rfl⟩
  case round =>
    obtain ⟨i, hi, rfl, hno, rfl⟩ := hrel
    by_cases hlt : i < n
    · have hiL : i < t.cols.length := by rw [HN.out]; exact hlt
      have k0 : (0 : Int) ≤ i := by omega
      have k1 : (i : Int) < n := by omega
      obtain ⟨b, p, cs, rfl, hbl, hE, _, hcell⟩ := HX.out i hiL
      obtain ⟨x, hx⟩ : ∃ x, t.cols[i] = x := ⟨_, rfl⟩
      cases hE
      rw [hx] at hcell
      have c1 : wr.cell? ⟨b, p + i * 7, none⟩ = some (.int .i64 x.id) := cell_on HB.out (hcell 0 _ rfl)
      obtain ⟨y, hy⟩ : ∃ y, x.id = y := ⟨_, rfl⟩
      rw [hy] at c1
      have hpi : t.cols[i].id = y := by rw [hx, hy]
      have HPI := Lib.hid hpi
      clear hcell hx hy hpi hbl
      by_cases q : y = z
      · subst q
        have HE : Hid (fidx (fun x => decide (x.id = y)) t.cols = (i : Int)) := Lib.hid (fidx_at hiL (by rw [HPI.out]; simp) (fun j hj hji => hno.out j hj hji))
        skip
        clear hno
        go_wp2
        go_ret
        exact ⟨by rw [HE.out]; rfl, HB.out⟩
      · have HNO : Hid (∀ j (hj : j < t.cols.length), j < i + 1 → decide (t.cols[j].id = z) = false) := Lib.hid (fun j hj hji => by
          rcases Nat.lt_or_ge j i with r | r
          · exact hno.out j hj r
          · obtain rfl : j = i := by omega
            rw [HPI.out]
            simpa using q)
        skip
        clear hno
        go_wp2
        go_roundw
        case rel => exact ⟨i + 1, hlt, by go_num, HNO.out, by first | rfl | trivial⟩
        case measure => simp [intOf]; omega
    · have k1 : ¬ (i : Int) < n := by omega
      obtain rfl : i = n := by omega
      have HE : Hid (fidx (fun x => decide (x.id = z)) t.cols = -1) := Lib.hid (fidx_none (fun j hj => hno.out j hj (by rw [← HN.out]; exact hj)))
      clear hno
      go_wp2
      go_ret
      exact ⟨by rw [HE.out]; rfl, HB.out⟩
set_option maxHeartbeats 2000000 in
set_option maxRecDepth 100000 in
theorem ixAt_any {t : Tb} {cv iv kv : Value} (h : Three w t cv iv kv) (z : ByteArray) : Calls Try.prog 26 #[tbV t cv iv kv, .string z] w fun e w' => e = .returned (.int .i64 (fidx (fun x => decide (x.nm = z)) t.ixs)) ∧ Below w.heap.size w w' := by
  obtain ⟨hc, hi, hk⟩ := h
  obtain ⟨ca, cc, rfl, rc⟩ := hc
  obtain ⟨ia, ic, rfl, ri⟩ := hi
  obtain ⟨ka, kc, rfl, rk⟩ := hk
  obtain ⟨q0, q1, q2, hX⟩ := ri
  have hmx : (t.ixs.length : Int) ≤ 9223372036854775807 := by unfold maxLen at q2; omega
  obtain ⟨W, hW⟩ : ∃ W, W = w.alloc (.cells #[.int .i64 t.id, .string t.nm, .slice ca t.cols.length cc, .slice ia t.ixs.length ic, .slice ka t.fks.length kc] 54) := ⟨_, rfl⟩
  have hbW : Below w.heap.size w W := by rw [hW]; exact bnew _ _
  obtain ⟨Y, hY⟩ : ∃ Y, w.heap.size = Y := ⟨_, rfl⟩
  have jY : W.heap[Y]? = some (.cells #[.int .i64 t.id, .string t.nm, .slice ca t.cols.length cc, .slice ia t.ixs.length ic, .slice ka t.fks.length kc] 54 (0, 0)) := by rw [hW, ← hY]; exact heap_alloc_new w _
  obtain ⟨n, hn⟩ : ∃ n, t.ixs.length = n := ⟨_, rfl⟩
  have cY : W.cell? ⟨Y, 3, none⟩ = some (.slice ia n ic) := by rw [← hn]; exact cell_blk jY 3
  have HX := Lib.hid hX
  have HN := Lib.hid hn
  have HW := Lib.hid hW
  have HB := Lib.hid hbW
  have HY := Lib.hid hY
  rw [hn] at hmx
  clear hW hbW hY jY hX hn q0 q1 q2 rc rk
  go_enter Try.func26, Try.ntmps26
  go_upto_region 1 with fail
  rw [← HW.out, HY.out]
  go_wp2
  go_loopw [5] (fun iv wr => ∃ i : Nat, i ≤ n ∧ iv = .int .i64 (i : Int) ∧ Hid (∀ j (hj : j < t.ixs.length), j < i → decide (t.ixs[j].nm = z) = false) ∧ wr = W) (fun iv _ => n - (intOf iv).toNat)
  case atStart => exact ⟨0, Nat.zero_le _, rfl, Lib.hid (fun j _ hj => by omega), rfl⟩
  case round =>
    obtain ⟨i, hi, rfl, hno, rfl⟩ := hrel
    by_cases hlt : i < n
    · have hiL : i < t.ixs.length := by rw [HN.out]; exact hlt
      have k0 : (0 : Int) ≤ i := by omega
      have k1 : (i : Int) < n := by omega
      obtain ⟨b, p, cs, rfl, hbl, hE, _, hcell⟩ := HX.out i hiL
      obtain ⟨x, hx⟩ : ∃ x, t.ixs[i] = x := ⟨_, rfl⟩
      cases hE
      rw [hx] at hcell
      have c1 : wr.cell? ⟨b, p + i * 5 + 1, none⟩ = some (.string x.nm) := cell_on HB.out (hcell 1 _ rfl)
      have hs := same_eq x.nm z
      obtain ⟨y, hy⟩ : ∃ y, x.nm = y := ⟨_, rfl⟩
      rw [hy] at c1 hs
      have hpi : t.ixs[i].nm = y := by rw [hx, hy]
      have HPI := Lib.hid hpi
      clear hcell hx hy hpi hbl
      by_cases q : y = z
      · subst q
        have HE : Hid (fidx (fun x => decide (x.nm = y)) t.ixs = (i : Int)) := Lib.hid (fidx_at hiL (by rw [HPI.out]; simp) (fun j hj hji => hno.out j hj hji))
        simp only [decide_true] at hs
        clear hno
        go_wp2
        go_ret
        exact ⟨by rw [HE.out]; rfl, HB.out⟩
      · have HNO : Hid (∀ j (hj : j < t.ixs.length), j < i + 1 → decide (t.ixs[j].nm = z) = false) := Lib.hid (fun j hj hji => by
          rcases Nat.lt_or_ge j i with r | r
          · exact hno.out j hj r
          · obtain rfl : j = i := by omega
            rw [HPI.out]
            simpa using q)
        simp only [q, decide_false] at hs
        clear hno
        go_wp2
        go_roundw
        case rel => exact ⟨i + 1, hlt, by go_num, HNO.out, by first | rfl | trivial⟩
        case measure => simp [intOf]; omega
    · have k1 : ¬ (i : Int) < n := by omega
      obtain rfl : i = n := by omega
      have HE : Hid (fidx (fun x => decide (x.nm = z)) t.ixs = -1) := Lib.hid (fidx_none (fun j hj => hno.out j hj (by rw [← HN.out]; exact hj)))
      clear hno
      go_wp2
      go_ret
      exact ⟨by rw [HE.out]; rfl, HB.out⟩
set_option maxHeartbeats 2000000 in
set_option maxRecDepth 100000 in
theorem keyAt_any {t : Tb} {cv iv kv : Value} (h : Three w t cv iv kv) (z : ByteArray) : Calls Try.prog 29 #[tbV t cv iv kv, .string z] w fun e w' => e = .returned (.int .i64 (fidx (fun x => decide (x.nm = z)) t.fks)) ∧ Below w.heap.size w w' := by
  obtain ⟨hc, hi, hk⟩ := h
  obtain ⟨ca, cc, rfl, rc⟩ := hc
  obtain ⟨ia, ic, rfl, ri⟩ := hi
  obtain ⟨ka, kc, rfl, rk⟩ := hk
  obtain ⟨q0, q1, q2, hX⟩ := rk
  have hmx : (t.fks.length : Int) ≤ 9223372036854775807 := by unfold maxLen at q2; omega
  obtain ⟨W, hW⟩ : ∃ W, W = w.alloc (.cells #[.int .i64 t.id, .string t.nm, .slice ca t.cols.length cc, .slice ia t.ixs.length ic, .slice ka t.fks.length kc] 54) := ⟨_, rfl⟩
  have hbW : Below w.heap.size w W := by rw [hW]; exact bnew _ _
  obtain ⟨Y, hY⟩ : ∃ Y, w.heap.size = Y := ⟨_, rfl⟩
  have jY : W.heap[Y]? = some (.cells #[.int .i64 t.id, .string t.nm, .slice ca t.cols.length cc, .slice ia t.ixs.length ic, .slice ka t.fks.length kc] 54 (0, 0)) := by rw [hW, ← hY]; exact heap_alloc_new w _
  obtain ⟨n, hn⟩ : ∃ n, t.fks.length = n := ⟨_, rfl⟩
  have cY : W.cell? ⟨Y, 4, none⟩ = some (.slice ka n kc) := by rw [← hn]; exact cell_blk jY 4
  have HX := Lib.hid hX
  have HN := Lib.hid hn
  have HW := Lib.hid hW
  have HB := Lib.hid hbW
  have HY := Lib.hid hY
  rw [hn] at hmx
  clear hW hbW hY jY hX hn q0 q1 q2 rc ri
  go_enter Try.func29, Try.ntmps29
  go_upto_region 1 with fail
  rw [← HW.out, HY.out]
  go_wp2
  go_loopw [5] (fun iv wr => ∃ i : Nat, i ≤ n ∧ iv = .int .i64 (i : Int) ∧ Hid (∀ j (hj : j < t.fks.length), j < i → decide (t.fks[j].nm = z) = false) ∧ wr = W) (fun iv _ => n - (intOf iv).toNat)
  case atStart => exact ⟨0, Nat.zero_le _, rfl, Lib.hid (fun j _ hj => by omega), rfl⟩
  case round =>
    obtain ⟨i, hi, rfl, hno, rfl⟩ := hrel
    by_cases hlt : i < n
    · have hiL : i < t.fks.length := by rw [HN.out]; exact hlt
      have k0 : (0 : Int) ≤ i := by omega
      have k1 : (i : Int) < n := by omega
      obtain ⟨b, p, cs, rfl, hbl, hE, _, hcell⟩ := HX.out i hiL
      obtain ⟨x, hx⟩ : ∃ x, t.fks[i] = x := ⟨_, rfl⟩
      cases hE
      rw [hx] at hcell
      have c1 : wr.cell? ⟨b, p + i * 5 + 1, none⟩ = some (.string x.nm) := cell_on HB.out (hcell 1 _ rfl)
      have hs := same_eq x.nm z
      obtain ⟨y, hy⟩ : ∃ y, x.nm = y := ⟨_, rfl⟩
      rw [hy] at c1 hs
      have hpi : t.fks[i].nm = y := by rw [hx, hy]
      have HPI := Lib.hid hpi
      clear hcell hx hy hpi hbl
      by_cases q : y = z
      · subst q
        have HE : Hid (fidx (fun x => decide (x.nm = y)) t.fks = (i : Int)) := Lib.hid (fidx_at hiL (by rw [HPI.out]; simp) (fun j hj hji => hno.out j hj hji))
        simp only [decide_true] at hs
        clear hno
        go_wp2
        go_ret
        exact ⟨by rw [HE.out]; rfl, HB.out⟩
      · have HNO : Hid (∀ j (hj : j < t.fks.length), j < i + 1 → decide (t.fks[j].nm = z) = false) := Lib.hid (fun j hj hji => by
          rcases Nat.lt_or_ge j i with r | r
          · exact hno.out j hj r
          · obtain rfl : j = i := by omega
            rw [HPI.out]
            simpa using q)
        simp only [q, decide_false] at hs
        clear hno
        go_wp2
        go_roundw
        case rel => exact ⟨i + 1, hlt, by go_num, HNO.out, by first | rfl | trivial⟩
        case measure => simp [intOf]; omega
    · have k1 : ¬ (i : Int) < n := by omega
      obtain rfl : i = n := by omega
      have HE : Hid (fidx (fun x => decide (x.nm = z)) t.fks = -1) := Lib.hid (fidx_none (fun j hj => hno.out j hj (by rw [← HN.out]; exact hj)))
      clear hno
      go_wp2
      go_ret
      exact ⟨by rw [HE.out]; rfl, HB.out⟩
end
end Go.Proofs.Ytkfnphhoebknnaa
