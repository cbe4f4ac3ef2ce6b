/- The walks of holds, holdsIn, covers. -/
import Derived.Test.YtcoaahlakkghhaaSb
namespace Go.Proofs.Ytcoaahlakkghhaa
open Go.RowKit
section
variable {w : World}
set_option maxHeartbeats 1000000 in
set_option maxRecDepth 100000 in
theorem coW_in {L : List Wr} {v c : Value} {p : Wr → Bool} (hL : Lr wrE 3 w L v) (hf : ∀ X, Below w.heap.size w X → ∀ i (h : i < L.length), Calls Try.prog 100 #[wrV L[i], c] X fun e w' => e = .returned (.bool (p L[i])) ∧ Below X.heap.size X w') :
    Calls Try.prog 99 #[v, .func (.func 100) #[] #[c]] w fun e w' => e = .returned (.bool (L.any p)) ∧ Below w.heap.size w w' := by
  have hc := ixW_in hL hf
  have ha := fidx_any p L
  obtain ⟨n, hn⟩ : ∃ n, fidx p L = n := ⟨_, rfl⟩
  rw [hn] at hc ha
  obtain ⟨ad, cap, rfl, _⟩ := hL
  obtain ⟨q, hq⟩ : ∃ q, L.any p = q := ⟨_, rfl⟩
  rw [hq] at ha ⊢
  clear hf hn hq
  go_enter Try.func99, Try.ntmps99
  go_wp2_with fail
  refine hc.mono ?_
  rintro e w1 ⟨rfl, b1⟩
  have HB := Lib.hid b1
  clear b1 hc
  cases q with
  | true =>
    have hn := of_decide_eq_true ha
    go_wp2
    go_ret
    exact ⟨by simp, HB.out⟩
  | false =>
    have hn := of_decide_eq_false ha
    go_wp2
    go_ret
    exact ⟨by simp, HB.out⟩
set_option maxHeartbeats 1000000 in
set_option maxRecDepth 100000 in
theorem coW_is {L : List Wr} {v c : Value} {p : Wr → Bool} (hL : Lr wrE 3 w L v) (hf : ∀ X, Below w.heap.size w X → ∀ i (h : i < L.length), Calls Try.prog 104 #[wrV L[i], c] X fun e w' => e = .returned (.bool (p L[i])) ∧ Below X.heap.size X w') :
    Calls Try.prog 99 #[v, .func (.func 104) #[] #[c]] w fun e w' => e = .returned (.bool (L.any p)) ∧ Below w.heap.size w w' := by
  have hc := ixW_is hL hf
  have ha := fidx_any p L
  obtain ⟨n, hn⟩ : ∃ n, fidx p L = n := ⟨_, rfl⟩
  rw [hn] at hc ha
  obtain ⟨ad, cap, rfl, _⟩ := hL
  obtain ⟨q, hq⟩ : ∃ q, L.any p = q := ⟨_, rfl⟩
  rw [hq] at ha ⊢
  clear hf hn hq
  go_enter Try.func99, Try.ntmps99
  go_wp2_with fail
  refine hc.mono ?_
  rintro e w1 ⟨rfl, b1⟩
  have HB := Lib.hid b1
  clear b1 hc
  cases q with
  | true =>
    have hn := of_decide_eq_true ha
    go_wp2
    go_ret
    exact ⟨by simp, HB.out⟩
  | false =>
    have hn := of_decide_eq_false ha
    go_wp2
    go_ret
    exact ⟨by simp, HB.out⟩
set_option maxHeartbeats 1000000 in
set_option maxRecDepth 100000 in
theorem coS_in {L : List Sn} {v c : Value} {p : Sn → Bool} (hL : Lr snE 2 w L v) (hf : ∀ X, Below w.heap.size w X → ∀ i (h : i < L.length), Calls Try.prog 106 #[snV L[i], c] X fun e w' => e = .returned (.bool (p L[i])) ∧ Below X.heap.size X w') :
    Calls Try.prog 105 #[v, .func (.func 106) #[] #[c]] w fun e w' => e = .returned (.bool (L.any p)) ∧ Below w.heap.size w w' := by
  have hc := ixS_in hL hf
  have ha := fidx_any p L
  obtain ⟨n, hn⟩ : ∃ n, fidx p L = n := ⟨_, rfl⟩
  rw [hn] at hc ha
  obtain ⟨ad, cap, rfl, _⟩ := hL
  obtain ⟨q, hq⟩ : ∃ q, L.any p = q := ⟨_, rfl⟩
  rw [hq] at ha ⊢
  clear hf hn hq
  go_enter Try.func105, Try.ntmps105
  go_wp2_with fail
  refine hc.mono ?_
  rintro e w1 ⟨rfl, b1⟩
  have HB := Lib.hid b1
  clear b1 hc
  cases q with
  | true =>
    have hn := of_decide_eq_true ha
    go_wp2
    go_ret
    exact ⟨by simp, HB.out⟩
  | false =>
    have hn := of_decide_eq_false ha
    go_wp2
    go_ret
    exact ⟨by simp, HB.out⟩
abbrev lkV (l : Lk) (sa : Option Addr) (sc : Nat) (wa : Option Addr) (wc : Nat) : Value := .agg #[.int .i64 l.txn.1, .int .i64 l.txn.2.1, .int .i64 l.txn.2.2, .int .i64 l.home, .int .i64 l.til, .slice sa l.spans.length sc, .slice wa l.writes.length wc]
abbrev lkO (l : Lk) (sa : Option Addr) (sc : Nat) (wa : Option Addr) (wc : Nat) : Obj := .cells #[.int .i64 l.txn.1, .int .i64 l.txn.2.1, .int .i64 l.txn.2.2, .int .i64 l.home, .int .i64 l.til, .slice sa l.spans.length sc, .slice wa l.writes.length wc] 68
set_option maxHeartbeats 2000000 in
set_option maxRecDepth 100000 in
theorem holdsIn_any {l : Lk} {sa wa : Option Addr} {sc wc : Nat} (p : Sn) (hl0 : Lr wrE 3 w l.writes (.slice wa l.writes.length wc)) :
    Calls Try.prog 86 #[lkV l sa sc wa wc, snV p] w fun e w' => e = .returned (.bool (holdsInB l p)) ∧ Below w.heap.size w w' := by
  obtain ⟨W, hW⟩ : ∃ W, W = (w.alloc (lkO l sa sc wa wc)).alloc (.cells #[.string p.lo, .string p.hi] 57) := ⟨_, rfl⟩
  have hb : Below w.heap.size w W := by rw [hW]; exact ((Below.refl _ w).alloc (Nat.le_refl _) _).alloc (by simp) _
  obtain ⟨Y, hY⟩ : ∃ Y, w.heap.size = Y := ⟨_, rfl⟩
  obtain ⟨Z, hZ⟩ : ∃ Z, Y + 1 = Z := ⟨_, rfl⟩
  have jY : W.heap[Y]? = some (.cells #[.int .i64 l.txn.1, .int .i64 l.txn.2.1, .int .i64 l.txn.2.2, .int .i64 l.home, .int .i64 l.til, .slice sa l.spans.length sc, .slice wa l.writes.length wc] 68 (0, 0)) := by
    rw [hW, ← hY, Below.heap_alloc _ _ _ (by simp)]
    exact heap_alloc_new w _
  have jZ : W.heap[Z]? = some (.cells #[.string p.lo, .string p.hi] 57 (0, 0)) := by
    have := heap_alloc_new (w.alloc (lkO l sa sc wa wc)) (.cells #[.string p.lo, .string p.hi] 57)
    simp only [World.size_alloc] at this
    rw [hW, ← hZ, ← hY]
    exact this
  have b6 : W.cell? ⟨Y, 6, none⟩ = some (.slice wa l.writes.length wc) := cell_blk jY 6
  have hl := hl0.on wrE_held hb
  have hcall := coW_in (p := fun x => inSn p x.key) hl (c := .pointer (some ⟨Z, 0, none⟩)) (fun X hX i h => inW_f _ (cell_on hX (cell_blk jZ 0)) (cell_on hX (cell_blk jZ 1)))
  have HW := Lib.hid hW
  have HY := Lib.hid hY
  have HZ := Lib.hid hZ
  have HB := Lib.hid hb
  clear hW hY hZ hb jY jZ hl hl0
  go_enter Try.func86, Try.ntmps86
  go_upto_region 1 with fail
  rw [← HW.out, HY.out, HZ.out]
  go_wp2_with fail
  refine hcall.mono ?_
  rintro e w1 ⟨rfl, b1⟩
  go_wp2
  go_ret
  exact ⟨rfl, HB.out.trans (b1.mono HB.out.size)⟩
set_option maxHeartbeats 2000000 in
set_option maxRecDepth 100000 in
theorem holds_any {l : Lk} {sa wa : Option Addr} {sc wc : Nat} (k : ByteArray) (hl0 : Lr wrE 3 w l.writes (.slice wa l.writes.length wc)) :
    Calls Try.prog 89 #[lkV l sa sc wa wc, .string k] w fun e w' => e = .returned (.bool (holdsB l k)) ∧ Below w.heap.size w w' := by
  obtain ⟨W, hW⟩ : ∃ W, W = (w.alloc (lkO l sa sc wa wc)).alloc (.cells #[.string k] 9) := ⟨_, rfl⟩
  have hb : Below w.heap.size w W := by rw [hW]; exact ((Below.refl _ w).alloc (Nat.le_refl _) _).alloc (by simp) _
  obtain ⟨Y, hY⟩ : ∃ Y, w.heap.size = Y := ⟨_, rfl⟩
  obtain ⟨Z, hZ⟩ : ∃ Z, Y + 1 = Z := ⟨_, rfl⟩
  have jY : W.heap[Y]? = some (.cells #[.int .i64 l.txn.1, .int .i64 l.txn.2.1, .int .i64 l.txn.2.2, .int .i64 l.home, .int .i64 l.til, .slice sa l.spans.length sc, .slice wa l.writes.length wc] 68 (0, 0)) := by
    rw [hW, ← hY, Below.heap_alloc _ _ _ (by simp)]
    exact heap_alloc_new w _
  have jZ : W.heap[Z]? = some (.cells #[.string k] 9 (0, 0)) := by
    have := heap_alloc_new (w.alloc (lkO l sa sc wa wc)) (.cells #[.string k] 9)
    simp only [World.size_alloc] at this
    rw [hW, ← hZ, ← hY]
    exact this
  have b6 : W.cell? ⟨Y, 6, none⟩ = some (.slice wa l.writes.length wc) := cell_blk jY 6
  have hl := hl0.on wrE_held hb
  have hcall := coW_is (p := fun x => decide (x.key = k)) hl (c := .pointer (some ⟨Z, 0, none⟩)) (fun X hX i h => isW_f _ (cell_on hX (cell_blk jZ 0)))
  have HW := Lib.hid hW
  have HY := Lib.hid hY
  have HZ := Lib.hid hZ
  have HB := Lib.hid hb
  clear hW hY hZ hb jY jZ hl hl0
  go_enter Try.func89, Try.ntmps89
  go_upto_region 1 with fail
  rw [← HW.out, HY.out, HZ.out]
  go_wp2_with fail
  refine hcall.mono ?_
  rintro e w1 ⟨rfl, b1⟩
  go_wp2
  go_ret
  exact ⟨rfl, HB.out.trans (b1.mono HB.out.size)⟩
set_option maxHeartbeats 2000000 in
set_option maxRecDepth 100000 in
theorem covers_any {l : Lk} {sa wa : Option Addr} {sc wc : Nat} (k : ByteArray) (hl0 : Lr snE 2 w l.spans (.slice sa l.spans.length sc)) :
    Calls Try.prog 90 #[lkV l sa sc wa wc, .string k] w fun e w' => e = .returned (.bool (coversB l k)) ∧ Below w.heap.size w w' := by
  obtain ⟨W, hW⟩ : ∃ W, W = (w.alloc (lkO l sa sc wa wc)).alloc (.cells #[.string k] 9) := ⟨_, rfl⟩
  have hb : Below w.heap.size w W := by rw [hW]; exact ((Below.refl _ w).alloc (Nat.le_refl _) _).alloc (by simp) _
  obtain ⟨Y, hY⟩ : ∃ Y, w.heap.size = Y := ⟨_, rfl⟩
  obtain ⟨Z, hZ⟩ : ∃ Z, Y + 1 = Z := ⟨_, rfl⟩
  have jY : W.heap[Y]? = some (.cells #[.int .i64 l.txn.1, .int .i64 l.txn.2.1, .int .i64 l.txn.2.2, .int .i64 l.home, .int .i64 l.til, .slice sa l.spans.length sc, .slice wa l.writes.length wc] 68 (0, 0)) := by
    rw [hW, ← hY, Below.heap_alloc _ _ _ (by simp)]
    exact heap_alloc_new w _
  have jZ : W.heap[Z]? = some (.cells #[.string k] 9 (0, 0)) := by
    have := heap_alloc_new (w.alloc (lkO l sa sc wa wc)) (.cells #[.string k] 9)
    simp only [World.size_alloc] at this
    rw [hW, ← hZ, ← hY]
    exact this
  have b5 : W.cell? ⟨Y, 5, none⟩ = some (.slice sa l.spans.length sc) := cell_blk jY 5
  have hl := hl0.on snE_held hb
  have hcall := coS_in (p := fun p => inSn p k) hl (c := .pointer (some ⟨Z, 0, none⟩)) (fun X hX i h => inS_f _ (cell_on hX (cell_blk jZ 0)))
  have HW := Lib.hid hW
  have HY := Lib.hid hY
  have HZ := Lib.hid hZ
  have HB := Lib.hid hb
  clear hW hY hZ hb jY jZ hl hl0
  go_enter Try.func90, Try.ntmps90
  go_upto_region 1 with fail
  rw [← HW.out, HY.out, HZ.out]
  go_wp2_with fail
  refine hcall.mono ?_
  rintro e w1 ⟨rfl, b1⟩
  go_wp2
  go_ret
  exact ⟨rfl, HB.out.trans (b1.mono HB.out.size)⟩
end
end Go.Proofs.Ytcoaahlakkghhaa
