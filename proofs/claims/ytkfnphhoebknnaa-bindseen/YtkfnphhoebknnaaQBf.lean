import Derived.Test.YtkfnphhoebknnaaQBe
namespace Go.Proofs.Ytkfnphhoebknnaa
open Go.RowKit
section
variable {w : World}
theorem Pt.on {α : Type} {E : World → α → List Value → Prop} {X : World} {B o : Nat} {x : α} (hE : Held E) (h : Pt E w B o x) (hb : Below w.heap.size w X) : Pt E X B o x := by
  obtain ⟨cs, h1, h2⟩ := h
  exact ⟨cs, hE _ _ _ _ hb h1, fun j u hu => cell_on hb (h2 j u hu)⟩
set_option maxHeartbeats 1000000 in
set_option maxRecDepth 100000 in
theorem tn_f {x : Tb} {B q Z : Nat} {z : ByteArray} (h : Pt tbE w B q x) (cz : w.cell? ⟨Z, 0, none⟩ = some (.string z)) : Calls Try.prog 84 #[.pointer (some ⟨B, q, none⟩), .pointer (some ⟨Z, 0, none⟩)] w fun e w' => e = .returned (.bool (decide (x.nm = z))) ∧ Below w.heap.size w w' := by
  obtain ⟨cs, hE, hc⟩ := h
  obtain ⟨cv, iv, kv, rfl, _⟩ := hE
  have c0 : w.cell? ⟨B, q + 1, none⟩ = some (.string x.nm) := hc 1 _ rfl
  clear hc
  obtain ⟨y, hy⟩ : ∃ y, x.nm = y := ⟨_, rfl⟩
  rw [hy] at c0 ⊢
  have hs := same_eq y z
  obtain ⟨r, hr⟩ : ∃ r, decide (y = z) = r := ⟨_, rfl⟩
  rw [hr] at hs ⊢
  clear hr hy
  
  go_enter Try.func84, Try.ntmps84
  go_wp2
  go_quiet (fail)
  go_wp2
  go_ret
  exact ⟨rfl, bdrewN (Below.refl _ _) _⟩
set_option maxHeartbeats 1000000 in
set_option maxRecDepth 100000 in
theorem co_f {x : Col} {B q Z : Nat} {z : Int} (h : Pt colE w B q x) (cz : w.cell? ⟨Z, 0, none⟩ = some (.int .i64 z)) : Calls Try.prog 95 #[.pointer (some ⟨B, q, none⟩), .pointer (some ⟨Z, 0, none⟩)] w fun e w' => e = .returned (.bool (decide (x.id = z))) ∧ Below w.heap.size w w' := by
  obtain ⟨cs, hE, hc⟩ := h
  cases hE
  have c0 : w.cell? ⟨B, q, none⟩ = some (.int .i64 x.id) := hc 0 _ rfl
  clear hc
  obtain ⟨y, hy⟩ : ∃ y, x.id = y := ⟨_, rfl⟩
  rw [hy] at c0 ⊢
  obtain ⟨r, hr⟩ : ∃ r, decide (y = z) = r := ⟨_, rfl⟩
  rw [hr]
  clear hy
  by_cases hq : y = z
  · have hr2 : r = true := by rw [← hr]; exact decide_eq_true hq
    subst hr2
    clear hr
    subst hq
    go_enter Try.func95, Try.ntmps95
    go_wp2
    go_quiet (fail)
    go_wp2
    go_ret
    exact ⟨by simp, bdrewN (Below.refl _ _) _⟩
  · have hr2 : r = false := by rw [← hr]; exact decide_eq_false hq
    subst hr2
    clear hr
    go_enter Try.func95, Try.ntmps95
    go_wp2
    go_quiet (fail)
    go_wp2
    go_ret
    exact ⟨by simp [hq], bdrewN (Below.refl _ _) _⟩
set_option maxHeartbeats 1000000 in
set_option maxRecDepth 100000 in
theorem to_f {x : Tb} {B q Z : Nat} {z : Int} (h : Pt tbE w B q x) (cz : w.cell? ⟨Z, 0, none⟩ = some (.int .i64 z)) : Calls Try.prog 96 #[.pointer (some ⟨B, q, none⟩), .pointer (some ⟨Z, 0, none⟩)] w fun e w' => e = .returned (.bool (decide (x.id = z))) ∧ Below w.heap.size w w' := by
  obtain ⟨cs, hE, hc⟩ := h
  obtain ⟨cv, iv, kv, rfl, _⟩ := hE
  have c0 : w.cell? ⟨B, q, none⟩ = some (.int .i64 x.id) := hc 0 _ rfl
  clear hc
  obtain ⟨y, hy⟩ : ∃ y, x.id = y := ⟨_, rfl⟩
  rw [hy] at c0 ⊢
  obtain ⟨r, hr⟩ : ∃ r, decide (y = z) = r := ⟨_, rfl⟩
  rw [hr]
  clear hy
  by_cases hq : y = z
  · have hr2 : r = true := by rw [← hr]; exact decide_eq_true hq
    subst hr2
    clear hr
    subst hq
    go_enter Try.func96, Try.ntmps96
    go_wp2
    go_quiet (fail)
    go_wp2
    go_ret
    exact ⟨by simp, bdrewN (Below.refl _ _) _⟩
  · have hr2 : r = false := by rw [← hr]; exact decide_eq_false hq
    subst hr2
    clear hr
    go_enter Try.func96, Try.ntmps96
    go_wp2
    go_quiet (fail)
    go_wp2
    go_ret
    exact ⟨by simp [hq], bdrewN (Below.refl _ _) _⟩
set_option maxHeartbeats 2000000 in
set_option maxRecDepth 100000 in
theorem tabN_any {L : List Tb} {v : Value} (z : ByteArray) (hL : Lr tbE 5 w L v) : Calls Try.prog 61 #[v, .string z] w fun e w' => e = .returned (.int .i64 (fidx (fun x => decide (x.nm = z)) L)) ∧ Below w.heap.size w w' := by
  obtain ⟨W, hW⟩ : ∃ W, W = w.alloc (.cells #[.string z] 9) := ⟨_, rfl⟩
  have hbW : Below w.heap.size w W := by rw [hW]; exact (Below.refl _ w).alloc (Nat.le_refl _) _
  obtain ⟨Y0, hY0⟩ : ∃ Y0, w.heap.size = Y0 := ⟨_, rfl⟩
  have jY0 : W.heap[Y0]? = some (.cells #[.string z] 9 (0, 0)) := by
    have := heap_alloc_new w (.cells #[.string z] 9)
    rw [hW, ← hY0]
    exact this
  have hcall := findT_any (w := W) (f := 84) (cs := #[.pointer (some ⟨Y0, 0, none⟩)]) (p := fun x => decide (x.nm = z)) (hL.on tbE_held hbW) goes84 (fun X hX B q x _ _ hp => tn_f hp (cell_on hX (cell_blk jY0 0)))
  obtain ⟨ad, cap, rfl, _⟩ := hL
  have HW := Lib.hid hW
  have HBW := Lib.hid hbW
  have HY0 := Lib.hid hY0
  clear hW hbW hY0
  clear jY0
  go_enter Try.func61, Try.ntmps61
  go_upto_region 1 with fail
  rw [← HW.out, HY0.out]
  go_wp2_with fail
  refine hcall.mono ?_
  rintro e w1 ⟨rfl, b1⟩
  go_wp2
  go_ret
  exact ⟨rfl, bgo HBW.out b1⟩
set_option maxHeartbeats 2000000 in
set_option maxRecDepth 100000 in
theorem tabO_any {L : List Tb} {v : Value} (z : Int) (hL : Lr tbE 5 w L v) : Calls Try.prog 83 #[v, .int .i64 z] w fun e w' => e = .returned (.int .i64 (fidx (fun x => decide (x.id = z)) L)) ∧ Below w.heap.size w w' := by
  obtain ⟨W, hW⟩ : ∃ W, W = w.alloc (.cells #[.int .i64 z] 3) := ⟨_, rfl⟩
  have hbW : Below w.heap.size w W := by rw [hW]; exact (Below.refl _ w).alloc (Nat.le_refl _) _
  obtain ⟨Y0, hY0⟩ : ∃ Y0, w.heap.size = Y0 := ⟨_, rfl⟩
  have jY0 : W.heap[Y0]? = some (.cells #[.int .i64 z] 3 (0, 0)) := by
    have := heap_alloc_new w (.cells #[.int .i64 z] 3)
    rw [hW, ← hY0]
    exact this
  have hcall := findT_any (w := W) (f := 96) (cs := #[.pointer (some ⟨Y0, 0, none⟩)]) (p := fun x => decide (x.id = z)) (hL.on tbE_held hbW) goes96 (fun X hX B q x _ _ hp => to_f hp (cell_on hX (cell_blk jY0 0)))
  obtain ⟨ad, cap, rfl, _⟩ := hL
  have HW := Lib.hid hW
  have HBW := Lib.hid hbW
  have HY0 := Lib.hid hY0
  clear hW hbW hY0
  clear jY0
  go_enter Try.func83, Try.ntmps83
  go_upto_region 1 with fail
  rw [← HW.out, HY0.out]
  go_wp2_with fail
  refine hcall.mono ?_
  rintro e w1 ⟨rfl, b1⟩
  go_wp2
  go_ret
  exact ⟨rfl, bgo HBW.out b1⟩
set_option maxHeartbeats 2000000 in
set_option maxRecDepth 100000 in
theorem colOf_any {t : Tb} {cv iv kv : Value} (z : Int) (hL : Lr colE 7 w t.cols cv) (hi : ∃ a n m, iv = .slice a n m) (hk : ∃ a n m, kv = .slice a n m) : Calls Try.prog 80 #[tbV t cv iv kv, .int .i64 z] w fun e w' => e = .returned (.int .i64 (colOf t z)) ∧ Below w.heap.size w w' := by
  obtain ⟨ia, inn, im, rfl⟩ := hi
  obtain ⟨ka, kn, km, rfl⟩ := hk
  obtain ⟨ad, cap, rfl, hr⟩ := hL
  have hL : Lr colE 7 w t.cols (.slice ad t.cols.length cap) := ⟨ad, cap, rfl, hr⟩
  obtain ⟨W, hW⟩ : ∃ W, W = (w.alloc (.cells #[.int .i64 t.id, .string t.nm, .slice ad t.cols.length cap, .slice ia inn im, .slice ka kn km] 54)).alloc (.cells #[.int .i64 z] 3) := ⟨_, rfl⟩
  have hbW : Below w.heap.size w W := by rw [hW]; exact ((Below.refl _ w).alloc (Nat.le_refl _) _).alloc (by simp) _
  obtain ⟨Y0, hY0⟩ : ∃ Y0, w.heap.size = Y0 := ⟨_, rfl⟩
  obtain ⟨Y1, hY1⟩ : ∃ Y1, Y0 + 1 = Y1 := ⟨_, rfl⟩
  have jY0 : W.heap[Y0]? = some (.cells #[.int .i64 t.id, .string t.nm, .slice ad t.cols.length cap, .slice ia inn im, .slice ka kn km] 54 (0, 0)) := by
    have := heap_alloc_new w (.cells #[.int .i64 t.id, .string t.nm, .slice ad t.cols.length cap, .slice ia inn im, .slice ka kn km] 54)
    rw [hW, ← hY0]
    rw [Below.heap_alloc _ _ _ (by simp only [World.size_alloc]; omega)]
    exact this
  have jY1 : W.heap[Y1]? = some (.cells #[.int .i64 z] 3 (0, 0)) := by
    have := heap_alloc_new (w.alloc (.cells #[.int .i64 t.id, .string t.nm, .slice ad t.cols.length cap, .slice ia inn im, .slice ka kn km] 54)) (.cells #[.int .i64 z] 3)
    simp only [World.size_alloc] at this
    rw [hW, ← hY1, ← hY0]
    exact this
  have hcall := findC_any (w := W) (f := 95) (cs := #[.pointer (some ⟨Y1, 0, none⟩)]) (p := fun x => decide (x.id = z)) (hL.on colE_held hbW) goes95 (fun X hX B q x _ _ hp => co_f hp (cell_on hX (cell_blk jY1 0)))
  have c2 : W.cell? ⟨Y0, 2, none⟩ = some (.slice ad t.cols.length cap) := cell_blk jY0 2
  have HW := Lib.hid hW
  have HBW := Lib.hid hbW
  have HY0 := Lib.hid hY0
  have HY1 := Lib.hid hY1
  clear hW hbW hY0 hY1
  clear jY0 jY1 hL hr
  go_enter Try.func80, Try.ntmps80
  go_upto_region 1 with fail
  rw [← HW.out, HY0.out, HY1.out]
  go_wp2_with fail
  refine hcall.mono ?_
  rintro e w1 ⟨rfl, b1⟩
  go_wp2
  go_ret
  exact ⟨rfl, bgo HBW.out b1⟩
end
end Go.Proofs.Ytkfnphhoebknnaa
