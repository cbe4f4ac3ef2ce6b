/- The walks of has, holds, holdsIn, covers and of what they call. -/
import Derived.Test.YtcoaahlakkghhaaSa
import Derived.BigQuiet
namespace Go.Proofs.Ytcoaahlakkghhaa
open Go.RowKit
theorem leq_eq (s t : ByteArray) : (Op.bytesLess s.toList t.toList || s.toList == t.toList) = decide (cb s t ≤ 0) := by
  rw [less_eq, same_eq]
  by_cases q : s = t
  · subst q
    rw [cb_self]
    simp
  · have h2 : cb s t ≠ 0 := fun z => q (cb_is.1 z)
    by_cases q1 : cb s t < 0
    · have q2 : cb s t ≤ 0 := by omega
      simp [q1, q2]
    · have q2 : ¬ cb s t ≤ 0 := by omega
      simp [q1, q2, q]
section
variable {w : World}
set_option maxHeartbeats 1000000 in
set_option maxRecDepth 100000 in
theorem has_any (p : Sn) (k : ByteArray) : Calls Try.prog 101 #[snV p, .string k] w fun e w' => e = .returned (.bool (inSn p k)) ∧ Below w.heap.size w w' := by
  have hb : ∀ o, Below w.heap.size w (w.alloc o) := fun o => (Below.refl _ w).alloc (Nat.le_refl _) o
  have HB := Lib.hid hb
  have h1 := leq_eq p.lo k
  have h2 := less_eq k p.hi
  have HI : Hid (inSn p k = (decide (cb p.lo k ≤ 0) && decide (cb k p.hi < 0))) := rfl
  clear hb
  by_cases c1 : cb p.lo k ≤ 0
  · rw [decide_eq_true c1] at h1 HI
    by_cases c2 : cb k p.hi < 0
    · rw [decide_eq_true c2] at h2 HI
      clear c1 c2
      go_enter Try.func101, Try.ntmps101
      go_wp2
      go_ret
      exact ⟨by rw [HI.out]; rfl, HB.out _⟩
    · rw [decide_eq_false c2] at h2 HI
      clear c1 c2
      go_enter Try.func101, Try.ntmps101
      go_wp2
      go_ret
      exact ⟨by rw [HI.out]; rfl, HB.out _⟩
  · rw [decide_eq_false c1] at h1 HI
    clear c1 h2
    go_enter Try.func101, Try.ntmps101
    go_wp2
    go_ret
    exact ⟨by rw [HI.out]; rfl, HB.out _⟩
set_option maxHeartbeats 1000000 in
set_option maxRecDepth 100000 in
theorem inW_f (x : Wr) {Z : Nat} {p : Sn} (c0 : w.cell? ⟨Z, 0, none⟩ = some (.string p.lo)) (c1 : w.cell? ⟨Z, 1, none⟩ = some (.string p.hi)) : Calls Try.prog 100 #[wrV x, .pointer (some ⟨Z, 0, none⟩)] w fun e w' => e = .returned (.bool (inSn p x.key)) ∧ Below w.heap.size w w' := by
  obtain ⟨W, hW⟩ : ∃ W, W = w.alloc (.cells #[.string x.key, .string x.val, .bool x.dead] 55) := ⟨_, rfl⟩
  have hb : Below w.heap.size w W := by rw [hW]; exact (Below.refl _ w).alloc (Nat.le_refl _) _
  obtain ⟨Y, hY⟩ : ∃ Y, w.heap.size = Y := ⟨_, rfl⟩
  have jY : W.heap[Y]? = some (.cells #[.string x.key, .string x.val, .bool x.dead] 55 (0, 0)) := by rw [hW, ← hY]; exact heap_alloc_new w _
  have b0 : W.cell? ⟨Y, 0, none⟩ = some (.string x.key) := cell_blk jY 0
  have d0 := cell_on hb c0
  have d1 := cell_on hb c1
  have HW := Lib.hid hW
  have HY := Lib.hid hY
  have HB := Lib.hid hb
  have hcall := has_any (w := W) p x.key
  clear hW hY hb jY c0 c1
  go_enter Try.func100, Try.ntmps100
  go_upto_region 1 with fail
  rw [← HW.out, HY.out]
  go_wp2_with fail
  refine hcall.mono ?_
  rintro e w1 ⟨rfl, b1⟩
  go_wp2
  go_ret
  exact ⟨rfl, HB.out.trans (b1.mono HB.out.size)⟩
set_option maxHeartbeats 1000000 in
set_option maxRecDepth 100000 in
theorem isW_f (x : Wr) {Z : Nat} {k : ByteArray} (c0 : w.cell? ⟨Z, 0, none⟩ = some (.string k)) : Calls Try.prog 104 #[wrV x, .pointer (some ⟨Z, 0, none⟩)] w fun e w' => e = .returned (.bool (decide (x.key = k))) ∧ Below w.heap.size w w' := by
  obtain ⟨W, hW⟩ : ∃ W, W = w.alloc (.cells #[.string x.key, .string x.val, .bool x.dead] 55) := ⟨_, rfl⟩
  have hb : Below w.heap.size w W := by rw [hW]; exact (Below.refl _ w).alloc (Nat.le_refl _) _
  obtain ⟨Y, hY⟩ : ∃ Y, w.heap.size = Y := ⟨_, rfl⟩
  have jY : W.heap[Y]? = some (.cells #[.string x.key, .string x.val, .bool x.dead] 55 (0, 0)) := by rw [hW, ← hY]; exact heap_alloc_new w _
  have b0 : W.cell? ⟨Y, 0, none⟩ = some (.string x.key) := cell_blk jY 0
  have d0 := cell_on hb c0
  have hs := same_eq x.key k
  obtain ⟨q, hq⟩ : ∃ q, decide (x.key = k) = q := ⟨_, rfl⟩
  rw [hq] at hs ⊢
  have HW := Lib.hid hW
  have HY := Lib.hid hY
  have HB := Lib.hid hb
  clear hW hY hb jY c0 hq
  go_enter Try.func104, Try.ntmps104
  go_upto_region 1 with fail
  rw [← HW.out, HY.out]
  go_wp2
  go_ret
  exact ⟨rfl, HB.out⟩
set_option maxHeartbeats 1000000 in
set_option maxRecDepth 100000 in
theorem inS_f (x : Sn) {Z : Nat} {k : ByteArray} (c0 : w.cell? ⟨Z, 0, none⟩ = some (.string k)) : Calls Try.prog 106 #[snV x, .pointer (some ⟨Z, 0, none⟩)] w fun e w' => e = .returned (.bool (inSn x k)) ∧ Below w.heap.size w w' := by
  obtain ⟨W, hW⟩ : ∃ W, W = w.alloc (.cells #[.string x.lo, .string x.hi] 57) := ⟨_, rfl⟩
  have hb : Below w.heap.size w W := by rw [hW]; exact (Below.refl _ w).alloc (Nat.le_refl _) _
  obtain ⟨Y, hY⟩ : ∃ Y, w.heap.size = Y := ⟨_, rfl⟩
  have jY : W.heap[Y]? = some (.cells #[.string x.lo, .string x.hi] 57 (0, 0)) := by rw [hW, ← hY]; exact heap_alloc_new w _
  have b0 : W.cell? ⟨Y, 0, none⟩ = some (.string x.lo) := cell_blk jY 0
  have b1 : W.cell? ⟨Y, 1, none⟩ = some (.string x.hi) := cell_blk jY 1
  have d0 := cell_on hb c0
  have HW := Lib.hid hW
  have HY := Lib.hid hY
  have HB := Lib.hid hb
  have hcall := has_any (w := W) x k
  clear hW hY hb jY c0
  go_enter Try.func106, Try.ntmps106
  go_upto_region 1 with fail
  rw [← HW.out, HY.out]
  go_wp2_with fail
  refine hcall.mono ?_
  rintro e w1 ⟨rfl, b1⟩
  go_wp2
  go_ret
  exact ⟨rfl, HB.out.trans (b1.mono HB.out.size)⟩
set_option maxHeartbeats 2000000 in
set_option maxRecDepth 100000 in
theorem ixW_in {L : List Wr} {v c : Value} {p : Wr → Bool} (hL : Lr wrE 3 w L v) (hf : ∀ X, Below w.heap.size w X → ∀ i (h : i < L.length), Calls Try.prog 100 #[wrV L[i], c] X fun e w' => e = .returned (.bool (p L[i])) ∧ Below X.heap.size X w') :
    Calls Try.prog 110 #[v, .func (.func 100) #[] #[c]] w fun e w' => e = .returned (.int .i64 (fidx p L)) ∧ Below w.heap.size w w' := by
  obtain ⟨ad, cap, rfl, _, z1, z2, hX⟩ := hL
  have hmx : (L.length : Int) ≤ 9223372036854775807 := by unfold maxLen at z2; omega
  have HX := Lib.hid hX
  have HF := Lib.hid hf
  clear hX z1 z2 hf
  go_enter Try.func110, Try.ntmps110
  go_wp2
  go_loopw [8] (fun iv wr => ∃ i : Nat, i ≤ L.length ∧ iv = .int .i64 (i : Int) ∧ (∀ j (hj : j < L.length), j < i → p L[j] = false) ∧ Below w.heap.size w wr) (fun iv _ => L.length - (intOf iv).toNat)
  case atStart => exact ⟨0, Nat.zero_le _, rfl, fun j _ hj => by omega, Below.refl _ _⟩
  case round =>
    obtain ⟨i, hi, rfl, hno, hb⟩ := hrel
    obtain ⟨V, rfl⟩ : ∃ V, V = wr := ⟨_, rfl⟩
    have HN := Lib.hid hno
    have HB := Lib.hid hb
    by_cases hlt : i < L.length
    · obtain ⟨b, o, cs, rfl, _, hE, _, hcell⟩ := HX.out i hlt
      cases hE
      have c0 := cell_on hb (hcell 0 _ rfl)
      have c1 := cell_on hb (hcell 1 _ rfl)
      have c2 := cell_on hb (hcell 2 _ rfl)
      simp only [Nat.add_zero] at c0
      have hc := HF.out V hb i hlt
      have k0 : (0 : Int) ≤ i := by omega
      have k1 : (i : Int) < L.length := by omega
      have HAT := Lib.hid (fun hp => fidx_at hlt hp hno)
      clear hb hno hcell
      cases hp : p L[i] with
      | true =>
        rw [hp] at hc
        have HR := Lib.hid (HAT.out hp)
        clear hp
        go_wp2_with fail
        refine hc.mono ?_
        rintro e w1 ⟨rfl, b1⟩
        go_wp2
        go_ret
        exact ⟨by rw [HR.out]; rfl, HB.out.trans (b1.mono HB.out.size)⟩
      | false =>
        rw [hp] at hc
        have HNX : Hid (∀ j (hj : j < L.length), j < i + 1 → p L[j] = false) := fun j hj hji => by
          by_cases e : j = i
          · subst e
            exact hp
          · exact HN.out j hj (by omega)
        clear hp
        go_wp2_with fail
        refine hc.mono ?_
        rintro e w1 ⟨rfl, b1⟩
        have HB1 := Lib.hid (HB.out.trans (b1.mono HB.out.size))
        clear b1 hc
        go_wp2
        go_roundw
        case rel => exact ⟨i + 1, hlt, by go_num, HNX.out, HB1.out⟩
        case measure => simp [intOf]; omega
    · have k1 : ¬ (i : Int) < L.length := by omega
      have HR := Lib.hid (fidx_none (p := p) fun j hj => hno j hj (by omega))
      clear hno hb
      go_wp2
      go_ret
      exact ⟨by rw [HR.out]; rfl, HB.out⟩
set_option maxHeartbeats 2000000 in
set_option maxRecDepth 100000 in
theorem ixW_is {L : List Wr} {v c : Value} {p : Wr → Bool} (hL : Lr wrE 3 w L v) (hf : ∀ X, Below w.heap.size w X → ∀ i (h : i < L.length), Calls Try.prog 104 #[wrV L[i], c] X fun e w' => e = .returned (.bool (p L[i])) ∧ Below X.heap.size X w') :
    Calls Try.prog 110 #[v, .func (.func 104) #[] #[c]] w fun e w' => e = .returned (.int .i64 (fidx p L)) ∧ Below w.heap.size w w' := by
  obtain ⟨ad, cap, rfl, _, z1, z2, hX⟩ := hL
  have hmx : (L.length : Int) ≤ 9223372036854775807 := by unfold maxLen at z2; omega
  have HX := Lib.hid hX
  have HF := Lib.hid hf
  clear hX z1 z2 hf
  go_enter Try.func110, Try.ntmps110
  go_wp2
  go_loopw [8] (fun iv wr => ∃ i : Nat, i ≤ L.length ∧ iv = .int .i64 (i : Int) ∧ (∀ j (hj : j < L.length), j < i → p L[j] = false) ∧ Below w.heap.size w wr) (fun iv _ => L.length - (intOf iv).toNat)
  case atStart => exact ⟨0, Nat.zero_le _, rfl, fun j _ hj => by omega, Below.refl _ _⟩
  case round =>
    obtain ⟨i, hi, rfl, hno, hb⟩ := hrel
    obtain ⟨V, rfl⟩ : ∃ V, V = wr := ⟨_, rfl⟩
    have HN := Lib.hid hno
    have HB := Lib.hid hb
    by_cases hlt : i < L.length
    · obtain ⟨b, o, cs, rfl, _, hE, _, hcell⟩ := HX.out i hlt
      cases hE
      have c0 := cell_on hb (hcell 0 _ rfl)
      have c1 := cell_on hb (hcell 1 _ rfl)
      have c2 := cell_on hb (hcell 2 _ rfl)
      simp only [Nat.add_zero] at c0
      have hc := HF.out V hb i hlt
      have k0 : (0 : Int) ≤ i := by omega
      have k1 : (i : Int) < L.length := by omega
      have HAT := Lib.hid (fun hp => fidx_at hlt hp hno)
      clear hb hno hcell
      cases hp : p L[i] with
      | true =>
        rw [hp] at hc
        have HR := Lib.hid (HAT.out hp)
        clear hp
        go_wp2_with fail
        refine hc.mono ?_
        rintro e w1 ⟨rfl, b1⟩
        go_wp2
        go_ret
        exact ⟨by rw [HR.out]; rfl, HB.out.trans (b1.mono HB.out.size)⟩
      | false =>
        rw [hp] at hc
        have HNX : Hid (∀ j (hj : j < L.length), j < i + 1 → p L[j] = false) := fun j hj hji => by
          by_cases e : j = i
          · subst e
            exact hp
          · exact HN.out j hj (by omega)
        clear hp
        go_wp2_with fail
        refine hc.mono ?_
        rintro e w1 ⟨rfl, b1⟩
        have HB1 := Lib.hid (HB.out.trans (b1.mono HB.out.size))
        clear b1 hc
        go_wp2
        go_roundw
        case rel => exact ⟨i + 1, hlt, by go_num, HNX.out, HB1.out⟩
        case measure => simp [intOf]; omega
    · have k1 : ¬ (i : Int) < L.length := by omega
      have HR := Lib.hid (fidx_none (p := p) fun j hj => hno j hj (by omega))
      clear hno hb
      go_wp2
      go_ret
      exact ⟨by rw [HR.out]; rfl, HB.out⟩
set_option maxHeartbeats 2000000 in
set_option maxRecDepth 100000 in
theorem ixS_in {L : List Sn} {v c : Value} {p : Sn → Bool} (hL : Lr snE 2 w L v) (hf : ∀ X, Below w.heap.size w X → ∀ i (h : i < L.length), Calls Try.prog 106 #[snV L[i], c] X fun e w' => e = .returned (.bool (p L[i])) ∧ Below X.heap.size X w') :
    Calls Try.prog 111 #[v, .func (.func 106) #[] #[c]] w fun e w' => e = .returned (.int .i64 (fidx p L)) ∧ Below w.heap.size w w' := by
  obtain ⟨ad, cap, rfl, _, z1, z2, hX⟩ := hL
  have hmx : (L.length : Int) ≤ 9223372036854775807 := by unfold maxLen at z2; omega
  have HX := Lib.hid hX
  have HF := Lib.hid hf
  clear hX z1 z2 hf
  go_enter Try.func111, Try.ntmps111
  go_wp2
  go_loopw [8] (fun iv wr => ∃ i : Nat, i ≤ L.length ∧ iv = .int .i64 (i : Int) ∧ (∀ j (hj : j < L.length), j < i → p L[j] = false) ∧ Below w.heap.size w wr) (fun iv _ => L.length - (intOf iv).toNat)
  case atStart => exact ⟨0, Nat.zero_le _, rfl, fun j _ hj => by omega, Below.refl _ _⟩
  case round =>
    obtain ⟨i, hi, rfl, hno, hb⟩ := hrel
    obtain ⟨V, rfl⟩ : ∃ V, V = wr := ⟨_, rfl⟩
    have HN := Lib.hid hno
    have HB := Lib.hid hb
    by_cases hlt : i < L.length
    · obtain ⟨b, o, cs, rfl, _, hE, _, hcell⟩ := HX.out i hlt
      cases hE
      have c0 := cell_on hb (hcell 0 _ rfl)
      have c1 := cell_on hb (hcell 1 _ rfl)
      simp only [Nat.add_zero] at c0
      have hc := HF.out V hb i hlt
      have k0 : (0 : Int) ≤ i := by omega
      have k1 : (i : Int) < L.length := by omega
      have HAT := Lib.hid (fun hp => fidx_at hlt hp hno)
      clear hb hno hcell
      cases hp : p L[i] with
      | true =>
        rw [hp] at hc
        have HR := Lib.hid (HAT.out hp)
        clear hp
        go_wp2_with fail
        refine hc.mono ?_
        rintro e w1 ⟨rfl, b1⟩
        go_wp2
        go_ret
        exact ⟨by rw [HR.out]; rfl, HB.out.trans (b1.mono HB.out.size)⟩
      | false =>
        rw [hp] at hc
        have HNX : Hid (∀ j (hj : j < L.length), j < i + 1 → p L[j] = false) := fun j hj hji => by
          by_cases e : j = i
          · subst e
            exact hp
          · exact HN.out j hj (by omega)
        clear hp
        go_wp2_with fail
        refine hc.mono ?_
        rintro e w1 ⟨rfl, b1⟩
        have HB1 := Lib.hid (HB.out.trans (b1.mono HB.out.size))
        clear b1 hc
        go_wp2
        go_roundw
        case rel => exact ⟨i + 1, hlt, by go_num, HNX.out, HB1.out⟩
        case measure => simp [intOf]; omega
    · have k1 : ¬ (i : Int) < L.length := by omega
      have HR := Lib.hid (fidx_none (p := p) fun j hj => hno j hj (by omega))
      clear hno hb
      go_wp2
      go_ret
      exact ⟨by rw [HR.out]; rfl, HB.out⟩
set_option maxHeartbeats 2000000 in
set_option maxRecDepth 100000 in
theorem ixL_of {L : List Lk} {v c : Value} {p : Lk → Bool} (hL : Lr lkE 7 w L v) (hf : ∀ X, Below w.heap.size w X → ∀ i (h : i < L.length) sa sc wa wc, Lr snE 2 X L[i].spans (.slice sa L[i].spans.length sc) → Lr wrE 3 X L[i].writes (.slice wa L[i].writes.length wc) → Calls Try.prog 83 #[.agg #[.int .i64 L[i].txn.1, .int .i64 L[i].txn.2.1, .int .i64 L[i].txn.2.2, .int .i64 L[i].home, .int .i64 L[i].til, .slice sa L[i].spans.length sc, .slice wa L[i].writes.length wc], c] X fun e w' => e = .returned (.bool (p L[i])) ∧ Below X.heap.size X w') :
    Calls Try.prog 82 #[v, .func (.func 83) #[] #[c]] w fun e w' => e = .returned (.int .i64 (fidx p L)) ∧ Below w.heap.size w w' := by
  obtain ⟨ad, cap, rfl, _, z1, z2, hX⟩ := hL
  have hmx : (L.length : Int) ≤ 9223372036854775807 := by unfold maxLen at z2; omega
  have HX := Lib.hid hX
  have HF := Lib.hid hf
  clear hX z1 z2 hf
  go_enter Try.func82, Try.ntmps82
  go_wp2
  go_loopw [8] (fun iv wr => ∃ i : Nat, i ≤ L.length ∧ iv = .int .i64 (i : Int) ∧ (∀ j (hj : j < L.length), j < i → p L[j] = false) ∧ Below w.heap.size w wr) (fun iv _ => L.length - (intOf iv).toNat)
  case atStart => exact ⟨0, Nat.zero_le _, rfl, fun j _ hj => by omega, Below.refl _ _⟩
  case round =>
    obtain ⟨i, hi, rfl, hno, hb⟩ := hrel
    obtain ⟨V, rfl⟩ : ∃ V, V = wr := ⟨_, rfl⟩
    have HN := Lib.hid hno
    have HB := Lib.hid hb
    by_cases hlt : i < L.length
    · obtain ⟨b, o, cs, rfl, _, hE, _, hcell⟩ := HX.out i hlt
      obtain ⟨sa, sc, wa, wc, rfl, hs1, hs2⟩ := hE
      have c0 := cell_on hb (hcell 0 _ rfl)
      have c1 := cell_on hb (hcell 1 _ rfl)
      have c2 := cell_on hb (hcell 2 _ rfl)
      have c3 := cell_on hb (hcell 3 _ rfl)
      have c4 := cell_on hb (hcell 4 _ rfl)
      have c5 := cell_on hb (hcell 5 _ rfl)
      have c6 := cell_on hb (hcell 6 _ rfl)
      simp only [Nat.add_zero] at c0
      have hc := HF.out V hb i hlt sa sc wa wc (hs1.on snE_held hb) (hs2.on wrE_held hb)
      have k0 : (0 : Int) ≤ i := by omega
      have k1 : (i : Int) < L.length := by omega
      have HAT := Lib.hid (fun hp => fidx_at hlt hp hno)
      clear hb hno hcell hs1 hs2
      cases hp : p L[i] with
      | true =>
        rw [hp] at hc
        have HR := Lib.hid (HAT.out hp)
        clear hp
        go_wp2_with fail
        refine hc.mono ?_
        rintro e w1 ⟨rfl, b1⟩
        go_wp2
        go_ret
        exact ⟨by rw [HR.out]; rfl, HB.out.trans (b1.mono HB.out.size)⟩
      | false =>
        rw [hp] at hc
        have HNX : Hid (∀ j (hj : j < L.length), j < i + 1 → p L[j] = false) := fun j hj hji => by
          by_cases e : j = i
          · subst e
            exact hp
          · exact HN.out j hj (by omega)
        clear hp
        go_wp2_with fail
        refine hc.mono ?_
        rintro e w1 ⟨rfl, b1⟩
        have HB1 := Lib.hid (HB.out.trans (b1.mono HB.out.size))
        clear b1 hc
        go_wp2
        go_roundw
        case rel => exact ⟨i + 1, hlt, by go_num, HNX.out, HB1.out⟩
        case measure => simp [intOf]; omega
    · have k1 : ¬ (i : Int) < L.length := by omega
      have HR := Lib.hid (fidx_none (p := p) fun j hj => hno j hj (by omega))
      clear hno hb
      go_wp2
      go_ret
      exact ⟨by rw [HR.out]; rfl, HB.out⟩
set_option maxHeartbeats 2000000 in
set_option maxRecDepth 100000 in
theorem ixL_rd {L : List Lk} {v c : Value} {p : Lk → Bool} (hL : Lr lkE 7 w L v) (hf : ∀ X, Below w.heap.size w X → ∀ i (h : i < L.length) sa sc wa wc, Lr snE 2 X L[i].spans (.slice sa L[i].spans.length sc) → Lr wrE 3 X L[i].writes (.slice wa L[i].writes.length wc) → Calls Try.prog 85 #[.agg #[.int .i64 L[i].txn.1, .int .i64 L[i].txn.2.1, .int .i64 L[i].txn.2.2, .int .i64 L[i].home, .int .i64 L[i].til, .slice sa L[i].spans.length sc, .slice wa L[i].writes.length wc], c] X fun e w' => e = .returned (.bool (p L[i])) ∧ Below X.heap.size X w') :
    Calls Try.prog 82 #[v, .func (.func 85) #[] #[c]] w fun e w' => e = .returned (.int .i64 (fidx p L)) ∧ Below w.heap.size w w' := by
  obtain ⟨ad, cap, rfl, _, z1, z2, hX⟩ := hL
  have hmx : (L.length : Int) ≤ 9223372036854775807 := by unfold maxLen at z2; omega
  have HX := Lib.hid hX
  have HF := Lib.hid hf
  clear hX z1 z2 hf
  go_enter Try.func82, Try.ntmps82
  go_wp2
  go_loopw [8] (fun iv wr => ∃ i : Nat, i ≤ L.length ∧ iv = .int .i64 (i : Int) ∧ (∀ j (hj : j < L.length), j < i → p L[j] = false) ∧ Below w.heap.size w wr) (fun iv _ => L.length - (intOf iv).toNat)
  case atStart => exact ⟨0, Nat.zero_le _, rfl, fun j _ hj => by omega, Below.refl _ _⟩
  case round =>
    obtain ⟨i, hi, rfl, hno, hb⟩ := hrel
    obtain ⟨V, rfl⟩ : ∃ V, V = wr := ⟨_, rfl⟩
    have HN := Lib.hid hno
    have HB := Lib.hid hb
    by_cases hlt : i < L.length
    · obtain ⟨b, o, cs, rfl, _, hE, _, hcell⟩ := HX.out i hlt
      obtain ⟨sa, sc, wa, wc, rfl, hs1, hs2⟩ := hE
      have c0 := cell_on hb (hcell 0 _ rfl)
      have c1 := cell_on hb (hcell 1 _ rfl)
      have c2 := cell_on hb (hcell 2 _ rfl)
      have c3 := cell_on hb (hcell 3 _ rfl)
      have c4 := cell_on hb (hcell 4 _ rfl)
      have c5 := cell_on hb (hcell 5 _ rfl)
      have c6 := cell_on hb (hcell 6 _ rfl)
      simp only [Nat.add_zero] at c0
      have hc := HF.out V hb i hlt sa sc wa wc (hs1.on snE_held hb) (hs2.on wrE_held hb)
      have k0 : (0 : Int) ≤ i := by omega
      have k1 : (i : Int) < L.length := by omega
      have HAT := Lib.hid (fun hp => fidx_at hlt hp hno)
      clear hb hno hcell hs1 hs2
      cases hp : p L[i] with
      | true =>
        rw [hp] at hc
        have HR := Lib.hid (HAT.out hp)
        clear hp
        go_wp2_with fail
        refine hc.mono ?_
        rintro e w1 ⟨rfl, b1⟩
        go_wp2
        go_ret
        exact ⟨by rw [HR.out]; rfl, HB.out.trans (b1.mono HB.out.size)⟩
      | false =>
        rw [hp] at hc
        have HNX : Hid (∀ j (hj : j < L.length), j < i + 1 → p L[j] = false) := fun j hj hji => by
          by_cases e : j = i
          · subst e
            exact hp
          · exact HN.out j hj (by omega)
        clear hp
        go_wp2_with fail
        refine hc.mono ?_
        rintro e w1 ⟨rfl, b1⟩
        have HB1 := Lib.hid (HB.out.trans (b1.mono HB.out.size))
        clear b1 hc
        go_wp2
        go_roundw
        case rel => exact ⟨i + 1, hlt, by go_num, HNX.out, HB1.out⟩
        case measure => simp [intOf]; omega
    · have k1 : ¬ (i : Int) < L.length := by omega
      have HR := Lib.hid (fidx_none (p := p) fun j hj => hno j hj (by omega))
      clear hno hb
      go_wp2
      go_ret
      exact ⟨by rw [HR.out]; rfl, HB.out⟩
set_option maxHeartbeats 2000000 in
set_option maxRecDepth 100000 in
theorem ixL_wr {L : List Lk} {v c : Value} {p : Lk → Bool} (hL : Lr lkE 7 w L v) (hf : ∀ X, Below w.heap.size w X → ∀ i (h : i < L.length) sa sc wa wc, Lr snE 2 X L[i].spans (.slice sa L[i].spans.length sc) → Lr wrE 3 X L[i].writes (.slice wa L[i].writes.length wc) → Calls Try.prog 88 #[.agg #[.int .i64 L[i].txn.1, .int .i64 L[i].txn.2.1, .int .i64 L[i].txn.2.2, .int .i64 L[i].home, .int .i64 L[i].til, .slice sa L[i].spans.length sc, .slice wa L[i].writes.length wc], c] X fun e w' => e = .returned (.bool (p L[i])) ∧ Below X.heap.size X w') :
    Calls Try.prog 82 #[v, .func (.func 88) #[] #[c]] w fun e w' => e = .returned (.int .i64 (fidx p L)) ∧ Below w.heap.size w w' := by
  obtain ⟨ad, cap, rfl, _, z1, z2, hX⟩ := hL
  have hmx : (L.length : Int) ≤ 9223372036854775807 := by unfold maxLen at z2; omega
  have HX := Lib.hid hX
  have HF := Lib.hid hf
  clear hX z1 z2 hf
  go_enter Try.func82, Try.ntmps82
  go_wp2
  go_loopw [8] (fun iv wr => ∃ i : Nat, i ≤ L.length ∧ iv = .int .i64 (i : Int) ∧ (∀ j (hj : j < L.length), j < i → p L[j] = false) ∧ Below w.heap.size w wr) (fun iv _ => L.length - (intOf iv).toNat)
  case atStart => exact ⟨0, Nat.zero_le _, rfl, fun j _ hj => by omega, Below.refl _ _⟩
  case round =>
    obtain ⟨i, hi, rfl, hno, hb⟩ := hrel
    obtain ⟨V, rfl⟩ : ∃ V, V = wr := ⟨_, rfl⟩
    have HN := Lib.hid hno
    have HB := Lib.hid hb
    by_cases hlt : i < L.length
    · obtain ⟨b, o, cs, rfl, _, hE, _, hcell⟩ := HX.out i hlt
      obtain ⟨sa, sc, wa, wc, rfl, hs1, hs2⟩ := hE
      have c0 := cell_on hb (hcell 0 _ rfl)
      have c1 := cell_on hb (hcell 1 _ rfl)
      have c2 := cell_on hb (hcell 2 _ rfl)
      have c3 := cell_on hb (hcell 3 _ rfl)
      have c4 := cell_on hb (hcell 4 _ rfl)
      have c5 := cell_on hb (hcell 5 _ rfl)
      have c6 := cell_on hb (hcell 6 _ rfl)
      simp only [Nat.add_zero] at c0
      have hc := HF.out V hb i hlt sa sc wa wc (hs1.on snE_held hb) (hs2.on wrE_held hb)
      have k0 : (0 : Int) ≤ i := by omega
      have k1 : (i : Int) < L.length := by omega
      have HAT := Lib.hid (fun hp => fidx_at hlt hp hno)
      clear hb hno hcell hs1 hs2
      cases hp : p L[i] with
      | true =>
        rw [hp] at hc
        have HR := Lib.hid (HAT.out hp)
        clear hp
        go_wp2_with fail
        refine hc.mono ?_
        rintro e w1 ⟨rfl, b1⟩
        go_wp2
        go_ret
        exact ⟨by rw [HR.out]; rfl, HB.out.trans (b1.mono HB.out.size)⟩
      | false =>
        rw [hp] at hc
        have HNX : Hid (∀ j (hj : j < L.length), j < i + 1 → p L[j] = false) := fun j hj hji => by
          by_cases e : j = i
          · subst e
            exact hp
          · exact HN.out j hj (by omega)
        clear hp
        go_wp2_with fail
        refine hc.mono ?_
        rintro e w1 ⟨rfl, b1⟩
        have HB1 := Lib.hid (HB.out.trans (b1.mono HB.out.size))
        clear b1 hc
        go_wp2
        go_roundw
        case rel => exact ⟨i + 1, hlt, by go_num, HNX.out, HB1.out⟩
        case measure => simp [intOf]; omega
    · have k1 : ¬ (i : Int) < L.length := by omega
      have HR := Lib.hid (fidx_none (p := p) fun j hj => hno j hj (by omega))
      clear hno hb
      go_wp2
      go_ret
      exact ⟨by rw [HR.out]; rfl, HB.out⟩
end
end Go.Proofs.Ytcoaahlakkghhaa
