/- The walk of WireCommands. -/
import Derived.Test.YtjhgmncmcklnkaaGa
import Derived.Test.YtjhgmncmcklnkaaNf
import Derived.Test.YtjhgmncmcklnkaaNh
import Derived.Test.YtjhgmncmcklnkaaKs
import Derived.Deep.CutBlock
namespace Go.Proofs.Ytjhgmncmcklnkaa
open Go.RowKit

set_option maxHeartbeats 1000000 in
set_option maxRecDepth 100000 in
theorem law_command (w : World) {x : List At} {vs : List Value} (hx0 : hasS commandT x) (hv0 : valsS w NoS x vs) (hl : (encS x).length ≤ 1000000000) (href0 : ∀ (X : World) {x : List At} {vs : List Value}, hasS commandT x → valsS X NoS x vs → (encS x).length ≤ 1000000000 → Calls Try.prog 18 #[.agg vs.toArray] X fun e X' => e = .returned (.string (txt (encS x))) ∧ Below X.heap.size X X') : Calls Try.prog 5 #[.agg vs.toArray] w fun e w' => e = .returned (.bool true) ∧ Below w.heap.size w w' := by
  have HX := Lib.hid hx0
  have HV := Lib.hid hv0
  have HLN := Lib.hid hl
  obtain ⟨E, hE⟩ : ∃ E, txt (encS x) = E := ⟨_, rfl⟩
  have hEs : E.size ≤ 1000000000 := by rw [← hE, txt_size]; exact hl
  have hput : ∀ X, Below w.heap.size w X → Calls Try.prog 16 #[.agg vs.toArray] X fun e X' => e = .returned (.string E) ∧ Below X.heap.size X X' := fun X q => by
    rw [← hE]
    exact Put_command X hx0 (valsS_keeps ⟨q.size, fun k hk hs => ⟨q.block k hk, hs⟩⟩ hv0) hl
  have href : ∀ X, Below w.heap.size w X → Calls Try.prog 18 #[.agg vs.toArray] X fun e X' => e = .returned (.string E) ∧ Below X.heap.size X X' := fun X q => by
    rw [← hE]
    exact href0 X hx0 (valsS_keeps ⟨q.size, fun k hk hs => ⟨q.block k hk, hs⟩⟩ hv0) hl
  have hget : ∀ X, Calls Try.prog 17 #[.string E] X fun e X' => ∃ us : Array Value, e = .returned (.tuple #[.agg us, .int .i64 0]) ∧ Hid (us.size = commandT.length ∧ us.all (·.oneCell') = true ∧ Below X.heap.size X X' ∧ valsS X' NoS x us.toList) := fun X => by
    refine (Get_command X E hEs).mono ?_
    intro e X' q
    have q2 := q
    rw [← hE] at q
    obtain ⟨us, h1, h2, h3, h4⟩ := q.yes hx0
    obtain ⟨vs', c', g1, g2, g3, _⟩ := q2
    have e1 : vs' = us := by
      rw [g1] at h1
      injection h1 with h1
      injection h1 with h1
      have := congrArg (fun a => a[0]?) h1
      simp at this
      exact this
    subst e1
    exact ⟨vs', h1, h2, kinds_one g2 g3, h3, valsS_keeps ⟨Nat.le_refl _, fun k _ _ => ⟨rfl, fun q => q⟩⟩ (valsS_keeps (S := fun k => k < X.heap.size) (S' := NoS) ⟨Nat.le_refl _, fun k _ _ => ⟨rfl, fun q => q⟩⟩ h4)⟩
  have HEE := Lib.hid hE
  have HREF0 := Lib.hid (fun X h => href0 X (x := x) (vs := h))
  clear hE hEs href0
  obtain ⟨W, hW⟩ : ∃ W, W = w.alloc (.cells vs.toArray 47) := ⟨_, rfl⟩
  have hbW : Below w.heap.size w W := by rw [hW]; exact (Below.refl _ _).alloc (Nat.le_refl _) _
  have hbk : W.heap[w.heap.size]? = some (.cells vs.toArray 47 (0, 0)) := by rw [hW]; exact heap_alloc_new w _
  have hvl : vs.toArray.size = 30 := by have := valsS_len hv0; have := hasS_len hx0; simp at *; omega
  obtain ⟨a0, x0, rfl, k0, hx_0⟩ := hasS_cons hx0
  obtain ⟨n0, rfl, i0⟩ := has_num k0
  obtain ⟨u0, r0, rfl, l0, hv_0⟩ := valsS_cons hv0
  obtain rfl := lies_num l0
  obtain ⟨a1, x1, rfl, k1, hx_1⟩ := hasS_cons hx_0
  obtain ⟨n1, rfl, i1⟩ := has_num k1
  obtain ⟨u1, r1, rfl, l1, hv_1⟩ := valsS_cons hv_0
  obtain rfl := lies_num l1
  obtain ⟨a2, x2, rfl, k2, hx_2⟩ := hasS_cons hx_1
  obtain ⟨n2, rfl, i2⟩ := has_num k2
  obtain ⟨u2, r2, rfl, l2, hv_2⟩ := valsS_cons hv_1
  obtain rfl := lies_num l2
  obtain ⟨a3, x3, rfl, k3, hx_3⟩ := hasS_cons hx_2
  obtain ⟨n3, rfl, i3⟩ := has_num k3
  obtain ⟨u3, r3, rfl, l3, hv_3⟩ := valsS_cons hv_2
  obtain rfl := lies_num l3
  obtain ⟨a4, x4, rfl, k4, hx_4⟩ := hasS_cons hx_3
  obtain ⟨n4, rfl, i4⟩ := has_num k4
  obtain ⟨u4, r4, rfl, l4, hv_4⟩ := valsS_cons hv_3
  obtain rfl := lies_num l4
  obtain ⟨a5, x5, rfl, k5, hx_5⟩ := hasS_cons hx_4
  obtain ⟨n5, rfl, i5⟩ := has_num k5
  obtain ⟨u5, r5, rfl, l5, hv_5⟩ := valsS_cons hv_4
  obtain rfl := lies_num l5
  obtain ⟨a6, x6, rfl, k6, hx_6⟩ := hasS_cons hx_5
  obtain ⟨n6, rfl, i6⟩ := has_num k6
  obtain ⟨u6, r6, rfl, l6, hv_6⟩ := valsS_cons hv_5
  obtain rfl := lies_num l6
  obtain ⟨a7, x7, rfl, k7, hx_7⟩ := hasS_cons hx_6
  obtain ⟨n7, rfl, i7⟩ := has_num k7
  obtain ⟨u7, r7, rfl, l7, hv_7⟩ := valsS_cons hv_6
  obtain rfl := lies_num l7
  obtain ⟨a8, x8, rfl, k8, hx_8⟩ := hasS_cons hx_7
  obtain ⟨n8, rfl, m8, i8⟩ := has_list k8
  obtain ⟨u8, r8, rfl, l8, hv_8⟩ := valsS_cons hv_7
  obtain ⟨ad8, cp8, rfl⟩ := lies_list l8
  obtain ⟨a9, x9, rfl, k9, hx_9⟩ := hasS_cons hx_8
  obtain ⟨n9, rfl, m9, i9⟩ := has_list k9
  obtain ⟨u9, r9, rfl, l9, hv_9⟩ := valsS_cons hv_8
  obtain ⟨ad9, cp9, rfl⟩ := lies_list l9
  obtain ⟨a10, x10, rfl, k10, hx_10⟩ := hasS_cons hx_9
  obtain ⟨n10, rfl, i10⟩ := has_num k10
  obtain ⟨u10, r10, rfl, l10, hv_10⟩ := valsS_cons hv_9
  obtain rfl := lies_num l10
  obtain ⟨a11, x11, rfl, k11, hx_11⟩ := hasS_cons hx_10
  obtain ⟨n11, rfl, i11⟩ := has_num k11
  obtain ⟨u11, r11, rfl, l11, hv_11⟩ := valsS_cons hv_10
  obtain rfl := lies_num l11
  obtain ⟨a12, x12, rfl, k12, hx_12⟩ := hasS_cons hx_11
  obtain ⟨n12, rfl, i12⟩ := has_num k12
  obtain ⟨u12, r12, rfl, l12, hv_12⟩ := valsS_cons hv_11
  obtain rfl := lies_num l12
  obtain ⟨a13, x13, rfl, k13, hx_13⟩ := hasS_cons hx_12
  obtain ⟨n13, rfl, i13⟩ := has_num k13
  obtain ⟨u13, r13, rfl, l13, hv_13⟩ := valsS_cons hv_12
  obtain rfl := lies_num l13
  obtain ⟨a14, x14, rfl, k14, hx_14⟩ := hasS_cons hx_13
  obtain ⟨n14, rfl, i14⟩ := has_num k14
  obtain ⟨u14, r14, rfl, l14, hv_14⟩ := valsS_cons hv_13
  obtain rfl := lies_num l14
  obtain ⟨a15, x15, rfl, k15, hx_15⟩ := hasS_cons hx_14
  obtain ⟨n15, rfl, i15⟩ := has_num k15
  obtain ⟨u15, r15, rfl, l15, hv_15⟩ := valsS_cons hv_14
  obtain rfl := lies_num l15
  obtain ⟨a16, x16, rfl, k16, hx_16⟩ := hasS_cons hx_15
  obtain ⟨n16, rfl, i16⟩ := has_text k16
  obtain ⟨u16, r16, rfl, l16, hv_16⟩ := valsS_cons hv_15
  obtain rfl := lies_text l16
  obtain ⟨a17, x17, rfl, k17, hx_17⟩ := hasS_cons hx_16
  obtain ⟨n17, rfl, i17⟩ := has_text k17
  obtain ⟨u17, r17, rfl, l17, hv_17⟩ := valsS_cons hv_16
  obtain rfl := lies_text l17
  obtain ⟨a18, x18, rfl, k18, hx_18⟩ := hasS_cons hx_17
  obtain ⟨n18, rfl, i18⟩ := has_text k18
  obtain ⟨u18, r18, rfl, l18, hv_18⟩ := valsS_cons hv_17
  obtain rfl := lies_text l18
  obtain ⟨a19, x19, rfl, k19, hx_19⟩ := hasS_cons hx_18
  obtain ⟨n19, rfl, i19⟩ := has_text k19
  obtain ⟨u19, r19, rfl, l19, hv_19⟩ := valsS_cons hv_18
  obtain rfl := lies_text l19
  obtain ⟨a20, x20, rfl, k20, hx_20⟩ := hasS_cons hx_19
  obtain ⟨n20, rfl⟩ := has_yes k20
  obtain ⟨u20, r20, rfl, l20, hv_20⟩ := valsS_cons hv_19
  obtain rfl := lies_yes l20
  obtain ⟨a21, x21, rfl, k21, hx_21⟩ := hasS_cons hx_20
  obtain ⟨n21, rfl, i21⟩ := has_num k21
  obtain ⟨u21, r21, rfl, l21, hv_21⟩ := valsS_cons hv_20
  obtain rfl := lies_num l21
  obtain ⟨a22, x22, rfl, k22, hx_22⟩ := hasS_cons hx_21
  obtain ⟨n22, rfl, i22⟩ := has_num k22
  obtain ⟨u22, r22, rfl, l22, hv_22⟩ := valsS_cons hv_21
  obtain rfl := lies_num l22
  obtain ⟨a23, x23, rfl, k23, hx_23⟩ := hasS_cons hx_22
  obtain ⟨n23, rfl, i23⟩ := has_num k23
  obtain ⟨u23, r23, rfl, l23, hv_23⟩ := valsS_cons hv_22
  obtain rfl := lies_num l23
  obtain ⟨a24, x24, rfl, k24, hx_24⟩ := hasS_cons hx_23
  obtain ⟨n24, rfl, i24⟩ := has_text k24
  obtain ⟨u24, r24, rfl, l24, hv_24⟩ := valsS_cons hv_23
  obtain rfl := lies_text l24
  obtain ⟨a25, x25, rfl, k25, hx_25⟩ := hasS_cons hx_24
  obtain ⟨n25, rfl, m25, i25⟩ := has_list k25
  obtain ⟨u25, r25, rfl, l25, hv_25⟩ := valsS_cons hv_24
  obtain ⟨ad25, cp25, rfl⟩ := lies_list l25
  obtain ⟨a26, x26, rfl, k26, hx_26⟩ := hasS_cons hx_25
  obtain ⟨n26, rfl, i26⟩ := has_num k26
  obtain ⟨u26, r26, rfl, l26, hv_26⟩ := valsS_cons hv_25
  obtain rfl := lies_num l26
  obtain ⟨a27, x27, rfl, k27, hx_27⟩ := hasS_cons hx_26
  obtain ⟨n27, rfl, i27⟩ := has_num k27
  obtain ⟨u27, r27, rfl, l27, hv_27⟩ := valsS_cons hv_26
  obtain rfl := lies_num l27
  obtain ⟨a28, x28, rfl, k28, hx_28⟩ := hasS_cons hx_27
  obtain ⟨n28, rfl, i28⟩ := has_text k28
  obtain ⟨u28, r28, rfl, l28, hv_28⟩ := valsS_cons hv_27
  obtain rfl := lies_text l28
  obtain ⟨a29, x29, rfl, k29, hx_29⟩ := hasS_cons hx_28
  obtain ⟨n29, rfl, i29⟩ := has_num k29
  obtain ⟨u29, r29, rfl, l29, hv_29⟩ := valsS_cons hv_28
  obtain rfl := lies_num l29
  obtain rfl := hasS_end hx_29
  obtain rfl := valsS_end hv_29
  have h8 := list_in (n := n8) (by simp) hl (encL_len (t := readT) (by simp) i8)
  have h9 := (list_in (n := n9) (by simp) hl (encL_len (t := writeT) (by simp) i9)).1
  have h25 := (list_in (n := n25) (by simp) hl (encL_len (t := columnT) (by simp) i25)).1
  have HE8 := Lib.hid h8.2
  replace h8 := h8.1
  have HT8 := Lib.hid i8
  have HV8 := Lib.hid l8
  have c8 : W.cell? ⟨w.heap.size, 8, none⟩ = some (.slice ad8 n8.length cp8) := cell_blk hbk 8
  have c9 : W.cell? ⟨w.heap.size, 9, none⟩ = some (.slice ad9 n9.length cp9) := cell_blk hbk 9
  have c25 : W.cell? ⟨w.heap.size, 25, none⟩ = some (.slice ad25 n25.length cp25) := cell_blk hbk 25
  have HWW := Lib.hid hW
  have HBW := Lib.hid hbW
  have HBK := Lib.hid hbk
  have HPUT := Lib.hid hput
  have HREF := Lib.hid href
  have HGET := Lib.hid hget
  have HVL := Lib.hid hvl
  clear hput href hget hW hbW hbk hl hvl k0 hx_0 hv_0 l0 i0 k1 hx_1 hv_1 l1 i1 k2 hx_2 hv_2 l2 i2 k3 hx_3 hv_3 l3 i3 k4 hx_4 hv_4 l4 i4 k5 hx_5 hv_5 l5 i5 k6 hx_6 hv_6 l6 i6 k7 hx_7 hv_7 l7 i7 k8 hx_8 hv_8 l8 i8 m8 k9 hx_9 hv_9 l9 i9 m9 k10 hx_10 hv_10 l10 i10 k11 hx_11 hv_11 l11 i11 k12 hx_12 hv_12 l12 i12 k13 hx_13 hv_13 l13 i13 k14 hx_14 hv_14 l14 i14 k15 hx_15 hv_15 l15 i15 k16 hx_16 hv_16 l16 i16 k17 hx_17 hv_17 l17 i17 k18 hx_18 hv_18 l18 i18 k19 hx_19 hv_19 l19 i19 k20 hx_20 hv_20 l20 k21 hx_21 hv_21 l21 i21 k22 hx_22 hv_22 l22 i22 k23 hx_23 hv_23 l23 i23 k24 hx_24 hv_24 l24 i24 k25 hx_25 hv_25 l25 i25 m25 k26 hx_26 hv_26 l26 i26 k27 hx_27 hv_27 l27 i27 k28 hx_28 hv_28 l28 i28 k29 hx_29 hv_29 l29 i29
  go_enter Try.func5, Try.ntmps5
  go_upto_region 1 with fail
  rw [← HWW.out]
  go_upto_block 0 with fail
  go_cut [3] (fun v wx => ∃ m : Int, v = .int .i64 m ∧ 0 ≤ m ∧ m ≤ 6000000000 ∧ Below W.heap.size W wx)
  case first =>
    go_wp2_with fail
    go_loopw [3, 24] (fun nv iv wr => ∃ (m : Int) (k : Nat), 0 ≤ m ∧ m ≤ 5000000000 ∧ k ≤ n8.length ∧ nv = .int .i64 m ∧ iv = .int .i64 k ∧ Below W.heap.size W wr) (fun _ iv _ => n8.length - (intOf iv).toNat)
    case atStart => exact ⟨((n8.length + n9.length + n25.length : Nat) : Int), 0, by omega, by omega, Nat.zero_le _, by go_num, rfl, Below.refl _ _⟩
    case round =>
      obtain ⟨m, k, hm0, hm1, hkk, rfl, rfl, hb2⟩ := hrel
      have d0 := cell_on hb2 c8
      by_cases hlk : k < n8.length
      · have hlkI : (k : Int) < (n8.length : Int) := by omega
        have hLI := HV8.out
        simp only [At.lies] at hLI
        obtain ⟨adz, cpz, ez, _, _, hmz⟩ := hLI
        cases ez
        obtain ⟨bI, pI, rfl, hblI, _, hLL⟩ : ∃ bI pI, ad8 = some ⟨bI, pI, none⟩ ∧ bI < w.heap.size ∧ ¬ NoS bI ∧ liesL w NoS bI pI n8 := by
          rcases hmz with e | q
          · rw [e] at hlk; simp at hlk
          · exact q
        have hxI := hasL_all HT8.out n8[k] (List.getElem_mem hlk)
        have hatI := liesL_at n8 pI (m := 3) (fun y hy => hasS_len (hasL_all HT8.out y hy)) hLL k hlk
        have hslI := encL_item_le n8 k hlk
        have hstepI := encL_take n8 k hlk
        have htlI := encL_take_le n8 k
        generalize n8[k] = yI at hxI hatI hslI hstepI
        have hbx : Below w.heap.size w wr := bel_trans HBW.out hb2
        obtain ⟨aI0, xI0, rfl, kI0, hx_I0⟩ := hasS_cons hxI
        obtain ⟨nI0, rfl, iI0⟩ := has_text kI0
        obtain ⟨uI0, fI0, lI0, hv_I0⟩ := liesS_cons hatI
        obtain rfl := lies_text lI0
        obtain ⟨aI1, xI1, rfl, kI1, hx_I1⟩ := hasS_cons hx_I0
        obtain ⟨nI1, rfl, iI1⟩ := has_text kI1
        obtain ⟨uI1, fI1, lI1, hv_I1⟩ := liesS_cons hv_I0
        obtain rfl := lies_text lI1
        obtain ⟨aI2, xI2, rfl, kI2, hx_I2⟩ := hasS_cons hx_I1
        obtain ⟨nI2, rfl, mI2, iI2⟩ := has_list kI2
        obtain ⟨uI2, fI2, lI2, hv_I2⟩ := liesS_cons hv_I1
        obtain ⟨adI2, cpI2, rfl⟩ := lies_list lI2
        obtain rfl := hasS_end hx_I2
        have eI0 : wr.cell? ⟨bI, pI + k * 3, none⟩ = some (.string nI0) := by
          have := cell_on hbx fI0
          simpa only [Nat.add_assoc, Nat.reduceAdd] using this
        have eI1 : wr.cell? ⟨bI, pI + k * 3 + 1, none⟩ = some (.string nI1) := by
          have := cell_on hbx fI1
          simpa only [Nat.add_assoc, Nat.reduceAdd] using this
        have eI2 : wr.cell? ⟨bI, pI + k * 3 + 2, none⟩ = some (.slice adI2 nI2.length cpI2) := by
          have := cell_on hbx fI2
          simpa only [Nat.add_assoc, Nat.reduceAdd] using this
        have hen := HE8.out
        have hz2 : nI2.length ≤ 1000000000 := by
          have := encL_len (t := stampT) (by simp) iI2
          simp only [encS, At.enc, List.length_append] at hslI
          omega
        clear hstepI hbx hLL hslI htlI hen hxI hatI hmz kI0 hx_I0 hv_I0 lI0 iI0 fI0 kI1 hx_I1 hv_I1 lI1 iI1 fI1 kI2 hx_I2 hv_I2 lI2 iI2 mI2 fI2
        by_cases hbig : (2000 : Int) < m + (nI2.length : Int)
        · go_wp2
          go_meet
          exact ⟨m + (nI2.length : Int), by go_num, by omega, by omega, bel_alloc hb2 _⟩
        · go_wp2
          go_roundw
          case rel => exact ⟨m + (nI2.length : Int), k + 1, by omega, by omega, by omega, by go_num, by go_num, bel_alloc hb2 _⟩
          case measure => simp [intOf]; omega
      · go_wp2
        go_meet
        exact ⟨m, rfl, by omega, by omega, hb2⟩
  case rest =>
      obtain ⟨m2, rfl, hr0, hr1, hbB⟩ := hcut
      have HBB := Lib.hid hbB
      have hput := HPUT.out
      have href := HREF.out
      have hget := HGET.out
      clear hbB HPUT HREF HGET c8 c9 c25
      go_wp2_with (go_at_call 9; refine (awake_any _).mono ?_; rintro e w1 ⟨rfl, hb1⟩; refine Hid.out ?_)
      refine Lib.hid ?_
      have hbC : Below W.heap.size W w1 := bel_trans HBB.out hb1
      have HB1 : Hid (Below w.heap.size w w1) := bel_trans HBW.out hbC
      have k1 : w1.heap[w.heap.size]? = some (.cells #[.int .i64 n0, .int .i64 n1, .int .i64 n2, .int .i64 n3, .int .i64 n4, .int .i64 n5, .int .i64 n6, .int .i64 n7, .slice ad8 n8.length cp8, .slice ad9 n9.length cp9, .int .i64 n10, .int .i64 n11, .int .i64 n12, .int .i64 n13, .int .i64 n14, .int .i64 n15, .string n16, .string n17, .string n18, .string n19, .bool n20, .int .i64 n21, .int .i64 n22, .int .i64 n23, .string n24, .slice ad25 n25.length cp25, .int .i64 n26, .int .i64 n27, .string n28, .int .i64 n29] 47 (0, 0)) := (hbC.block _ (Array.getElem?_eq_some_iff.1 HBK.out).1).trans HBK.out
      have HK1 := Lib.hid k1
      clear hb1 hbC
      by_cases h1 : (2000 : Int) < m2
      · clear hput href hget k1
        go_wp2_with (go_at_call 9; refine (awake_any _).mono ?_; rintro e w2 ⟨rfl, hb2⟩; refine Hid.out ?_)
        refine Lib.hid ?_
        go_wp2
        go_ret
        exact ⟨rfl, bel_trans HB1.out hb2⟩
      · have hp := hput w1 HB1.out
        have ld1 := load_row k1 Try.underlying47 rfl size47
        clear hput k1
        go_wp2_with (first | (refine wpl_load _ rfl (by simp [Act.eval]) ld1 ?_) | (go_at_call 16; refine hp.mono ?_; rintro e w2 ⟨rfl, hb2⟩; refine Hid.out ?_))
        refine Lib.hid ?_
        clear hp ld1
        go_wp2_with (go_at_call 17; refine (hget _).mono ?_; rintro e w3 ⟨us, rfl, hus⟩; refine Hid.out ?_)
        refine Lib.hid ?_
        obtain ⟨hus1, hus2, hb3, hv3⟩ := hus.out
        have hz := heap_alloc_new w3 (.cells #[.int .i64 0, .int .i64 0, .int .i64 0, .int .i64 0, .int .i64 0, .int .i64 0, .int .i64 0, .int .i64 0, .slice none 0 0, .slice none 0 0, .int .i64 0, .int .i64 0, .int .i64 0, .int .i64 0, .int .i64 0, .int .i64 0, .string ⟨#[]⟩, .string ⟨#[]⟩, .string ⟨#[]⟩, .string ⟨#[]⟩, .bool false, .int .i64 0, .int .i64 0, .int .i64 0, .string ⟨#[]⟩, .slice none 0 0, .int .i64 0, .int .i64 0, .string ⟨#[]⟩, .int .i64 0] 47)
        have sV : (Try.prog.info? 47).map (·.size) = some us.size := by rw [hus1]; exact size47
        have st := store_row (us := us) (ty := 47) hz hus1 sV hus2
        obtain ⟨V, hV, hVR, hVk, hVs, q1, q2, q3⟩ := sets_row hz us hus1
        rw [← hV] at st
        have hb4 : Below w3.heap.size w3 V := by
          have hbz : Below w3.heap.size w3 (w3.alloc (.cells #[.int .i64 0, .int .i64 0, .int .i64 0, .int .i64 0, .int .i64 0, .int .i64 0, .int .i64 0, .int .i64 0, .slice none 0 0, .slice none 0 0, .int .i64 0, .int .i64 0, .int .i64 0, .int .i64 0, .int .i64 0, .int .i64 0, .string ⟨#[]⟩, .string ⟨#[]⟩, .string ⟨#[]⟩, .string ⟨#[]⟩, .bool false, .int .i64 0, .int .i64 0, .int .i64 0, .string ⟨#[]⟩, .slice none 0 0, .int .i64 0, .int .i64 0, .string ⟨#[]⟩, .int .i64 0] 47)) := (Below.refl _ _).alloc (Nat.le_refl _) _
          exact ⟨q1.trans hbz.os, q2.trans hbz.tape, q3.trans hbz.output, by rw [hVs]; exact hbz.size, fun k hk => (hVk k (by omega)).trans (hbz.block k hk)⟩
        have hbx : Below w1.heap.size w1 V := bel_trans (bel_trans hb2 hb3) hb4
        have HBV : Hid (Below w.heap.size w V) := bel_trans HB1.out hbx
        have k2 : V.heap[w.heap.size]? = some (.cells #[.int .i64 n0, .int .i64 n1, .int .i64 n2, .int .i64 n3, .int .i64 n4, .int .i64 n5, .int .i64 n6, .int .i64 n7, .slice ad8 n8.length cp8, .slice ad9 n9.length cp9, .int .i64 n10, .int .i64 n11, .int .i64 n12, .int .i64 n13, .int .i64 n14, .int .i64 n15, .string n16, .string n17, .string n18, .string n19, .bool n20, .int .i64 n21, .int .i64 n22, .int .i64 n23, .string n24, .slice ad25 n25.length cp25, .int .i64 n26, .int .i64 n27, .string n28, .int .i64 n29] 47 (0, 0)) := (hbx.block _ (Array.getElem?_eq_some_iff.1 HK1.out).1).trans HK1.out
        have ld2 := load_row k2 Try.underlying47 rfl size47
        have hr1' := href V HBV.out
        have HV3 : Hid (valsS V NoS _ _) := valsS_keeps (S := NoS) (S' := NoS) ⟨hb4.size, fun k hk hs => ⟨hb4.block k hk, hs⟩⟩ hv3
        have HVR := Lib.hid hVR
        have HUS := Lib.hid hus1
        have HSV := Lib.hid sV
        clear hV hVR hVk hVs q1 q2 q3 hb2 hb3 hb4 hv3 hus1 hus2 hus hz sV hbx k2 href hget
        go_wp2_with (first | (refine wpl_store _ _ rfl (by simp [Act.eval]) (by simp [Act.eval]) st ?_) | (refine wpl_load _ rfl (by simp [Act.eval]) ld2 ?_) | (go_at_call 18; refine hr1'.mono ?_; rintro e w4 ⟨rfl, hb5⟩; refine Hid.out ?_))
        refine Lib.hid ?_
        have k3 : w4.heap[w3.heap.size]? = some (.cells us 47 (0, 0)) := (hb5.block _ (Array.getElem?_eq_some_iff.1 HVR.out).1).trans HVR.out
        have ld3 := load_row k3 Try.underlying47 rfl HSV.out
        have hr3 : Calls Try.prog 18 #[.agg us] w4 fun e X' => e = .returned (.string E) ∧ Below w4.heap.size w4 X' := by
          rw [← HEE.out]
          have := HREF0.out w4 us.toList HX.out (valsS_keeps (S := NoS) ⟨hb5.size, fun k hk hs => ⟨hb5.block k hk, hs⟩⟩ HV3.out) HLN.out
          simpa using this
        have HB5 := Lib.hid hb5
        clear hr1' hb5 ld2 st k3
        go_wp2_with (first | (refine wpl_load_g _ rfl rfl (by simp [Act.eval]) ld3 ?_) | (go_at_call 18; refine hr3.mono ?_; rintro e w5 ⟨rfl, hb6⟩; refine Hid.out ?_))
        refine Lib.hid ?_
        go_wp2
        go_ret
        exact ⟨rfl, bel_trans (bel_trans HBV.out HB5.out) hb6⟩
end Go.Proofs.Ytjhgmncmcklnkaa
