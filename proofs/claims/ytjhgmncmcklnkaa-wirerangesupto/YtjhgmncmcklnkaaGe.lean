/- The walk of WireRanges. -/
import Derived.Test.YtjhgmncmcklnkaaGa
import Derived.Test.YtjhgmncmcklnkaaNe
import Derived.Test.YtjhgmncmcklnkaaRk
import Derived.Deep.CutBlock
namespace Go.Proofs.Ytjhgmncmcklnkaa
open Go.RowKit

set_option maxHeartbeats 8000000 in
set_option maxRecDepth 100000 in
theorem law_shard (w : World) {x : List At} {vs : List Value} (hx0 : hasS shardT x) (hv0 : valsS w NoS x vs) (hl : (encS x).length ≤ 1000000000) : Calls Try.prog 6 #[.agg vs.toArray] w fun e w' => e = .returned (.bool true) ∧ Below w.heap.size w w' := by
  have HX := Lib.hid hx0
  have HV := Lib.hid hv0
  have HLN := Lib.hid hl
  obtain ⟨E, hE⟩ : ∃ E, txt (encS x) = E := ⟨_, rfl⟩
  have hEs : E.size ≤ 1000000000 := by rw [← hE, txt_size]; exact hl
  have hput : ∀ X, Below w.heap.size w X → Calls Try.prog 19 #[.agg vs.toArray] X fun e X' => e = .returned (.string E) ∧ Below X.heap.size X X' := fun X q => by
    rw [← hE]
    exact Put_shard X hx0 (valsS_keeps ⟨q.size, fun k hk hs => ⟨q.block k hk, hs⟩⟩ hv0) hl
  have href : ∀ X, Below w.heap.size w X → Calls Try.prog 21 #[.agg vs.toArray] X fun e X' => e = .returned (.string E) ∧ Below X.heap.size X X' := fun X q => by
    rw [← hE]
    exact shard_ref X hx0 (valsS_keeps ⟨q.size, fun k hk hs => ⟨q.block k hk, hs⟩⟩ hv0) hl
  have hget : ∀ X, Calls Try.prog 20 #[.string E] X fun e X' => ∃ us : Array Value, e = .returned (.tuple #[.agg us, .int .i64 0]) ∧ us.size = shardT.length ∧ Below X.heap.size X X' ∧ Hid (valsS X' NoS x us.toList) := fun X => by
    refine (Get_shard X E hEs).mono ?_
    intro e X' q
    rw [← hE] at q
    obtain ⟨us, h1, h2, h3, h4⟩ := q.yes hx0
    exact ⟨us, h1, h2, h3, valsS_keeps ⟨Nat.le_refl _, fun k _ _ => ⟨rfl, fun q => q⟩⟩ (valsS_keeps (S := fun k => k < X.heap.size) (S' := NoS) ⟨Nat.le_refl _, fun k _ _ => ⟨rfl, fun q => q⟩⟩ h4)⟩
  have HEE := Lib.hid hE
  clear hE hEs hl
  have hl := HLN.out
  obtain ⟨a0, x0, rfl, k0, hx_0⟩ := hasS_cons hx0
  obtain ⟨n0, rfl, m0, i0⟩ := has_list k0
  obtain ⟨u0, r0, rfl, l0, hv_0⟩ := valsS_cons hv0
  obtain ⟨ad0, cp0, rfl⟩ := lies_list l0
  obtain ⟨a1, x1, rfl, k1, hx_1⟩ := hasS_cons hx_0
  obtain ⟨n1, rfl, m1, i1⟩ := has_list k1
  obtain ⟨u1, r1, rfl, l1, hv_1⟩ := valsS_cons hv_0
  obtain ⟨ad1, cp1, rfl⟩ := lies_list l1
  obtain ⟨a2, x2, rfl, k2, hx_2⟩ := hasS_cons hx_1
  obtain ⟨n2, rfl, m2, i2⟩ := has_list k2
  obtain ⟨u2, r2, rfl, l2, hv_2⟩ := valsS_cons hv_1
  obtain ⟨ad2, cp2, rfl⟩ := lies_list l2
  obtain ⟨a3, x3, rfl, k3, hx_3⟩ := hasS_cons hx_2
  obtain ⟨n3, rfl, m3, i3⟩ := has_list k3
  obtain ⟨u3, r3, rfl, l3, hv_3⟩ := valsS_cons hv_2
  obtain ⟨ad3, cp3, rfl⟩ := lies_list l3
  obtain ⟨a4, x4, rfl, k4, hx_4⟩ := hasS_cons hx_3
  obtain ⟨n4, rfl, i4⟩ := has_num k4
  obtain ⟨u4, r4, rfl, l4, hv_4⟩ := valsS_cons hv_3
  obtain rfl := lies_num l4
  obtain rfl := hasS_end hx_4
  obtain rfl := valsS_end hv_4
  have es : encS [.list n0, .list n1, .list n2, .list n3, .num n4] = (At.list n0).enc ++ (At.list n1).enc ++ (At.list n2).enc ++ (At.list n3).enc ++ num n4 := by
    simp [encS, At.enc]
  rw [es] at hl
  simp only [List.length_append] at hl
  have hn0 : n0.length ≤ 1000000000 ∧ (encL n0).length ≤ 1000000000 := by
    have := encL_len (t := rowT) (by simp) i0
    simp only [At.enc, List.length_append] at hl
    omega
  have hn1 : n1.length ≤ 1000000000 ∧ (encL n1).length ≤ 1000000000 := by
    have := encL_len (t := lockT) (by simp) i1
    simp only [At.enc, List.length_append] at hl
    omega
  have hn2 : n2.length ≤ 1000000000 := by
    have := encL_len (t := recordT) (by simp) i2
    simp only [At.enc, List.length_append] at hl
    omega
  have hn3 : n3.length ≤ 1000000000 := by
    have := encL_len (t := tidT) (by simp) i3
    simp only [At.enc, List.length_append] at hl
    omega
  have HE0 := Lib.hid hn0.2
  have HE1 := Lib.hid hn1.2
  replace hn0 := hn0.1
  replace hn1 := hn1.1
  have HT0 := Lib.hid i0
  have HT1 := Lib.hid i1
  have HV0 := Lib.hid l0
  have HV1 := Lib.hid l1
  obtain ⟨W, hW⟩ : ∃ W, W = w.alloc (.cells #[.slice ad0 n0.length cp0, .slice ad1 n1.length cp1, .slice ad2 n2.length cp2, .slice ad3 n3.length cp3, .int .i64 n4] 62) := ⟨_, rfl⟩
  have hbW : Below w.heap.size w W := by rw [hW]; exact (Below.refl _ _).alloc (Nat.le_refl _) _
  have hbk : W.heap[w.heap.size]? = some (.cells #[.slice ad0 n0.length cp0, .slice ad1 n1.length cp1, .slice ad2 n2.length cp2, .slice ad3 n3.length cp3, .int .i64 n4] 62 (0, 0)) := by rw [hW]; exact heap_alloc_new w _
  have c0 : W.cell? ⟨w.heap.size, 0, none⟩ = some (.slice ad0 n0.length cp0) := cell_blk hbk 0
  have c1 : W.cell? ⟨w.heap.size, 1, none⟩ = some (.slice ad1 n1.length cp1) := cell_blk hbk 1
  have c2 : W.cell? ⟨w.heap.size, 2, none⟩ = some (.slice ad2 n2.length cp2) := cell_blk hbk 2
  have c3 : W.cell? ⟨w.heap.size, 3, none⟩ = some (.slice ad3 n3.length cp3) := cell_blk hbk 3
  have c4 : W.cell? ⟨w.heap.size, 4, none⟩ = some (.int .i64 n4) := cell_blk hbk 4
  have HWW := Lib.hid hW
  have HBW := Lib.hid hbW
  have HBK := Lib.hid hbk
  have HPUT := Lib.hid hput
  have HREF := Lib.hid href
  have HGET := Lib.hid hget
  clear hput href hget hW hbW hbk hl es k0 hx_0 hv_0 l0 i0 m0 k1 hx_1 hv_1 l1 i1 m1 k2 hx_2 hv_2 l2 i2 m2 k3 hx_3 hv_3 l3 i3 m3 k4 hx_4 hv_4 l4 i4
  go_enter Try.func6, Try.ntmps6
  go_upto_region 1 with fail
  rw [← HWW.out]
  go_upto_block 0 with fail
  go_cut [3] (fun v wx => ∃ m : Int, v = .int .i64 m ∧ 0 ≤ m ∧ m ≤ 6000000000 ∧ Below W.heap.size W wx)
  case first =>
    go_wp2_with fail
    go_loopw [3, 29] (fun nv iv wr => ∃ (m : Int) (k : Nat), 0 ≤ m ∧ m ≤ 5000000000 ∧ k ≤ n0.length ∧ nv = .int .i64 m ∧ iv = .int .i64 k ∧ Below W.heap.size W wr) (fun _ iv _ => n0.length - (intOf iv).toNat)
    case atStart => exact ⟨((n0.length + n1.length + n2.length + n3.length : Nat) : Int), 0, by omega, by omega, Nat.zero_le _, by go_num, rfl, Below.refl _ _⟩
    case round =>
      obtain ⟨m, k, hm0, hm1, hkk, rfl, rfl, hb2⟩ := hrel
      have d0 := cell_on hb2 c0
      by_cases hlk : k < n0.length
      · have hlkI : (k : Int) < (n0.length : Int) := by omega
        have hLI := HV0.out
        simp only [At.lies] at hLI
        obtain ⟨adz, cpz, ez, _, _, hmz⟩ := hLI
        cases ez
        obtain ⟨bI, pI, rfl, hblI, _, hLL⟩ : ∃ bI pI, ad0 = some ⟨bI, pI, none⟩ ∧ bI < w.heap.size ∧ ¬ NoS bI ∧ liesL w NoS bI pI n0 := by
          rcases hmz with e | q
          · rw [e] at hlk; simp at hlk
          · exact q
        have hxI := hasL_all HT0.out n0[k] (List.getElem_mem hlk)
        have hatI := liesL_at n0 pI (m := 2) (fun y hy => hasS_len (hasL_all HT0.out y hy)) hLL k hlk
        have hslI := encL_item_le n0 k hlk
        have hstepI := encL_take n0 k hlk
        have htlI := encL_take_le n0 k
        generalize n0[k] = yI at hxI hatI hslI hstepI
        have hbx : Below w.heap.size w wr := bel_trans HBW.out hb2
        obtain ⟨aI0, xI0, rfl, kI0, hx_I0⟩ := hasS_cons hxI
        obtain ⟨nI0, rfl, iI0⟩ := has_text kI0
        obtain ⟨uI0, fI0, lI0, hv_I0⟩ := liesS_cons hatI
        obtain rfl := lies_text lI0
        obtain ⟨aI1, xI1, rfl, kI1, hx_I1⟩ := hasS_cons hx_I0
        obtain ⟨nI1, rfl, mI1, iI1⟩ := has_list kI1
        obtain ⟨uI1, fI1, lI1, hv_I1⟩ := liesS_cons hv_I0
        obtain ⟨adI1, cpI1, rfl⟩ := lies_list lI1
        obtain rfl := hasS_end hx_I1
        have eI0 : wr.cell? ⟨bI, pI + k * 2, none⟩ = some (.string nI0) := by
          have := cell_on hbx fI0
          simpa only [Nat.add_assoc, Nat.reduceAdd] using this
        have eI1 : wr.cell? ⟨bI, pI + k * 2 + 1, none⟩ = some (.slice adI1 nI1.length cpI1) := by
          have := cell_on hbx fI1
          simpa only [Nat.add_assoc, Nat.reduceAdd] using this
        have hen := HE0.out
        have hz1 : nI1.length ≤ 1000000000 := by
          have := encL_len (t := versionT) (by simp) iI1
          simp only [encS, At.enc, List.length_append] at hslI
          omega
        clear hstepI hbx hLL hslI htlI hen hxI hatI hmz kI0 hx_I0 hv_I0 lI0 iI0 fI0 kI1 hx_I1 hv_I1 lI1 iI1 mI1 fI1
        by_cases hbig : (2000 : Int) < m + (nI1.length : Int)
        · go_wp2
          go_meet
          exact ⟨m + (nI1.length : Int), by go_num, by omega, by omega, bel_alloc hb2 _⟩
        · go_wp2
          go_roundw
          case rel => exact ⟨m + (nI1.length : Int), k + 1, by omega, by omega, by omega, by go_num, by go_num, bel_alloc hb2 _⟩
          case measure => simp [intOf]; omega
      · go_wp2
        go_meet
        exact ⟨m, rfl, by omega, by omega, hb2⟩
  case rest =>
    obtain ⟨m1, rfl, hp0, hp1, hbA⟩ := hcut
    have b0 := cell_on hbA c0
    have b1 := cell_on hbA c1
    go_upto_block 2 with fail
    go_cut [3] (fun v wx => ∃ m : Int, v = .int .i64 m ∧ 0 ≤ m ∧ m ≤ 9000000000 ∧ Below W.heap.size W wx)
    case first =>
      go_wp2_with fail
      go_loopw [3, 44] (fun nv iv wr => ∃ (m : Int) (k : Nat), 0 ≤ m ∧ m ≤ 6000000000 ∧ k ≤ n1.length ∧ nv = .int .i64 m ∧ iv = .int .i64 k ∧ Below W.heap.size W wr) (fun _ iv _ => n1.length - (intOf iv).toNat)
      case atStart => exact ⟨m1, 0, by omega, by omega, Nat.zero_le _, by go_num, rfl, hbA⟩
      case round =>
        obtain ⟨m, k, hm0, hm1, hkk, rfl, rfl, hb2⟩ := hrel
        have d0 := cell_on hb2 c1
        by_cases hlk : k < n1.length
        · have hlkI : (k : Int) < (n1.length : Int) := by omega
          have hLI := HV1.out
          simp only [At.lies] at hLI
          obtain ⟨adz, cpz, ez, _, _, hmz⟩ := hLI
          cases ez
          obtain ⟨bI, pI, rfl, hblI, _, hLL⟩ : ∃ bI pI, ad1 = some ⟨bI, pI, none⟩ ∧ bI < w.heap.size ∧ ¬ NoS bI ∧ liesL w NoS bI pI n1 := by
            rcases hmz with e | q
            · rw [e] at hlk; simp at hlk
            · exact q
          have hxI := hasL_all HT1.out n1[k] (List.getElem_mem hlk)
          have hatI := liesL_at n1 pI (m := 7) (fun y hy => hasS_len (hasL_all HT1.out y hy)) hLL k hlk
          have hslI := encL_item_le n1 k hlk
          have hstepI := encL_take n1 k hlk
          have htlI := encL_take_le n1 k
          generalize n1[k] = yI at hxI hatI hslI hstepI
          have hbx : Below w.heap.size w wr := bel_trans HBW.out hb2
          obtain ⟨aI0, xI0, rfl, kI0, hx_I0⟩ := hasS_cons hxI
          obtain ⟨nI0, rfl, iI0⟩ := has_num kI0
          obtain ⟨uI0, fI0, lI0, hv_I0⟩ := liesS_cons hatI
          obtain rfl := lies_num lI0
          obtain ⟨aI1, xI1, rfl, kI1, hx_I1⟩ := hasS_cons hx_I0
          obtain ⟨nI1, rfl, iI1⟩ := has_num kI1
          obtain ⟨uI1, fI1, lI1, hv_I1⟩ := liesS_cons hv_I0
          obtain rfl := lies_num lI1
          obtain ⟨aI2, xI2, rfl, kI2, hx_I2⟩ := hasS_cons hx_I1
          obtain ⟨nI2, rfl, iI2⟩ := has_num kI2
          obtain ⟨uI2, fI2, lI2, hv_I2⟩ := liesS_cons hv_I1
          obtain rfl := lies_num lI2
          obtain ⟨aI3, xI3, rfl, kI3, hx_I3⟩ := hasS_cons hx_I2
          obtain ⟨nI3, rfl, iI3⟩ := has_num kI3
          obtain ⟨uI3, fI3, lI3, hv_I3⟩ := liesS_cons hv_I2
          obtain rfl := lies_num lI3
          obtain ⟨aI4, xI4, rfl, kI4, hx_I4⟩ := hasS_cons hx_I3
          obtain ⟨nI4, rfl, iI4⟩ := has_num kI4
          obtain ⟨uI4, fI4, lI4, hv_I4⟩ := liesS_cons hv_I3
          obtain rfl := lies_num lI4
          obtain ⟨aI5, xI5, rfl, kI5, hx_I5⟩ := hasS_cons hx_I4
          obtain ⟨nI5, rfl, mI5, iI5⟩ := has_list kI5
          obtain ⟨uI5, fI5, lI5, hv_I5⟩ := liesS_cons hv_I4
          obtain ⟨adI5, cpI5, rfl⟩ := lies_list lI5
          obtain ⟨aI6, xI6, rfl, kI6, hx_I6⟩ := hasS_cons hx_I5
          obtain ⟨nI6, rfl, mI6, iI6⟩ := has_list kI6
          obtain ⟨uI6, fI6, lI6, hv_I6⟩ := liesS_cons hv_I5
          obtain ⟨adI6, cpI6, rfl⟩ := lies_list lI6
          obtain rfl := hasS_end hx_I6
          have eI0 : wr.cell? ⟨bI, pI + k * 7, none⟩ = some (.int .i64 nI0) := by
            have := cell_on hbx fI0
            simpa only [Nat.add_assoc, Nat.reduceAdd] using this
          have eI1 : wr.cell? ⟨bI, pI + k * 7 + 1, none⟩ = some (.int .i64 nI1) := by
            have := cell_on hbx fI1
            simpa only [Nat.add_assoc, Nat.reduceAdd] using this
          have eI2 : wr.cell? ⟨bI, pI + k * 7 + 2, none⟩ = some (.int .i64 nI2) := by
            have := cell_on hbx fI2
            simpa only [Nat.add_assoc, Nat.reduceAdd] using this
          have eI3 : wr.cell? ⟨bI, pI + k * 7 + 3, none⟩ = some (.int .i64 nI3) := by
            have := cell_on hbx fI3
            simpa only [Nat.add_assoc, Nat.reduceAdd] using this
          have eI4 : wr.cell? ⟨bI, pI + k * 7 + 4, none⟩ = some (.int .i64 nI4) := by
            have := cell_on hbx fI4
            simpa only [Nat.add_assoc, Nat.reduceAdd] using this
          have eI5 : wr.cell? ⟨bI, pI + k * 7 + 5, none⟩ = some (.slice adI5 nI5.length cpI5) := by
            have := cell_on hbx fI5
            simpa only [Nat.add_assoc, Nat.reduceAdd] using this
          have eI6 : wr.cell? ⟨bI, pI + k * 7 + 6, none⟩ = some (.slice adI6 nI6.length cpI6) := by
            have := cell_on hbx fI6
            simpa only [Nat.add_assoc, Nat.reduceAdd] using this
          have hen := HE1.out
          have hz5 : nI5.length ≤ 1000000000 := by
            have := encL_len (t := spanT) (by simp) iI5
            simp only [encS, At.enc, List.length_append] at hslI
            omega
          have hz6 : nI6.length ≤ 1000000000 := by
            have := encL_len (t := writeT) (by simp) iI6
            simp only [encS, At.enc, List.length_append] at hslI
            omega
          clear hstepI hbx hLL hslI htlI hen hxI hatI hmz kI0 hx_I0 hv_I0 lI0 iI0 fI0 kI1 hx_I1 hv_I1 lI1 iI1 fI1 kI2 hx_I2 hv_I2 lI2 iI2 fI2 kI3 hx_I3 hv_I3 lI3 iI3 fI3 kI4 hx_I4 hv_I4 lI4 iI4 fI4 kI5 hx_I5 hv_I5 lI5 iI5 mI5 fI5 kI6 hx_I6 hv_I6 lI6 iI6 mI6 fI6
          by_cases hbig : (2000 : Int) < m + ((nI5.length : Int) + (nI6.length : Int))
          · go_wp2
            go_meet
            exact ⟨m + ((nI5.length : Int) + (nI6.length : Int)), by go_num, by omega, by omega, bel_alloc hb2 _⟩
          · go_wp2
            go_roundw
            case rel => exact ⟨m + ((nI5.length : Int) + (nI6.length : Int)), k + 1, by omega, by omega, by omega, by go_num, by go_num, bel_alloc hb2 _⟩
            case measure => simp [intOf]; omega
        · go_wp2
          go_meet
          exact ⟨m, rfl, by omega, by omega, hb2⟩
    case rest =>
      obtain ⟨m2, rfl, hr0, hr1, hbB⟩ := hcut
      have HBB := Lib.hid hbB
      have hput := HPUT.out
      have href := HREF.out
      have hget := HGET.out
      clear hbA hbB HPUT HREF HGET hp0 hp1
      go_wp2_with (go_at_call 9; refine (awake_any _).mono ?_; rintro e w1 ⟨rfl, hb1⟩; refine Hid.out ?_)
      refine Lib.hid ?_
      have hbC : Below W.heap.size W w1 := bel_trans HBB.out hb1
      have HB1 : Hid (Below w.heap.size w w1) := bel_trans HBW.out hbC
      have g0 := cell_on hbC c0
      have g1 := cell_on hbC c1
      have g2 := cell_on hbC c2
      have g3 := cell_on hbC c3
      have g4 := cell_on hbC c4
      clear hb1 hbC b0 b1 c0 c1 c2 c3 c4
      by_cases h1 : (2000 : Int) < m2
      · clear hput href hget
        go_wp2_with (go_at_call 9; refine (awake_any _).mono ?_; rintro e w2 ⟨rfl, hb2⟩; refine Hid.out ?_)
        refine Lib.hid ?_
        go_wp2
        go_ret
        exact ⟨rfl, bel_trans HB1.out hb2⟩
      · have hp := hput w1 HB1.out
        clear hput
        go_wp2_with (go_at_call 19; refine hp.mono ?_; rintro e w2 ⟨rfl, hb2⟩; refine Hid.out ?_)
        refine Lib.hid ?_
        clear hp
        go_wp2_with (go_at_call 20; refine (hget _).mono ?_; rintro e w3 ⟨us, rfl, hus, hb3, hv3⟩; refine Hid.out ?_)
        refine Lib.hid ?_
        obtain ⟨a0, a1, a2, a3, a4, rfl⟩ := arr5 hus
        have hv4 := hv3.out
        simp only [valsS, At.lies, and_true] at hv4
        obtain ⟨⟨bd0, bc0, rfl, _⟩, ⟨bd1, bc1, rfl, _⟩, ⟨bd2, bc2, rfl, _⟩, ⟨bd3, bc3, rfl, _⟩, rfl⟩ := hv4
        obtain ⟨V, hV⟩ : ∃ V, V = w3.alloc (.cells #[.slice bd0 n0.length bc0, .slice bd1 n1.length bc1, .slice bd2 n2.length bc2, .slice bd3 n3.length bc3, .int .i64 n4] 62) := ⟨_, rfl⟩
        have hb4 : Below w3.heap.size w3 V := by rw [hV]; exact (Below.refl _ _).alloc (Nat.le_refl _) _
        have hbn : V.heap[w3.heap.size]? = some (.cells #[.slice bd0 n0.length bc0, .slice bd1 n1.length bc1, .slice bd2 n2.length bc2, .slice bd3 n3.length bc3, .int .i64 n4] 62 (0, 0)) := by rw [hV]; exact heap_alloc_new w3 _
        have d0 : V.cell? ⟨w.heap.size, 0, none⟩ = some (.slice ad0 n0.length cp0) := cell_on hb4 (cell_on hb3 (cell_on hb2 g0))
        have d1 : V.cell? ⟨w.heap.size, 1, none⟩ = some (.slice ad1 n1.length cp1) := cell_on hb4 (cell_on hb3 (cell_on hb2 g1))
        have d2 : V.cell? ⟨w.heap.size, 2, none⟩ = some (.slice ad2 n2.length cp2) := cell_on hb4 (cell_on hb3 (cell_on hb2 g2))
        have d3 : V.cell? ⟨w.heap.size, 3, none⟩ = some (.slice ad3 n3.length cp3) := cell_on hb4 (cell_on hb3 (cell_on hb2 g3))
        have d4 : V.cell? ⟨w.heap.size, 4, none⟩ = some (.int .i64 n4) := cell_on hb4 (cell_on hb3 (cell_on hb2 g4))
        have HBV : Hid (Below w.heap.size w V) := bel_trans (bel_trans (bel_trans HB1.out hb2) hb3) hb4
        have hr1 := href V HBV.out
        have HV3 : Hid (valsS V NoS _ _) := valsS_keeps (S := NoS) (S' := NoS) ⟨hb4.size, fun k hk hs => ⟨hb4.block k hk, hs⟩⟩ hv3.out
        have hr2 : ∀ X, Below V.heap.size V X → Calls Try.prog 21 #[.agg #[.slice bd0 n0.length bc0, .slice bd1 n1.length bc1, .slice bd2 n2.length bc2, .slice bd3 n3.length bc3, .int .i64 n4]] X fun e X' => e = .returned (.string E) ∧ Below X.heap.size X X' := fun X q => by
          rw [← HEE.out]
          exact shard_ref X HX.out (valsS_keeps (S := NoS) ⟨q.size, fun k hk hs => ⟨q.block k hk, hs⟩⟩ HV3.out) HLN.out
        have HVV := Lib.hid hV
        have HBN := Lib.hid hbn
        clear hV hbn hb2 hb3 hb4 hv3 hus href hget
        go_upto_region 18 with fail
        rw [← HVV.out]
        go_wp2_with (go_at_call 21; refine hr1.mono ?_; rintro e w4 ⟨rfl, hb5⟩; refine Hid.out ?_)
        refine Lib.hid ?_
        have e0 : w4.cell? ⟨w3.heap.size, 0, none⟩ = some (.slice bd0 n0.length bc0) := cell_on hb5 (cell_blk HBN.out 0)
        have e1 : w4.cell? ⟨w3.heap.size, 1, none⟩ = some (.slice bd1 n1.length bc1) := cell_on hb5 (cell_blk HBN.out 1)
        have e2 : w4.cell? ⟨w3.heap.size, 2, none⟩ = some (.slice bd2 n2.length bc2) := cell_on hb5 (cell_blk HBN.out 2)
        have e3 : w4.cell? ⟨w3.heap.size, 3, none⟩ = some (.slice bd3 n3.length bc3) := cell_on hb5 (cell_blk HBN.out 3)
        have e4 : w4.cell? ⟨w3.heap.size, 4, none⟩ = some (.int .i64 n4) := cell_on hb5 (cell_blk HBN.out 4)
        have hr3 := hr2 w4 hb5
        have HB5 := Lib.hid hb5
        clear hr1 hr2 hb5
        go_wp2_with (go_at_call 21; refine hr3.mono ?_; rintro e w5 ⟨rfl, hb6⟩; refine Hid.out ?_)
        refine Lib.hid ?_
        go_wp2
        go_ret
        exact ⟨rfl, bel_trans (bel_trans HBV.out HB5.out) hb6⟩
end Go.Proofs.Ytjhgmncmcklnkaa
