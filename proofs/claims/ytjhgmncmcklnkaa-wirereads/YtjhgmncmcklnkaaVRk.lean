/- The document's ranges. -/
import Derived.Test.YtjhgmncmcklnkaaVRi
import Derived.Test.YtjhgmncmcklnkaaVRj
import Derived.Test.YtjhgmncmcklnkaaVMk
namespace Go.Proofs.Ytjhgmncmcklnkaa
open Go.RowKit

set_option maxHeartbeats 8000000 in
set_option maxRecDepth 100000 in
theorem shard_ref (w : World) {x : List At} {vs : List Value} (hx0 : hasS shardT x) (hv0 : valsS w NoS x vs) (hl : (encS x).length ≤ 1000000000) : Calls Try.prog 21 #[.agg vs.toArray] w fun e w' => e = .returned (.string (txt (encS x))) ∧ Below w.heap.size w w' := by
  obtain ⟨a0, x0, rfl, k0, hx_0⟩ := hasS_cons hx0
  obtain ⟨n0, rfl, m0, i0⟩ := has_list k0
  obtain ⟨u0, r0, rfl, l0, hv_0⟩ := valsS_cons hv0
  obtain ⟨ad0, cp0, rfl⟩ := lies_list l0
  obtain ⟨a1, x1, rfl, k1, hx_1⟩ := hasS_cons hx_0
  obtain ⟨n1, rfl, m1, i1⟩ := has_list k1
  obtain ⟨u1, r1, rfl, l1, hv_1⟩ := valsS_cons hv_0
  obtain ⟨ad1, cp1, rfl⟩ := lies_list l1
  obtain ⟨a2, x2, rfl, k2, hx_2⟩ := hasS_cons hx_1
  obtain ⟨n2, rfl, m2, i2⟩ := has_list k2
  obtain ⟨u2, r2, rfl, l2, hv_2⟩ := valsS_cons hv_1
  obtain ⟨ad2, cp2, rfl⟩ := lies_list l2
  obtain ⟨a3, x3, rfl, k3, hx_3⟩ := hasS_cons hx_2
  obtain ⟨n3, rfl, m3, i3⟩ := has_list k3
  obtain ⟨u3, r3, rfl, l3, hv_3⟩ := valsS_cons hv_2
  obtain ⟨ad3, cp3, rfl⟩ := lies_list l3
  obtain ⟨a4, x4, rfl, k4, hx_4⟩ := hasS_cons hx_3
  obtain ⟨n4, rfl, i4⟩ := has_num k4
  obtain ⟨u4, r4, rfl, l4, hv_4⟩ := valsS_cons hv_3
  obtain rfl := lies_num l4
  obtain rfl := hasS_end hx_4
  obtain rfl := valsS_end hv_4
  have es : encS [.list n0, .list n1, .list n2, .list n3, .num n4] = (At.list n0).enc ++ (At.list n1).enc ++ num (n2.length : Int) ++ encL n2 ++ num (n3.length : Int) ++ encL n3 ++ num n4 := by
    simp [encS, At.enc]
  rw [es] at hl ⊢
  simp only [List.length_append] at hl
  have hn2 : n2.length ≤ 1000000000 := by
    have := encL_len (t := recordT) (by simp) i2
    omega
  have hn3 : n3.length ≤ 1000000000 := by
    have := encL_len (t := tidT) (by simp) i3
    omega
  have HIL2 : Hid (I64 (n2.length : Int)) := by show I64 _; unfold I64; omega
  have HIL3 : Hid (I64 (n3.length : Int)) := by show I64 _; unfold I64; omega
  have HI4 := Lib.hid i4
  have HT2 := Lib.hid i2
  have HT3 := Lib.hid i3
  have HV2 := Lib.hid l2
  have HV3 := Lib.hid l3
  obtain ⟨W, hW⟩ : ∃ W, W = w.alloc (.cells #[.slice ad0 n0.length cp0, .slice ad1 n1.length cp1, .slice ad2 n2.length cp2, .slice ad3 n3.length cp3, .int .i64 n4] 62) := ⟨_, rfl⟩
  have hbW : Below w.heap.size w W := by rw [hW]; exact (Below.refl _ _).alloc (Nat.le_refl _) _
  have hbk : W.heap[w.heap.size]? = some (.cells #[.slice ad0 n0.length cp0, .slice ad1 n1.length cp1, .slice ad2 n2.length cp2, .slice ad3 n3.length cp3, .int .i64 n4] 62 (0, 0)) := by rw [hW]; exact heap_alloc_new w _
  have hc0 : ∀ X, Below W.heap.size W X → Calls Try.prog 46 #[.slice ad0 n0.length cp0] X fun e X' => e = .returned (.string (txt (At.list n0).enc)) ∧ Below X.heap.size X X' := fun X q => rows_ref X (lies_on l0 (bel_trans hbW q)) i0 (by omega)
  have hc1 : ∀ X, Below W.heap.size W X → Calls Try.prog 47 #[.slice ad1 n1.length cp1] X fun e X' => e = .returned (.string (txt (At.list n1).enc)) ∧ Below X.heap.size X X' := fun X q => locks_ref X (lies_on l1 (bel_trans hbW q)) i1 (by omega)
  have c0 : W.cell? ⟨w.heap.size, 0, none⟩ = some (.slice ad0 n0.length cp0) := cell_blk hbk 0
  have c1 : W.cell? ⟨w.heap.size, 1, none⟩ = some (.slice ad1 n1.length cp1) := cell_blk hbk 1
  have c2 : W.cell? ⟨w.heap.size, 2, none⟩ = some (.slice ad2 n2.length cp2) := cell_blk hbk 2
  have c3 : W.cell? ⟨w.heap.size, 3, none⟩ = some (.slice ad3 n3.length cp3) := cell_blk hbk 3
  have c4 : W.cell? ⟨w.heap.size, 4, none⟩ = some (.int .i64 n4) := cell_blk hbk 4
  have HK : Hid (∀ X, Below W.heap.size W X → X.cell? ⟨w.heap.size, 0, none⟩ = some (.slice ad0 n0.length cp0) ∧ X.cell? ⟨w.heap.size, 1, none⟩ = some (.slice ad1 n1.length cp1) ∧ X.cell? ⟨w.heap.size, 2, none⟩ = some (.slice ad2 n2.length cp2) ∧ X.cell? ⟨w.heap.size, 3, none⟩ = some (.slice ad3 n3.length cp3) ∧ X.cell? ⟨w.heap.size, 4, none⟩ = some (.int .i64 n4) ∧ Hid (Below W.heap.size W X)) := fun X q => ⟨cell_on q c0, cell_on q c1, cell_on q c2, cell_on q c3, cell_on q c4, Lib.hid q⟩
  have hsum1 : ¬ 9223372036854775807 < (txt (At.list n0).enc).size + (txt (At.list n1).enc).size := by
    simp only [txt_size]
    omega
  have hsum2 : ¬ 9223372036854775807 < (txt (At.list n0).enc).size + (txt (At.list n1).enc).size + (txt (num (n2.length : Int))).size := by
    simp only [txt_size]
    omega
  obtain ⟨P, hP⟩ : ∃ P, P = (At.list n0).enc ++ (At.list n1).enc ++ num (n2.length : Int) := ⟨_, rfl⟩
  have hPl : P.length + (encL n2).length + (num (n3.length : Int)).length + (encL n3).length + (num n4).length ≤ 1000000000 := by
    rw [hP]
    simp only [List.length_append]
    omega
  have HP := Lib.hid hP
  have HPL := Lib.hid hPl
  have HWW := Lib.hid hW
  have HBW := Lib.hid hbW
  have e1 : Hid (encL (n2.take 0) = []) := by show _ = _; simp [encL]
  have e2 : Hid (encL (n3.take 0) = []) := by show _ = _; simp [encL]
  clear hP hPl hW hbW hbk hl es k0 hx_0 hv_0 l0 i0 m0 k1 hx_1 hv_1 l1 i1 m1 k2 hx_2 hv_2 l2 i2 m2 k3 hx_3 hv_3 l3 i3 m3 k4 hx_4 hv_4 l4 i4
  go_enter Try.func21, Try.ntmps21
  go_upto_region 1 with fail
  rw [← HWW.out]
  go_cut [3] (fun ov wx => ov = .string (txt (At.list n0).enc ++ txt (At.list n1).enc ++ txt (num (n2.length : Int))) ∧ Below W.heap.size W wx)
  case first =>
    go_region_held3 (fun X => X.cell? ⟨w.heap.size, 0, none⟩ = some (.slice ad0 n0.length cp0) ∧ X.cell? ⟨w.heap.size, 1, none⟩ = some (.slice ad1 n1.length cp1) ∧ X.cell? ⟨w.heap.size, 2, none⟩ = some (.slice ad2 n2.length cp2) ∧ X.cell? ⟨w.heap.size, 3, none⟩ = some (.slice ad3 n3.length cp3) ∧ X.cell? ⟨w.heap.size, 4, none⟩ = some (.int .i64 n4) ∧ Hid (Below W.heap.size W X)) (exact HK.out _ (by repeat (first | exact Below.refl _ _ | exact hx.out | apply bel_drew1 | apply bel_alloc))) (first
      | (go_at_call 46; refine (hc0 _ (by repeat (first | exact Below.refl _ _ | exact hx.out | apply bel_drew1 | apply bel_alloc))).mono ?_; rintro ee X ⟨rfl, hy⟩; have hx : Hid (Below W.heap.size W X) := bel_trans (by repeat (first | exact Below.refl _ _ | exact hx.out | apply bel_drew1 | apply bel_alloc)) hy)
      | (go_at_call 47; refine (hc1 _ (by repeat (first | exact Below.refl _ _ | exact hx.out | apply bel_drew1 | apply bel_alloc))).mono ?_; rintro ee X ⟨rfl, hy⟩; have hx : Hid (Below W.heap.size W X) := bel_trans (by repeat (first | exact Below.refl _ _ | exact hx.out | apply bel_drew1 | apply bel_alloc)) hy)
      | (go_at_call 38; refine (num_ref _ _ HIL2.out).mono ?_; rintro ee X ⟨rfl, hy⟩; have hx : Hid (Below W.heap.size W X) := bel_trans (by repeat (first | exact Below.refl _ _ | exact hx.out | apply bel_drew1 | apply bel_alloc)) hy))
    all_goals
      go_wp2_with fail
      go_meet
      exact ⟨rfl, hx.out⟩
  case rest =>
    obtain ⟨rfl, hbc⟩ := hcut
    obtain ⟨st1, hst1⟩ : ∃ q, q = txt (At.list n0).enc ++ txt (At.list n1).enc ++ txt (num (n2.length : Int)) := ⟨_, rfl⟩
    have HS1 : Hid (st1 = txt (P ++ encL (n2.take 0))) := by
      show _ = _
      rw [hst1, HP.out, e1.out]
      simp only [txt_append, List.append_nil]
    rw [← hst1]
    clear hst1 hsum1 hsum2 hc0 hc1
    go_wp2
    go_loopw [3, 4] (fun ov iv wr => ∃ (k : Nat) (str1 : ByteArray), k ≤ n2.length ∧ iv = .int .i64 k ∧ ov = .string str1 ∧ Hid (str1 = txt (P ++ encL (n2.take k))) ∧ Below W.heap.size W wr) (fun _ iv _ => n2.length - (intOf iv).toNat)
    case atStart => exact ⟨0, st1, Nat.zero_le _, rfl, rfl, HS1, hbc⟩
    case round =>
      obtain ⟨k, str1, hkk, rfl, rfl, HS2, hb2⟩ := hrel
      clear HS1 hbc
      obtain ⟨wo, rfl⟩ : ∃ wo, wo = wr := ⟨_, rfl⟩
      have d0 := cell_on hb2 c0
      have d1 := cell_on hb2 c1
      have d2 := cell_on hb2 c2
      have d3 := cell_on hb2 c3
      have d4 := cell_on hb2 c4
      by_cases hlk : k < n2.length
      · have hlkI : (k : Int) < (n2.length : Int) := by omega
        have hLI := HV2.out
        simp only [At.lies] at hLI
        obtain ⟨adz, cpz, ez, _, _, hmz⟩ := hLI
        cases ez
        obtain ⟨bI, pI, rfl, hblI, _, hLL⟩ : ∃ bI pI, ad2 = some ⟨bI, pI, none⟩ ∧ bI < w.heap.size ∧ ¬ NoS bI ∧ liesL w NoS bI pI n2 := by
          rcases hmz with e | q
          · rw [e] at hlk; simp at hlk
          · exact q
        have hxI := hasL_all HT2.out n2[k] (List.getElem_mem hlk)
        have hatI := liesL_at n2 pI (m := 4) (fun y hy => hasS_len (hasL_all HT2.out y hy)) hLL k hlk
        have hslI := encL_item_le n2 k hlk
        have hstepI := encL_take n2 k hlk
        have htlI := encL_take_le n2 k
        generalize n2[k] = yI at hxI hatI hslI hstepI
        have hbx : Below w.heap.size w wo := bel_trans HBW.out hb2
        obtain ⟨aI0, xI0, rfl, kI0, hx_I0⟩ := hasS_cons hxI
        obtain ⟨nI0, rfl, iI0⟩ := has_num kI0
        obtain ⟨uI0, fI0, lI0, hv_I0⟩ := liesS_cons hatI
        obtain rfl := lies_num lI0
        obtain ⟨aI1, xI1, rfl, kI1, hx_I1⟩ := hasS_cons hx_I0
        obtain ⟨nI1, rfl, iI1⟩ := has_num kI1
        obtain ⟨uI1, fI1, lI1, hv_I1⟩ := liesS_cons hv_I0
        obtain rfl := lies_num lI1
        obtain ⟨aI2, xI2, rfl, kI2, hx_I2⟩ := hasS_cons hx_I1
        obtain ⟨nI2, rfl, iI2⟩ := has_num kI2
        obtain ⟨uI2, fI2, lI2, hv_I2⟩ := liesS_cons hv_I1
        obtain rfl := lies_num lI2
        obtain ⟨aI3, xI3, rfl, kI3, hx_I3⟩ := hasS_cons hx_I2
        obtain ⟨nI3, rfl, iI3⟩ := has_num kI3
        obtain ⟨uI3, fI3, lI3, hv_I3⟩ := liesS_cons hv_I2
        obtain rfl := lies_num lI3
        obtain rfl := hasS_end hx_I3
        have eI0 : wo.cell? ⟨bI, pI + k * 4, none⟩ = some (.int .i64 nI0) := by
          have := cell_on hbx fI0
          simpa only [Nat.add_assoc, Nat.reduceAdd] using this
        have eI1 : wo.cell? ⟨bI, pI + k * 4 + 1, none⟩ = some (.int .i64 nI1) := by
          have := cell_on hbx fI1
          simpa only [Nat.add_assoc, Nat.reduceAdd] using this
        have eI2 : wo.cell? ⟨bI, pI + k * 4 + 2, none⟩ = some (.int .i64 nI2) := by
          have := cell_on hbx fI2
          simpa only [Nat.add_assoc, Nat.reduceAdd] using this
        have eI3 : wo.cell? ⟨bI, pI + k * 4 + 3, none⟩ = some (.int .i64 nI3) := by
          have := cell_on hbx fI3
          simpa only [Nat.add_assoc, Nat.reduceAdd] using this
        have esI : encS [.num nI0, .num nI1, .num nI2, .num nI3] = encS [.num nI0, .num nI1, .num nI2] ++ num nI3 := by
          simp [encS, At.enc]
        rw [esI] at hslI hstepI
        simp only [List.length_append] at hslI
        have hpl := HPL.out
        have hts : (encS [.num nI0, .num nI1, .num nI2]).length ≤ 1000000000 := by omega
        have hcT : ∀ X, Calls Try.prog 39 #[.agg #[.int .i64 nI0, .int .i64 nI1, .int .i64 nI2]] X fun e X' => e = .returned (.string (txt (encS [.num nI0, .num nI1, .num nI2]))) ∧ Below X.heap.size X X' := fun X => tid_ref X (x := [.num nI0, .num nI1, .num nI2]) (vs := [.int .i64 nI0, .int .i64 nI1, .int .i64 nI2]) (by simp only [hasS]; exact ⟨kI0, kI1, kI2, trivial⟩) (by simp [valsS, At.lies]) hts
        have HI3 := Lib.hid iI3
        have hstz : str1.size + (txt (encS [.num nI0, .num nI1, .num nI2])).size + (txt (num nI3)).size ≤ 3000000000 := by
          rw [HS2.out]
          simp only [txt_size, List.length_append]
          omega
        have hsuI1 : ¬ 9223372036854775807 < str1.size + (txt (encS [.num nI0, .num nI1, .num nI2])).size := by omega
        have hsuI2 : ¬ 9223372036854775807 < str1.size + (txt (encS [.num nI0, .num nI1, .num nI2])).size + (txt (num nI3)).size := by omega
        have HK2 : Hid (∀ X, Below wo.heap.size wo X → X.cell? ⟨bI, pI + k * 4, none⟩ = some (.int .i64 nI0) ∧ X.cell? ⟨bI, pI + k * 4 + 1, none⟩ = some (.int .i64 nI1) ∧ X.cell? ⟨bI, pI + k * 4 + 2, none⟩ = some (.int .i64 nI2) ∧ X.cell? ⟨bI, pI + k * 4 + 3, none⟩ = some (.int .i64 nI3) ∧ X.cell? ⟨w.heap.size, 2, none⟩ = some (.slice (some ⟨bI, pI, none⟩) n2.length cp2) ∧ Hid (Below wo.heap.size wo X)) := fun X q => ⟨cell_on q eI0, cell_on q eI1, cell_on q eI2, cell_on q eI3, cell_on q d2, Lib.hid q⟩
        have HST2 := Lib.hid hstepI
        have HB2 := Lib.hid hb2
        clear hstz hstepI hb2 hbx hLL esI hslI htlI hpl hts hxI hatI hmz HK kI0 hx_I0 hv_I0 lI0 iI0 fI0 kI1 hx_I1 hv_I1 lI1 iI1 fI1 kI2 hx_I2 hv_I2 lI2 iI2 fI2 kI3 hx_I3 hv_I3 lI3 iI3 fI3
        go_wp2
        go_region_held3 (fun X => X.cell? ⟨bI, pI + k * 4, none⟩ = some (.int .i64 nI0) ∧ X.cell? ⟨bI, pI + k * 4 + 1, none⟩ = some (.int .i64 nI1) ∧ X.cell? ⟨bI, pI + k * 4 + 2, none⟩ = some (.int .i64 nI2) ∧ X.cell? ⟨bI, pI + k * 4 + 3, none⟩ = some (.int .i64 nI3) ∧ X.cell? ⟨w.heap.size, 2, none⟩ = some (.slice (some ⟨bI, pI, none⟩) n2.length cp2) ∧ Hid (Below wo.heap.size wo X)) (exact HK2.out _ (by repeat (first | exact Below.refl _ _ | exact hx.out | apply bel_drew1 | apply bel_alloc))) (first
          | (go_at_call 39; refine (hcT _).mono ?_; rintro ee X ⟨rfl, hy⟩; have hx : Hid (Below wo.heap.size wo X) := bel_trans (by repeat (first | exact Below.refl _ _ | exact hx.out | apply bel_drew1 | apply bel_alloc)) hy)
          | (go_at_call 38; refine (num_ref _ _ HI3.out).mono ?_; rintro ee X ⟨rfl, hy⟩; have hx : Hid (Below wo.heap.size wo X) := bel_trans (by repeat (first | exact Below.refl _ _ | exact hx.out | apply bel_drew1 | apply bel_alloc)) hy))
        all_goals
          go_wp2
          go_roundw
          case rel =>
            refine ⟨k + 1, _, by omega, by go_num, rfl, ?_, bel_trans HB2.out hx.out⟩
            show _ = _
            rw [HST2.out, HS2.out]
            simp only [txt_append, List.append_assoc]
          case measure => simp [intOf]; omega
      · have hkF : k = n2.length := by omega
        subst hkF
        have HB2 := Lib.hid hb2
        have h38 := num_ref (n3.length : Int) wo HIL3.out
        have hsq : ¬ 9223372036854775807 < str1.size + (txt (num (n3.length : Int))).size := by
          have := HPL.out
          rw [HS2.out, List.take_length]
          simp only [txt_size, List.length_append]
          omega
        go_wp2_with (go_at_call 38; refine h38.mono ?_; rintro e w3 ⟨rfl, hb3⟩; refine Hid.out ?_)
        refine Lib.hid ?_
        have HB3 : Hid (Below W.heap.size W w3) := bel_trans hb2 hb3
        obtain ⟨st2, hst2⟩ : ∃ q, q = str1 ++ txt (num (n3.length : Int)) := ⟨_, rfl⟩
        obtain ⟨Q, hQ⟩ : ∃ Q, Q = P ++ encL n2 ++ num (n3.length : Int) := ⟨_, rfl⟩
        have HQ := Lib.hid hQ
        have HS3 : Hid (st2 = txt (Q ++ encL (n3.take 0))) := by
          show _ = _
          rw [hst2, HS2.out, hQ, e2.out, List.take_length]
          simp only [txt_append, List.append_nil]
        have g0 := cell_on hb3 d0
        have g1 := cell_on hb3 d1
        have g2 := cell_on hb3 d2
        have g3 := cell_on hb3 d3
        have g4 := cell_on hb3 d4
        have hQl : Q.length + (encL n3).length + (num n4).length ≤ 1000000000 := by
          have := HPL.out
          rw [hQ]
          simp only [List.length_append]
          omega
        have HQL := Lib.hid hQl
        clear h38 hb2 hb3 hQ hQl HK d0 d1 d2 d3 d4
        go_wp2
        rw [← hst2]
        clear hst2 hsq
        go_loopw [3, 5] (fun ov iv wr => ∃ (k : Nat) (str2 : ByteArray), k ≤ n3.length ∧ iv = .int .i64 k ∧ ov = .string str2 ∧ Hid (str2 = txt (Q ++ encL (n3.take k))) ∧ Below W.heap.size W wr) (fun _ iv _ => n3.length - (intOf iv).toNat)
        case atStart => exact ⟨0, st2, Nat.zero_le _, rfl, rfl, HS3, HB3.out⟩
        case round =>
          obtain ⟨k, str2, hkk3, rfl, rfl, HS4, hb4⟩ := hrel
          clear HS3
          have q0 := cell_on hb4 c0
          have q1 := cell_on hb4 c1
          have q2 := cell_on hb4 c2
          have q3 := cell_on hb4 c3
          have q4 := cell_on hb4 c4
          by_cases hlk : k < n3.length
          · have hlkI : (k : Int) < (n3.length : Int) := by omega
            have hLI := HV3.out
            simp only [At.lies] at hLI
            obtain ⟨adz, cpz, ez, _, _, hmz⟩ := hLI
            cases ez
            obtain ⟨bI, pI, rfl, hblI, _, hLL⟩ : ∃ bI pI, ad3 = some ⟨bI, pI, none⟩ ∧ bI < w.heap.size ∧ ¬ NoS bI ∧ liesL w NoS bI pI n3 := by
              rcases hmz with e | q
              · rw [e] at hlk; simp at hlk
              · exact q
            have hxI := hasL_all HT3.out n3[k] (List.getElem_mem hlk)
            have hatI := liesL_at n3 pI (m := 3) (fun y hy => hasS_len (hasL_all HT3.out y hy)) hLL k hlk
            have hslI := encL_item_le n3 k hlk
            have hstepI := encL_take n3 k hlk
            have htlI := encL_take_le n3 k
            generalize n3[k] = yI at hxI hatI hslI hstepI
            have hbx : Below w.heap.size w wr := bel_trans HBW.out hb4
            obtain ⟨aI0, xI0, rfl, kI0, hx_I0⟩ := hasS_cons hxI
            obtain ⟨nI0, rfl, iI0⟩ := has_num kI0
            obtain ⟨uI0, fI0, lI0, hv_I0⟩ := liesS_cons hatI
            obtain rfl := lies_num lI0
            obtain ⟨aI1, xI1, rfl, kI1, hx_I1⟩ := hasS_cons hx_I0
            obtain ⟨nI1, rfl, iI1⟩ := has_num kI1
            obtain ⟨uI1, fI1, lI1, hv_I1⟩ := liesS_cons hv_I0
            obtain rfl := lies_num lI1
            obtain ⟨aI2, xI2, rfl, kI2, hx_I2⟩ := hasS_cons hx_I1
            obtain ⟨nI2, rfl, iI2⟩ := has_num kI2
            obtain ⟨uI2, fI2, lI2, hv_I2⟩ := liesS_cons hv_I1
            obtain rfl := lies_num lI2
            obtain rfl := hasS_end hx_I2
            have eI0 : wr.cell? ⟨bI, pI + k * 3, none⟩ = some (.int .i64 nI0) := by
              have := cell_on hbx fI0
              simpa only [Nat.add_assoc, Nat.reduceAdd] using this
            have eI1 : wr.cell? ⟨bI, pI + k * 3 + 1, none⟩ = some (.int .i64 nI1) := by
              have := cell_on hbx fI1
              simpa only [Nat.add_assoc, Nat.reduceAdd] using this
            have eI2 : wr.cell? ⟨bI, pI + k * 3 + 2, none⟩ = some (.int .i64 nI2) := by
              have := cell_on hbx fI2
              simpa only [Nat.add_assoc, Nat.reduceAdd] using this
            have hpl := HQL.out
            have hts : (encS [.num nI0, .num nI1, .num nI2]).length ≤ 1000000000 := by omega
            have hcT : ∀ X, Calls Try.prog 39 #[.agg #[.int .i64 nI0, .int .i64 nI1, .int .i64 nI2]] X fun e X' => e = .returned (.string (txt (encS [.num nI0, .num nI1, .num nI2]))) ∧ Below X.heap.size X X' := fun X => tid_ref X (x := [.num nI0, .num nI1, .num nI2]) (vs := [.int .i64 nI0, .int .i64 nI1, .int .i64 nI2]) (by simp only [hasS]; exact ⟨kI0, kI1, kI2, trivial⟩) (by simp [valsS, At.lies]) hts
            have hstz : str2.size + (txt (encS [.num nI0, .num nI1, .num nI2])).size ≤ 3000000000 := by
              rw [HS4.out]
              simp only [txt_size, List.length_append]
              omega
            have hsuI1 : ¬ 9223372036854775807 < str2.size + (txt (encS [.num nI0, .num nI1, .num nI2])).size := by omega
            have HST2 := Lib.hid hstepI
            have HB4 := Lib.hid hb4
            clear hstz hstepI hb4 hbx hLL hslI htlI hpl hts hxI hatI hmz kI0 hx_I0 hv_I0 lI0 iI0 fI0 kI1 hx_I1 hv_I1 lI1 iI1 fI1 kI2 hx_I2 hv_I2 lI2 iI2 fI2
            go_wp2_with (go_at_call 39; refine (hcT _).mono ?_; rintro e w5 ⟨rfl, hb5⟩; refine Hid.out ?_)
            refine Lib.hid ?_
            have HB5 := Lib.hid hb5
            clear hb5 hcT
            go_wp2
            go_roundw
            case rel =>
              refine ⟨k + 1, _, by omega, by go_num, rfl, ?_, bel_trans HB4.out HB5.out⟩
              show _ = _
              rw [HST2.out, HS4.out]
              simp only [txt_append, List.append_assoc]
            case measure => simp [intOf]; omega
          · have hkF : k = n3.length := by omega
            subst hkF
            have HB4 := Lib.hid hb4
            have h38 := num_ref n4 wr HI4.out
            have hsq : ¬ 9223372036854775807 < str2.size + (txt (num n4)).size := by
              have := HQL.out
              rw [HS4.out, List.take_length]
              simp only [txt_size, List.length_append]
              omega
            clear hb4
            go_wp2_with (go_at_call 38; refine h38.mono ?_; rintro e w5 ⟨rfl, hb5⟩; refine Hid.out ?_)
            refine Lib.hid ?_
            have HB5 := Lib.hid hb5
            clear hb5 h38
            go_wp2
            go_ret
            refine ⟨?_, bel_trans (bel_trans HBW.out HB4.out) HB5.out⟩
            rw [HS4.out, HQ.out, HP.out, List.take_length]
            simp only [txt_append, List.append_assoc]
            rfl
end Go.Proofs.Ytjhgmncmcklnkaa
