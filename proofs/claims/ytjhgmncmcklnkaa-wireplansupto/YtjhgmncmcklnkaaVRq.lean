/- The document's Schema. -/
import Derived.Test.YtjhgmncmcklnkaaVD
import Derived.Test.YtjhgmncmcklnkaaVRm
import Derived.Test.YtjhgmncmcklnkaaVMi
import Derived.Deep.DeepCutAuto
namespace Go.Proofs.Ytjhgmncmcklnkaa
open Go.RowKit

set_option maxHeartbeats 8000000 in
set_option maxRecDepth 100000 in
theorem schema_ref (w : World) {x : List At} {vs : List Value} (hx0 : hasS schemaT x) (hv0 : valsS w NoS x vs) (hl : (encS x).length ≤ 1000000000) : Calls Try.prog 51 #[.agg vs.toArray] w fun e w' => e = .returned (.string (txt (encS x))) ∧ Below w.heap.size w w' := by
  obtain ⟨a0, x0, rfl, k0, hx_0⟩ := hasS_cons hx0
  obtain ⟨n0, rfl, i0⟩ := has_num k0
  obtain ⟨u0, r0, rfl, l0, hv_0⟩ := valsS_cons hv0
  obtain rfl := lies_num l0
  obtain ⟨a1, x1, rfl, k1, hx_1⟩ := hasS_cons hx_0
  obtain ⟨n1, rfl, i1⟩ := has_num k1
  obtain ⟨u1, r1, rfl, l1, hv_1⟩ := valsS_cons hv_0
  obtain rfl := lies_num l1
  obtain ⟨a2, x2, rfl, k2, hx_2⟩ := hasS_cons hx_1
  obtain ⟨n2, rfl, m2, i2⟩ := has_list k2
  obtain ⟨u2, r2, rfl, l2, hv_2⟩ := valsS_cons hv_1
  obtain ⟨ad2, cp2, rfl⟩ := lies_list l2
  obtain rfl := hasS_end hx_2
  obtain rfl := valsS_end hv_2
  have es : encS [.num n0, .num n1, .list n2] = numsL [n0, n1] ++ num (n2.length : Int) ++ encL n2 := by
    simp [numsL, encS, At.enc]
  rw [es] at hl ⊢
  simp only [List.length_append] at hl
  have hlen : n2.length ≤ 1000000000 := by
    have := encL_len (t := tableT) (by simp) i2
    omega
  obtain ⟨W, hW⟩ : ∃ W, W = w.alloc (.cells #[.int .i64 n0, .int .i64 n1, .slice ad2 n2.length cp2] 75) := ⟨_, rfl⟩
  have hbW : Below w.heap.size w W := by rw [hW]; exact (Below.refl _ _).alloc (Nat.le_refl _) _
  obtain ⟨Q0, hQ0⟩ : ∃ Q0, w.heap.size = Q0 := ⟨_, rfl⟩
  have hbk : W.heap[Q0]? = some (.cells #[.int .i64 n0, .int .i64 n1, .slice ad2 n2.length cp2] 75 (0, 0)) := by rw [hW, ← hQ0]; exact heap_alloc_new w _
  have c0 : W.cell? ⟨Q0, 0, none⟩ = some (.int .i64 n0) := cell_blk hbk 0
  have c1 : W.cell? ⟨Q0, 1, none⟩ = some (.int .i64 n1) := cell_blk hbk 1
  have c2 : W.cell? ⟨Q0, 2, none⟩ = some (.slice ad2 n2.length cp2) := cell_blk hbk 2
  have MK1 : Hid (Mk #[.int .i64 n0, .int .i64 n1] 2 [n0, n1]) := by
    refine ⟨fun i h => ?_, rfl, by omega, ?_⟩
    · have : i = 0 ∨ i = 1 := by simp at h; omega
      rcases this with rfl | rfl <;> rfl
    · intro n hn
      simp at hn
      rcases hn with rfl | rfl
      · exact i0
      · exact i1
  have hlI : I64 (n2.length : Int) := by unfold I64; omega
  have HIL := Lib.hid hlI
  have hsum1 : ¬ 9223372036854775807 < (txt (numsL [n0, n1])).size + (txt (num (n2.length : Int))).size := by
    simp only [txt_size]
    omega
  have HLIE := Lib.hid (lies_on l2 hbW)
  have HT := Lib.hid i2
  have HLL := Lib.hid hl
  have HKW : Hid (∀ X, Below W.heap.size W X → X.cell? ⟨Q0, 0, none⟩ = some (.int .i64 n0) ∧ X.cell? ⟨Q0, 1, none⟩ = some (.int .i64 n1) ∧ X.cell? ⟨Q0, 2, none⟩ = some (.slice ad2 n2.length cp2) ∧ Hid (Below W.heap.size W X)) := fun X q => ⟨cell_on q c0, cell_on q c1, cell_on q c2, Lib.hid q⟩
  have HW := Lib.hid hW
  have HBW := Lib.hid hbW
  have HQ0 := Lib.hid hQ0
  clear hW hbW hQ0 hbk es hl hlI k0 hx_0 hv_0 l0 i0 k1 hx_1 hv_1 l1 i1 k2 hx_2 hv_2 l2 i2 m2 hx0 hv0
  go_enter Try.func51, Try.ntmps51
  go_upto_region 1 with fail
  rw [← HW.out, HQ0.out]
  go_cut [3] (fun ov wr => ov = .string (txt (numsL [n0, n1]) ++ txt (num (n2.length : Int))) ∧ Below W.heap.size W wr)
  case first =>
    go_region_held3 (fun X => X.cell? ⟨Q0, 0, none⟩ = some (.int .i64 n0) ∧ X.cell? ⟨Q0, 1, none⟩ = some (.int .i64 n1) ∧ X.cell? ⟨Q0, 2, none⟩ = some (.slice ad2 n2.length cp2) ∧ Hid (Below W.heap.size W X)) (exact HKW.out _ (by repeat (first | exact Below.refl _ _ | exact hx.out | apply bel_drew1 | apply bel_alloc))) (first
      | (go_at_call 28; refine Calls.mono (nums_gen (ns := [n0, n1]) _ ?_) ?_; (focus ((repeat (first | ((with_reducible refine IntsK.new MK1.out ?_) <;> simp) | (with_reducible apply IntsK.drew) | (with_reducible apply IntsK.alloc) | (with_reducible refine IntsK.onN (by assumption) (by simp) ?_))); done)); rintro ee X ⟨rfl, hy⟩; have hx : Hid (Below W.heap.size W X) := bel_trans (by repeat (first | exact Below.refl _ _ | exact hx.out | apply bel_drew1 | apply bel_alloc)) hy)
      | (go_at_call 38; refine (num_ref _ _ HIL.out).mono ?_; rintro ee X ⟨rfl, hy⟩; have hx : Hid (Below W.heap.size W X) := bel_trans (by repeat (first | exact Below.refl _ _ | exact hx.out | apply bel_drew1 | apply bel_alloc)) hy))
    all_goals
      go_wp2_with fail
      go_meet
      exact ⟨rfl, hx.out⟩
  case rest =>
    obtain ⟨rfl, hbc⟩ := hcut
    obtain ⟨st0, hst0⟩ : ∃ q, q = txt (numsL [n0, n1]) ++ txt (num (n2.length : Int)) := ⟨_, rfl⟩
    have HS0 : Hid (st0 = txt (numsL [n0, n1] ++ num (n2.length : Int) ++ encL (n2.take 0))) := by
      show _ = _
      rw [hst0, txt_append]
      simp [encL]
    rw [← hst0]
    obtain ⟨W1, rfl⟩ : ∃ W1, W1 = wc := ⟨_, rfl⟩
    clear hst0 hsum1 HKW
    go_wp2
    go_loopw [3, 4] (fun ov iv wr => ∃ (i : Nat) (str : ByteArray), i ≤ n2.length ∧ iv = .int .i64 i ∧ ov = .string str ∧ Hid (str = txt (numsL [n0, n1] ++ num (n2.length : Int) ++ encL (n2.take i))) ∧ Below W.heap.size W wr) (fun _ iv _ => n2.length - (intOf iv).toNat)
    case atStart => exact ⟨0, st0, Nat.zero_le _, rfl, rfl, HS0, hbc⟩
    case round =>
      obtain ⟨i, str, hik, rfl, rfl, HS, hb⟩ := hrel
      clear HS0 hbc
      obtain ⟨wo, rfl⟩ : ∃ wo, wo = wr := ⟨_, rfl⟩
      have c2o := cell_on hb c2
      by_cases hlt : i < n2.length
      · have hltI : (i : Int) < (n2.length : Int) := by omega
        have hLI := HLIE.out
        simp only [At.lies] at hLI
        obtain ⟨adz, cpz, ez, _, _, hmz⟩ := hLI
        cases ez
        obtain ⟨b, p, rfl, hbl, _, hL⟩ : ∃ b p, ad2 = some ⟨b, p, none⟩ ∧ b < W.heap.size ∧ ¬ NoS b ∧ liesL W NoS b p n2 := by
          rcases hmz with e | q
          · rw [e] at hlt; simp at hlt
          · exact q
        have hx := hasL_all HT.out n2[i] (List.getElem_mem hlt)
        have hat := liesL_at n2 p (m := 5) (fun y hy => hasS_len (hasL_all HT.out y hy)) hL i hlt
        have hsl := encL_item_le n2 i hlt
        have hstep := encL_take n2 i hlt
        have htl := encL_take_le n2 i
        generalize n2[i] = y at hx hat hsl hstep
        obtain ⟨at0, xt0, rfl, kt0, hx_t0⟩ := hasS_cons hx
        obtain ⟨nt0, rfl, it0⟩ := has_num kt0
        obtain ⟨ut0, ft0, lt0, hv_t0⟩ := liesS_cons hat
        obtain rfl := lies_num lt0
        obtain ⟨at1, xt1, rfl, kt1, hx_t1⟩ := hasS_cons hx_t0
        obtain ⟨nt1, rfl, it1⟩ := has_text kt1
        obtain ⟨ut1, ft1, lt1, hv_t1⟩ := liesS_cons hv_t0
        obtain rfl := lies_text lt1
        obtain ⟨at2, xt2, rfl, kt2, hx_t2⟩ := hasS_cons hx_t1
        obtain ⟨nt2, rfl, mt2, it2⟩ := has_list kt2
        obtain ⟨ut2, ft2, lt2, hv_t2⟩ := liesS_cons hv_t1
        obtain ⟨adt2, cpt2, rfl⟩ := lies_list lt2
        obtain ⟨at3, xt3, rfl, kt3, hx_t3⟩ := hasS_cons hx_t2
        obtain ⟨nt3, rfl, mt3, it3⟩ := has_list kt3
        obtain ⟨ut3, ft3, lt3, hv_t3⟩ := liesS_cons hv_t2
        obtain ⟨adt3, cpt3, rfl⟩ := lies_list lt3
        obtain ⟨at4, xt4, rfl, kt4, hx_t4⟩ := hasS_cons hx_t3
        obtain ⟨nt4, rfl, mt4, it4⟩ := has_list kt4
        obtain ⟨ut4, ft4, lt4, hv_t4⟩ := liesS_cons hv_t3
        obtain ⟨adt4, cpt4, rfl⟩ := lies_list lt4
        obtain rfl := hasS_end hx_t4
        have e0 : wo.cell? ⟨b, p + i * 5, none⟩ = some (.int .i64 nt0) := by
          have := cell_on hb ft0
          simpa only [Nat.add_assoc, Nat.reduceAdd] using this
        have e1 : wo.cell? ⟨b, p + i * 5 + 1, none⟩ = some (.string nt1) := by
          have := cell_on hb ft1
          simpa only [Nat.add_assoc, Nat.reduceAdd] using this
        have e2 : wo.cell? ⟨b, p + i * 5 + 2, none⟩ = some (.slice adt2 nt2.length cpt2) := by
          have := cell_on hb ft2
          simpa only [Nat.add_assoc, Nat.reduceAdd] using this
        have e3 : wo.cell? ⟨b, p + i * 5 + 3, none⟩ = some (.slice adt3 nt3.length cpt3) := by
          have := cell_on hb ft3
          simpa only [Nat.add_assoc, Nat.reduceAdd] using this
        have e4 : wo.cell? ⟨b, p + i * 5 + 4, none⟩ = some (.slice adt4 nt4.length cpt4) := by
          have := cell_on hb ft4
          simpa only [Nat.add_assoc, Nat.reduceAdd] using this
        have es : encS [.num nt0, .text nt1, .list nt2, .list nt3, .list nt4] = num nt0 ++ (At.text nt1).enc ++ (At.list nt2).enc ++ num (nt3.length : Int) ++ encL nt3 ++ num (nt4.length : Int) ++ encL nt4 := by
          simp [encS, At.enc]
        rw [es] at hsl hstep
        simp only [List.length_append] at hsl
        have hll := HLL.out
        obtain ⟨V, hV⟩ : ∃ V, V = wo.alloc (.cells #[.int .i64 nt0, .string nt1, .slice adt2 nt2.length cpt2, .slice adt3 nt3.length cpt3, .slice adt4 nt4.length cpt4] 83) := ⟨_, rfl⟩
        obtain ⟨Y, hY⟩ : ∃ Y, wo.heap.size = Y := ⟨_, rfl⟩
        have hbV : Below W.heap.size W V := by rw [hV]; exact hb.alloc hb.size _
        have hbVo : Below wo.heap.size wo V := by rw [hV]; exact (Below.refl _ _).alloc (Nat.le_refl _) _
        have jY : V.heap[Y]? = some (.cells #[.int .i64 nt0, .string nt1, .slice adt2 nt2.length cpt2, .slice adt3 nt3.length cpt3, .slice adt4 nt4.length cpt4] 83 (0, 0)) := by rw [hV, ← hY]; exact heap_alloc_new wo _
        have y0 : V.cell? ⟨Y, 0, none⟩ = some (.int .i64 nt0) := cell_blk jY 0
        have y1 : V.cell? ⟨Y, 1, none⟩ = some (.string nt1) := cell_blk jY 1
        have y2 : V.cell? ⟨Y, 2, none⟩ = some (.slice adt2 nt2.length cpt2) := cell_blk jY 2
        have y3 : V.cell? ⟨Y, 3, none⟩ = some (.slice adt3 nt3.length cpt3) := cell_blk jY 3
        have y4 : V.cell? ⟨Y, 4, none⟩ = some (.slice adt4 nt4.length cpt4) := cell_blk jY 4
        have hil3 : nt3.length ≤ 1000000000 := by
          have := encL_len (t := indexT) (by simp) it3
          omega
        have hil4 : nt4.length ≤ 1000000000 := by
          have := encL_len (t := foreignT) (by simp) it4
          omega
        have hI3 : I64 (nt3.length : Int) := by unfold I64; omega
        have hI4 : I64 (nt4.length : Int) := by unfold I64; omega
        have HI3 := Lib.hid hI3
        have HI4 := Lib.hid hI4
        have HI0 := Lib.hid it0
        have s1 : nt1.size ≤ 1000000000 := text_size (by omega)
        have HC1 := Lib.hid (lies_on lt2 hbV)
        have HC2 := Lib.hid it2
        have HC3 : Hid ((At.list nt2).enc.length ≤ 1000000000) := by show _ ≤ _; omega
        have HT3 := Lib.hid it3
        have HT4 := Lib.hid it4
        have HL3 := Lib.hid (lies_on lt3 hbV)
        have HL4 := Lib.hid (lies_on lt4 hbV)
        have hstz : str.size ≤ 3000000000 := by rw [HS.out, txt_size, List.length_append, List.length_append]; omega
        have hsum1 : ¬ 9223372036854775807 < str.size + (txt (num nt0)).size := by
          simp only [txt_size]
          omega
        have hsum2 : ¬ 9223372036854775807 < str.size + (txt (num nt0)).size + (txt ((At.text nt1).enc)).size := by
          simp only [txt_size]
          omega
        have hsum3 : ¬ 9223372036854775807 < str.size + (txt (num nt0)).size + (txt ((At.text nt1).enc)).size + (txt ((At.list nt2).enc)).size := by
          simp only [txt_size]
          omega
        have hsum4 : ¬ 9223372036854775807 < str.size + (txt (num nt0)).size + (txt ((At.text nt1).enc)).size + (txt ((At.list nt2).enc)).size + (txt (num (nt3.length : Int))).size := by
          simp only [txt_size]
          omega
        have HKV : Hid (∀ X, Below V.heap.size V X → X.cell? ⟨Y, 0, none⟩ = some (.int .i64 nt0) ∧ X.cell? ⟨Y, 1, none⟩ = some (.string nt1) ∧ X.cell? ⟨Y, 2, none⟩ = some (.slice adt2 nt2.length cpt2) ∧ X.cell? ⟨Y, 3, none⟩ = some (.slice adt3 nt3.length cpt3) ∧ Hid (Below V.heap.size V X)) := fun X q => ⟨cell_on q y0, cell_on q y1, cell_on q y2, cell_on q y3, Lib.hid q⟩
        obtain ⟨P, hP⟩ : ∃ P, P = numsL [n0, n1] ++ num (n2.length : Int) ++ encL (n2.take i) ++ (num nt0 ++ (At.text nt1).enc ++ (At.list nt2).enc ++ num (nt3.length : Int)) := ⟨_, rfl⟩
        have hPl : P.length + (encL nt3).length + (num (nt4.length : Int)).length + (encL nt4).length ≤ 2000000000 := by
          rw [hP]
          simp only [List.length_append]
          omega
        have HP := Lib.hid hP
        have HPL := Lib.hid hPl
        have HST := Lib.hid hstep
        have HB := Lib.hid hb
        have HBV := Lib.hid hbV
        have HV := Lib.hid hV
        have HY := Lib.hid hY
        have hE3 : (encL nt3).length ≤ 1000000000 := by omega
        have hE4 : (encL nt4).length ≤ 1000000000 := by omega
        have HE3 := Lib.hid hE3
        have HE4 := Lib.hid hE4
        clear hI3 hI4 hE3 hE4 hP hPl hstep hb hbV hbVo hV hY jY hL es hsl htl hll hx hat hmz kt0 hx_t0 hv_t0 lt0 ft0 it0 kt1 hx_t1 hv_t1 lt1 ft1 it1 kt2 hx_t2 hv_t2 lt2 ft2 it2 mt2 kt3 hx_t3 hv_t3 lt3 ft3 it3 mt3 kt4 hx_t4 hv_t4 lt4 ft4 it4 mt4
        go_upto_region 6 with fail
        rw [← HV.out, HY.out]
        go_cut [3] (fun ov wr => ov = .string (str ++ txt (num nt0) ++ txt ((At.text nt1).enc) ++ txt ((At.list nt2).enc) ++ txt (num (nt3.length : Int))) ∧ Below V.heap.size V wr)
        case first =>
          go_region_held3 (fun X => X.cell? ⟨Y, 0, none⟩ = some (.int .i64 nt0) ∧ X.cell? ⟨Y, 1, none⟩ = some (.string nt1) ∧ X.cell? ⟨Y, 2, none⟩ = some (.slice adt2 nt2.length cpt2) ∧ X.cell? ⟨Y, 3, none⟩ = some (.slice adt3 nt3.length cpt3) ∧ Hid (Below V.heap.size V X)) (exact HKV.out _ (by repeat (first | exact Below.refl _ _ | exact hx.out | apply bel_drew1 | apply bel_alloc))) (first
            | (go_at_call 38; refine (num_ref _ _ (by first | exact HI0.out | exact HI3.out)).mono ?_; rintro ee X ⟨rfl, hy⟩; have hx : Hid (Below V.heap.size V X) := bel_trans (by repeat (first | exact Below.refl _ _ | exact hx.out | apply bel_drew1 | apply bel_alloc)) hy)
            | (go_at_call 31; refine (text_ref _ _ (by assumption)).mono ?_; rintro ee X ⟨rfl, hy⟩; have hx : Hid (Below V.heap.size V X) := bel_trans (by repeat (first | exact Below.refl _ _ | exact hx.out | apply bel_drew1 | apply bel_alloc)) hy)
            | (go_at_call 65; refine (columns_ref _ (lies_on HC1.out (by repeat (first | exact Below.refl _ _ | exact hx.out | apply bel_drew1 | apply bel_alloc))) HC2.out HC3.out).mono ?_; rintro ee X ⟨rfl, hy⟩; have hx : Hid (Below V.heap.size V X) := bel_trans (by repeat (first | exact Below.refl _ _ | exact hx.out | apply bel_drew1 | apply bel_alloc)) hy))
          all_goals
            go_wp2_with fail
            go_meet
            exact ⟨rfl, hx.out⟩
        case rest =>
          obtain ⟨rfl, hbc⟩ := hcut
          obtain ⟨W2, rfl⟩ : ∃ W2, W2 = wc := ⟨_, rfl⟩
          obtain ⟨st1, hst1⟩ : ∃ q, q = str ++ txt (num nt0) ++ txt ((At.text nt1).enc) ++ txt ((At.list nt2).enc) ++ txt (num (nt3.length : Int)) := ⟨_, rfl⟩
          have HS1 : Hid (st1 = txt (P ++ encL (nt3.take 0))) := by
            show _ = _
            rw [hst1, HS.out, HP.out]
            simp only [txt_append, List.append_assoc, List.take_zero, encL, List.append_nil]
          rw [← hst1]
          clear hst1 hsum1 hsum2 hsum3 hsum4 HKV
          go_wp2
          go_loopw [3, 6] (fun ov iv wr => ∃ (k : Nat) (str1 : ByteArray), k ≤ nt3.length ∧ iv = .int .i64 k ∧ ov = .string str1 ∧ Hid (str1 = txt (P ++ encL (nt3.take k))) ∧ Below V.heap.size V wr) (fun _ iv _ => nt3.length - (intOf iv).toNat)
          case atStart => exact ⟨0, st1, Nat.zero_le _, rfl, rfl, HS1, hbc⟩
          case round =>
            obtain ⟨k, str1, hkk, rfl, rfl, HS2, hb2⟩ := hrel
            clear HS1 hbc
            obtain ⟨wi, rfl⟩ : ∃ wi, wi = wr := ⟨_, rfl⟩
            have d3 := cell_on hb2 y3
            have d4 := cell_on hb2 y4
            by_cases hlk : k < nt3.length
            · have hlkI : (k : Int) < (nt3.length : Int) := by omega
              have hLI := HL3.out
              simp only [At.lies] at hLI
              obtain ⟨adz, cpz, ez, _, _, hmz⟩ := hLI
              cases ez
              obtain ⟨bI, pI, rfl, hblI, _, hLL⟩ : ∃ bI pI, adt3 = some ⟨bI, pI, none⟩ ∧ bI < V.heap.size ∧ ¬ NoS bI ∧ liesL V NoS bI pI nt3 := by
                rcases hmz with e | q
                · rw [e] at hlk; simp at hlk
                · exact q
              have hxI := hasL_all HT3.out nt3[k] (List.getElem_mem hlk)
              have hatI := liesL_at nt3 pI (m := 5) (fun y hy => hasS_len (hasL_all HT3.out y hy)) hLL k hlk
              have hslI := encL_item_le nt3 k hlk
              have hstepI := encL_take nt3 k hlk
              have htlI := encL_take_le nt3 k
              generalize nt3[k] = yI at hxI hatI hslI hstepI
              obtain ⟨aj0, xj0, rfl, kj0, hx_j0⟩ := hasS_cons hxI
              obtain ⟨nj0, rfl, ij0⟩ := has_num kj0
              obtain ⟨uj0, fj0, lj0, hv_j0⟩ := liesS_cons hatI
              obtain rfl := lies_num lj0
              obtain ⟨aj1, xj1, rfl, kj1, hx_j1⟩ := hasS_cons hx_j0
              obtain ⟨nj1, rfl, ij1⟩ := has_text kj1
              obtain ⟨uj1, fj1, lj1, hv_j1⟩ := liesS_cons hv_j0
              obtain rfl := lies_text lj1
              obtain ⟨aj2, xj2, rfl, kj2, hx_j2⟩ := hasS_cons hx_j1
              obtain ⟨nj2, rfl, ij2⟩ := has_num kj2
              obtain ⟨uj2, fj2, lj2, hv_j2⟩ := liesS_cons hv_j1
              obtain rfl := lies_num lj2
              obtain ⟨aj3, xj3, rfl, kj3, hx_j3⟩ := hasS_cons hx_j2
              obtain ⟨nj3, rfl⟩ := has_yes kj3
              obtain ⟨uj3, fj3, lj3, hv_j3⟩ := liesS_cons hv_j2
              obtain rfl := lies_yes lj3
              obtain ⟨aj4, xj4, rfl, kj4, hx_j4⟩ := hasS_cons hx_j3
              obtain ⟨nj4, rfl, ij4⟩ := has_num kj4
              obtain ⟨uj4, fj4, lj4, hv_j4⟩ := liesS_cons hv_j3
              obtain rfl := lies_num lj4
              obtain rfl := hasS_end hx_j4
              have eI0 : wi.cell? ⟨bI, pI + k * 5, none⟩ = some (.int .i64 nj0) := by
                have := cell_on hb2 fj0
                simpa only [Nat.add_assoc, Nat.reduceAdd] using this
              have eI1 : wi.cell? ⟨bI, pI + k * 5 + 1, none⟩ = some (.string nj1) := by
                have := cell_on hb2 fj1
                simpa only [Nat.add_assoc, Nat.reduceAdd] using this
              have eI2 : wi.cell? ⟨bI, pI + k * 5 + 2, none⟩ = some (.int .i64 nj2) := by
                have := cell_on hb2 fj2
                simpa only [Nat.add_assoc, Nat.reduceAdd] using this
              have eI3 : wi.cell? ⟨bI, pI + k * 5 + 3, none⟩ = some (.bool nj3) := by
                have := cell_on hb2 fj3
                simpa only [Nat.add_assoc, Nat.reduceAdd] using this
              have eI4 : wi.cell? ⟨bI, pI + k * 5 + 4, none⟩ = some (.int .i64 nj4) := by
                have := cell_on hb2 fj4
                simpa only [Nat.add_assoc, Nat.reduceAdd] using this
              have esI : encS [.num nj0, .text nj1, .num nj2, .yes nj3, .num nj4] = num nj0 ++ (At.text nj1).enc ++ num nj2 ++ (At.yes nj3).enc ++ num nj4 := by
                simp [encS, At.enc]
              rw [esI] at hslI hstepI
              simp only [List.length_append] at hslI
              have hpl := HPL.out
              have hen := HE3.out
              obtain ⟨U, hU⟩ : ∃ U, U = wi.alloc (.cells #[.int .i64 nj0, .string nj1, .int .i64 nj2, .bool nj3, .int .i64 nj4] 199) := ⟨_, rfl⟩
              obtain ⟨Z, hZ⟩ : ∃ Z, wi.heap.size = Z := ⟨_, rfl⟩
              have hbU : Below V.heap.size V U := by rw [hU]; exact hb2.alloc hb2.size _
              have jZ : U.heap[Z]? = some (.cells #[.int .i64 nj0, .string nj1, .int .i64 nj2, .bool nj3, .int .i64 nj4] 199 (0, 0)) := by rw [hU, ← hZ]; exact heap_alloc_new wi _
              have z0 : U.cell? ⟨Z, 0, none⟩ = some (.int .i64 nj0) := cell_blk jZ 0
              have z1 : U.cell? ⟨Z, 1, none⟩ = some (.string nj1) := cell_blk jZ 1
              have z2 : U.cell? ⟨Z, 2, none⟩ = some (.int .i64 nj2) := cell_blk jZ 2
              have z3 : U.cell? ⟨Z, 3, none⟩ = some (.bool nj3) := cell_blk jZ 3
              have z4 : U.cell? ⟨Z, 4, none⟩ = some (.int .i64 nj4) := cell_blk jZ 4
              have hstz2 : str1.size ≤ 3000000000 := by rw [HS2.out, txt_size, List.length_append]; omega
              have hsuI1 : ¬ 9223372036854775807 < str1.size + (txt (num nj0)).size := by
                simp only [txt_size]
                omega
              have hsuI2 : ¬ 9223372036854775807 < str1.size + (txt (num nj0)).size + (txt ((At.text nj1).enc)).size := by
                simp only [txt_size]
                omega
              have hsuI3 : ¬ 9223372036854775807 < str1.size + (txt (num nj0)).size + (txt ((At.text nj1).enc)).size + (txt (num nj2)).size := by
                simp only [txt_size]
                omega
              have hsuI4 : ¬ 9223372036854775807 < str1.size + (txt (num nj0)).size + (txt ((At.text nj1).enc)).size + (txt (num nj2)).size + (txt ((At.yes nj3).enc)).size := by
                simp only [txt_size]
                omega
              have hsuI5 : ¬ 9223372036854775807 < str1.size + (txt (num nj0)).size + (txt ((At.text nj1).enc)).size + (txt (num nj2)).size + (txt ((At.yes nj3).enc)).size + (txt (num nj4)).size := by
                simp only [txt_size]
                omega
              have sI1 : nj1.size ≤ 1000000000 := text_size (by omega)
              have HII0 := Lib.hid ij0
              have HII2 := Lib.hid ij2
              have HII4 := Lib.hid ij4
              have HKU : Hid (∀ X, Below U.heap.size U X → X.cell? ⟨Z, 0, none⟩ = some (.int .i64 nj0) ∧ X.cell? ⟨Z, 1, none⟩ = some (.string nj1) ∧ X.cell? ⟨Z, 2, none⟩ = some (.int .i64 nj2) ∧ X.cell? ⟨Z, 3, none⟩ = some (.bool nj3) ∧ X.cell? ⟨Z, 4, none⟩ = some (.int .i64 nj4) ∧ Hid (Below U.heap.size U X)) := fun X q => ⟨cell_on q z0, cell_on q z1, cell_on q z2, cell_on q z3, cell_on q z4, Lib.hid q⟩
              have HST2 := Lib.hid hstepI
              have HB2 := Lib.hid hbU
              have HU := Lib.hid hU
              have HZ := Lib.hid hZ
              clear hstepI hb2 hbU hU hZ jZ hLL esI hslI htlI hpl hen hxI hatI hmz kj0 hx_j0 hv_j0 lj0 fj0 ij0 kj1 hx_j1 hv_j1 lj1 fj1 ij1 kj2 hx_j2 hv_j2 lj2 fj2 ij2 kj3 hx_j3 hv_j3 lj3 fj3 kj4 hx_j4 hv_j4 lj4 fj4 ij4
              go_upto_region 11 with fail
              rw [← HU.out, HZ.out]
              go_region_held3 (fun X => X.cell? ⟨Z, 0, none⟩ = some (.int .i64 nj0) ∧ X.cell? ⟨Z, 1, none⟩ = some (.string nj1) ∧ X.cell? ⟨Z, 2, none⟩ = some (.int .i64 nj2) ∧ X.cell? ⟨Z, 3, none⟩ = some (.bool nj3) ∧ X.cell? ⟨Z, 4, none⟩ = some (.int .i64 nj4) ∧ Hid (Below U.heap.size U X)) (exact HKU.out _ (by repeat (first | exact Below.refl _ _ | exact hx.out | apply bel_drew1 | apply bel_alloc))) (first
                  | (go_at_call 38; refine (num_ref _ _ (by first | exact HII0.out | exact HII2.out | exact HII4.out)).mono ?_; rintro ee X ⟨rfl, hy⟩; have hx : Hid (Below U.heap.size U X) := bel_trans (by repeat (first | exact Below.refl _ _ | exact hx.out | apply bel_drew1 | apply bel_alloc)) hy)
                  | (go_at_call 31; refine (text_ref _ _ (by assumption)).mono ?_; rintro ee X ⟨rfl, hy⟩; have hx : Hid (Below U.heap.size U X) := bel_trans (by repeat (first | exact Below.refl _ _ | exact hx.out | apply bel_drew1 | apply bel_alloc)) hy)
                  | (go_at_call 29; refine (flag_ref _ _).mono ?_; rintro ee X ⟨rfl, hy⟩; have hx : Hid (Below U.heap.size U X) := bel_trans (by repeat (first | exact Below.refl _ _ | exact hx.out | apply bel_drew1 | apply bel_alloc)) hy))
              all_goals
                go_wp2
                go_roundw
                case rel =>
                  refine ⟨k + 1, _, by omega, by go_num, rfl, ?_, bel_trans HB2.out hx.out⟩
                  show _ = _
                  rw [HST2.out, HS2.out]
                  simp only [txt_append, List.append_assoc]
                case measure => simp [intOf]; omega
            · have hkF : k = nt3.length := by omega
              subst hkF
              obtain ⟨P2, hP2⟩ : ∃ P2, P2 = P ++ encL nt3 ++ num (nt4.length : Int) := ⟨_, rfl⟩
              have HP2 := Lib.hid hP2
              have hn4 := num_ref (nt4.length : Int) wi HI4.out
              have hpl := HPL.out
              have hstz2 : str1.size ≤ 3000000000 := by rw [HS2.out, txt_size, List.length_append, List.take_length]; omega
              have hsq : ¬ 9223372036854775807 < str1.size + (txt (num (nt4.length : Int))).size := by
                simp only [txt_size]
                omega
              obtain ⟨st2, hst2⟩ : ∃ q, q = str1 ++ txt (num (nt4.length : Int)) := ⟨_, rfl⟩
              have HS3 : Hid (st2 = txt (P2 ++ encL (nt4.take 0))) := by
                show _ = _
                rw [hst2, HS2.out, hP2, List.take_length]
                simp only [txt_append, List.append_assoc, List.take_zero, encL, List.append_nil]
              have HB2 := Lib.hid hb2
              have HH2 := Lib.hid hst2
              clear hb2 hP2 hst2 hpl
              go_wp2_with (go_at_call 38; refine hn4.mono ?_; rintro e w4 ⟨rfl, hb4⟩; refine Hid.out ?_)
              refine Lib.hid ?_
              have hb5 := bel_trans HB2.out hb4
              clear hn4 hb4 d3 d4
              have y3b := y3
              go_wp2
              rw [← HH2.out]
              clear HH2 hsq
              go_loopw [3, 8] (fun ov iv wr => ∃ (k : Nat) (str1 : ByteArray), k ≤ nt4.length ∧ iv = .int .i64 k ∧ ov = .string str1 ∧ Hid (str1 = txt (P2 ++ encL (nt4.take k))) ∧ Below V.heap.size V wr) (fun _ iv _ => nt4.length - (intOf iv).toNat)
              case atStart => exact ⟨0, st2, Nat.zero_le _, rfl, rfl, HS3, hb5⟩
              case round =>
                obtain ⟨k, str1, hkk, rfl, rfl, HS2, hb2⟩ := hrel
                clear HS3 hb5
                obtain ⟨wi, rfl⟩ : ∃ wi, wi = wr := ⟨_, rfl⟩
                have d3 := cell_on hb2 y3
                have d4 := cell_on hb2 y4
                by_cases hlk : k < nt4.length
                · have hlkI : (k : Int) < (nt4.length : Int) := by omega
                  have hLI := HL4.out
                  simp only [At.lies] at hLI
                  obtain ⟨adz, cpz, ez, _, _, hmz⟩ := hLI
                  cases ez
                  obtain ⟨bI, pI, rfl, hblI, _, hLL⟩ : ∃ bI pI, adt4 = some ⟨bI, pI, none⟩ ∧ bI < V.heap.size ∧ ¬ NoS bI ∧ liesL V NoS bI pI nt4 := by
                    rcases hmz with e | q
                    · rw [e] at hlk; simp at hlk
                    · exact q
                  have hxI := hasL_all HT4.out nt4[k] (List.getElem_mem hlk)
                  have hatI := liesL_at nt4 pI (m := 5) (fun y hy => hasS_len (hasL_all HT4.out y hy)) hLL k hlk
                  have hslI := encL_item_le nt4 k hlk
                  have hstepI := encL_take nt4 k hlk
                  have htlI := encL_take_le nt4 k
                  generalize nt4[k] = yI at hxI hatI hslI hstepI
                  obtain ⟨ag0, xg0, rfl, kg0, hx_g0⟩ := hasS_cons hxI
                  obtain ⟨ng0, rfl, ig0⟩ := has_num kg0
                  obtain ⟨ug0, fg0, lg0, hv_g0⟩ := liesS_cons hatI
                  obtain rfl := lies_num lg0
                  obtain ⟨ag1, xg1, rfl, kg1, hx_g1⟩ := hasS_cons hx_g0
                  obtain ⟨ng1, rfl, ig1⟩ := has_text kg1
                  obtain ⟨ug1, fg1, lg1, hv_g1⟩ := liesS_cons hv_g0
                  obtain rfl := lies_text lg1
                  obtain ⟨ag2, xg2, rfl, kg2, hx_g2⟩ := hasS_cons hx_g1
                  obtain ⟨ng2, rfl, ig2⟩ := has_num kg2
                  obtain ⟨ug2, fg2, lg2, hv_g2⟩ := liesS_cons hv_g1
                  obtain rfl := lies_num lg2
                  obtain ⟨ag3, xg3, rfl, kg3, hx_g3⟩ := hasS_cons hx_g2
                  obtain ⟨ng3, rfl, ig3⟩ := has_num kg3
                  obtain ⟨ug3, fg3, lg3, hv_g3⟩ := liesS_cons hv_g2
                  obtain rfl := lies_num lg3
                  obtain ⟨ag4, xg4, rfl, kg4, hx_g4⟩ := hasS_cons hx_g3
                  obtain ⟨ng4, rfl, ig4⟩ := has_num kg4
                  obtain ⟨ug4, fg4, lg4, hv_g4⟩ := liesS_cons hv_g3
                  obtain rfl := lies_num lg4
                  obtain rfl := hasS_end hx_g4
                  have eI0 : wi.cell? ⟨bI, pI + k * 5, none⟩ = some (.int .i64 ng0) := by
                    have := cell_on hb2 fg0
                    simpa only [Nat.add_assoc, Nat.reduceAdd] using this
                  have eI1 : wi.cell? ⟨bI, pI + k * 5 + 1, none⟩ = some (.string ng1) := by
                    have := cell_on hb2 fg1
                    simpa only [Nat.add_assoc, Nat.reduceAdd] using this
                  have eI2 : wi.cell? ⟨bI, pI + k * 5 + 2, none⟩ = some (.int .i64 ng2) := by
                    have := cell_on hb2 fg2
                    simpa only [Nat.add_assoc, Nat.reduceAdd] using this
                  have eI3 : wi.cell? ⟨bI, pI + k * 5 + 3, none⟩ = some (.int .i64 ng3) := by
                    have := cell_on hb2 fg3
                    simpa only [Nat.add_assoc, Nat.reduceAdd] using this
                  have eI4 : wi.cell? ⟨bI, pI + k * 5 + 4, none⟩ = some (.int .i64 ng4) := by
                    have := cell_on hb2 fg4
                    simpa only [Nat.add_assoc, Nat.reduceAdd] using this
                  have esI : encS [.num ng0, .text ng1, .num ng2, .num ng3, .num ng4] = num ng0 ++ (At.text ng1).enc ++ numsL [ng2, ng3, ng4] := by
                    simp [encS, At.enc, numsL]
                  rw [esI] at hslI hstepI
                  simp only [List.length_append] at hslI
                  have hpl := HPL.out
                  have hen := HE4.out
                  obtain ⟨U, hU⟩ : ∃ U, U = wi.alloc (.cells #[.int .i64 ng0, .string ng1, .int .i64 ng2, .int .i64 ng3, .int .i64 ng4] 201) := ⟨_, rfl⟩
                  obtain ⟨Z, hZ⟩ : ∃ Z, wi.heap.size = Z := ⟨_, rfl⟩
                  have hbU : Below V.heap.size V U := by rw [hU]; exact hb2.alloc hb2.size _
                  have jZ : U.heap[Z]? = some (.cells #[.int .i64 ng0, .string ng1, .int .i64 ng2, .int .i64 ng3, .int .i64 ng4] 201 (0, 0)) := by rw [hU, ← hZ]; exact heap_alloc_new wi _
                  have z0 : U.cell? ⟨Z, 0, none⟩ = some (.int .i64 ng0) := cell_blk jZ 0
                  have z1 : U.cell? ⟨Z, 1, none⟩ = some (.string ng1) := cell_blk jZ 1
                  have z2 : U.cell? ⟨Z, 2, none⟩ = some (.int .i64 ng2) := cell_blk jZ 2
                  have z3 : U.cell? ⟨Z, 3, none⟩ = some (.int .i64 ng3) := cell_blk jZ 3
                  have z4 : U.cell? ⟨Z, 4, none⟩ = some (.int .i64 ng4) := cell_blk jZ 4
                  have hstz2 : str1.size ≤ 3000000000 := by rw [HS2.out, txt_size, List.length_append, HP2.out, List.length_append, List.length_append]; omega
                  have hsuI1 : ¬ 9223372036854775807 < str1.size + (txt (num ng0)).size := by
                    simp only [txt_size]
                    omega
                  have hsuI2 : ¬ 9223372036854775807 < str1.size + (txt (num ng0)).size + (txt ((At.text ng1).enc)).size := by
                    simp only [txt_size]
                    omega
                  have hsuI3 : ¬ 9223372036854775807 < str1.size + (txt (num ng0)).size + (txt ((At.text ng1).enc)).size + (txt (numsL [ng2, ng3, ng4])).size := by
                    simp only [txt_size]
                    omega
                  have sI1 : ng1.size ≤ 1000000000 := text_size (by omega)
                  have HII0 := Lib.hid ig0
                  have HII2 := Lib.hid ig2
                  have HII3 := Lib.hid ig3
                  have HII4 := Lib.hid ig4
                  have MK2 : Hid (Mk #[.int .i64 ng2, .int .i64 ng3, .int .i64 ng4] 3 [ng2, ng3, ng4]) := by
                    refine ⟨fun i h => ?_, rfl, by omega, ?_⟩
                    · have : i = 0 ∨ i = 1 ∨ i = 2 := by simp at h; omega
                      rcases this with rfl | rfl | rfl <;> rfl
                    · intro n hn
                      simp at hn
                      rcases hn with rfl | rfl | rfl
                      · exact ig2
                      · exact ig3
                      · exact ig4
                  have HKU : Hid (∀ X, Below U.heap.size U X → X.cell? ⟨Z, 0, none⟩ = some (.int .i64 ng0) ∧ X.cell? ⟨Z, 1, none⟩ = some (.string ng1) ∧ X.cell? ⟨Z, 2, none⟩ = some (.int .i64 ng2) ∧ X.cell? ⟨Z, 3, none⟩ = some (.int .i64 ng3) ∧ X.cell? ⟨Z, 4, none⟩ = some (.int .i64 ng4) ∧ Hid (Below U.heap.size U X)) := fun X q => ⟨cell_on q z0, cell_on q z1, cell_on q z2, cell_on q z3, cell_on q z4, Lib.hid q⟩
                  have HST2 := Lib.hid hstepI
                  have HB2 := Lib.hid hbU
                  have HU := Lib.hid hU
                  have HZ := Lib.hid hZ
                  clear hstepI hb2 hbU hU hZ jZ hLL esI hslI htlI hpl hen hxI hatI hmz kg0 hx_g0 hv_g0 lg0 fg0 ig0 kg1 hx_g1 hv_g1 lg1 fg1 ig1 kg2 hx_g2 hv_g2 lg2 fg2 ig2 kg3 hx_g3 hv_g3 lg3 fg3 ig3 kg4 hx_g4 hv_g4 lg4 fg4 ig4
                  go_upto_region 17 with fail
                  rw [← HU.out, HZ.out]
                  go_region_held3 (fun X => X.cell? ⟨Z, 0, none⟩ = some (.int .i64 ng0) ∧ X.cell? ⟨Z, 1, none⟩ = some (.string ng1) ∧ X.cell? ⟨Z, 2, none⟩ = some (.int .i64 ng2) ∧ X.cell? ⟨Z, 3, none⟩ = some (.int .i64 ng3) ∧ X.cell? ⟨Z, 4, none⟩ = some (.int .i64 ng4) ∧ Hid (Below U.heap.size U X)) (exact HKU.out _ (by repeat (first | exact Below.refl _ _ | exact hx.out | apply bel_drew1 | apply bel_alloc))) (first
                      | (go_at_call 38; refine (num_ref _ _ HII0.out).mono ?_; rintro ee X ⟨rfl, hy⟩; have hx : Hid (Below U.heap.size U X) := bel_trans (by repeat (first | exact Below.refl _ _ | exact hx.out | apply bel_drew1 | apply bel_alloc)) hy)
                      | (go_at_call 31; refine (text_ref _ _ (by assumption)).mono ?_; rintro ee X ⟨rfl, hy⟩; have hx : Hid (Below U.heap.size U X) := bel_trans (by repeat (first | exact Below.refl _ _ | exact hx.out | apply bel_drew1 | apply bel_alloc)) hy)
                      | (go_at_call 28; refine Calls.mono (nums_gen (ns := [ng2, ng3, ng4]) _ ?_) ?_; (focus ((repeat (first | ((with_reducible refine IntsK.new MK2.out ?_) <;> simp) | (with_reducible apply IntsK.drew) | (with_reducible apply IntsK.alloc) | (with_reducible refine IntsK.onN (by assumption) (by simp) ?_))); done)); rintro ee X ⟨rfl, hy⟩; have hx : Hid (Below U.heap.size U X) := bel_trans (by repeat (first | exact Below.refl _ _ | exact hx.out | apply bel_drew1 | apply bel_alloc)) hy))
                  all_goals
                    go_wp2
                    go_roundw
                    case rel =>
                      refine ⟨k + 1, _, by omega, by go_num, rfl, ?_, bel_trans HB2.out hx.out⟩
                      show _ = _
                      rw [HST2.out, HS2.out]
                      simp only [txt_append, List.append_assoc]
                    case measure => simp [intOf]; omega
                · have hkF : k = nt4.length := by omega
                  subst hkF
                  have HB3 := Lib.hid hb2
                  clear hb2
                  go_wp2
                  go_roundw
                  case rel =>
                    refine ⟨i + 1, _, by omega, by go_num, rfl, ?_, bel_trans HBV.out HB3.out⟩
                    show _ = _
                    rw [HST.out, HS2.out, HP2.out, HP.out, List.take_length]
                    simp only [List.append_assoc]
                  case measure => simp [intOf]; omega
      · have hiF : i = n2.length := by omega
        subst hiF
        have HB := Lib.hid hb
        clear hb
        go_wp2
        go_ret
        refine ⟨?_, bel_trans HBW.out HB.out⟩
        rw [HS.out, List.take_length]
        rfl
end Go.Proofs.Ytjhgmncmcklnkaa
