/- The document's rows. -/
import Derived.Test.YtjhgmncmcklnkaaVD
import Derived.Test.YtjhgmncmcklnkaaVMe
namespace Go.Proofs.Ytjhgmncmcklnkaa
open Go.RowKit

set_option maxHeartbeats 8000000 in
set_option maxRecDepth 100000 in
theorem rows_ref (w : World) {l : List (List At)} {v : Value} (hv : (At.list l).lies w NoS v) (ht : hasL rowT l) (hl : (At.list l).enc.length ≤ 1000000000) : Calls Try.prog 46 #[v] w fun e w' => e = .returned (.string (txt (At.list l).enc)) ∧ Below w.heap.size w w' := by
  have hlen : l.length ≤ 1000000000 := by
    have := encL_len (t := rowT) (by simp) ht
    simp only [At.enc, List.length_append] at hl
    omega
  have HL : Hid ((At.list l).enc = num (l.length : Int) ++ encL l) := by
    show _ = _
    simp only [At.enc]
  rw [HL.out, List.length_append] at hl
  rw [HL.out]
  simp only [At.lies] at hv
  obtain ⟨ad, cap, rfl, hcap, hmx, hmem⟩ := hv
  have HT := Lib.hid ht
  have HM := Lib.hid hmem
  clear ht hmem HL
  have h0 := num_ref (l.length : Int) w (by unfold I64; omega)
  obtain ⟨str0, hs0⟩ : ∃ q, txt (num (l.length : Int)) = q := ⟨_, rfl⟩
  rw [hs0] at h0
  have HS0 := Lib.hid hs0
  have HLL := Lib.hid hl
  clear hs0 hl
  go_enter Try.func46, Try.ntmps46
  go_wp2_with (go_at_call 38; refine h0.mono ?_; rintro e w1 ⟨rfl, hb1⟩; refine Hid.out ?_)
  refine Lib.hid ?_
  clear h0
  go_wp2
  go_loopw [3, 4] (fun ov iv wr => ∃ (i : Nat) (str : ByteArray), i ≤ l.length ∧ iv = .int .i64 i ∧ ov = .string str ∧ Hid (str = txt (num (l.length : Int) ++ encL (l.take i))) ∧ Below w.heap.size w wr) (fun _ iv _ => l.length - (intOf iv).toNat)
  case atStart => exact ⟨0, str0, Nat.zero_le _, rfl, rfl, by show _ = _; rw [← HS0.out]; simp [encL], hb1⟩
  case round =>
    obtain ⟨i, str, hik, rfl, rfl, HS, hb⟩ := hrel
    clear hb1 HS0
    obtain ⟨wo, rfl⟩ : ∃ wo, wo = wr := ⟨_, rfl⟩
    by_cases hlt : i < l.length
    · have hltI : (i : Int) < (l.length : Int) := by omega
      obtain ⟨b, p, rfl, hbl, _, hL⟩ : ∃ b p, ad = some ⟨b, p, none⟩ ∧ b < w.heap.size ∧ ¬ NoS b ∧ liesL w NoS b p l := by
        rcases HM.out with e | q
        · rw [e] at hlt; simp at hlt
        · exact q
      have hx := hasL_all HT.out l[i] (List.getElem_mem hlt)
      have hat := liesL_at l p (m := 2) (fun y hy => hasS_len (hasL_all HT.out y hy)) hL i hlt
      have hsl := encL_item_le l i hlt
      have hstep := encL_take l i hlt
      have htl := encL_take_le l i
      generalize l[i] = y at hx hat hsl hstep
      obtain ⟨a0, x0, rfl, k0, hx_0⟩ := hasS_cons hx
      obtain ⟨n0, rfl, i0⟩ := has_text k0
      obtain ⟨u0, f0, l0, hv_0⟩ := liesS_cons hat
      obtain rfl := lies_text l0
      obtain ⟨a1, x1, rfl, k1, hx_1⟩ := hasS_cons hx_0
      obtain ⟨n1, rfl, m1, i1⟩ := has_list k1
      obtain ⟨u1, f1, l1, hv_1⟩ := liesS_cons hv_0
      obtain ⟨ad1, cp1, rfl⟩ := lies_list l1
      obtain rfl := hasS_end hx_1
      have e0 : wo.cell? ⟨b, p + i * 2, none⟩ = some (.string n0) := by
        have := cell_on hb f0
        simpa only [Nat.add_assoc, Nat.reduceAdd] using this
      have e1 : wo.cell? ⟨b, p + i * 2 + 1, none⟩ = some (.slice ad1 n1.length cp1) := by
        have := cell_on hb f1
        simpa only [Nat.add_assoc, Nat.reduceAdd] using this
      have es : encS [.text n0, .list n1] = (At.text n0).enc ++ num (n1.length : Int) ++ encL n1 := by
        simp [encS, At.enc]
      rw [es] at hsl hstep
      simp only [List.length_append] at hsl
      have hll := HLL.out
      have hbW : Below w.heap.size w wo := hb
      have hil : n1.length ≤ 1000000000 := by
        have := encL_len (t := versionT) (by simp) i1
        omega
      have hilI : I64 (n1.length : Int) := by unfold I64; omega
      have HIL := Lib.hid hilI
      have HTI := Lib.hid i1
      have HLI := Lib.hid (lies_on l1 hbW)
      have s0 : n0.size ≤ 1000000000 := text_size (by omega)
      have hstz : str.size ≤ 1000000000 := by rw [HS.out, txt_size, List.length_append]; omega
      have hsum1 : ¬ 9223372036854775807 < str.size + (txt ((At.text n0).enc)).size := by
        simp only [txt_size]
        omega
      have hsum2 : ¬ 9223372036854775807 < str.size + (txt ((At.text n0).enc)).size + (txt (num (n1.length : Int))).size := by
        simp only [txt_size]
        omega
      have HK : Hid (∀ X, Below wo.heap.size wo X → X.cell? ⟨b, p + i * 2, none⟩ = some (.string n0) ∧ X.cell? ⟨b, p + i * 2 + 1, none⟩ = some (.slice ad1 n1.length cp1) ∧ Hid (Below wo.heap.size wo X)) := fun X q => ⟨cell_on q e0, cell_on q e1, Lib.hid q⟩
      obtain ⟨P, hP⟩ : ∃ P, P = num (l.length : Int) ++ encL (l.take i) ++ ((At.text n0).enc ++ num (n1.length : Int)) := ⟨_, rfl⟩
      have hPl : P.length + (encL n1).length ≤ 1000000000 + 1000000000 := by
        rw [hP]
        simp only [List.length_append]
        omega
      have HP := Lib.hid hP
      have HPL := Lib.hid hPl
      have HST := Lib.hid hstep
      have HB := Lib.hid hb
      have hEn : (encL n1).length ≤ 1000000000 := by omega
      have HEN := Lib.hid hEn
      clear hEn hilI hP hPl hstep hb hbW hL es hsl htl hll hx hat k0 hx_0 hv_0 l0 i0 f0 k1 hx_1 hv_1 l1 i1 m1 f1
      go_upto_region 5 with fail
      go_cut [3] (fun ov wr => ov = .string (str ++ txt ((At.text n0).enc) ++ txt (num (n1.length : Int))) ∧ Below wo.heap.size wo wr)
      case first =>
        go_region_held3 (fun X => X.cell? ⟨b, p + i * 2, none⟩ = some (.string n0) ∧ X.cell? ⟨b, p + i * 2 + 1, none⟩ = some (.slice ad1 n1.length cp1) ∧ Hid (Below wo.heap.size wo X)) (exact HK.out _ (by repeat (first | exact Below.refl _ _ | exact hx.out | apply bel_drew1 | apply bel_alloc))) (first
          | (go_at_call 31; refine (text_ref _ _ (by assumption)).mono ?_; rintro ee X ⟨rfl, hy⟩; have hx : Hid (Below wo.heap.size wo X) := bel_trans (by repeat (first | exact Below.refl _ _ | exact hx.out | apply bel_drew1 | apply bel_alloc)) hy)
          | (go_at_call 38; refine (num_ref _ _ HIL.out).mono ?_; rintro ee X ⟨rfl, hy⟩; have hx : Hid (Below wo.heap.size wo X) := bel_trans (by repeat (first | exact Below.refl _ _ | exact hx.out | apply bel_drew1 | apply bel_alloc)) hy))
        all_goals
          go_wp2_with fail
          go_meet
          exact ⟨rfl, hx.out⟩
      case rest =>
        obtain ⟨rfl, hbc⟩ := hcut
        obtain ⟨st1, hst1⟩ : ∃ q, q = str ++ txt ((At.text n0).enc) ++ txt (num (n1.length : Int)) := ⟨_, rfl⟩
        have HS1 : Hid (st1 = txt (P ++ encL (n1.take 0))) := by
          show _ = _
          rw [hst1, HS.out, HP.out]
          simp only [txt_append, List.append_assoc, List.take_zero, encL, List.append_nil]
        rw [← hst1]
        clear hst1 hsum1 hsum2
        go_wp2
        go_loopw [3, 5] (fun ov iv wr => ∃ (k : Nat) (str1 : ByteArray), k ≤ n1.length ∧ iv = .int .i64 k ∧ ov = .string str1 ∧ Hid (str1 = txt (P ++ encL (n1.take k))) ∧ Below wo.heap.size wo wr) (fun _ iv _ => n1.length - (intOf iv).toNat)
        case atStart => exact ⟨0, st1, Nat.zero_le _, rfl, rfl, HS1, hbc⟩
        case round =>
          obtain ⟨k, str1, hkk, rfl, rfl, HS2, hb2⟩ := hrel
          clear HS1 hbc
          have d0 := cell_on hb2 e0
          have d1 := cell_on hb2 e1
          by_cases hlk : k < n1.length
          · have hlkI : (k : Int) < (n1.length : Int) := by omega
            have hLI := HLI.out
            simp only [At.lies] at hLI
            obtain ⟨adz, cpz, ez, _, _, hmz⟩ := hLI
            cases ez
            obtain ⟨bI, pI, rfl, hblI, _, hLL⟩ : ∃ bI pI, ad1 = some ⟨bI, pI, none⟩ ∧ bI < wo.heap.size ∧ ¬ NoS bI ∧ liesL wo NoS bI pI n1 := by
              rcases hmz with e | q
              · rw [e] at hlk; simp at hlk
              · exact q
            have hxI := hasL_all HTI.out n1[k] (List.getElem_mem hlk)
            have hatI := liesL_at n1 pI (m := 3) (fun y hy => hasS_len (hasL_all HTI.out y hy)) hLL k hlk
            have hslI := encL_item_le n1 k hlk
            have hstepI := encL_take n1 k hlk
            have htlI := encL_take_le n1 k
            generalize n1[k] = yI at hxI hatI hslI hstepI
            obtain ⟨aI0, xI0, rfl, kI0, hx_I0⟩ := hasS_cons hxI
            obtain ⟨nI0, rfl, iI0⟩ := has_num kI0
            obtain ⟨uI0, fI0, lI0, hv_I0⟩ := liesS_cons hatI
            obtain rfl := lies_num lI0
            obtain ⟨aI1, xI1, rfl, kI1, hx_I1⟩ := hasS_cons hx_I0
            obtain ⟨nI1, rfl, iI1⟩ := has_text kI1
            obtain ⟨uI1, fI1, lI1, hv_I1⟩ := liesS_cons hv_I0
            obtain rfl := lies_text lI1
            obtain ⟨aI2, xI2, rfl, kI2, hx_I2⟩ := hasS_cons hx_I1
            obtain ⟨nI2, rfl⟩ := has_yes kI2
            obtain ⟨uI2, fI2, lI2, hv_I2⟩ := liesS_cons hv_I1
            obtain rfl := lies_yes lI2
            obtain rfl := hasS_end hx_I2
            have eI0 : wr.cell? ⟨bI, pI + k * 3, none⟩ = some (.int .i64 nI0) := by
              have := cell_on hb2 fI0
              simpa only [Nat.add_assoc, Nat.reduceAdd] using this
            have eI1 : wr.cell? ⟨bI, pI + k * 3 + 1, none⟩ = some (.string nI1) := by
              have := cell_on hb2 fI1
              simpa only [Nat.add_assoc, Nat.reduceAdd] using this
            have eI2 : wr.cell? ⟨bI, pI + k * 3 + 2, none⟩ = some (.bool nI2) := by
              have := cell_on hb2 fI2
              simpa only [Nat.add_assoc, Nat.reduceAdd] using this
            have esI : encS [.num nI0, .text nI1, .yes nI2] = num nI0 ++ (At.text nI1).enc ++ (At.yes nI2).enc := by
              simp [encS, At.enc]
            rw [esI] at hslI hstepI
            simp only [List.length_append] at hslI
            have hpl := HPL.out
            have hen := HEN.out
            have hstz2 : str1.size ≤ 2000000000 := by rw [HS2.out, txt_size, List.length_append]; omega
            have hsuI1 : ¬ 9223372036854775807 < str1.size + (txt (num nI0)).size := by
              simp only [txt_size]
              omega
            have hsuI2 : ¬ 9223372036854775807 < str1.size + (txt (num nI0)).size + (txt ((At.text nI1).enc)).size := by
              simp only [txt_size]
              omega
            have hsuI3 : ¬ 9223372036854775807 < str1.size + (txt (num nI0)).size + (txt ((At.text nI1).enc)).size + (txt ((At.yes nI2).enc)).size := by
              simp only [txt_size]
              omega
            obtain ⟨Wb, hWb⟩ : ∃ W, W = wr.alloc (.cells #[.int .i64 nI0, .string nI1, .bool nI2] 186) := ⟨_, rfl⟩
            have hbWb : Below wr.heap.size wr Wb := by rw [hWb]; exact bel_alloc (Below.refl _ _) _
            have hbkb : Wb.heap[wr.heap.size]? = some (.cells #[.int .i64 nI0, .string nI1, .bool nI2] 186 (0, 0)) := by rw [hWb]; exact heap_alloc_new wr _
            have xI0 : Wb.cell? ⟨wr.heap.size, 0, none⟩ = some (.int .i64 nI0) := cell_blk hbkb 0
            have xI1 : Wb.cell? ⟨wr.heap.size, 1, none⟩ = some (.string nI1) := cell_blk hbkb 1
            have xI2 : Wb.cell? ⟨wr.heap.size, 2, none⟩ = some (.bool nI2) := cell_blk hbkb 2
            have HWB := Lib.hid hWb
            have HBWB := Lib.hid hbWb
            have HII0 := Lib.hid iI0
            have sI1 : nI1.size ≤ 1000000000 := text_size (by omega)
            have HK2 : Hid (∀ X, Below Wb.heap.size Wb X → X.cell? ⟨wr.heap.size, 0, none⟩ = some (.int .i64 nI0) ∧ X.cell? ⟨wr.heap.size, 1, none⟩ = some (.string nI1) ∧ X.cell? ⟨wr.heap.size, 2, none⟩ = some (.bool nI2) ∧ Hid (Below Wb.heap.size Wb X)) := fun X q => ⟨cell_on q xI0, cell_on q xI1, cell_on q xI2, Lib.hid q⟩
            have HST2 := Lib.hid hstepI
            have HB2 := Lib.hid hb2
            clear hstepI hb2 hLL esI hslI htlI hpl hen hxI hatI hmz hWb hbWb hbkb kI0 hx_I0 hv_I0 lI0 iI0 fI0 kI1 hx_I1 hv_I1 lI1 iI1 fI1 kI2 hx_I2 hv_I2 lI2 fI2
            go_upto_region 10 with fail
            rw [← HWB.out]
            go_region_held3 (fun X => X.cell? ⟨wr.heap.size, 0, none⟩ = some (.int .i64 nI0) ∧ X.cell? ⟨wr.heap.size, 1, none⟩ = some (.string nI1) ∧ X.cell? ⟨wr.heap.size, 2, none⟩ = some (.bool nI2) ∧ Hid (Below Wb.heap.size Wb X)) (exact HK2.out _ (by repeat (first | exact Below.refl _ _ | exact hx.out | apply bel_drew1 | apply bel_alloc))) (first
              | (go_at_call 38; refine (num_ref _ _ (by first | exact HII0.out)).mono ?_; rintro ee X ⟨rfl, hy⟩; have hx : Hid (Below Wb.heap.size Wb X) := bel_trans (by repeat (first | exact Below.refl _ _ | exact hx.out | apply bel_drew1 | apply bel_alloc)) hy)
              | (go_at_call 29; refine (flag_ref _ _).mono ?_; rintro ee X ⟨rfl, hy⟩; have hx : Hid (Below Wb.heap.size Wb X) := bel_trans (by repeat (first | exact Below.refl _ _ | exact hx.out | apply bel_drew1 | apply bel_alloc)) hy)
              | (go_at_call 31; refine (text_ref _ _ (by assumption)).mono ?_; rintro ee X ⟨rfl, hy⟩; have hx : Hid (Below Wb.heap.size Wb X) := bel_trans (by repeat (first | exact Below.refl _ _ | exact hx.out | apply bel_drew1 | apply bel_alloc)) hy))
            all_goals
              go_wp2
              go_roundw
              case rel =>
                refine ⟨k + 1, _, by omega, by go_num, rfl, ?_, bel_trans (bel_trans HB2.out HBWB.out) hx.out⟩
                show _ = _
                rw [HST2.out, HS2.out]
                simp only [txt_append, List.append_assoc]
              case measure => simp [intOf]; omega
          · have hkF : k = n1.length := by omega
            subst hkF
            have HB2 := Lib.hid hb2
            clear hb2
            go_wp2
            go_roundw
            case rel =>
              refine ⟨i + 1, _, by omega, by go_num, rfl, ?_, bel_trans HB.out HB2.out⟩
              show _ = _
              rw [HST.out, HS2.out, HP.out, List.take_length]
              simp only [List.append_assoc]
            case measure => simp [intOf]; omega
    · have hiF : i = l.length := by omega
      subst hiF
      go_wp2
      go_ret
      refine ⟨?_, hb⟩
      rw [HS.out, List.take_length]
      rfl
end Go.Proofs.Ytjhgmncmcklnkaa
