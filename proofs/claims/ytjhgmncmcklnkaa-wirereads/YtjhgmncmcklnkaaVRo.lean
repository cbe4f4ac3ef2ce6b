/- The document's reads. -/
import Derived.Test.YtjhgmncmcklnkaaVD
import Derived.Test.YtjhgmncmcklnkaaVMe
namespace Go.Proofs.Ytjhgmncmcklnkaa
open Go.RowKit

set_option maxHeartbeats 8000000 in
set_option maxRecDepth 100000 in
theorem reads_ref (w : World) {l : List (List At)} {v : Value} (hv : (At.list l).lies w NoS v) (ht : hasL readT l) (hl : (At.list l).enc.length ≤ 1000000000) : Calls Try.prog 40 #[v] w fun e w' => e = .returned (.string (txt (At.list l).enc)) ∧ Below w.heap.size w w' := by
  have hlen : l.length ≤ 1000000000 := by
    have := encL_len (t := readT) (by simp) ht
    simp only [At.enc, List.length_append] at hl
    omega
  have HL : Hid ((At.list l).enc = num (l.length : Int) ++ encL l) := by
    show _ = _
    simp only [At.enc]
  rw [HL.out, List.length_append] at hl
  rw [HL.out]
  simp only [At.lies] at hv
  obtain ⟨ad, cap, rfl, hcap, hmx, hmem⟩ := hv
  have HT := Lib.hid ht
  have HM := Lib.hid hmem
  clear ht hmem HL
  have h0 := num_ref (l.length : Int) w (by unfold I64; omega)
  obtain ⟨str0, hs0⟩ : ∃ q, txt (num (l.length : Int)) = q := ⟨_, rfl⟩
  rw [hs0] at h0
  have HS0 := Lib.hid hs0
  have HLL := Lib.hid hl
  clear hs0 hl
  go_enter Try.func40, Try.ntmps40
  go_wp2_with (go_at_call 38; refine h0.mono ?_; rintro e w1 ⟨rfl, hb1⟩; refine Hid.out ?_)
  refine Lib.hid ?_
  clear h0
  go_wp2
  go_loopw [3, 4] (fun ov iv wr => ∃ (i : Nat) (str : ByteArray), i ≤ l.length ∧ iv = .int .i64 i ∧ ov = .string str ∧ Hid (str = txt (num (l.length : Int) ++ encL (l.take i))) ∧ Below w.heap.size w wr) (fun _ iv _ => l.length - (intOf iv).toNat)
  case atStart => exact ⟨0, str0, Nat.zero_le _, rfl, rfl, by show _ = _; rw [← HS0.out]; simp [encL], hb1⟩
  case round =>
    obtain ⟨i, str, hik, rfl, rfl, HS, hb⟩ := hrel
    clear hb1 HS0
    obtain ⟨wo, rfl⟩ : ∃ wo, wo = wr := ⟨_, rfl⟩
    by_cases hlt : i < l.length
    · have hltI : (i : Int) < (l.length : Int) := by omega
      obtain ⟨b, p, rfl, hbl, _, hL⟩ : ∃ b p, ad = some ⟨b, p, none⟩ ∧ b < w.heap.size ∧ ¬ NoS b ∧ liesL w NoS b p l := by
        rcases HM.out with e | q
        · rw [e] at hlt; simp at hlt
        · exact q
      have hx := hasL_all HT.out l[i] (List.getElem_mem hlt)
      have hat := liesL_at l p (m := 3) (fun y hy => hasS_len (hasL_all HT.out y hy)) hL i hlt
      have hsl := encL_item_le l i hlt
      have hstep := encL_take l i hlt
      have htl := encL_take_le l i
      generalize l[i] = y at hx hat hsl hstep
      obtain ⟨a0, x0, rfl, k0, hx_0⟩ := hasS_cons hx
      obtain ⟨n0, rfl, i0⟩ := has_text k0
      obtain ⟨u0, f0, l0, hv_0⟩ := liesS_cons hat
      obtain rfl := lies_text l0
      obtain ⟨a1, x1, rfl, k1, hx_1⟩ := hasS_cons hx_0
      obtain ⟨n1, rfl, i1⟩ := has_text k1
      obtain ⟨u1, f1, l1, hv_1⟩ := liesS_cons hv_0
      obtain rfl := lies_text l1
      obtain ⟨a2, x2, rfl, k2, hx_2⟩ := hasS_cons hx_1
      obtain ⟨n2, rfl, m2, i2⟩ := has_list k2
      obtain ⟨u2, f2, l2, hv_2⟩ := liesS_cons hv_1
      obtain ⟨ad2, cp2, rfl⟩ := lies_list l2
      obtain rfl := hasS_end hx_2
      have e0 : wo.cell? ⟨b, p + i * 3, none⟩ = some (.string n0) := by
        have := cell_on hb f0
        simpa only [Nat.add_assoc, Nat.reduceAdd] using this
      have e1 : wo.cell? ⟨b, p + i * 3 + 1, none⟩ = some (.string n1) := by
        have := cell_on hb f1
        simpa only [Nat.add_assoc, Nat.reduceAdd] using this
      have e2 : wo.cell? ⟨b, p + i * 3 + 2, none⟩ = some (.slice ad2 n2.length cp2) := by
        have := cell_on hb f2
        simpa only [Nat.add_assoc, Nat.reduceAdd] using this
      have es : encS [.text n0, .text n1, .list n2] = (At.text n0).enc ++ (At.text n1).enc ++ num (n2.length : Int) ++ encL n2 := by
        simp [encS, At.enc]
      rw [es] at hsl hstep
      simp only [List.length_append] at hsl
      have hll := HLL.out
      have hbW : Below w.heap.size w wo := hb
      have hil : n2.length ≤ 1000000000 := by
        have := encL_len (t := stampT) (by simp) i2
        omega
      have hilI : I64 (n2.length : Int) := by unfold I64; omega
      have HIL := Lib.hid hilI
      have HTI := Lib.hid i2
      have HLI := Lib.hid (lies_on l2 hbW)
      have s0 : n0.size ≤ 1000000000 := text_size (by omega)
      have s1 : n1.size ≤ 1000000000 := text_size (by omega)
      have hstz : str.size ≤ 1000000000 := by rw [HS.out, txt_size, List.length_append]; omega
      have hsum1 : ¬ 9223372036854775807 < str.size + (txt ((At.text n0).enc)).size := by
        simp only [txt_size]
        omega
      have hsum2 : ¬ 9223372036854775807 < str.size + (txt ((At.text n0).enc)).size + (txt ((At.text n1).enc)).size := by
        simp only [txt_size]
        omega
      have hsum3 : ¬ 9223372036854775807 < str.size + (txt ((At.text n0).enc)).size + (txt ((At.text n1).enc)).size + (txt (num (n2.length : Int))).size := by
        simp only [txt_size]
        omega
      have HK : Hid (∀ X, Below wo.heap.size wo X → X.cell? ⟨b, p + i * 3, none⟩ = some (.string n0) ∧ X.cell? ⟨b, p + i * 3 + 1, none⟩ = some (.string n1) ∧ X.cell? ⟨b, p + i * 3 + 2, none⟩ = some (.slice ad2 n2.length cp2) ∧ Hid (Below wo.heap.size wo X)) := fun X q => ⟨cell_on q e0, cell_on q e1, cell_on q e2, Lib.hid q⟩
      obtain ⟨P, hP⟩ : ∃ P, P = num (l.length : Int) ++ encL (l.take i) ++ ((At.text n0).enc ++ (At.text n1).enc ++ num (n2.length : Int)) := ⟨_, rfl⟩
      have hPl : P.length + (encL n2).length ≤ 1000000000 + 1000000000 := by
        rw [hP]
        simp only [List.length_append]
        omega
      have HP := Lib.hid hP
      have HPL := Lib.hid hPl
      have HST := Lib.hid hstep
      have HB := Lib.hid hb
      have hEn : (encL n2).length ≤ 1000000000 := by omega
      have HEN := Lib.hid hEn
      clear hEn hilI hP hPl hstep hb hbW hL es hsl htl hll hx hat k0 hx_0 hv_0 l0 i0 f0 k1 hx_1 hv_1 l1 i1 f1 k2 hx_2 hv_2 l2 i2 m2 f2
      go_upto_region 5 with fail
      go_cut [3] (fun ov wr => ov = .string (str ++ txt ((At.text n0).enc) ++ txt ((At.text n1).enc) ++ txt (num (n2.length : Int))) ∧ Below wo.heap.size wo wr)
      case first =>
        go_region_held3 (fun X => X.cell? ⟨b, p + i * 3, none⟩ = some (.string n0) ∧ X.cell? ⟨b, p + i * 3 + 1, none⟩ = some (.string n1) ∧ X.cell? ⟨b, p + i * 3 + 2, none⟩ = some (.slice ad2 n2.length cp2) ∧ Hid (Below wo.heap.size wo X)) (exact HK.out _ (by repeat (first | exact Below.refl _ _ | exact hx.out | apply bel_drew1 | apply bel_alloc))) (first
          | (go_at_call 31; refine (text_ref _ _ (by assumption)).mono ?_; rintro ee X ⟨rfl, hy⟩; have hx : Hid (Below wo.heap.size wo X) := bel_trans (by repeat (first | exact Below.refl _ _ | exact hx.out | apply bel_drew1 | apply bel_alloc)) hy)
          | (go_at_call 38; refine (num_ref _ _ HIL.out).mono ?_; rintro ee X ⟨rfl, hy⟩; have hx : Hid (Below wo.heap.size wo X) := bel_trans (by repeat (first | exact Below.refl _ _ | exact hx.out | apply bel_drew1 | apply bel_alloc)) hy))
        all_goals
          go_wp2_with fail
          go_meet
          exact ⟨rfl, hx.out⟩
      case rest =>
        obtain ⟨rfl, hbc⟩ := hcut
        obtain ⟨st1, hst1⟩ : ∃ q, q = str ++ txt ((At.text n0).enc) ++ txt ((At.text n1).enc) ++ txt (num (n2.length : Int)) := ⟨_, rfl⟩
        have HS1 : Hid (st1 = txt (P ++ encL (n2.take 0))) := by
          show _ = _
          rw [hst1, HS.out, HP.out]
          simp only [txt_append, List.append_assoc, List.take_zero, encL, List.append_nil]
        rw [← hst1]
        clear hst1 hsum1 hsum2 hsum3
        go_wp2
        go_loopw [3, 5] (fun ov iv wr => ∃ (k : Nat) (str1 : ByteArray), k ≤ n2.length ∧ iv = .int .i64 k ∧ ov = .string str1 ∧ Hid (str1 = txt (P ++ encL (n2.take k))) ∧ Below wo.heap.size wo wr) (fun _ iv _ => n2.length - (intOf iv).toNat)
        case atStart => exact ⟨0, st1, Nat.zero_le _, rfl, rfl, HS1, hbc⟩
        case round =>
          obtain ⟨k, str1, hkk, rfl, rfl, HS2, hb2⟩ := hrel
          clear HS1 hbc
          have d0 := cell_on hb2 e0
          have d1 := cell_on hb2 e1
          have d2 := cell_on hb2 e2
          by_cases hlk : k < n2.length
          · have hlkI : (k : Int) < (n2.length : Int) := by omega
            have hLI := HLI.out
            simp only [At.lies] at hLI
            obtain ⟨adz, cpz, ez, _, _, hmz⟩ := hLI
            cases ez
            obtain ⟨bI, pI, rfl, hblI, _, hLL⟩ : ∃ bI pI, ad2 = some ⟨bI, pI, none⟩ ∧ bI < wo.heap.size ∧ ¬ NoS bI ∧ liesL wo NoS bI pI n2 := by
              rcases hmz with e | q
              · rw [e] at hlk; simp at hlk
              · exact q
            have hxI := hasL_all HTI.out n2[k] (List.getElem_mem hlk)
            have hatI := liesL_at n2 pI (m := 2) (fun y hy => hasS_len (hasL_all HTI.out y hy)) hLL k hlk
            have hslI := encL_item_le n2 k hlk
            have hstepI := encL_take n2 k hlk
            have htlI := encL_take_le n2 k
            generalize n2[k] = yI at hxI hatI hslI hstepI
            obtain ⟨aI0, xI0, rfl, kI0, hx_I0⟩ := hasS_cons hxI
            obtain ⟨nI0, rfl, iI0⟩ := has_text kI0
            obtain ⟨uI0, fI0, lI0, hv_I0⟩ := liesS_cons hatI
            obtain rfl := lies_text lI0
            obtain ⟨aI1, xI1, rfl, kI1, hx_I1⟩ := hasS_cons hx_I0
            obtain ⟨nI1, rfl, iI1⟩ := has_num kI1
            obtain ⟨uI1, fI1, lI1, hv_I1⟩ := liesS_cons hv_I0
            obtain rfl := lies_num lI1
            obtain rfl := hasS_end hx_I1
            have eI0 : wr.cell? ⟨bI, pI + k * 2, none⟩ = some (.string nI0) := by
              have := cell_on hb2 fI0
              simpa only [Nat.add_assoc, Nat.reduceAdd] using this
            have eI1 : wr.cell? ⟨bI, pI + k * 2 + 1, none⟩ = some (.int .i64 nI1) := by
              have := cell_on hb2 fI1
              simpa only [Nat.add_assoc, Nat.reduceAdd] using this
            have esI : encS [.text nI0, .num nI1] = (At.text nI0).enc ++ num nI1 := by
              simp [encS, At.enc]
            rw [esI] at hslI hstepI
            simp only [List.length_append] at hslI
            have hpl := HPL.out
            have hen := HEN.out
            have hstz2 : str1.size ≤ 2000000000 := by rw [HS2.out, txt_size, List.length_append]; omega
            have hsuI1 : ¬ 9223372036854775807 < str1.size + (txt ((At.text nI0).enc)).size := by
              simp only [txt_size]
              omega
            have hsuI2 : ¬ 9223372036854775807 < str1.size + (txt ((At.text nI0).enc)).size + (txt (num nI1)).size := by
              simp only [txt_size]
              omega
            have sI0 : nI0.size ≤ 1000000000 := text_size (by omega)
            have HII1 := Lib.hid iI1
            have HK2 : Hid (∀ X, Below wr.heap.size wr X → X.cell? ⟨bI, pI + k * 2, none⟩ = some (.string nI0) ∧ X.cell? ⟨bI, pI + k * 2 + 1, none⟩ = some (.int .i64 nI1) ∧ X.cell? ⟨b, p + i * 3 + 2, none⟩ = some (.slice (some ⟨bI, pI, none⟩) n2.length cp2) ∧ Hid (Below wr.heap.size wr X)) := fun X q => ⟨cell_on q eI0, cell_on q eI1, cell_on q d2, Lib.hid q⟩
            have HST2 := Lib.hid hstepI
            have HB2 := Lib.hid hb2
            clear hstepI hb2 hLL esI hslI htlI hpl hen hxI hatI hmz kI0 hx_I0 hv_I0 lI0 iI0 fI0 kI1 hx_I1 hv_I1 lI1 iI1 fI1
            go_wp2
            go_region_held3 (fun X => X.cell? ⟨bI, pI + k * 2, none⟩ = some (.string nI0) ∧ X.cell? ⟨bI, pI + k * 2 + 1, none⟩ = some (.int .i64 nI1) ∧ X.cell? ⟨b, p + i * 3 + 2, none⟩ = some (.slice (some ⟨bI, pI, none⟩) n2.length cp2) ∧ Hid (Below wr.heap.size wr X)) (exact HK2.out _ (by repeat (first | exact Below.refl _ _ | exact hx.out | apply bel_drew1 | apply bel_alloc))) (first
              | (go_at_call 38; refine (num_ref _ _ (by first | exact HII1.out)).mono ?_; rintro ee X ⟨rfl, hy⟩; have hx : Hid (Below wr.heap.size wr X) := bel_trans (by repeat (first | exact Below.refl _ _ | exact hx.out | apply bel_drew1 | apply bel_alloc)) hy)
              | (go_at_call 31; refine (text_ref _ _ (by assumption)).mono ?_; rintro ee X ⟨rfl, hy⟩; have hx : Hid (Below wr.heap.size wr X) := bel_trans (by repeat (first | exact Below.refl _ _ | exact hx.out | apply bel_drew1 | apply bel_alloc)) hy))
            all_goals
              go_wp2
              go_roundw
              case rel =>
                refine ⟨k + 1, _, by omega, by go_num, rfl, ?_, bel_trans HB2.out hx.out⟩
                show _ = _
                rw [HST2.out, HS2.out]
                simp only [txt_append, List.append_assoc]
              case measure => simp [intOf]; omega
          · have hkF : k = n2.length := by omega
            subst hkF
            have HB2 := Lib.hid hb2
            clear hb2
            go_wp2
            go_roundw
            case rel =>
              refine ⟨i + 1, _, by omega, by go_num, rfl, ?_, bel_trans HB.out HB2.out⟩
              show _ = _
              rw [HST.out, HS2.out, HP.out, List.take_length]
              simp only [List.append_assoc]
            case measure => simp [intOf]; omega
    · have hiF : i = l.length := by omega
      subst hiF
      go_wp2
      go_ret
      refine ⟨?_, hb⟩
      rw [HS.out, List.take_length]
      rfl
end Go.Proofs.Ytjhgmncmcklnkaa
