/- The document's columns. -/
import Derived.Test.YtjhgmncmcklnkaaVRl
import Derived.Test.YtjhgmncmcklnkaaVMc
namespace Go.Proofs.Ytjhgmncmcklnkaa
open Go.RowKit

set_option maxHeartbeats 8000000 in
set_option maxRecDepth 100000 in
theorem columns_ref (w : World) {l : List (List At)} {v : Value} (hv : (At.list l).lies w NoS v) (ht : hasL columnT l) (hl : (At.list l).enc.length ≤ 1000000000) : Calls Try.prog 65 #[v] w fun e w' => e = .returned (.string (txt (At.list l).enc)) ∧ Below w.heap.size w w' := by
  have hlen : l.length ≤ 1000000000 := by
    have := encL_len (t := columnT) (by simp) ht
    simp only [At.enc, List.length_append] at hl
    omega
  have HL : Hid ((At.list l).enc = num (l.length : Int) ++ encL l) := by
    show _ = _
    simp only [At.enc]
  rw [HL.out, List.length_append] at hl
  rw [HL.out]
  simp only [At.lies] at hv
  obtain ⟨ad, cap, rfl, hcap, hmx, hmem⟩ := hv
  have HT := Lib.hid ht
  have HM := Lib.hid hmem
  clear ht hmem HL
  have h0 := num_ref (l.length : Int) w (by unfold I64; omega)
  obtain ⟨str0, hs0⟩ : ∃ q, txt (num (l.length : Int)) = q := ⟨_, rfl⟩
  rw [hs0] at h0
  have HS0 := Lib.hid hs0
  have HLL := Lib.hid hl
  clear hs0 hl
  go_enter Try.func65, Try.ntmps65
  go_wp2_with (go_at_call 38; refine h0.mono ?_; rintro e w1 ⟨rfl, hb1⟩; refine Hid.out ?_)
  refine Lib.hid ?_
  clear h0
  go_wp2
  go_loopw [3, 4] (fun ov iv wr => ∃ (i : Nat) (str : ByteArray), i ≤ l.length ∧ iv = .int .i64 i ∧ ov = .string str ∧ Hid (str = txt (num (l.length : Int) ++ encL (l.take i))) ∧ Below w.heap.size w wr) (fun _ iv _ => l.length - (intOf iv).toNat)
  case atStart => exact ⟨0, str0, Nat.zero_le _, rfl, rfl, by show _ = _; rw [← HS0.out]; simp [encL], hb1⟩
  case round =>
    obtain ⟨i, str, hik, rfl, rfl, HS, hb⟩ := hrel
    clear hb1 HS0
    by_cases hlt : i < l.length
    · have hltI : (i : Int) < (l.length : Int) := by omega
      obtain ⟨b, p, rfl, hbl, _, hL⟩ : ∃ b p, ad = some ⟨b, p, none⟩ ∧ b < w.heap.size ∧ ¬ NoS b ∧ liesL w NoS b p l := by
        rcases HM.out with e | q
        · rw [e] at hlt; simp at hlt
        · exact q
      have hx := hasL_all HT.out l[i] (List.getElem_mem hlt)
      have hat := liesL_at l p (m := 7) (fun y hy => hasS_len (hasL_all HT.out y hy)) hL i hlt
      have hsl := encL_item_le l i hlt
      have hstep := encL_take l i hlt
      have htl := encL_take_le l i
      generalize l[i] = y at hx hat hsl hstep
      obtain ⟨a0, x0, rfl, k0, hx_0⟩ := hasS_cons hx
      obtain ⟨n0, rfl, i0⟩ := has_num k0
      obtain ⟨u0, f0, l0, hv_0⟩ := liesS_cons hat
      obtain rfl := lies_num l0
      obtain ⟨a1, x1, rfl, k1, hx_1⟩ := hasS_cons hx_0
      obtain ⟨n1, rfl, i1⟩ := has_text k1
      obtain ⟨u1, f1, l1, hv_1⟩ := liesS_cons hv_0
      obtain rfl := lies_text l1
      obtain ⟨a2, x2, rfl, k2, hx_2⟩ := hasS_cons hx_1
      obtain ⟨n2, rfl, i2⟩ := has_num k2
      obtain ⟨u2, f2, l2, hv_2⟩ := liesS_cons hv_1
      obtain rfl := lies_num l2
      obtain ⟨a3, x3, rfl, k3, hx_3⟩ := hasS_cons hx_2
      obtain ⟨n3, rfl, i3⟩ := has_num k3
      obtain ⟨u3, f3, l3, hv_3⟩ := liesS_cons hv_2
      obtain rfl := lies_num l3
      obtain ⟨a4, x4, rfl, k4, hx_4⟩ := hasS_cons hx_3
      obtain ⟨n4, rfl, i4⟩ := has_num k4
      obtain ⟨u4, f4, l4, hv_4⟩ := liesS_cons hv_3
      obtain rfl := lies_num l4
      obtain ⟨a5, x5, rfl, k5, hx_5⟩ := hasS_cons hx_4
      obtain ⟨n5, rfl, i5⟩ := has_num k5
      obtain ⟨u5, f5, l5, hv_5⟩ := liesS_cons hv_4
      obtain rfl := lies_num l5
      obtain ⟨a6, x6, rfl, k6, hx_6⟩ := hasS_cons hx_5
      obtain ⟨n6, rfl, i6⟩ := has_text k6
      obtain ⟨u6, f6, l6, hv_6⟩ := liesS_cons hv_5
      obtain rfl := lies_text l6
      obtain rfl := hasS_end hx_6
      have e0 : wr.cell? ⟨b, p + i * 7, none⟩ = some (.int .i64 n0) := by
        have := cell_on hb f0
        simpa only [Nat.add_assoc, Nat.reduceAdd] using this
      have e1 : wr.cell? ⟨b, p + i * 7 + 1, none⟩ = some (.string n1) := by
        have := cell_on hb f1
        simpa only [Nat.add_assoc, Nat.reduceAdd] using this
      have e2 : wr.cell? ⟨b, p + i * 7 + 2, none⟩ = some (.int .i64 n2) := by
        have := cell_on hb f2
        simpa only [Nat.add_assoc, Nat.reduceAdd] using this
      have e3 : wr.cell? ⟨b, p + i * 7 + 3, none⟩ = some (.int .i64 n3) := by
        have := cell_on hb f3
        simpa only [Nat.add_assoc, Nat.reduceAdd] using this
      have e4 : wr.cell? ⟨b, p + i * 7 + 4, none⟩ = some (.int .i64 n4) := by
        have := cell_on hb f4
        simpa only [Nat.add_assoc, Nat.reduceAdd] using this
      have e5 : wr.cell? ⟨b, p + i * 7 + 5, none⟩ = some (.int .i64 n5) := by
        have := cell_on hb f5
        simpa only [Nat.add_assoc, Nat.reduceAdd] using this
      have e6 : wr.cell? ⟨b, p + i * 7 + 6, none⟩ = some (.string n6) := by
        have := cell_on hb f6
        simpa only [Nat.add_assoc, Nat.reduceAdd] using this
      have es : encS [.num n0, .text n1, .num n2, .num n3, .num n4, .num n5, .text n6] = num n0 ++ (At.text n1).enc ++ numsL [n2, n3] ++ encS [.num n4, .num n5, .text n6] := by
        simp [numsL, encS, At.enc]
      rw [es] at hsl hstep
      simp only [List.length_append] at hsl
      have hll := HLL.out
      have hbW : Below w.heap.size w wr := hb
      have HI0 := Lib.hid i0
      have s1 : n1.size ≤ 1000000000 := text_size (by omega)
      have MK1 : Hid (Mk #[.int .i64 n2, .int .i64 n3] 2 [n2, n3]) := by
        refine ⟨fun i h => ?_, rfl, by omega, ?_⟩
        · have : i = 0 ∨ i = 1 := by simp at h; omega
          rcases this with rfl | rfl <;> rfl
        · intro n hn
          simp at hn
          rcases hn with rfl | rfl
          · exact i2
          · exact i3
      have HI4 := Lib.hid i4
      have HI5 := Lib.hid i5
      have hc4 : ∀ X, Below wr.heap.size wr X → Calls Try.prog 64 #[.agg #[.int .i64 n4, .int .i64 n5, .string n6]] X fun e X' => e = .returned (.string (txt (encS [.num n4, .num n5, .text n6]))) ∧ Below X.heap.size X X' := fun X hX => value_ref X (x := [.num n4, .num n5, .text n6]) (vs := [.int .i64 n4, .int .i64 n5, .string n6]) (by simp only [hasS]; exact ⟨k4, k5, k6, trivial⟩) (by simp only [valsS]; exact ⟨(lies_on (lies_on l4 hbW) hX), (lies_on (lies_on l5 hbW) hX), (lies_on (lies_on l6 hbW) hX), trivial⟩) (by omega)
      have hstz : str.size ≤ 1000000000 := by rw [HS.out, txt_size, List.length_append]; omega
      have hsum1 : ¬ 9223372036854775807 < str.size + (txt (num n0)).size := by
        simp only [txt_size]
        omega
      have hsum2 : ¬ 9223372036854775807 < str.size + (txt (num n0)).size + (txt ((At.text n1).enc)).size := by
        simp only [txt_size]
        omega
      have hsum3 : ¬ 9223372036854775807 < str.size + (txt (num n0)).size + (txt ((At.text n1).enc)).size + (txt (numsL [n2, n3])).size := by
        simp only [txt_size]
        omega
      have hsum4 : ¬ 9223372036854775807 < str.size + (txt (num n0)).size + (txt ((At.text n1).enc)).size + (txt (numsL [n2, n3])).size + (txt (encS [.num n4, .num n5, .text n6])).size := by
        simp only [txt_size]
        omega
      have HK : Hid (∀ X, Below wr.heap.size wr X → X.cell? ⟨b, p + i * 7, none⟩ = some (.int .i64 n0) ∧ X.cell? ⟨b, p + i * 7 + 1, none⟩ = some (.string n1) ∧ X.cell? ⟨b, p + i * 7 + 2, none⟩ = some (.int .i64 n2) ∧ X.cell? ⟨b, p + i * 7 + 3, none⟩ = some (.int .i64 n3) ∧ X.cell? ⟨b, p + i * 7 + 4, none⟩ = some (.int .i64 n4) ∧ X.cell? ⟨b, p + i * 7 + 5, none⟩ = some (.int .i64 n5) ∧ X.cell? ⟨b, p + i * 7 + 6, none⟩ = some (.string n6) ∧ Hid (Below wr.heap.size wr X)) := fun X q => ⟨cell_on q e0, cell_on q e1, cell_on q e2, cell_on q e3, cell_on q e4, cell_on q e5, cell_on q e6, Lib.hid q⟩
      have HST := Lib.hid hstep
      have HB := Lib.hid hb
      clear hstep hb hbW hL es hsl htl hll hx hat k0 hx_0 hv_0 l0 i0 f0 k1 hx_1 hv_1 l1 i1 f1 k2 hx_2 hv_2 l2 i2 f2 k3 hx_3 hv_3 l3 i3 f3 k4 hx_4 hv_4 l4 i4 f4 k5 hx_5 hv_5 l5 i5 f5 k6 hx_6 hv_6 l6 i6 f6
      go_wp2
      go_region_held3 (fun X => X.cell? ⟨b, p + i * 7, none⟩ = some (.int .i64 n0) ∧ X.cell? ⟨b, p + i * 7 + 1, none⟩ = some (.string n1) ∧ X.cell? ⟨b, p + i * 7 + 2, none⟩ = some (.int .i64 n2) ∧ X.cell? ⟨b, p + i * 7 + 3, none⟩ = some (.int .i64 n3) ∧ X.cell? ⟨b, p + i * 7 + 4, none⟩ = some (.int .i64 n4) ∧ X.cell? ⟨b, p + i * 7 + 5, none⟩ = some (.int .i64 n5) ∧ X.cell? ⟨b, p + i * 7 + 6, none⟩ = some (.string n6) ∧ Hid (Below wr.heap.size wr X)) (exact HK.out _ (by repeat (first | exact Below.refl _ _ | exact hx.out | apply bel_drew1 | apply bel_alloc))) (first
        | (go_at_call 64; refine (hc4 _ (by repeat (first | exact Below.refl _ _ | exact hx.out | apply bel_drew1 | apply bel_alloc))).mono ?_; rintro ee X ⟨rfl, hy⟩; have hx : Hid (Below wr.heap.size wr X) := bel_trans (by repeat (first | exact Below.refl _ _ | exact hx.out | apply bel_drew1 | apply bel_alloc)) hy)
        | (go_at_call 28; refine Calls.mono (nums_gen (ns := [n2, n3]) _ ?_) ?_; (focus ((repeat (first | ((with_reducible refine IntsK.new MK1.out ?_) <;> simp) | (with_reducible apply IntsK.drew) | (with_reducible apply IntsK.alloc) | (with_reducible refine IntsK.onN (by assumption) (by simp) ?_))); done)); rintro ee X ⟨rfl, hy⟩; have hx : Hid (Below wr.heap.size wr X) := bel_trans (by repeat (first | exact Below.refl _ _ | exact hx.out | apply bel_drew1 | apply bel_alloc)) hy)
        | (go_at_call 38; refine (num_ref _ _ (by first | exact HI0.out)).mono ?_; rintro ee X ⟨rfl, hy⟩; have hx : Hid (Below wr.heap.size wr X) := bel_trans (by repeat (first | exact Below.refl _ _ | exact hx.out | apply bel_drew1 | apply bel_alloc)) hy)
        | (go_at_call 31; refine (text_ref _ _ (by assumption)).mono ?_; rintro ee X ⟨rfl, hy⟩; have hx : Hid (Below wr.heap.size wr X) := bel_trans (by repeat (first | exact Below.refl _ _ | exact hx.out | apply bel_drew1 | apply bel_alloc)) hy))
      all_goals
        go_wp2
        go_roundw
        case rel =>
          refine ⟨i + 1, _, by omega, by go_num, rfl, ?_, bel_trans HB.out hx.out⟩
          show _ = _
          rw [HST.out, HS.out]
          simp only [txt_append, List.append_assoc]
        case measure => simp [intOf]; omega
    · have hiF : i = l.length := by omega
      subst hiF
      go_wp2
      go_ret
      refine ⟨?_, hb⟩
      rw [HS.out, List.take_length]
      rfl
end Go.Proofs.Ytjhgmncmcklnkaa
