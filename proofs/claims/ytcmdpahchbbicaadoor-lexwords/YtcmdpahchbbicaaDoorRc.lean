/- The walk of the document's one: numbers. -/
import Derived.Test.YtcmdpahchbbicaaDoorRb
namespace Go.Proofs.YtcmdpahchbbicaaDoor
open Go.RowKit
theorem eq45 (l : List UInt8) : (l == [(45 : UInt8)]) = true ↔ l = [45] := by simp
theorem word_num2 {s : ByteArray} {k m : Nat} (hk : k < s.size) (hc : isD s[k] = true ∨ s[k].toNat = 45) (hm : cnt isD (s.data.toList.drop (k + 1)) = m) : wordL s[k] (s.data.toList.drop (k + 1)) = if s[k].toNat = 45 ∧ m = 0 then .inl 170 else (match numP ((s.data.toList.drop k).take (1 + m)) with | none => .inl 172 | some v => .inr (2, (s.data.toList.drop k).take (1 + m), v, 1 + m)) := by
  have hL : ¬ isL s[k] = true := fun q => ((apart_all s[k]).1 q).1 hc
  unfold wordL
  rw [if_neg hL, if_pos hc, hm, ← drop_at s k hk]
  rfl
set_option maxHeartbeats 4000000 in
set_option maxRecDepth 100000 in
theorem one_num {w : World} {s : ByteArray} {k : Nat} (hs : s.size ≤ 1024) (hk : k < s.size) (hc : isD s[k] = true ∨ s[k].toNat = 45) :
    Calls Tryd.prog 14 #[.string s, .int .i64 k] w fun e w' => OneAns k (wordL s[k] (s.data.toList.drop (k + 1))) e ∧ Below w.heap.size w w' := by
  obtain ⟨m, hm⟩ : ∃ m, cnt isD (s.data.toList.drop (k + 1)) = m := ⟨_, rfl⟩
  rw [word_num2 hk hc hm]
  obtain ⟨o, ho⟩ : ∃ o, (if s[k].toNat = 45 ∧ m = 0 then .inl 170 else (match numP ((s.data.toList.drop k).take (1 + m)) with | none => .inl 172 | some v => .inr (2, (s.data.toList.drop k).take (1 + m), v, 1 + m)) : Int ⊕ Wr) = o := ⟨_, rfl⟩
  rw [ho]
  have HO := Lib.hid ho
  have hL : isL s[k] = false := by
    cases hq : isL s[k] with
    | false => rfl
    | true => exact absurd hc ((apart_all s[k]).1 hq).1
  have hroom := cnt_room isD s (k + 1) (by omega)
  have HM0 : Hid (k + 1 + cnt isD (s.data.toList.drop (k + 1)) = k + (1 + m)) := (by omega : k + 1 + cnt isD (s.data.toList.drop (k + 1)) = k + (1 + m))
  have hms : k + (1 + m) ≤ s.size := by omega
  have hext := ext_take s k (1 + m)
  obtain ⟨T, hT⟩ : ∃ T, s.extract k (k + (1 + m)) = T := ⟨_, rfl⟩
  rw [hT] at hext
  have hTd : T.data.toList = s[k] :: (s.data.toList.drop (k + 1)).take m := by rw [hext, drop_at s k hk, Nat.add_comm 1 m, List.take_succ_cons]
  have hTd2 : T.data.toList = (s.data.toList.drop k).take (1 + m) := by rw [hext]
  have hTz : T.size ≤ 1024 := by rw [← hT]; simp; omega
  have hall : ∀ x ∈ (s.data.toList.drop (k + 1)).take m, isD x = true := by rw [← hm]; exact takeW_all isD _
  have hlen : ((s.data.toList.drop (k + 1)).take m).length = m := by rw [List.length_take, ← hm]; have := cnt_le isD (s.data.toList.drop (k + 1)); omega
  have hdash : (T.toList == [45]) = decide (s[k].toNat = 45 ∧ m = 0) := by
    rw [Lib.toList_data, hTd]
    by_cases q : s[k].toNat = 45 ∧ m = 0
    · rw [decide_eq_true q, beq_iff_eq, q.2, List.take_zero]
      have : s[k] = 45 := UInt8.toNat_inj.1 q.1
      rw [this]
    · rw [decide_eq_false q, beq_eq_false_iff_ne]
      intro e
      have e2 := List.cons.inj e
      refine q ⟨by rw [e2.1]; rfl, ?_⟩
      rw [e2.2] at hlen
      exact hlen.symm
  have HNR := Lib.hid (fun X => num_ref (w := X) hTd hall hc hTz)
  have HE := Lib.hid hext
  have HT := Lib.hid hT
  have HTD := Lib.hid hTd
  have HTD2 := Lib.hid hTd2
  have HDA := Lib.hid hdash
  clear ho hroom hext hT hm hTd hTd2 hall hlen hdash hTz
  obtain ⟨w0, hw0⟩ : ∃ w0, w0 = w.alloc (.cells zW 31) := ⟨_, rfl⟩
  obtain ⟨A, hA⟩ : ∃ A, w.heap.size = A := ⟨_, rfl⟩
  have hb0 : Below w.heap.size w w0 := by rw [hw0]; exact (Below.refl _ w).alloc (Nat.le_refl _) _
  have jA : w0.heap[A]? = some (.cells zW 31 (0, 0)) := by rw [hw0, ← hA]; exact heap_alloc_new w _
  have HW := Lib.hid hw0
  have HA := Lib.hid hA
  have HB := Lib.hid hb0
  have JA := Lib.hid jA
  have hk0 : (0 : Int) ≤ (k : Int) := by omega
  have hk1 : (k : Int) < (s.size : Int) := by omega
  clear hw0 hA hb0 jA
  have hlk := let_any (w := w0) s[k]
  rw [hL] at hlk
  have hdk := dig_any (w := w0) s[k]
  obtain ⟨bd, hbd⟩ : ∃ b, isD s[k] = b := ⟨_, rfl⟩
  rw [hbd] at hdk
  have HLK := Lib.hid hlk
  have HDK := Lib.hid hdk
  have h45 : bd = false → ((s[k].toNat : Int) == 45) = true := fun q => by
    rcases hc with hc | hc
    · rw [hbd, q] at hc
      cases hc
    · rw [hc]
      rfl
  clear hlk hdk hL
  go_enter Tryd.func14, Tryd.ntmps14
  go_upto_region 1 with fail
  rw [← HW.out, HA.out]
  go_upto_region 8 with (go_at_call 23; refine (HLK.out).mono ?_; rintro e w1 ⟨rfl, rfl⟩)
  go_cut [63] (fun v wx => v = .bool true ∧ wx = w1)
  case first =>
    cases bd with
    | true =>
      go_wp2_with (go_at_call 24; refine (HDK.out).mono ?_; rintro e w2 ⟨rfl, rfl⟩)
      go_meet
      exact ⟨rfl, rfl⟩
    | false =>
      have h45' := h45 rfl
      go_wp2_with (go_at_call 24; refine (HDK.out).mono ?_; rintro e w2 ⟨rfl, rfl⟩)
      go_meet
      exact ⟨rfl, rfl⟩
  case rest =>
    obtain ⟨rfl, rfl⟩ := hcut
    clear HLK HDK h45 hbd hc
    go_wp2
    go_loopw [7] (fun i wr => ∃ j : Nat, k + 1 ≤ j ∧ j ≤ s.size ∧ i = .int .i64 j ∧ wr = wc ∧ Hid (j + cnt isD (s.data.toList.drop j) = k + (1 + m))) (fun i _ => s.size - (intOf i).toNat)
    case atStart => exact ⟨k + 1, by omega, by omega, by go_num, by first | rfl | trivial, HM0⟩
    case round =>
      obtain ⟨j, hkj, hj, rfl, rfl, HJ⟩ := hrel
      clear HM0
      by_cases hlt : j < s.size
      · have hlt' : (j : Int) < (s.size : Int) := by omega
        have hda := drop_at s j hlt
        have hd1 := dig_any (w := wr) s[j]
        obtain ⟨b2, hb2⟩ : ∃ b, isD s[j] = b := ⟨_, rfl⟩
        rw [hb2] at hd1
        have HD1 := Lib.hid hd1
        cases b2 with
        | true =>
          have HN : Hid (j + 1 + cnt isD (s.data.toList.drop (j + 1)) = k + (1 + m)) := by
            have h := HJ.out
            rw [hda, cnt_yes hb2] at h
            exact (by omega : j + 1 + cnt isD (s.data.toList.drop (j + 1)) = k + (1 + m))
          clear HJ hda hd1 hb2
          go_wp2_with (go_at_call 24; refine (HD1.out).mono ?_; rintro e w2 ⟨rfl, rfl⟩)
          exact ⟨⟨j + 1, by omega, by omega, by go_num, by first | rfl | trivial, HN⟩, by simp [intOf]; omega⟩
        | false =>
          have HN : Hid (j = k + (1 + m)) := by
            have h := HJ.out
            rw [hda, cnt_no hb2] at h
            exact h
          clear HJ hda hd1 hb2
          go_upto_region 11 with (go_at_call 24; refine (HD1.out).mono ?_; rintro e w2 ⟨rfl, rfl⟩)
          have hjm := HN.out
          have hTj : s.extract k j = T := by rw [hjm]; exact HT.out
          have HTJ := Lib.hid hTj
          have HJM := Lib.hid hjm
          have hkj2 : (k : Int) ≤ (j : Int) := by omega
          have hjs2 : (j : Int) ≤ (s.size : Int) := by omega
          have hda := HDA.out
          rw [← hTj] at hda
          have HNJ : Hid (∀ X, Calls Tryd.prog 25 #[.string (s.extract k j)] X fun e w' => (∃ V b, e = .returned (.tuple #[.int .i64 V, .bool b]) ∧ NumR (s[k] :: (s.data.toList.drop (k + 1)).take m) V b) ∧ w' = X) := by rw [hTj]; exact HNR.out
          clear HN HNR HDA
          by_cases hq : s[k].toNat = 45 ∧ m = 0
          · rw [decide_eq_true hq] at hda
            have HO2 : Hid (o = .inl 170) := by rw [← HO.out, if_pos hq]; rfl
            obtain ⟨X1, st1, k1, g1, l1⟩ := put_four JA.out rfl zW rfl (by simp [Value.oneCell'])
            have hAl := HA.out
            have L1 := Lib.hid l1
            have E1 : Hid (Below w.heap.size w X1) := HB.out.trans (g1.toBelow (fun q hq e => by omega) HB.out.size)
            clear k1 g1 l1 hAl
            clear hjm hTj hq HNJ
            go_wp2_with (first | refine wpl_store _ _ rfl rfl rfl st1 ?_)
            exact bodyPost_ret (results_mix rfl rfl rfl rfl L1.out) rfl ⟨by rw [HO2.out]; rfl, E1.out⟩
          · rw [decide_eq_false hq] at hda
            have ho2 : o = (match numP ((s.data.toList.drop k).take (1 + m)) with | none => .inl 172 | some v => .inr (2, (s.data.toList.drop k).take (1 + m), v, 1 + m)) := by rw [← HO.out, if_neg hq]
            have htt := HTD.out
            rw [HTD2.out] at htt
            clear hjm hTj
            cases hn : numP ((s.data.toList.drop k).take (1 + m)) with
            | none =>
              rw [hn] at ho2
              have HO2 := Lib.hid ho2
              have HNR2 : Hid (∀ V b, NumR (s[k] :: (s.data.toList.drop (k + 1)).take m) V b → b = false) := fun V b h => by
                unfold NumR at h
                rw [← htt, hn] at h
                exact h
              obtain ⟨X1, st1, k1, g1, l1⟩ := put_four JA.out rfl zW rfl (by simp [Value.oneCell'])
              have hAl := HA.out
              have L1 := Lib.hid l1
              have E1 : Hid (Below w.heap.size w X1) := HB.out.trans (g1.toBelow (fun q hq e => by omega) HB.out.size)
              clear k1 g1 l1 hAl
              clear hq hn htt ho2
              go_wp2_with (go_at_call 25; refine (HNJ.out _).mono ?_; rintro e w3 ⟨⟨V, b, rfl, hV⟩, rfl⟩; obtain rfl := HNR2.out V b hV; refine Hid.out ?_)
              refine Lib.hid ?_
              clear hV
              go_wp2_with (first | refine wpl_store _ _ rfl rfl rfl st1 ?_)
              exact bodyPost_ret (results_mix rfl rfl rfl rfl L1.out) rfl ⟨by rw [HO2.out]; rfl, E1.out⟩
            | some v =>
              rw [hn] at ho2
              have HO2 := Lib.hid ho2
              have HNR2 : Hid (∀ V b, NumR (s[k] :: (s.data.toList.drop (k + 1)).take m) V b → V = v ∧ b = true) := fun V b h => by
                unfold NumR at h
                rw [← htt, hn] at h
                exact h
              obtain ⟨X1, st1, k1, g1, l1⟩ := put_four JA.out rfl #[.int .i64 2, .int .i64 k, .string (s.extract k j), .int .i64 v] rfl (by simp [Value.oneCell'])
              have hAl := HA.out
              have L1 := Lib.hid l1
              have E1 : Hid (Below w.heap.size w X1) := HB.out.trans (g1.toBelow (fun q hq e => by omega) HB.out.size)
              clear k1 g1 l1 hAl
              clear hq hn htt ho2
              go_wp2_with (go_at_call 25; refine (HNJ.out _).mono ?_; rintro e w3 ⟨⟨V, b, rfl, hV⟩, rfl⟩; obtain ⟨rfl, rfl⟩ := HNR2.out V b hV; refine Hid.out ?_)
              refine Lib.hid ?_
              clear hV
              go_wp2_with (first | refine wpl_store _ _ rfl rfl rfl st1 ?_)
              exact bodyPost_ret (results_mix rfl rfl rfl rfl L1.out) rfl ⟨by rw [HO2.out]; show _ = Ending.returned (.tuple #[wdV 2 k ⟨((s.data.toList.drop k).take (1 + m)).toArray⟩ V, .int .i64 ((k + (1 + m) : Nat) : Int), .int .i64 0]); rw [← HE.out, ← HTJ.out, ← HJM.out]; rfl, E1.out⟩
      · have HN : Hid (j = k + (1 + m)) := by
          have h := HJ.out
          rw [List.drop_eq_nil_of_le (by simp; omega)] at h
          exact h
        have hlt' : ¬ (j : Int) < (s.size : Int) := by omega
        clear HJ
        go_upto_region 11 with fail
        have hjm := HN.out
        have hTj : s.extract k j = T := by rw [hjm]; exact HT.out
        have HTJ := Lib.hid hTj
        have HJM := Lib.hid hjm
        have hkj2 : (k : Int) ≤ (j : Int) := by omega
        have hjs2 : (j : Int) ≤ (s.size : Int) := by omega
        have hda := HDA.out
        rw [← hTj] at hda
        have HNJ : Hid (∀ X, Calls Tryd.prog 25 #[.string (s.extract k j)] X fun e w' => (∃ V b, e = .returned (.tuple #[.int .i64 V, .bool b]) ∧ NumR (s[k] :: (s.data.toList.drop (k + 1)).take m) V b) ∧ w' = X) := by rw [hTj]; exact HNR.out
        clear HN HNR HDA
        by_cases hq : s[k].toNat = 45 ∧ m = 0
        · rw [decide_eq_true hq] at hda
          have HO2 : Hid (o = .inl 170) := by rw [← HO.out, if_pos hq]; rfl
          obtain ⟨X1, st1, k1, g1, l1⟩ := put_four JA.out rfl zW rfl (by simp [Value.oneCell'])
          have hAl := HA.out
          have L1 := Lib.hid l1
          have E1 : Hid (Below w.heap.size w X1) := HB.out.trans (g1.toBelow (fun q hq e => by omega) HB.out.size)
          clear k1 g1 l1 hAl
          clear hjm hTj hq HNJ
          go_wp2_with (first | refine wpl_store _ _ rfl rfl rfl st1 ?_)
          exact bodyPost_ret (results_mix rfl rfl rfl rfl L1.out) rfl ⟨by rw [HO2.out]; rfl, E1.out⟩
        · rw [decide_eq_false hq] at hda
          have ho2 : o = (match numP ((s.data.toList.drop k).take (1 + m)) with | none => .inl 172 | some v => .inr (2, (s.data.toList.drop k).take (1 + m), v, 1 + m)) := by rw [← HO.out, if_neg hq]
          have htt := HTD.out
          rw [HTD2.out] at htt
          clear hjm hTj
          cases hn : numP ((s.data.toList.drop k).take (1 + m)) with
          | none =>
            rw [hn] at ho2
            have HO2 := Lib.hid ho2
            have HNR2 : Hid (∀ V b, NumR (s[k] :: (s.data.toList.drop (k + 1)).take m) V b → b = false) := fun V b h => by
              unfold NumR at h
              rw [← htt, hn] at h
              exact h
            obtain ⟨X1, st1, k1, g1, l1⟩ := put_four JA.out rfl zW rfl (by simp [Value.oneCell'])
            have hAl := HA.out
            have L1 := Lib.hid l1
            have E1 : Hid (Below w.heap.size w X1) := HB.out.trans (g1.toBelow (fun q hq e => by omega) HB.out.size)
            clear k1 g1 l1 hAl
            clear hq hn htt ho2
            go_wp2_with (go_at_call 25; refine (HNJ.out _).mono ?_; rintro e w3 ⟨⟨V, b, rfl, hV⟩, rfl⟩; obtain rfl := HNR2.out V b hV; refine Hid.out ?_)
            refine Lib.hid ?_
            clear hV
            go_wp2_with (first | refine wpl_store _ _ rfl rfl rfl st1 ?_)
            exact bodyPost_ret (results_mix rfl rfl rfl rfl L1.out) rfl ⟨by rw [HO2.out]; rfl, E1.out⟩
          | some v =>
            rw [hn] at ho2
            have HO2 := Lib.hid ho2
            have HNR2 : Hid (∀ V b, NumR (s[k] :: (s.data.toList.drop (k + 1)).take m) V b → V = v ∧ b = true) := fun V b h => by
              unfold NumR at h
              rw [← htt, hn] at h
              exact h
            obtain ⟨X1, st1, k1, g1, l1⟩ := put_four JA.out rfl #[.int .i64 2, .int .i64 k, .string (s.extract k j), .int .i64 v] rfl (by simp [Value.oneCell'])
            have hAl := HA.out
            have L1 := Lib.hid l1
            have E1 : Hid (Below w.heap.size w X1) := HB.out.trans (g1.toBelow (fun q hq e => by omega) HB.out.size)
            clear k1 g1 l1 hAl
            clear hq hn htt ho2
            go_wp2_with (go_at_call 25; refine (HNJ.out _).mono ?_; rintro e w3 ⟨⟨V, b, rfl, hV⟩, rfl⟩; obtain ⟨rfl, rfl⟩ := HNR2.out V b hV; refine Hid.out ?_)
            refine Lib.hid ?_
            clear hV
            go_wp2_with (first | refine wpl_store _ _ rfl rfl rfl st1 ?_)
            exact bodyPost_ret (results_mix rfl rfl rfl rfl L1.out) rfl ⟨by rw [HO2.out]; show _ = Ending.returned (.tuple #[wdV 2 k ⟨((s.data.toList.drop k).take (1 + m)).toArray⟩ V, .int .i64 ((k + (1 + m) : Nat) : Int), .int .i64 0]); rw [← HE.out, ← HTJ.out, ← HJM.out]; rfl, E1.out⟩
end Go.Proofs.YtcmdpahchbbicaaDoor
