/- The walk of the document's one: names, signs and what is none. -/
import Derived.Test.YtcmdpahchbbicaaDoorRa
namespace Go.Proofs.YtcmdpahchbbicaaDoor
open Go.RowKit
/-- What the document's one answers. -/
def OneAns (k : Nat) (o : Int ⊕ Wr) (e : Ending) : Prop := match o with
  | .inl er => e = .returned (.tuple #[.agg zW, .int .i64 0, .int .i64 er])
  | .inr (kd, t, v, m) => e = .returned (.tuple #[wdV kd k ⟨t.toArray⟩ v, .int .i64 ((k + m : Nat) : Int), .int .i64 0])
theorem results_mix {fn : Func} {t u r : Tmp} {ty : TypeId} {ad : Addr} {v x y : Value} {tmps : Array Value} {w : World} (h : fn.results = #[.cell t ty, .tmp u, .tmp r]) (ha : tmps.getD t undef = .pointer (some ad)) (hu : tmps.getD u undef = x) (hr : tmps.getD r undef = y) (hl : (loadVar ty ad).run Tryd.prog w = .ok v w) : (results fn tmps).run Tryd.prog w = .ok (.tuple #[v, x, y]) w := by
  have ha2 : tmps[t]?.getD undef = .pointer (some ad) := by simpa using ha
  have hu2 : tmps[u]?.getD undef = x := by simpa using hu
  have hr2 : tmps[r]?.getD undef = y := by simpa using hr
  simp [results, h, ha2, hu2, hr2, asAddr, hl]
set_option maxHeartbeats 2000000 in
set_option maxRecDepth 100000 in
theorem one_name {w : World} {s : ByteArray} {k : Nat} (hs : s.size ≤ 1024) (hk : k < s.size) (hl : isL s[k] = true) :
    Calls Tryd.prog 14 #[.string s, .int .i64 k] w fun e w' => OneAns k (wordL s[k] (s.data.toList.drop (k + 1))) e ∧ Below w.heap.size w w' := by
  obtain ⟨m, hm⟩ : ∃ m, 1 + cnt isN (s.data.toList.drop (k + 1)) = m := ⟨_, rfl⟩
  have hw : wordL s[k] (s.data.toList.drop (k + 1)) = if 16 < m then .inl 21 else .inr (1, (s.data.toList.drop k).take m, 0, m) := by
    unfold wordL
    rw [if_pos hl, hm, ← drop_at s k hk]
  rw [hw]
  obtain ⟨o, ho⟩ : ∃ o, (if 16 < m then .inl 21 else .inr (1, (s.data.toList.drop k).take m, 0, m) : Int ⊕ Wr) = o := ⟨_, rfl⟩
  rw [ho]
  have HO := Lib.hid ho
  have hroom := cnt_room isN s (k + 1) (by omega)
  have HM0 : Hid (k + 1 + cnt isN (s.data.toList.drop (k + 1)) = k + m) := (by omega : k + 1 + cnt isN (s.data.toList.drop (k + 1)) = k + m)
  have hms : k + m ≤ s.size := by omega
  have hext := ext_take s k m
  obtain ⟨T, hT⟩ : ∃ T, s.extract k (k + m) = T := ⟨_, rfl⟩
  rw [hT] at hext
  have HE := Lib.hid hext
  have HT := Lib.hid hT
  clear ho hw hroom hext hT hm
  obtain ⟨w0, hw0⟩ : ∃ w0, w0 = w.alloc (.cells zW 31) := ⟨_, rfl⟩
  obtain ⟨A, hA⟩ : ∃ A, w.heap.size = A := ⟨_, rfl⟩
  have hb0 : Below w.heap.size w w0 := by rw [hw0]; exact (Below.refl _ w).alloc (Nat.le_refl _) _
  have jA : w0.heap[A]? = some (.cells zW 31 (0, 0)) := by rw [hw0, ← hA]; exact heap_alloc_new w _
  have HW := Lib.hid hw0
  have HA := Lib.hid hA
  have HB := Lib.hid hb0
  have JA := Lib.hid jA
  have hk0 : (0 : Int) ≤ (k : Int) := by omega
  have hk1 : (k : Int) < (s.size : Int) := by omega
  clear hw0 hA hb0 jA
  have hlk := let_any (w := w0) s[k]
  rw [hl] at hlk
  have HLK := Lib.hid hlk
  clear hlk hl
  go_enter Tryd.func14, Tryd.ntmps14
  go_upto_region 1 with fail
  rw [← HW.out, HA.out]
  go_wp2_with (go_at_call 23; refine (HLK.out).mono ?_; rintro e w1 ⟨rfl, rfl⟩)
  go_loopw [7] (fun i wr => ∃ j : Nat, k + 1 ≤ j ∧ j ≤ s.size ∧ i = .int .i64 j ∧ wr = w1 ∧ Hid (j + cnt isN (s.data.toList.drop j) = k + m)) (fun i _ => s.size - (intOf i).toNat)
  case atStart => exact ⟨k + 1, by omega, by omega, by go_num, by first | rfl | trivial, HM0⟩
  case round =>
    obtain ⟨j, hkj, hj, rfl, rfl, HJ⟩ := hrel
    clear HM0
    by_cases hlt : j < s.size
    · have hlt' : (j : Int) < (s.size : Int) := by omega
      have hda := drop_at s j hlt
      have hl1 := let_any (w := wr) s[j]
      have hd1 := dig_any (w := wr) s[j]
      have hin : isN s[j] = (isL s[j] || isD s[j] || decide (s[j].toNat = 95)) := rfl
      obtain ⟨bl, hbl⟩ : ∃ b, isL s[j] = b := ⟨_, rfl⟩
      obtain ⟨bd, hbd⟩ : ∃ b, isD s[j] = b := ⟨_, rfl⟩
      rw [hbl] at hl1 hin
      rw [hbd] at hd1 hin
      have HL1 := Lib.hid hl1
      have HD1 := Lib.hid hd1
      have hne : cnt isN (s.data.toList.drop j) = if isN s[j] = true then cnt isN (s.data.toList.drop (j + 1)) + 1 else 0 := by
        rw [hda]
        cases hq : isN s[j] with
        | true => rw [cnt_yes hq]; rfl
        | false => rw [cnt_no hq]; rfl
      have HNE := Lib.hid hne
      have HIN := Lib.hid hin
      clear hl1 hd1 hbl hbd hda hne hin
      by_cases h95 : s[j].toNat = 95
      · have h95' : ((s[j].toNat : Int) == 95) = true := by rw [h95]; rfl
        have HN : Hid (j + 1 + cnt isN (s.data.toList.drop (j + 1)) = k + m) := by
          have h := HJ.out
          rw [HNE.out, if_pos (by rw [HIN.out, decide_eq_true h95]; simp)] at h
          exact (by omega : j + 1 + cnt isN (s.data.toList.drop (j + 1)) = k + m)
        clear HJ HNE HIN h95
        cases bl <;> cases bd
        all_goals
          go_wp2_with (first | (go_at_call 23; refine (HL1.out).mono ?_; rintro e w2 ⟨rfl, rfl⟩) | (go_at_call 24; refine (HD1.out).mono ?_; rintro e w2 ⟨rfl, rfl⟩))
          exact ⟨⟨j + 1, by omega, by omega, by go_num, by first | rfl | trivial, HN⟩, by simp [intOf]; omega⟩
      · have h95' : ((s[j].toNat : Int) == 95) = false := by rw [beq_eq_false_iff_ne]; exact fun e => h95 (Int.ofNat_inj.1 e)
        cases hbb : (bl || bd) with
        | true =>
          have HN : Hid (j + 1 + cnt isN (s.data.toList.drop (j + 1)) = k + m) := by
            have h := HJ.out
            rw [HNE.out, if_pos (by rw [HIN.out, hbb]; simp)] at h
            exact (by omega : j + 1 + cnt isN (s.data.toList.drop (j + 1)) = k + m)
          clear HJ HNE HIN h95
          cases bl
          · cases bd
            · cases hbb
            · clear hbb
              go_wp2_with (first | (go_at_call 23; refine (HL1.out).mono ?_; rintro e w2 ⟨rfl, rfl⟩) | (go_at_call 24; refine (HD1.out).mono ?_; rintro e w2 ⟨rfl, rfl⟩))
              exact ⟨⟨j + 1, by omega, by omega, by go_num, by first | rfl | trivial, HN⟩, by simp [intOf]; omega⟩
          · clear hbb
            go_wp2_with (first | (go_at_call 23; refine (HL1.out).mono ?_; rintro e w2 ⟨rfl, rfl⟩) | (go_at_call 24; refine (HD1.out).mono ?_; rintro e w2 ⟨rfl, rfl⟩))
            exact ⟨⟨j + 1, by omega, by omega, by go_num, by first | rfl | trivial, HN⟩, by simp [intOf]; omega⟩
        | false =>
          have HN : Hid (j = k + m) := by
            have h := HJ.out
            rw [HNE.out, if_neg (by rw [HIN.out, hbb, decide_eq_false h95]; simp)] at h
            exact h
          clear HJ HNE HIN h95
          cases bl
          · cases bd
            · clear hbb
              go_upto_region 5 with (first | (go_at_call 23; refine (HL1.out).mono ?_; rintro e w2 ⟨rfl, rfl⟩) | (go_at_call 24; refine (HD1.out).mono ?_; rintro e w2 ⟨rfl, rfl⟩))
              have hjm := HN.out
              have hTj : s.extract k j = T := by rw [hjm]; exact HT.out
              have HTJ := Lib.hid hTj
              have HJM := Lib.hid hjm
              have hkj2 : (k : Int) ≤ (j : Int) := by omega
              have hjs2 : (j : Int) ≤ (s.size : Int) := by omega
              clear HN
              by_cases h16 : 16 < m
              · have h16' : (16 : Int) < (j : Int) - (k : Int) := by omega
                have HO2 : Hid (o = .inl 21) := by rw [← HO.out, if_pos h16]; rfl
                obtain ⟨X1, st1, k1, g1, l1⟩ := put_four JA.out rfl zW rfl (by simp [Value.oneCell'])
                have hAl := HA.out
                have L1 := Lib.hid l1
                have E1 : Hid (Below w.heap.size w X1) := HB.out.trans (g1.toBelow (fun q hq e => by omega) HB.out.size)
                clear k1 g1 l1 hAl
                clear h16 hjm hTj
                go_wp2_with (first | refine wpl_store _ _ rfl rfl rfl st1 ?_)
                exact bodyPost_ret (results_mix rfl rfl rfl rfl L1.out) rfl ⟨by rw [HO2.out]; rfl, E1.out⟩
              · have h16' : ¬ (16 : Int) < (j : Int) - (k : Int) := by omega
                have HO2 : Hid (o = .inr (1, (s.data.toList.drop k).take m, 0, m)) := by rw [← HO.out, if_neg h16]; rfl
                obtain ⟨X1, st1, k1, g1, l1⟩ := put_four JA.out rfl #[.int .i64 1, .int .i64 k, .string (s.extract k j), .int .i64 0] rfl (by simp [Value.oneCell'])
                have hAl := HA.out
                have L1 := Lib.hid l1
                have E1 : Hid (Below w.heap.size w X1) := HB.out.trans (g1.toBelow (fun q hq e => by omega) HB.out.size)
                clear k1 g1 l1 hAl
                clear h16 hjm hTj
                go_wp2_with (first | refine wpl_store _ _ rfl rfl rfl st1 ?_)
                exact bodyPost_ret (results_mix rfl rfl rfl rfl L1.out) rfl ⟨by rw [HO2.out]; show _ = Ending.returned (.tuple #[wdV 1 k ⟨((s.data.toList.drop k).take m).toArray⟩ 0, .int .i64 ((k + m : Nat) : Int), .int .i64 0]); rw [← HE.out, ← HTJ.out, ← HJM.out]; rfl, E1.out⟩
            · cases hbb
          · cases hbb
    · have HN : Hid (j = k + m) := by
        have h := HJ.out
        rw [List.drop_eq_nil_of_le (by simp; omega)] at h
        exact h
      have hlt' : ¬ (j : Int) < (s.size : Int) := by omega
      clear HJ
      go_upto_region 5 with fail
      have hjm := HN.out
      have hTj : s.extract k j = T := by rw [hjm]; exact HT.out
      have HTJ := Lib.hid hTj
      have HJM := Lib.hid hjm
      have hkj2 : (k : Int) ≤ (j : Int) := by omega
      have hjs2 : (j : Int) ≤ (s.size : Int) := by omega
      clear HN
      by_cases h16 : 16 < m
      · have h16' : (16 : Int) < (j : Int) - (k : Int) := by omega
        have HO2 : Hid (o = .inl 21) := by rw [← HO.out, if_pos h16]; rfl
        obtain ⟨X1, st1, k1, g1, l1⟩ := put_four JA.out rfl zW rfl (by simp [Value.oneCell'])
        have hAl := HA.out
        have L1 := Lib.hid l1
        have E1 : Hid (Below w.heap.size w X1) := HB.out.trans (g1.toBelow (fun q hq e => by omega) HB.out.size)
        clear k1 g1 l1 hAl
        clear h16 hjm hTj
        go_wp2_with (first | refine wpl_store _ _ rfl rfl rfl st1 ?_)
        exact bodyPost_ret (results_mix rfl rfl rfl rfl L1.out) rfl ⟨by rw [HO2.out]; rfl, E1.out⟩
      · have h16' : ¬ (16 : Int) < (j : Int) - (k : Int) := by omega
        have HO2 : Hid (o = .inr (1, (s.data.toList.drop k).take m, 0, m)) := by rw [← HO.out, if_neg h16]; rfl
        obtain ⟨X1, st1, k1, g1, l1⟩ := put_four JA.out rfl #[.int .i64 1, .int .i64 k, .string (s.extract k j), .int .i64 0] rfl (by simp [Value.oneCell'])
        have hAl := HA.out
        have L1 := Lib.hid l1
        have E1 : Hid (Below w.heap.size w X1) := HB.out.trans (g1.toBelow (fun q hq e => by omega) HB.out.size)
        clear k1 g1 l1 hAl
        clear h16 hjm hTj
        go_wp2_with (first | refine wpl_store _ _ rfl rfl rfl st1 ?_)
        exact bodyPost_ret (results_mix rfl rfl rfl rfl L1.out) rfl ⟨by rw [HO2.out]; show _ = Ending.returned (.tuple #[wdV 1 k ⟨((s.data.toList.drop k).take m).toArray⟩ 0, .int .i64 ((k + m : Nat) : Int), .int .i64 0]); rw [← HE.out, ← HTJ.out, ← HJM.out]; rfl, E1.out⟩
end Go.Proofs.YtcmdpahchbbicaaDoor
