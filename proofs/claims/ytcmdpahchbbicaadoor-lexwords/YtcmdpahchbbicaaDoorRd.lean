/- The walks of the document's quoted; of its one: texts, signs and what is none. -/
import Derived.Test.YtcmdpahchbbicaaDoorRc
namespace Go.Proofs.YtcmdpahchbbicaaDoor
open Go.RowKit
set_option maxHeartbeats 4000000 in
set_option maxRecDepth 100000 in
theorem quoted_ref {w : World} {s : ByteArray} {k : Nat} (hs : s.size ≤ 1024) (hk : k < s.size) (hc : s[k].toNat = 39) :
    Calls Tryd.prog 26 #[.string s, .int .i64 k] w fun e w' => OneAns k (wordL s[k] (s.data.toList.drop (k + 1))) e ∧ Below w.heap.size w w' := by
  have HCC := Lib.hid hc
  clear hc
  obtain ⟨i0, hi, hz0, hz1, hz2⟩ := info_parts infoByte
  obtain ⟨o, ho⟩ : ∃ o, wordL s[k] (s.data.toList.drop (k + 1)) = o := ⟨_, rfl⟩
  rw [ho]
  have HO := Lib.hid ho
  have HQ0 := Lib.hid (q_start s k)
  clear ho
  obtain ⟨w0, hw0⟩ : ∃ w0, w0 = w.alloc (.cells zW 31) := ⟨_, rfl⟩
  obtain ⟨A, hA⟩ : ∃ A, w.heap.size = A := ⟨_, rfl⟩
  have hb0 : Below w.heap.size w w0 := by rw [hw0]; exact (Below.refl _ w).alloc (Nat.le_refl _) _
  have jA : w0.heap[A]? = some (.cells zW 31 (0, 0)) := by rw [hw0, ← hA]; exact heap_alloc_new w _
  have HW := Lib.hid hw0
  have HA := Lib.hid hA
  have HB := Lib.hid hb0
  have JA := Lib.hid jA
  have hk0 : (0 : Int) ≤ (k : Int) := by omega
  have hk1 : (k : Int) < (s.size : Int) := by omega
  clear hw0 hA hb0 jA
  go_enter Tryd.func26, Tryd.ntmps26
  go_upto_region 1 with fail
  rw [← HW.out, HA.out]
  go_wp2
  clear HW
  go_loopw [7, 8] (fun v i wr => ∃ (j : Nat) (acc : List UInt8), k + 1 ≤ j ∧ j ≤ s.size ∧ i = .int .i64 j ∧ Hid (wr.ownsRow w0.heap.size 5 1 v acc.length (Lib.byteCells acc)) ∧ acc.length ≤ j ∧ Hid (QAt s k j acc) ∧ Hid (Below w0.heap.size w0 wr)) (fun _ i _ => s.size - (intOf i).toNat)
  case atStart => exact ⟨k + 1, [], by omega, by omega, by go_num, World.ownsRow_nil _ _ _ _, by simp, HQ0, Below.refl _ _⟩
  case round =>
    clear HQ0
    obtain ⟨j, acc, hkj, hj, rfl, HOWN, hacc, HQ, HBW⟩ := hrel
    have HBR := Lib.hid (HB.out.trans (HBW.out.mono HB.out.size))
    have JA2 := Lib.hid ((HBW.out.block A (blk_lt JA.out)).trans JA.out)
    by_cases hlt : j < s.size
    · have hlt' : (j : Int) < (s.size : Int) := by omega
      have hj0 : (0 : Int) ≤ (j : Int) := by omega
      by_cases hq : s[j].toNat = 39
      · have hq' : ((s[j].toNat : Int) == 39) = true := by rw [hq]; rfl
        by_cases hl2 : j + 1 < s.size
        · have hl2' : (j : Int) + 1 < (s.size : Int) := by omega
          have hl3 : ¬ (s.size : Int) ≤ (j : Int) + 1 := by omega
          have hjn : ((j : Int) + 1).toNat = j + 1 := by omega
          have hj1 : (0 : Int) ≤ (j : Int) + 1 := by omega
          by_cases hq2 : s[j + 1].toNat = 39
          · have hq2' : ((s[j + 1].toNat : Int) == 39) = true := by rw [hq2]; rfl
            have hsame : s[j + 1] = s[j] := UInt8.toNat_inj.1 (hq2.trans hq.symm)
            have hqp := q_pair HQ.out hkj hl2 hq hq2
            rw [hsame] at hqp
            have HN := Lib.hid hqp
            clear hqp hsame hq2 hq HQ HO
            go_upto_region 8 with fail
            have hbz := HBW.out.size
            have how1 := HOWN.out
            go_wp2_with (at_builtin; refine wpList_append_own _ rfl _ _ 50 rfl w0.heap.size 5 i0 (.int .u8 0) 1 1 Tryd.underlying50 hi hz0 hz1 hz2 rfl (by decide) _ _ _ rfl (how1.alloc _) ⟨wr.heap.size, 0, none⟩ 1 1 [Value.int .u8 s[j].toNat] rfl rfl (news_one _ _ _) (by intro u' hu'; simp at hu'; subst hu'; rfl) (by unfold maxLen; omega) (by omega) (by simp; omega) ?_; intro v2 w2 hown2 hgrow2 _; refine Hid.out ?_)
            refine Lib.hid ?_
            have hb2 : Below w0.heap.size w0 w2 := (HBW.out.alloc hbz _).grown hgrow2 (by simp; omega) (fun k hk => (how1.lt k hk).1)
            have HB2 := Lib.hid hb2
            have hown3 : w2.ownsRow w0.heap.size 5 1 v2 (acc ++ [s[j]]).length (Lib.byteCells (acc ++ [s[j]])) := by
              rw [byte_snoc, show (acc ++ [s[j]]).length = acc.length + 1 by simp]
              exact hown2
            have OWN2 := Lib.hid hown3
            clear hown2 hown3 hgrow2 hb2 how1
            go_wp2
            exact ⟨⟨j + 2, acc ++ [s[j]], by omega, by omega, by go_num, OWN2, by simp; omega, HN, HB2⟩, by simp [intOf]; omega⟩
          · have hq2' : ((s[j + 1].toNat : Int) == 39) = false := by rw [beq_eq_false_iff_ne]; exact fun e => hq2 (Int.ofNat_inj.1 e)
            have hqe := q_end HQ.out hkj hlt hq (by rw [drop_at s (j + 1) hl2]; exact decide_eq_false hq2)
            clear hq2
            go_upto_region 5 with fail
            have HO2 : Hid (o = if 64 < acc.length then .inl 21 else .inr (3, acc, 0, 1 + (j - k))) := by rw [← HO.out, word_quote HCC.out, hqe]; rfl
            have how1 := HOWN.out
            obtain ⟨ad, cap, rfl⟩ := own_shape how1
            clear hqe HO HQ hq
            by_cases h64 : 64 < acc.length
            · have h64' : (64 : Int) < (acc.length : Int) := by omega
              have HO3 : Hid (o = .inl 21) := by rw [HO2.out, if_pos h64]; rfl
              obtain ⟨X1, st1, k1, g1, l1⟩ := put_four JA2.out rfl zW rfl (by simp [Value.oneCell'])
              have hAl := HA.out
              have L1 := Lib.hid l1
              have E1 : Hid (Below w.heap.size w X1) := HBR.out.trans (g1.toBelow (fun q hq e => by omega) HBR.out.size)
              clear k1 g1 l1 hAl
              clear h64 how1 HO2
              go_wp2_with (first | refine wpl_store _ _ rfl rfl rfl st1 ?_)
              exact bodyPost_ret (results_mix rfl rfl rfl rfl L1.out) rfl ⟨by rw [HO3.out]; rfl, E1.out⟩
            · have h64' : ¬ (64 : Int) < (acc.length : Int) := by omega
              have HO3 : Hid (o = .inr (3, acc, 0, 1 + (j - k))) := by rw [HO2.out, if_neg h64]; rfl
              have hcv := conv_own how1
              obtain ⟨X1, st1, k1, g1, l1⟩ := put_four JA2.out rfl #[.int .i64 3, .int .i64 k, .string ⟨acc.toArray⟩, .int .i64 0] rfl (by simp [Value.oneCell'])
              have hAl := HA.out
              have L1 := Lib.hid l1
              have E1 : Hid (Below w.heap.size w X1) := HBR.out.trans (g1.toBelow (fun q hq e => by omega) HBR.out.size)
              clear k1 g1 l1 hAl
              have HJE : Hid ((j : Int) + 1 = ((k + (1 + (j - k)) : Nat) : Int)) := (by omega : (j : Int) + 1 = ((k + (1 + (j - k)) : Nat) : Int))
              clear h64 how1 HO2
              go_wp2_with (first | refine wpl_store _ _ rfl rfl rfl st1 ?_)
              exact bodyPost_ret (results_mix rfl rfl rfl rfl L1.out) rfl ⟨by rw [HO3.out]; show _ = Ending.returned (.tuple #[wdV 3 k ⟨acc.toArray⟩ 0, .int .i64 ((k + (1 + (j - k)) : Nat) : Int), .int .i64 0]); rw [← HJE.out]; rfl, E1.out⟩
        · have hl3 : (s.size : Int) ≤ (j : Int) + 1 := by omega
          have hqe := q_end HQ.out hkj hlt hq (by rw [List.drop_eq_nil_of_le (by simp; omega)]; rfl)
          go_upto_region 5 with fail
          have HO2 : Hid (o = if 64 < acc.length then .inl 21 else .inr (3, acc, 0, 1 + (j - k))) := by rw [← HO.out, word_quote HCC.out, hqe]; rfl
          have how1 := HOWN.out
          obtain ⟨ad, cap, rfl⟩ := own_shape how1
          clear hqe HO HQ hq
          by_cases h64 : 64 < acc.length
          · have h64' : (64 : Int) < (acc.length : Int) := by omega
            have HO3 : Hid (o = .inl 21) := by rw [HO2.out, if_pos h64]; rfl
            obtain ⟨X1, st1, k1, g1, l1⟩ := put_four JA2.out rfl zW rfl (by simp [Value.oneCell'])
            have hAl := HA.out
            have L1 := Lib.hid l1
            have E1 : Hid (Below w.heap.size w X1) := HBR.out.trans (g1.toBelow (fun q hq e => by omega) HBR.out.size)
            clear k1 g1 l1 hAl
            clear h64 how1 HO2
            go_wp2_with (first | refine wpl_store _ _ rfl rfl rfl st1 ?_)
            exact bodyPost_ret (results_mix rfl rfl rfl rfl L1.out) rfl ⟨by rw [HO3.out]; rfl, E1.out⟩
          · have h64' : ¬ (64 : Int) < (acc.length : Int) := by omega
            have HO3 : Hid (o = .inr (3, acc, 0, 1 + (j - k))) := by rw [HO2.out, if_neg h64]; rfl
            have hcv := conv_own how1
            obtain ⟨X1, st1, k1, g1, l1⟩ := put_four JA2.out rfl #[.int .i64 3, .int .i64 k, .string ⟨acc.toArray⟩, .int .i64 0] rfl (by simp [Value.oneCell'])
            have hAl := HA.out
            have L1 := Lib.hid l1
            have E1 : Hid (Below w.heap.size w X1) := HBR.out.trans (g1.toBelow (fun q hq e => by omega) HBR.out.size)
            clear k1 g1 l1 hAl
            have HJE : Hid ((j : Int) + 1 = ((k + (1 + (j - k)) : Nat) : Int)) := (by omega : (j : Int) + 1 = ((k + (1 + (j - k)) : Nat) : Int))
            clear h64 how1 HO2
            go_wp2_with (first | refine wpl_store _ _ rfl rfl rfl st1 ?_)
            exact bodyPost_ret (results_mix rfl rfl rfl rfl L1.out) rfl ⟨by rw [HO3.out]; show _ = Ending.returned (.tuple #[wdV 3 k ⟨acc.toArray⟩ 0, .int .i64 ((k + (1 + (j - k)) : Nat) : Int), .int .i64 0]); rw [← HJE.out]; rfl, E1.out⟩
      · have hq' : ((s[j].toNat : Int) == 39) = false := by rw [beq_eq_false_iff_ne]; exact fun e => hq (Int.ofNat_inj.1 e)
        have HN := Lib.hid (q_other HQ.out hkj hlt hq)
        clear HO HQ hq
        go_upto_region 8 with fail
        have hbz := HBW.out.size
        have how1 := HOWN.out
        go_wp2_with (at_builtin; refine wpList_append_own _ rfl _ _ 50 rfl w0.heap.size 5 i0 (.int .u8 0) 1 1 Tryd.underlying50 hi hz0 hz1 hz2 rfl (by decide) _ _ _ rfl (how1.alloc _) ⟨wr.heap.size, 0, none⟩ 1 1 [Value.int .u8 s[j].toNat] rfl rfl (news_one _ _ _) (by intro u' hu'; simp at hu'; subst hu'; rfl) (by unfold maxLen; omega) (by omega) (by simp; omega) ?_; intro v2 w2 hown2 hgrow2 _; refine Hid.out ?_)
        refine Lib.hid ?_
        have hb2 : Below w0.heap.size w0 w2 := (HBW.out.alloc hbz _).grown hgrow2 (by simp; omega) (fun k hk => (how1.lt k hk).1)
        have HB2 := Lib.hid hb2
        have hown3 : w2.ownsRow w0.heap.size 5 1 v2 (acc ++ [s[j]]).length (Lib.byteCells (acc ++ [s[j]])) := by
          rw [byte_snoc, show (acc ++ [s[j]]).length = acc.length + 1 by simp]
          exact hown2
        have OWN2 := Lib.hid hown3
        clear hown2 hown3 hgrow2 hb2 how1
        go_wp2
        exact ⟨⟨j + 1, acc ++ [s[j]], by omega, by omega, by go_num, OWN2, by simp; omega, HN, HB2⟩, by simp [intOf]; omega⟩
    · have hlt' : ¬ (j : Int) < (s.size : Int) := by omega
      have HO2 : Hid (o = .inl 171) := by rw [← HO.out, word_quote HCC.out, q_none HQ.out (by omega)]; rfl
      obtain ⟨X1, st1, k1, g1, l1⟩ := put_four JA2.out rfl zW rfl (by simp [Value.oneCell'])
      have hAl := HA.out
      have L1 := Lib.hid l1
      have E1 : Hid (Below w.heap.size w X1) := HBR.out.trans (g1.toBelow (fun q hq e => by omega) HBR.out.size)
      clear k1 g1 l1 hAl
      clear HO HQ HOWN
      go_wp2_with (first | refine wpl_store _ _ rfl rfl rfl st1 ?_)
      exact bodyPost_ret (results_mix rfl rfl rfl rfl L1.out) rfl ⟨by rw [HO2.out]; rfl, E1.out⟩
end Go.Proofs.YtcmdpahchbbicaaDoor
