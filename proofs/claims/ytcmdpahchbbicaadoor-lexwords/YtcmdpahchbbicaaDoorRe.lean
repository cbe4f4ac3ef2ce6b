/- The walk of the document's one, whole. -/
import Derived.Test.YtcmdpahchbbicaaDoorRd
namespace Go.Proofs.YtcmdpahchbbicaaDoor
open Go.RowKit
abbrev sgT : ByteArray := ⟨#[40, 41, 44, 59, 61, 42]⟩
theorem sg_any (c : UInt8) : isS c = sgT.data.toList.any (fun x => x == c) := (any_sig c).symm
set_option maxHeartbeats 4000000 in
set_option maxRecDepth 100000 in
theorem one_quote {w : World} {s : ByteArray} {k : Nat} (hs : s.size ≤ 1024) (hk : k < s.size) (hc : s[k].toNat = 39) :
    Calls Tryd.prog 14 #[.string s, .int .i64 k] w fun e w' => OneAns k (wordL s[k] (s.data.toList.drop (k + 1))) e ∧ Below w.heap.size w w' := by
  have hL : isL s[k] = false := by
    cases hq : isL s[k] with
    | false => rfl
    | true => exact absurd hc ((apart_all s[k]).1 hq).2.1
  have hD : isD s[k] = false := by
    cases hq : isD s[k] with
    | false => rfl
    | true => exact absurd hc ((apart_all s[k]).2.1 (.inl hq)).1
  have h39 : ((s[k].toNat : Int) == 39) = true := by rw [hc]; rfl
  have h45 : ((s[k].toNat : Int) == 45) = false := by rw [hc]; rfl
  obtain ⟨o, ho⟩ : ∃ o, wordL s[k] (s.data.toList.drop (k + 1)) = o := ⟨_, rfl⟩
  obtain ⟨w0, hw0⟩ : ∃ w0, w0 = w.alloc (.cells zW 31) := ⟨_, rfl⟩
  obtain ⟨A, hA⟩ : ∃ A, w.heap.size = A := ⟨_, rfl⟩
  have hb0 : Below w.heap.size w w0 := by rw [hw0]; exact (Below.refl _ w).alloc (Nat.le_refl _) _
  have jA : w0.heap[A]? = some (.cells zW 31 (0, 0)) := by rw [hw0, ← hA]; exact heap_alloc_new w _
  have HW := Lib.hid hw0
  have HA := Lib.hid hA
  have HB := Lib.hid hb0
  have JA := Lib.hid jA
  have hk0 : (0 : Int) ≤ (k : Int) := by omega
  have hk1 : (k : Int) < (s.size : Int) := by omega
  clear hw0 hA hb0 jA
  have hqr := quoted_ref (w := w0) hs hk hc
  rw [ho] at hqr ⊢
  have HQR := Lib.hid hqr
  clear hqr ho hc
  have hlk := let_any (w := w0) s[k]
  rw [hL] at hlk
  have hdk := dig_any (w := w0) s[k]
  rw [hD] at hdk
  have HLK := Lib.hid hlk
  have HDK := Lib.hid hdk
  clear hlk hdk hL hD
  cases o with
  | inl er =>
    go_enter Tryd.func14, Tryd.ntmps14
    go_upto_region 1 with fail
    rw [← HW.out, HA.out]
    go_wp2_with (first | (go_at_call 23; refine (HLK.out).mono ?_; rintro e w1 ⟨rfl, rfl⟩) | (go_at_call 24; refine (HDK.out).mono ?_; rintro e w1 ⟨rfl, rfl⟩) | (go_at_call 26; refine (HQR.out).mono ?_; rintro e w3 ⟨rfl, b3⟩; refine Hid.out ?_))
    refine Lib.hid ?_
    have JA3 := Lib.hid ((b3.block A (blk_lt JA.out)).trans JA.out)
    have HB3 := Lib.hid (HB.out.trans (b3.mono HB.out.size))
    clear b3
    obtain ⟨X1, st1, k1, g1, l1⟩ := put_four JA3.out rfl zW rfl (by simp [Value.oneCell'])
    have hAl := HA.out
    have L1 := Lib.hid l1
    have E1 : Hid (Below w.heap.size w X1) := HB3.out.trans (g1.toBelow (fun q hq e => by omega) HB3.out.size)
    clear k1 g1 l1 hAl
    go_wp2_with (first | refine wpl_store _ _ rfl rfl rfl st1 ?_)
    exact bodyPost_ret (results_mix rfl rfl rfl rfl L1.out) rfl ⟨rfl, E1.out⟩
  | inr x =>
    obtain ⟨kd, t, v, m⟩ := x
    go_enter Tryd.func14, Tryd.ntmps14
    go_upto_region 1 with fail
    rw [← HW.out, HA.out]
    go_wp2_with (first | (go_at_call 23; refine (HLK.out).mono ?_; rintro e w1 ⟨rfl, rfl⟩) | (go_at_call 24; refine (HDK.out).mono ?_; rintro e w1 ⟨rfl, rfl⟩) | (go_at_call 26; refine (HQR.out).mono ?_; rintro e w3 ⟨rfl, b3⟩; refine Hid.out ?_))
    refine Lib.hid ?_
    have JA3 := Lib.hid ((b3.block A (blk_lt JA.out)).trans JA.out)
    have HB3 := Lib.hid (HB.out.trans (b3.mono HB.out.size))
    clear b3
    obtain ⟨X1, st1, k1, g1, l1⟩ := put_four JA3.out rfl #[.int .i64 kd, .int .i64 k, .string ⟨t.toArray⟩, .int .i64 v] rfl (by simp [Value.oneCell'])
    have hAl := HA.out
    have L1 := Lib.hid l1
    have E1 : Hid (Below w.heap.size w X1) := HB3.out.trans (g1.toBelow (fun q hq e => by omega) HB3.out.size)
    clear k1 g1 l1 hAl
    go_wp2_with (first | refine wpl_store _ _ rfl rfl rfl st1 ?_)
    exact bodyPost_ret (results_mix rfl rfl rfl rfl L1.out) rfl ⟨rfl, E1.out⟩
set_option maxHeartbeats 4000000 in
set_option maxRecDepth 100000 in
theorem one_rest {w : World} {s : ByteArray} {k : Nat} (hs : s.size ≤ 1024) (hk : k < s.size) (hL : isL s[k] = false) (hD : isD s[k] = false) (h5 : s[k].toNat ≠ 45) (h9 : s[k].toNat ≠ 39) :
    Calls Tryd.prog 14 #[.string s, .int .i64 k] w fun e w' => OneAns k (wordL s[k] (s.data.toList.drop (k + 1))) e ∧ Below w.heap.size w w' := by
  have hw : wordL s[k] (s.data.toList.drop (k + 1)) = if isS s[k] = true then .inr (4, [s[k]], 0, 1) else .inl 170 := by
    unfold wordL
    rw [if_neg (by rw [hL]; decide), if_neg (by rw [hD]; simp [h5]), if_neg h9]
  rw [hw]
  obtain ⟨o, ho⟩ : ∃ o, (if isS s[k] = true then .inr (4, [s[k]], 0, 1) else .inl 170 : Int ⊕ Wr) = o := ⟨_, rfl⟩
  rw [ho]
  have HO := Lib.hid ho
  have h39 : ((s[k].toNat : Int) == 39) = false := by rw [beq_eq_false_iff_ne]; exact fun e => h9 (Int.ofNat_inj.1 e)
  have h45 : ((s[k].toNat : Int) == 45) = false := by rw [beq_eq_false_iff_ne]; exact fun e => h5 (Int.ofNat_inj.1 e)
  have hext := ext_take s k 1
  rw [drop_at s k hk] at hext
  have HE := Lib.hid hext
  have hk2 : (k : Int) + 1 ≤ (s.size : Int) := by omega
  have hkn : ((k : Int) + 1).toNat = k + 1 := by omega
  clear hw ho h5 h9 hext
  obtain ⟨w0, hw0⟩ : ∃ w0, w0 = w.alloc (.cells zW 31) := ⟨_, rfl⟩
  obtain ⟨A, hA⟩ : ∃ A, w.heap.size = A := ⟨_, rfl⟩
  have hb0 : Below w.heap.size w w0 := by rw [hw0]; exact (Below.refl _ w).alloc (Nat.le_refl _) _
  have jA : w0.heap[A]? = some (.cells zW 31 (0, 0)) := by rw [hw0, ← hA]; exact heap_alloc_new w _
  have HW := Lib.hid hw0
  have HA := Lib.hid hA
  have HB := Lib.hid hb0
  have JA := Lib.hid jA
  have hk0 : (0 : Int) ≤ (k : Int) := by omega
  have hk1 : (k : Int) < (s.size : Int) := by omega
  clear hw0 hA hb0 jA
  have hlk := let_any (w := w0) s[k]
  rw [hL] at hlk
  have hdk := dig_any (w := w0) s[k]
  rw [hD] at hdk
  have HLK := Lib.hid hlk
  have HDK := Lib.hid hdk
  clear hlk hdk hL hD
  go_enter Tryd.func14, Tryd.ntmps14
  go_upto_region 1 with fail
  rw [← HW.out, HA.out]
  go_wp2_with (first | (go_at_call 23; refine (HLK.out).mono ?_; rintro e w1 ⟨rfl, rfl⟩) | (go_at_call 24; refine (HDK.out).mono ?_; rintro e w1 ⟨rfl, rfl⟩))
  go_loopw [11] (fun i wr => ∃ j : Nat, j ≤ 6 ∧ i = .int .i64 j ∧ Hid (wr.heap[A]? = some (.cells zW 31 (0, 0))) ∧ Hid (Below w.heap.size w wr) ∧ Hid (∀ t (ht : t < 6), t < j → sgT.data.toList[t]'(by simpa using ht) ≠ s[k])) (fun i _ => 6 - (intOf i).toNat)
  case atStart => exact ⟨0, by omega, rfl, JA, HB, fun t _ h => by omega⟩
  case round =>
    obtain ⟨j, hj, rfl, JA2, HBR, HN⟩ := hrel
    by_cases hlt : j < 6
    · have hlt' : (j : Int) < 6 := by omega
      have hj0 : (0 : Int) ≤ (j : Int) := by omega
      have hjn : ((j : Int)).toNat = j := by omega
      obtain ⟨bq, hbq⟩ : ∃ b, ((s[k].toNat : Int) == ((sgT[j]'hlt).toNat : Int)) = b := ⟨_, rfl⟩
      cases bq with
      | true =>
        have hS : isS s[k] = true := by
          rw [sg_any, List.any_eq_true]
          refine ⟨sgT[j]'hlt, by show sgT.data.toList[j] ∈ _; exact List.getElem_mem _, ?_⟩
          have := Int.ofNat_inj.1 (beq_iff_eq.1 hbq)
          rw [beq_iff_eq]
          exact (UInt8.toNat_inj.1 this).symm
        have HO2 : Hid (o = .inr (4, [s[k]], 0, 1)) := by rw [← HO.out, if_pos hS]; rfl
        clear HO HN hS
        go_upto_region 23 with fail
        go_quiet (fail)
        obtain ⟨W2, hW2⟩ : ∃ W2, W2 = wr.drewN nq := ⟨_, rfl⟩
        have JA3 : Hid (W2.heap[A]? = some (.cells zW 31 (0, 0))) := by rw [hW2]; exact JA2.out
        have HB3 : Hid (Below w.heap.size w W2) := by rw [hW2]; exact ⟨HBR.out.os, HBR.out.tape, HBR.out.output, HBR.out.size, HBR.out.block⟩
        rw [← hW2]
        clear hW2 hbq
        obtain ⟨X1, st1, k1, g1, l1⟩ := put_four JA3.out rfl #[.int .i64 4, .int .i64 k, .string (s.extract k (k + 1)), .int .i64 0] rfl (by simp [Value.oneCell'])
        have hAl := HA.out
        have L1 := Lib.hid l1
        have E1 : Hid (Below w.heap.size w X1) := HB3.out.trans (g1.toBelow (fun q hq e => by omega) HB3.out.size)
        clear k1 g1 l1 hAl
        go_wp2_with (first | refine wpl_store _ _ rfl rfl rfl st1 ?_)
        exact bodyPost_ret (results_mix rfl rfl rfl rfl L1.out) rfl ⟨by rw [HO2.out]; show _ = Ending.returned (.tuple #[wdV 4 k ⟨[s[k]].toArray⟩ 0, .int .i64 ((k + 1 : Nat) : Int), .int .i64 0]); rw [HE.out]; rfl, E1.out⟩
      | false =>
        have HN2 : Hid (∀ t (ht : t < 6), t < j + 1 → sgT.data.toList[t]'(by simpa using ht) ≠ s[k]) := fun t ht h => by
          rcases Nat.lt_or_ge t j with q | q
          · exact HN.out t ht q
          · obtain rfl : t = j := by omega
            intro e
            rw [beq_eq_false_iff_ne] at hbq
            exact hbq (congrArg (fun x : UInt8 => ((x.toNat : Nat) : Int)) e.symm)
        clear HO HN
        go_upto_region 23 with fail
        go_quiet (fail)
        have JA3 : Hid ((wr.drewN nq).heap[A]? = some (.cells zW 31 (0, 0))) := JA2.out
        have HB3 : Hid (Below w.heap.size w (wr.drewN nq)) := ⟨HBR.out.os, HBR.out.tape, HBR.out.output, HBR.out.size, HBR.out.block⟩
        go_wp2
        exact ⟨⟨j + 1, by omega, by go_num, JA3, HB3, HN2⟩, by simp [intOf]; omega⟩
    · have hlt' : ¬ (j : Int) < 6 := by omega
      have hS : isS s[k] = false := by
        cases hq : isS s[k] with
        | false => rfl
        | true =>
          rw [sg_any, List.any_eq_true] at hq
          obtain ⟨x, hx, hxe⟩ := hq
          obtain ⟨t, ht, hte⟩ := List.getElem_of_mem hx
          have ht6 : t < 6 := by simpa using ht
          have := HN.out t ht6 (by omega)
          rw [hte] at this
          exact absurd (beq_iff_eq.1 hxe) this
      have HO2 : Hid (o = .inl 170) := by rw [← HO.out, if_neg (by rw [hS]; decide)]; rfl
      obtain ⟨X1, st1, k1, g1, l1⟩ := put_four JA2.out rfl zW rfl (by simp [Value.oneCell'])
      have hAl := HA.out
      have L1 := Lib.hid l1
      have E1 : Hid (Below w.heap.size w X1) := HBR.out.trans (g1.toBelow (fun q hq e => by omega) HBR.out.size)
      clear k1 g1 l1 hAl
      clear HO HN hS
      go_wp2_with (first | refine wpl_store _ _ rfl rfl rfl st1 ?_)
      exact bodyPost_ret (results_mix rfl rfl rfl rfl L1.out) rfl ⟨by rw [HO2.out]; rfl, E1.out⟩
theorem one_any {w : World} {s : ByteArray} {k : Nat} (hs : s.size ≤ 1024) (hk : k < s.size) :
    Calls Tryd.prog 14 #[.string s, .int .i64 k] w fun e w' => OneAns k (wordL s[k] (s.data.toList.drop (k + 1))) e ∧ Below w.heap.size w w' := by
  cases h1 : isL s[k] with
  | true => exact one_name hs hk h1
  | false =>
    cases h2 : isD s[k] with
    | true => exact one_num hs hk (.inl h2)
    | false =>
      by_cases h3 : s[k].toNat = 45
      · exact one_num hs hk (.inr h3)
      · by_cases h4 : s[k].toNat = 39
        · exact one_quote hs hk h4
        · exact one_rest hs hk h1 h2 h3 h4
end Go.Proofs.YtcmdpahchbbicaaDoor
