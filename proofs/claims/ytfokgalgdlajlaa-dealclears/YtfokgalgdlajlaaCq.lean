/- Compare; BinarySearchFunc over parts. -/
import Derived.Test.YtfokgalgdlajlaaCp
namespace Go.Proofs.Ytfokgalgdlajlaa
open Go.RowKit
def cmpI (a b : Int) : Int := if a < b then -1 else if b < a then 1 else 0
section
variable {w : World}
set_option maxHeartbeats 4000000 in
set_option maxRecDepth 100000 in
theorem nan_any (w : World) (a : Int) : Calls Try.prog 59 #[.int .i64 a] w fun e w' => e = .returned (.bool false) ∧ w' = w := by
  go_enter Try.func59, Try.ntmps59
  go_wp2
  refine bodyPost_ret (v := .bool false) (by simp [results, Try.results59, go_sem]) rfl ?_
  exact ⟨rfl, rfl⟩
set_option maxHeartbeats 4000000 in
set_option maxRecDepth 100000 in
theorem compare_any (w : World) (a b : Int) : Calls Try.prog 41 #[.int .i64 a, .int .i64 b] w fun e w' => e = .returned (.int .i64 (cmpI a b)) ∧ w' = w := by
  have ha := nan_any w a
  have hb := nan_any w b
  have HA := Lib.hid ha
  have HB := Lib.hid hb
  clear ha hb
  obtain ⟨n, hn⟩ : ∃ n, cmpI a b = n := ⟨_, rfl⟩
  rw [hn]
  unfold cmpI at hn
  have HN := Lib.hid hn
  clear hn
  go_enter Try.func41, Try.ntmps41
  go_wp2_with fail
  refine HA.out.mono ?_
  rintro e w1 ⟨rfl, e1⟩
  subst e1
  go_wp2_with fail
  refine HB.out.mono ?_
  rintro e w2 ⟨rfl, e2⟩
  subst e2
  by_cases h1 : a < b
  · have e9 := HN.out
    rw [if_pos h1] at e9
    subst e9
    go_wp2
    refine bodyPost_ret (v := .int .i64 (-1)) (by simp [results, Try.results41, go_sem]) rfl ?_
    exact ⟨rfl, rfl⟩
  · by_cases h2 : b < a
    · have e9 := HN.out
      rw [if_neg h1, if_pos h2] at e9
      subst e9
      go_wp2
      refine bodyPost_ret (v := .int .i64 1) (by simp [results, Try.results41, go_sem]) rfl ?_
      exact ⟨rfl, rfl⟩
    · have e9 := HN.out
      rw [if_neg h1, if_neg h2] at e9
      subst e9
      go_wp2
      refine bodyPost_ret (v := .int .i64 0) (by simp [results, Try.results41, go_sem]) rfl ?_
      exact ⟨rfl, rfl⟩
set_option maxHeartbeats 4000000 in
set_option maxRecDepth 100000 in
theorem cmp1_any (w : World) (g : Gp) (b : Int) : Calls Try.prog 40 #[.agg (gpA g), .int .i64 b] w fun e w' => e = .returned (.int .i64 (cmpI g.sh b)) ∧ Below w.heap.size w w' := by
  obtain ⟨W, hW⟩ : ∃ W, W = w.alloc (.cells (gpA g) 84) := ⟨_, rfl⟩
  obtain ⟨Y, hY⟩ : ∃ Y, w.heap.size = Y := ⟨_, rfl⟩
  have hb : Below w.heap.size w W := by rw [hW]; exact bnew w _
  have jY : W.heap[Y]? = some (.cells (gpA g) 84 (0, 0)) := by rw [hW, ← hY]; exact heap_alloc_new w _
  have l0 : W.cell? ⟨Y, 0, none⟩ = some (.int .i64 g.sh) := cell_blk jY 0
  have HC := Lib.hid (compare_any W g.sh b)
  have HW := Lib.hid hW
  have HY := Lib.hid hY
  have HB := Lib.hid hb
  clear hW hY hb jY
  go_enter Try.func40, Try.ntmps40
  go_upto_region 1 with fail
  rw [← HW.out, HY.out]
  go_wp2_with fail
  refine HC.out.mono ?_
  rintro e w1 ⟨rfl, e1⟩
  subst e1
  go_wp2
  refine bodyPost_ret (v := .int .i64 (cmpI g.sh b)) (by simp [results, Try.results40, go_sem]) rfl ?_
  exact ⟨rfl, HB.out⟩
end
/-- The parts stand by their shards. -/
def Rising (L : List Gp) : Prop := ∀ i j (hi : i < L.length) (hj : j < L.length), i < j → L[i].sh < L[j].sh
/-- Where a shard's part is, or belongs. -/
structure Sought (L : List Gp) (t : Int) (i : Nat) : Prop where
  le : i ≤ L.length
  lo : ∀ k (hk : k < L.length), k < i → L[k].sh < t
  hi : ∀ k (hk : k < L.length), i ≤ k → t ≤ L[k].sh
section
variable {w : World}
set_option maxHeartbeats 4000000 in
set_option maxRecDepth 100000 in
theorem search_any {L : List Gp} {v : Value} (hL : Lr gpE 3 w L v) (hr : Rising L) (hz : L.length ≤ 900000) (t : Int) : Calls Try.prog 39 #[v, .int .i64 t, .func (.func 40) #[] #[]] w fun e w' => ∃ i, Sought L t i ∧ e = .returned (.tuple #[.int .i64 (i : Int), .bool (decide (∃ h : i < L.length, L[i].sh = t))]) ∧ Below w.heap.size w w' := by
  obtain ⟨ad, cap, rfl, _, z1, z2, hX⟩ := hL
  have hmx : (L.length : Int) ≤ 9223372036854775807 := by unfold maxLen at z2; omega
  have HX := Lib.hid hX
  have HR := Lib.hid hr
  have HZ := Lib.hid hz
  clear hX z1 z2 hr hz
  go_enter Try.func39, Try.ntmps39
  go_wp2
  go_loopw [9, 10] (fun iv jv wr => ∃ i j : Nat, i ≤ j ∧ j ≤ L.length ∧ iv = .int .i64 (i : Int) ∧ jv = .int .i64 (j : Int) ∧ (∀ k (hk : k < L.length), k < i → L[k].sh < t) ∧ (∀ k (hk : k < L.length), j ≤ k → t ≤ L[k].sh) ∧ Below w.heap.size w wr) (fun iv jv _ => (intOf jv).toNat - (intOf iv).toNat)
  case atStart => exact ⟨0, L.length, Nat.zero_le _, Nat.le_refl _, rfl, rfl, fun k _ hk => by omega, fun k hk hk' => by omega, Below.refl _ _⟩
  case round =>
    obtain ⟨i, j, hij, hjL, rfl, rfl, hlo, hhi, hb⟩ := hrel
    obtain ⟨V, rfl⟩ : ∃ V, V = wr := ⟨_, rfl⟩
    have HLO := Lib.hid hlo
    have HHI := Lib.hid hhi
    have HB := Lib.hid hb
    clear hlo hhi hb
    by_cases hlt : i < j
    · have k1 : (i : Int) < (j : Int) := by omega
      have hz := HZ.out
      obtain ⟨m, hm⟩ : ∃ m, m = (i + j) / 2 := ⟨_, rfl⟩
      have hmi : i ≤ m := by omega
      have hmj : m < j := by omega
      have hmL : m < L.length := by omega
      obtain ⟨b, o, cs', rfl, hbl, hE, _, hcell⟩ := HX.out m hmL
      cases hE
      have hld : (Instr.loadAt 84 (.pointer (some ⟨b, o + m * 3, none⟩))).run Try.prog V = .ok (.agg (gpA L[m])) V := run_loadAt_mid V b (o + m * 3) 84 (gpL L[m]) _ (fun j u hu => cell_on HB.out (hcell j u hu)) Try.underlying84 rfl size84
      have HLD := Lib.hid hld
      have HC := Lib.hid (cmp1_any V L[m] t)
      have HM := Lib.hid hm
      clear hcell hld hm
      have k2 : (m : Int) < (L.length : Int) := by omega
      have k3 : (0 : Int) ≤ m := by omega
      go_upto_region 5 with fail
      have e9 : ((i : Int) + (j : Int)) / 2 = (m : Int) := by have := HM.out; omega
      rw [e9]
      clear e9
      go_wp2_with (refine wpl_load _ rfl (by first | rfl | simp [Act.eval]) HLD.out ?_)
      refine HC.out.mono ?_
      rintro e w1 ⟨rfl, b1⟩
      have HB1 := Lib.hid (bgo HB.out b1)
      clear b1
      by_cases hq : L[m].sh < t
      · have HQ := Lib.hid hq
        have hcm : cmpI L[m].sh t = -1 := if_pos hq
        rw [hcm]
        clear hcm hq
        go_wp2
        go_roundw
        case rel =>
          refine ⟨m + 1, j, by omega, hjL, by go_num, rfl, fun k hk hkm => ?_, HHI.out, HB1.out⟩
          rcases Nat.lt_or_ge k m with q | q
          · exact Int.lt_trans (HR.out k m hk hmL q) HQ.out
          · obtain rfl : k = m := by omega
            exact HQ.out
        case measure => simp [intOf]; omega
      · have HQ := Lib.hid hq
        have hcm : ¬ cmpI L[m].sh t < 0 := by
          unfold cmpI
          rw [if_neg hq]
          split <;> omega
        generalize cmpI L[m].sh t = cm at hcm
        clear hq
        go_wp2
        go_roundw
        case rel =>
          refine ⟨i, m, hmi, by omega, rfl, rfl, HLO.out, fun k hk hkm => ?_, HB1.out⟩
          have := HQ.out
          rcases Nat.lt_or_ge m k with q | q
          · have := HR.out m k hmL hk q
            omega
          · obtain rfl : k = m := by omega
            omega
        case measure => simp [intOf]; omega
    · obtain rfl : i = j := by omega
      have k1 : ¬ (i : Int) < (i : Int) := by omega
      have HS : Hid (Sought L t i) := Lib.hid ⟨hjL, HLO.out, fun k hk hk' => HHI.out k hk hk'⟩
      by_cases hlt2 : i < L.length
      · have k2 : (i : Int) < (L.length : Int) := by omega
        have k3 : (0 : Int) ≤ i := by omega
        obtain ⟨b, o, cs', rfl, hbl, hE, _, hcell⟩ := HX.out i hlt2
        cases hE
        have c0 : V.cell? ⟨b, o + i * 3, none⟩ = some (.int .i64 L[i].sh) := cell_on HB.out (hcell 0 _ rfl)
        have c1 : V.cell? ⟨b, o + i * 3 + 1, none⟩ = some (.slice L[i].r.a L[i].r.n L[i].r.c) := cell_on HB.out (hcell 1 _ rfl)
        have c2 : V.cell? ⟨b, o + i * 3 + 2, none⟩ = some (.slice L[i].w.a L[i].w.n L[i].w.c) := cell_on HB.out (hcell 2 _ rfl)
        have HC := Lib.hid (cmp1_any V L[i] t)
        clear hcell
        go_wp2_with fail
        refine HC.out.mono ?_
        rintro e w1 ⟨rfl, b1⟩
        have HB1 := Lib.hid (bgo HB.out b1)
        clear b1 c0 c1 c2
        by_cases hq : L[i].sh = t
        · have HQ := Lib.hid hq
          have hcm : cmpI L[i].sh t = 0 := by
            unfold cmpI
            rw [if_neg (by omega), if_neg (by omega)]
          rw [hcm]
          clear hcm hq
          go_wp2
          refine bodyPost_ret (v := .tuple #[.int .i64 (i : Int), .bool true]) (by simp [results, Try.results39, go_sem]) rfl ?_
          exact ⟨i, HS.out, by rw [decide_eq_true ⟨hlt2, HQ.out⟩], HB1.out⟩
        · have HQ := Lib.hid hq
          have hcm : ¬ cmpI L[i].sh t = 0 := by
            unfold cmpI
            split
            · decide
            · rw [if_pos (by omega)]
              decide
          generalize cmpI L[i].sh t = cm at hcm
          clear hq
          go_wp2
          refine bodyPost_ret (v := .tuple #[.int .i64 (i : Int), .bool false]) (by simp [results, Try.results39, go_sem, hcm]) rfl ?_
          exact ⟨i, HS.out, by rw [decide_eq_false (fun ⟨h, e⟩ => HQ.out e)], HB1.out⟩
      · have k2 : ¬ (i : Int) < (L.length : Int) := by omega
        go_wp2
        refine bodyPost_ret (v := .tuple #[.int .i64 (i : Int), .bool false]) (by simp [results, Try.results39, go_sem]) rfl ?_
        exact ⟨i, HS.out, by rw [decide_eq_false (fun ⟨h, _⟩ => hlt2 h)], HB.out⟩
end
end Go.Proofs.Ytfokgalgdlajlaa
