/- The walks of remove, Take and Lose. -/
import Derived.Test.YtgmlfldjmnoecaaGc
namespace Go.Proofs.Ytgmlfldjmnoecaa
open Go.RowKit

section
variable {w w' w1 w2 : World} {A : Nat} {S T : Nat → Prop} {L : List Lt} {v : Value} {l : Lt}
set_option maxHeartbeats 2000000 in
set_option maxRecDepth 100000 in
theorem remove_any (h : Ps w A S L) {i : Nat} (hi : i < L.length) : Calls Try.prog 15 #[.pointer (some ⟨A, 0, none⟩), .int .i64 i] w fun e w' => e = .returned (.tuple #[]) ∧ Ps w' A S (L.eraseIdx i) ∧ Fr w w' S := by
  have hf := h.few
  obtain ⟨v, h2⟩ := h
  obtain ⟨g, cap, rfl⟩ := h2.form (by omega)
  have hcap : L.length ≤ cap ∧ cap ≤ maxLen := by
    obtain ⟨ad, c, e, a, b⟩ := h2.shape
    cases e
    exact ⟨a, b⟩
  have c0 := h2.c0
  have hne0 := h2.neA (k := g) rfl
  obtain ⟨cur, hg, hsz, htk⟩ : ∃ cur, w.heap[g]? = some (.cells cur 28 (0, 0)) ∧ cur.size = cap * 3 ∧ cur.toList.take (L.length * 3) = ltC L := by
    rcases h2.own.2 with ⟨hv, _⟩ | ⟨g', cap', cur, hv, _, hg, _, _, hs, ht⟩
    · cases hv
    · cases hv
      exact ⟨cur, hg, hs, ht⟩
  obtain ⟨j, hj⟩ : ∃ j, j = i + 1 := ⟨_, rfl⟩
  obtain ⟨m1, hm1⟩ : ∃ m1, m1 = L.length - 1 := ⟨_, rfl⟩
  have hwr : IntKind.i64.wrap ((i : Int) + 1) = (j : Int) := by
    rw [IntKind.wrap_i64]
    omega
  have hwr2 : IntKind.i64.wrap ((L.length : Int) - 1) = (m1 : Int) := by
    rw [IntKind.wrap_i64]
    omega
  have i0 : (0 : Int) ≤ i := by omega
  have i2 : (i : Int) < L.length := by omega
  have n1 : i ≤ L.length := by omega
  have n2 : ¬ cap = i := by omega
  have n3 : j ≤ L.length := by omega
  have n4 : m1 ≤ cap := by omega
  have n5 : m1 < L.length := by omega
  have n6 : (m1 : Int) < L.length := by omega
  have n7 : (0 : Int) ≤ m1 := by omega
  have hgl := blk_lt hg
  have hAl := blk_lt h2.ob
  have hcs : (ltC (L.drop j)).length = (L.length - j) * 3 := by rw [ltC_len, List.length_drop]
  have hmin : L.length - j = Nat.min (L.length - j) (L.length - i) := (Nat.min_eq_left (by omega)).symm
  have hpos : 0 < L.length - j → ∃ ad : Addr, (if cap = j then some (⟨g, 0, none⟩ : Addr) else some ⟨g, j * 3, none⟩) = some ad ∧ ∀ k u, (ltC (L.drop j))[k]? = some u → w.drew.cell? (ad.add k) = some u := by
    intro hp
    refine ⟨⟨g, j * 3, none⟩, if_neg (by omega), fun k u hu => ?_⟩
    have e := add_at g (j * 3) k
    have hk : k < (L.length - j) * 3 := by
      have := (List.getElem?_eq_some_iff.1 hu).1
      omega
    rw [e]
    have := h2.own.cellAt (j * 3 + k) (by omega)
    rw [show w.drew.cell? ⟨g, j * 3 + k, none⟩ = w.cell? ⟨g, j * 3 + k, none⟩ from rfl, this, ← hu, ← ltC_drop, List.getElem?_drop]
  have hfit : i * 3 + (ltC (L.drop j)).length ≤ cur.size := by rw [hcs, hsz]; omega
  have hg' : w.drew.heap[g]? = some (.cells cur 28 (0, 0)) := hg
  have hsl : (splice cur.toList (i * 3) (ltC (L.drop j))).length = cap * 3 := by
    rw [length_splice _ _ _ (by simpa using hfit)]
    simpa using hsz
  have hsize : (Try.prog.info? 28).map (·.size) = some 3 := by kernel_rfl
  have mv := moved L i hi cur.toList htk
  rw [← hj, ← hm1] at mv
  obtain ⟨new, hnew⟩ : ∃ new, new = splice cur.toList (i * 3) (ltC (L.drop j)) := ⟨_, rfl⟩
  rw [← hnew] at hsl mv
  obtain ⟨u0, hu0⟩ : ∃ u0, new[m1 * 3]? = some u0 := ⟨_, List.getElem?_eq_getElem (by omega)⟩
  obtain ⟨u1, hu1⟩ : ∃ u1, new[m1 * 3 + 1]? = some u1 := ⟨_, List.getElem?_eq_getElem (by omega)⟩
  obtain ⟨u2, hu2⟩ : ∃ u2, new[m1 * 3 + 2]? = some u2 := ⟨_, List.getElem?_eq_getElem (by omega)⟩
  have HJ := Lib.hid hj
  have HM := Lib.hid hm1
  have HN := Lib.hid hmin
  have HC := Lib.hid hcs
  have HP := Lib.hid hpos
  have HF := Lib.hid hfit
  have HZ := Lib.hid hsl
  have HT := Lib.hid mv
  have HW := Lib.hid hnew
  clear hj hm1 hmin hcs hpos hfit hsl mv hsz htk hnew
  go_enter Try.func15, Try.ntmps15
  go_wp2
  go_region_law (refine step_copyN rfl (.tmp 16) (.tmp 23) 26 26 rfl 28 3 Try.underlying26 hsize _ _ _ _ _ _ rfl rfl g (i * 3) cur 28 hg' (ltC (L.drop j)) (L.length - j) HN.out HC.out (fun q => ⟨rfl, HP.out q⟩) HF.out (ltC_one _) ?_; intro w3 hrow3 hf3)
  all_goals
    have hrow := hrow3.out
    rw [← HW.out] at hrow
    have hA3 : w3.heap[A]? = some (.cells #[.slice (some ⟨g, 0, none⟩) L.length cap] 44 (0, 0)) := (hf3.block A hAl hne0).trans h2.ob
    have c3 : w3.cell? ⟨A, 0, none⟩ = some (.slice (some ⟨g, 0, none⟩) L.length cap) := by rw [cell_blk hA3]; rfl
    have f3 : w3.frozen? ⟨A, 0, none⟩ = false := frozen_blk hA3 0
    have r0 : w3.cell? ⟨g, m1 * 3, none⟩ = some u0 := by rw [cell_blk hrow]; simpa using hu0
    have r1 : w3.cell? ⟨g, m1 * 3 + 1, none⟩ = some u1 := by rw [cell_blk hrow]; simpa using hu1
    have r2 : w3.cell? ⟨g, m1 * 3 + 2, none⟩ = some u2 := by rw [cell_blk hrow]; simpa using hu2
    have q0 : w3.frozen? ⟨g, m1 * 3, none⟩ = false := frozen_blk hrow _
    have q1 : w3.frozen? ⟨g, m1 * 3 + 1, none⟩ = false := frozen_blk hrow _
    have q2 : w3.frozen? ⟨g, m1 * 3 + 2, none⟩ = false := frozen_blk hrow _
    obtain ⟨W4, hW4⟩ : ∃ W4, W4 = ((w3.setCell ⟨g, m1 * 3, none⟩ (.int .i64 0)).setCell ⟨g, m1 * 3 + 1, none⟩ (.int .i64 0)).setCell ⟨g, m1 * 3 + 2, none⟩ (.string ⟨#[]⟩) := ⟨_, rfl⟩
    have hA4 : W4.heap[A]? = some (.cells #[.slice (some ⟨g, 0, none⟩) L.length cap] 44 (0, 0)) := by rw [hW4]; exact (set_other _ hne0).trans ((set_other _ hne0).trans ((set_other _ hne0).trans hA3))
    have hg4 := set_blk (i := m1 * 3 + 2) (set_blk (i := m1 * 3 + 1) (set_blk (i := m1 * 3) hrow (.int .i64 0)) (.int .i64 0)) (.string ⟨#[]⟩)
    rw [← hW4] at hg4
    have c4 : W4.cell? ⟨A, 0, none⟩ = some (.slice (some ⟨g, 0, none⟩) L.length cap) := by rw [cell_blk hA4]; rfl
    have f4 : W4.frozen? ⟨A, 0, none⟩ = false := frozen_blk hA4 0
    have k4 : Fr w W4 S := by
      have k3 : Fr w w3 (fun k => k = g) := ⟨hf3.os, hf3.tape, hf3.output, hf3.size, hf3.block⟩
      have kS : Fr w w3 S := k3.mono (fun q hq => by rw [hq]; exact h2.cov g rfl)
      rw [hW4]
      exact Fr.set (Fr.set (Fr.set kS (.inl (h2.cov g rfl)) _) (.inl (h2.cov g rfl)) _) (.inl (h2.cov g rfl)) _
    have HW4 := Lib.hid hW4
    have HG4 := Lib.hid hg4
    clear hW4 hg4 hrow hrow3 hu0 hu1 hu2 HP HN HF
    generalize (if cap = j then some (⟨g, 0, none⟩ : Addr) else some ⟨g, j * 3, none⟩) = sp
    go_wp2
    rw [← HW4.out]
    go_end0
    have hel : (L.eraseIdx i).length = m1 := by rw [List.length_eraseIdx_of_lt hi, HM.out]
    have hA5 : (W4.setCell ⟨A, 0, none⟩ (.slice (some ⟨g, 0, none⟩) m1 cap)).heap[A]? = some (.cells #[.slice (some ⟨g, 0, none⟩) m1 cap] 44 (0, 0)) := by
      have := set_blk (i := 0) hA4 (.slice (some ⟨g, 0, none⟩) m1 cap)
      simpa using this
    have hg5 := (set_other (a := ⟨A, 0, none⟩) (Value.slice (some ⟨g, 0, none⟩) m1 cap) (fun q => hne0 q.symm)).trans HG4.out
    have hfr : Fr w (W4.setCell ⟨A, 0, none⟩ (.slice (some ⟨g, 0, none⟩) m1 cap)) S := Fr.set k4 (.inl h2.covA) _
    refine ⟨rfl, ⟨.slice (some ⟨g, 0, none⟩) m1 cap, hA5, ⟨ltC_len _, .inr ⟨g, cap, _, by rw [hel], Nat.zero_le _, hg5, by rw [hel]; exact n4, hcap.2, ?_, ?_⟩⟩, h2.covA, h2.cov, fun k hk => Nat.lt_of_lt_of_le (h2.lt k hk) hfr.size, by rw [hel]; omega⟩, hfr⟩
    · simpa using HZ.out
    · rw [hel, ← HT.out]
      have hl := HZ.out
      simp only [Array.toList_setIfInBounds]
      rw [List.take_set_of_le (by omega), List.take_set_of_le (by omega), List.take_set_of_le (by omega)]

end
end Go.Proofs.Ytgmlfldjmnoecaa
