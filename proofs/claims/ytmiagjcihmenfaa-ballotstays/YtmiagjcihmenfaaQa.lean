/- The walk of slices.Sort at a few ints. -/
import Derived.Test.YtmiagjcihmenfaaPa
namespace Go.Proofs.Ytmiagjcihmenfaa
open Go.RowKit

theorem isNaN_any (w : World) (x : Int) : Calls Try.prog 105 #[.int .i64 x] w fun e w' => e = .returned (.bool false) ∧ w' = w := by
  go_enter Try.func105, Try.ntmps105
  go_wp2
  go_ret
  exact ⟨by simp, rfl⟩
theorem less_any (w : World) (x y : Int) : Calls Try.prog 95 #[.int .i64 x, .int .i64 y] w fun e w' => e = .returned (.bool (decide (x < y))) ∧ w' = w := by
  have h1 := isNaN_any w x
  go_enter Try.func95, Try.ntmps95
  go_wp2_with fail
  refine h1.mono ?_
  rintro e w' ⟨rfl, rfl⟩
  clear h1
  go_wp2
  go_ret
  exact ⟨by simp, rfl⟩
set_option maxRecDepth 100000 in
theorem len64_any (w : World) (n : Nat) (hn : n ≤ 5) : Calls Try.prog 99 #[.int .u64 n] w fun e w' => ∃ k, e = .returned (.int .i64 k) ∧ w' = w := by
  have : n = 0 ∨ n = 1 ∨ n = 2 ∨ n = 3 ∨ n = 4 ∨ n = 5 := by omega
  rcases this with rfl | rfl | rfl | rfl | rfl | rfl <;>
  · go_enter Try.func99, Try.ntmps99
    go_wp2
    go_ret
    exact ⟨_, rfl, rfl⟩
/-- The numbers L lie at g. -/
def Ia (w : World) (g : Nat) (L : List Int) : Prop := ∀ k (h : k < L.length), w.cell? ⟨g, k, none⟩ = some (.int .i64 L[k]) ∧ w.frozen? ⟨g, k, none⟩ = false
/-- Sorted up to i but for place j. -/
def Sb (L : List Int) (i j : Nat) : Prop := ∀ p q, p < q → q ≤ i → q ≠ j → L.getD p 0 ≤ L.getD q 0
def swp (L : List Int) (j : Nat) : List Int := (L.set (j + 1) (L.getD j 0)).set j (L.getD (j + 1) 0)
theorem gd (L : List Int) (p : Nat) (h : p < L.length) : L.getD p 0 = L[p] := by simp [List.getD, h]
theorem swp_len (L : List Int) (j : Nat) : (swp L j).length = L.length := by simp [swp]
theorem swp_get (L : List Int) (j p : Nat) (hj : j + 1 < L.length) : (swp L j).getD p 0 = if p = j then L.getD (j + 1) 0 else if p = j + 1 then L.getD j 0 else L.getD p 0 := by
  unfold swp
  simp only [List.getD_eq_getElem?_getD, List.getElem?_set, List.length_set]
  by_cases h1 : p = j
  · subst h1
    simp [show p < L.length by omega]
  · by_cases h2 : p = j + 1
    · subst h2
      simp [hj]
    · simp [h1, h2, Ne.symm h1, Ne.symm h2]
theorem swp_perm (L : List Int) (j : Nat) (hj : j + 1 < L.length) : (swp L j).Perm L := by
  have e : L = L.take j ++ (L.getD j 0 :: L.getD (j + 1) 0 :: L.drop (j + 2)) := by
    have h1 : L.drop j = L[j] :: L.drop (j + 1) := List.drop_eq_getElem_cons (by omega)
    have h2 : L.drop (j + 1) = L[j + 1] :: L.drop (j + 1 + 1) := List.drop_eq_getElem_cons hj
    rw [gd L j (by omega), gd L (j + 1) hj, ← h2, ← h1, List.take_append_drop]
  have e2 : swp L j = L.take j ++ (L.getD (j + 1) 0 :: L.getD j 0 :: L.drop (j + 2)) := by
    apply List.ext_getElem?
    intro p
    have hl : (L.take j).length = j := by simp; omega
    unfold swp
    simp only [List.getElem?_set, List.length_set]
    by_cases h1 : p = j
    · subst h1
      rw [List.getElem?_append_right (by omega), hl]
      simp [show p < L.length by omega]
    · by_cases h2 : p = j + 1
      · subst h2
        rw [List.getElem?_append_right (by omega), hl, show j + 1 - j = 1 by omega]
        simp [hj]
      · rw [if_neg (fun q => h1 q.symm), if_neg (fun q => h2 q.symm)]
        by_cases h3 : p < j
        · rw [List.getElem?_append_left (by omega), List.getElem?_take, if_pos h3]
        · rw [List.getElem?_append_right (by omega), hl, show p - j = (p - (j + 2)) + 2 by omega]
          simp
          congr 1
          omega
  rw [e2]
  exact ((List.Perm.swap _ _ _).append_left (L.take j)).trans (List.Perm.of_eq e.symm)
theorem Ia.swap {w : World} {g j : Nat} {L : List Int} (h : Ia w g L) (hj : j + 1 < L.length) : Ia ((w.setCell ⟨g, j + 1, none⟩ (.int .i64 (L.getD j 0))).setCell ⟨g, j, none⟩ (.int .i64 (L.getD (j + 1) 0))) g (swp L j) := by
  intro k hk
  rw [swp_len] at hk
  have hg := swp_get L j k hj
  have e : (swp L j)[k]'(by rw [swp_len]; exact hk) = (swp L j).getD k 0 := (gd _ k (by rw [swp_len]; exact hk)).symm
  have hs : ∀ k, k < L.length → (w.cell? ⟨g, k, none⟩).isSome = true := fun k hk => by rw [(h k hk).1]; rfl
  refine ⟨?_, by rw [World.frozen?_setCell, World.frozen?_setCell]; exact (h k hk).2⟩
  rw [e, hg]
  have hs1 : ((w.setCell ⟨g, j + 1, none⟩ (.int .i64 (L.getD j 0))).cell? ⟨g, j, none⟩).isSome = true := by
    rw [World.cell?_setCell_other _ _ _ _ (by simp)]
    exact hs j (by omega)
  by_cases h1 : k = j
  · subst h1
    rw [if_pos rfl]
    exact World.cell?_setCell_same' _ _ _ hs1
  · rw [if_neg h1, World.cell?_setCell_other _ _ _ _ (fun q => h1 (by cases q; rfl))]
    by_cases h2 : k = j + 1
    · subst h2
      rw [if_pos rfl]
      exact World.cell?_setCell_same' _ _ _ (hs _ hj)
    · rw [if_neg h2, World.cell?_setCell_other _ _ _ _ (fun q => h2 (by cases q; rfl)), gd L k hk]
      exact (h k hk).1
theorem Sb.swap {L : List Int} {i j : Nat} (h : Sb L i (j + 1)) (hl : L.getD (j + 1) 0 < L.getD j 0) (hj : j + 1 < L.length) (hi : j + 1 ≤ i) : Sb (swp L j) i j := by
  intro p q hpq hqi hqj
  rw [swp_get L j p hj]
  by_cases q1 : q = j + 1
  · subst q1
    rw [swp_get L j (j + 1) hj, if_neg (show ¬ j + 1 = j by omega), if_pos (rfl : j + 1 = j + 1)]
    by_cases p1 : p = j
    · rw [if_pos p1]; omega
    · rw [if_neg p1, if_neg (show ¬ p = j + 1 by omega)]
      exact h p j (by omega) (by omega) (by omega)
  · rw [swp_get L j q hj, if_neg (show ¬ q = j from hqj), if_neg q1]
    by_cases p1 : p = j
    · rw [if_pos p1]
      exact h (j + 1) q (by omega) hqi (by omega)
    · rw [if_neg p1]
      by_cases p2 : p = j + 1
      · rw [if_pos p2]
        exact h j q (by omega) hqi q1
      · rw [if_neg p2]
        exact h p q hpq hqi q1
theorem Sb.stop {L : List Int} {i j : Nat} (h : Sb L i (j + 1)) (hl : L.getD j 0 ≤ L.getD (j + 1) 0) : ∀ p q, p < q → q ≤ i → L.getD p 0 ≤ L.getD q 0 := by
  intro p q hpq hqi
  by_cases q1 : q = j + 1
  · subst q1
    by_cases p1 : p = j
    · rw [p1]; exact hl
    · exact Int.le_trans (h p j (by omega) (by omega) (by omega)) hl
  · exact h p q hpq hqi q1
theorem Sb.zero {L : List Int} {i : Nat} (h : Sb L i 0) : ∀ p q, p < q → q ≤ i → L.getD p 0 ≤ L.getD q 0 := fun p q hpq hqi => h p q hpq hqi (by omega)
def Si (w wr : World) (g : Nat) (L0 : List Int) (iv : Value) : Prop := ∃ (i : Nat) (L : List Int), 1 ≤ i ∧ i ≤ L0.length ∧ iv = .int .i64 (i : Nat) ∧ L.Perm L0 ∧ L.length = L0.length ∧ Ia wr g L ∧ (∀ p q, p < q → q < i → L.getD p 0 ≤ L.getD q 0) ∧ Fr w wr (fun k => k = g)
set_option maxHeartbeats 1000000 in
set_option maxRecDepth 100000 in
theorem ins_any {w : World} {g cap : Nat} {L0 : List Int} (h : Ia w g L0) (hn : 1 ≤ L0.length) (h5 : L0.length ≤ 5) : Calls Try.prog 89 #[.slice (some ⟨g, 0, none⟩) L0.length cap, .int .i64 0, .int .i64 L0.length] w fun e w' => e = .returned (.tuple #[]) ∧ ∃ L, L.Perm L0 ∧ L.length = L0.length ∧ Ia w' g L ∧ (∀ p q, p < q → q < L0.length → L.getD p 0 ≤ L.getD q 0) ∧ Fr w w' (fun k => k = g) := by
  have HH := Lib.hid h
  clear h
  go_enter Try.func89, Try.ntmps89
  go_wp2
  go_loopw [6] (fun iv wr => Si w wr g L0 iv) (fun iv _ => L0.length - (intOf iv).toNat)
  case atStart => exact ⟨1, L0, Nat.le_refl _, hn, rfl, List.Perm.refl _, rfl, HH.out, fun p q hp hq => by omega, Fr.refl _ _⟩
  case round =>
    obtain ⟨i, L, hi1, hil, rfl, hp, hl, hI, hS, hF⟩ := hrel
    have i1 : (1 : Int) ≤ i := by omega
    by_cases hgo : i < L0.length
    · have g1 : (i : Int) < L0.length := by omega
      have HS : Hid (Sb L i i ∧ Ia wr g L ∧ L.Perm L0 ∧ L.length = L0.length ∧ Fr w wr (fun k => k = g)) := ⟨fun p q a b c => hS p q a (by omega), hI, hp, hl, hF⟩
      clear hI hS hp hF hl
      go_wp2
      go_loopw [7] (fun jv wr2 => ∃ (j : Nat) (L : List Int), j ≤ i ∧ jv = .int .i64 (j : Nat) ∧ Sb L i j ∧ Ia wr2 g L ∧ L.Perm L0 ∧ L.length = L0.length ∧ Fr w wr2 (fun k => k = g)) (fun jv _ => (intOf jv).toNat)
      case atStart => exact ⟨i, L, Nat.le_refl _, rfl, HS.out⟩
      case round =>
        clear HS
        obtain ⟨j, L, hji, rfl, hS, hI, hp, hl, hF⟩ := hrel
        cases j with
        | zero =>
          have HX : Hid (∀ n, Si w (wr.drewN n) g L0 (.int .i64 ((i : Int) + 1))) := fun n => ⟨i + 1, L, by omega, by omega, by simp, hp, hl, hI, fun p q a b => hS.zero p q a (by omega), hF.drewN n⟩
          clear hS hI hp hl hF
          have hd : decide ((0 : Int) < ((0 : Nat) : Int)) = false := rfl
          go_wp2
          go_quiet (fail)
          go_wp2
          exact ⟨HX.out nq, by simp [intOf]; omega⟩
        | succ j =>
          obtain ⟨x, hx⟩ : ∃ x, L.getD (j + 1) 0 = x := ⟨_, rfl⟩
          obtain ⟨y, hy⟩ : ∃ y, L.getD j 0 = y := ⟨_, rfl⟩
          have c1 : wr.cell? ⟨g, j + 1, none⟩ = some (.int .i64 x) := by rw [← hx, gd L (j + 1) (by omega)]; exact (hI (j + 1) (by omega)).1
          have c0 : wr.cell? ⟨g, j, none⟩ = some (.int .i64 y) := by rw [← hy, gd L j (by omega)]; exact (hI j (by omega)).1
          have f1 : wr.frozen? ⟨g, j + 1, none⟩ = false := (hI (j + 1) (by omega)).2
          have f0 : wr.frozen? ⟨g, j, none⟩ = false := (hI j (by omega)).2
          have hless : ∀ n, Calls Try.prog 95 #[.int .i64 x, .int .i64 y] (wr.drewN n) fun e w' => e = .returned (.bool (decide (x < y))) ∧ ∃ k, w' = (wr.drewN n).drewN k := fun n => by
            refine (less_any (wr.drewN n) x y).mono ?_
            rintro e w' ⟨rfl, rfl⟩
            exact ⟨rfl, 0, rfl⟩
          have hjl : j + 1 < L0.length := by omega
          have k0 : (0 : Int) ≤ ((j + 1 : Nat) : Int) := by omega
          have k1 : ((j + 1 : Nat) : Int) < L0.length := by omega
          have k2 : (0 : Int) ≤ (j : Int) := by omega
          have k3 : (j : Int) < L0.length := by omega
          have hd : decide ((0 : Int) < ((j + 1 : Nat) : Int)) = true := decide_eq_true (by omega)
          have hw : IntKind.i64.wrap (((j + 1 : Nat) : Int) - 1) = (j : Int) := by rw [IntKind.wrap_i64]; omega
          by_cases hxy : x < y
          · have HX : Hid (∀ n, Sb (swp L j) i j ∧ Ia (((wr.drewN n).setCell ⟨g, j + 1, none⟩ (.int .i64 y)).setCell ⟨g, j, none⟩ (.int .i64 x)) g (swp L j) ∧ (swp L j).Perm L0 ∧ (swp L j).length = L0.length ∧ Fr w (((wr.drewN n).setCell ⟨g, j + 1, none⟩ (.int .i64 y)).setCell ⟨g, j, none⟩ (.int .i64 x)) (fun k => k = g)) := by
              intro n
              have hsw := Ia.swap (w := wr.drewN n) (j := j) hI (by omega)
              rw [hx, hy] at hsw
              exact ⟨hS.swap (by omega) (by omega) (by omega), hsw, (swp_perm L j (by omega)).trans hp, (swp_len L j).trans hl, Fr.set (a := ⟨g, j, none⟩) (Fr.set (a := ⟨g, j + 1, none⟩) (hF.drewN n) (Or.inl rfl) _) (Or.inl rfl) _⟩
            have hdx : decide (x < y) = true := by simpa using hxy
            rw [hdx] at hless
            clear hS hI hp hl hF hx hy hxy hdx
            go_wp2
            go_quiet ((go_at_call 95; exact Calls.quiet_of (hless _)))
            go_wp2
            go_region
            go_wp2
            exact ⟨⟨j, swp L j, by omega, rfl, HX.out (nq + 1)⟩, by simp only [intOf]; omega⟩
          · have HX : Hid (∀ n, Si w (wr.drewN n) g L0 (.int .i64 ((i : Int) + 1))) := fun n => ⟨i + 1, L, by omega, by omega, by simp, hp, hl, hI, fun p q a b => hS.stop (by omega) p q a (by omega), hF.drewN n⟩
            have hdx : decide (x < y) = false := by simpa using hxy
            rw [hdx] at hless
            clear hS hI hp hl hF hx hy hxy hdx
            go_wp2
            go_quiet ((go_at_call 95; exact Calls.quiet_of (hless _)))
            go_wp2
            exact ⟨HX.out nq, by simp [intOf]; omega⟩
    · have g1 : ¬ (i : Int) < L0.length := by omega
      have HS : Hid (Ia wr g L ∧ L.Perm L0 ∧ L.length = L0.length ∧ (∀ p q, p < q → q < L0.length → L.getD p 0 ≤ L.getD q 0) ∧ Fr w wr (fun k => k = g)) := ⟨hI, hp, hl, fun p q a b => hS p q a (by omega), hF⟩
      clear hI hS hp hF hl
      go_wp2
      go_end0
      obtain ⟨a1, a2, a3, a4, a5⟩ := HS.out
      exact ⟨rfl, L, a2, a3, a1, a4, a5⟩
theorem len_any (w : World) (n : Nat) (hn : n ≤ 5) : Calls Try.prog 88 #[.int .u64 n] w fun e w' => ∃ k, e = .returned (.int .i64 k) ∧ w' = w := by
  have h1 := len64_any w n hn
  go_enter Try.func88, Try.ntmps88
  go_wp2_with fail
  refine h1.mono ?_
  rintro e w' ⟨k, rfl, rfl⟩
  clear h1
  go_wp2
  go_ret
  exact ⟨k, rfl, rfl⟩
set_option maxHeartbeats 1000000 in
set_option maxRecDepth 100000 in
theorem pdq_any {w : World} {g cap : Nat} {L0 : List Int} (h : Ia w g L0) (hn : 1 ≤ L0.length) (h5 : L0.length ≤ 5) (k : Int) : Calls Try.prog 87 #[.slice (some ⟨g, 0, none⟩) L0.length cap, .int .i64 0, .int .i64 L0.length, .int .i64 k] w fun e w' => e = .returned (.tuple #[]) ∧ ∃ L, L.Perm L0 ∧ L.length = L0.length ∧ Ia w' g L ∧ (∀ p q, p < q → q < L0.length → L.getD p 0 ≤ L.getD q 0) ∧ Fr w w' (fun k => k = g) := by
  have hi := ins_any (cap := cap) h hn h5
  clear h
  go_enter Try.func87, Try.ntmps87
  go_wp2
  go_loopw [1, 2, 3, 8, 9] (fun a b l x y wr => a = .int .i64 0 ∧ b = .int .i64 L0.length ∧ wr = w) (fun _ _ _ _ _ _ => 0)
  case atStart => exact ⟨rfl, rfl, rfl⟩
  case round =>
    obtain ⟨rfl, rfl, rfl⟩ := hrel
    have h12 : (L0.length : Int) ≤ 12 := by omega
    go_wp2_with fail
    refine hi.mono ?_
    rintro e w' ⟨rfl, hL⟩
    have HL := Lib.hid hL
    clear hi hL
    go_wp2
    refine bodyPost_ret (results_none rfl _ _ _) rfl ?_
    exact ⟨rfl, HL.out⟩
theorem sort_any {w : World} {g cap : Nat} {L0 : List Int} (h : Ia w g L0) (hn : 1 ≤ L0.length) (h5 : L0.length ≤ 5) : Calls Try.prog 86 #[.slice (some ⟨g, 0, none⟩) L0.length cap] w fun e w' => e = .returned (.tuple #[]) ∧ ∃ L, L.Perm L0 ∧ L.length = L0.length ∧ Ia w' g L ∧ (∀ p q, p < q → q < L0.length → L.getD p 0 ≤ L.getD q 0) ∧ Fr w w' (fun k => k = g) := by
  have hp := fun k => pdq_any (cap := cap) h hn h5 k
  have hl := len_any w L0.length h5
  clear h
  go_enter Try.func86, Try.ntmps86
  go_wp2_with fail
  refine hl.mono ?_
  rintro e w' ⟨k, rfl, rfl⟩
  clear hl
  go_wp2_with fail
  refine (hp k).mono ?_
  rintro e w' ⟨rfl, hL⟩
  have HL := Lib.hid hL
  clear hp hL
  go_wp2
  go_end0
  exact ⟨rfl, HL.out⟩
end Go.Proofs.Ytmiagjcihmenfaa
