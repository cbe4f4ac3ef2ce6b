/- The walk of Tick. -/
import Derived.Test.YtjnkfnohnibgiaaCl
namespace Go.Proofs.Ytjnkfnohnibgiaa
open Go.RowKit

section
variable {w w' : World} {A : Nat} {T : List Int} {most : Int} {S : Nat → Prop}
theorem tick_nil (i d : Int) (w : World) : Calls Try.prog 10 #[.pointer none, .int .i64 i, .int .i64 d] w fun e w' => e = .returned (.int .i64 0) ∧ w' = w := by
  go_enter Try.func10, Try.ntmps10
  go_wp2_with fail
  refine (has_nil i w).mono ?_
  rintro e w1 ⟨rfl, rfl⟩
  go_wp2
  go_ret
  exact ⟨rfl, rfl⟩
theorem tick_small (h : Cs w A T most) {k : Nat} (hk : k < T.length) {d : Int} (hd : d < 1) : Calls Try.prog 10 #[.pointer (some ⟨A, 0, none⟩), .int .i64 k, .int .i64 d] w fun e w' => e = .returned (.int .i64 0) ∧ w' = w := by
  have hh := has_any h k
  rw [hasC_nat hk] at hh
  go_enter Try.func10, Try.ntmps10
  go_wp2_with fail
  refine hh.mono ?_
  rintro e w1 ⟨rfl, rfl⟩
  go_wp2
  go_ret
  exact ⟨rfl, rfl⟩
theorem tick_none (h : Cs w A T most) {i : Int} (hi : i < 0 ∨ (T.length : Int) ≤ i) (d : Int) : Calls Try.prog 10 #[.pointer (some ⟨A, 0, none⟩), .int .i64 i, .int .i64 d] w fun e w' => e = .returned (.int .i64 0) ∧ w' = w := by
  have hh := has_any h i
  rw [hasC_not hi] at hh
  go_enter Try.func10, Try.ntmps10
  go_wp2_with fail
  refine hh.mono ?_
  rintro e w1 ⟨rfl, rfl⟩
  go_wp2
  go_ret
  exact ⟨rfl, rfl⟩
theorem arr_put {T : List Int} {C : Array Value} {k : Nat} {x : Int} (hk : k < T.length) (hx : T[k] = x) (h : ∀ k (h : k < T.length), C[k]? = some (.int .i64 T[k])) (hs : k < C.size) (d : Int) (j : Nat) (hj : j < (putC T k d).length) :
    (C.setIfInBounds k (.int .i64 (x + d)))[j]? = some (.int .i64 (putC T k d)[j]) := by
  have e := putC_nat hk d
  have hj' : j < T.length := by rwa [putC_len] at hj
  have e2 : (putC T k d)[j]? = (T.set k (T[k] + d))[j]? := by rw [e]
  rw [List.getElem?_eq_getElem hj] at e2
  by_cases hkj : k = j
  · subst hkj
    rw [List.getElem?_set_self hk] at e2
    rw [Array.getElem?_setIfInBounds_self_of_lt hs, Option.some.inj e2, hx]
  · rw [List.getElem?_set_ne hkj, List.getElem?_eq_getElem hj'] at e2
    rw [Array.getElem?_setIfInBounds_ne hkj, h j hj', Option.some.inj e2]
set_option maxHeartbeats 4000000 in
set_option maxRecDepth 100000 in
theorem tick_yes (h : Cs w A T most) {k : Nat} (hk : k < T.length) {d : Int} (hd : ¬ d < 1) (hd2 : d ≤ 9223372036854775807) :
    Calls Try.prog 10 #[.pointer (some ⟨A, 0, none⟩), .int .i64 k, .int .i64 d] w fun e w' => e = .returned (.int .i64 (stepC T most k d)) ∧ Cs w' A (putC T k (stepC T most k d)) most ∧ Fr w w' (fun b => b = A) := by
  have hh := has_any h k
  rw [hasC_nat hk] at hh
  have hok := h.ok
  have h5 := hok.len5
  have hm1 := hok.m1
  have hm2 := hok.m2
  obtain ⟨hc, c5, c6⟩ := h.cells
  obtain ⟨r1, r2, r3, r4, r5, r6⟩ := hok.room hk
  have hput := hok.put k d
  have hst := stepC_nat hk most (d := d) (by omega)
  have cx := hc k hk
  obtain ⟨x, hx⟩ : ∃ x, T[k] = x := ⟨_, rfl⟩
  rw [hx] at cx r1 r2 r3 r4 r5 r6 hst
  have i0 : (0 : Int) ≤ k := by omega
  have i1 : (k : Int) < 5 := by omega
  have i2 : k < 5 := by omega
  go_enter Try.func10, Try.ntmps10
  go_wp2_with fail
  refine hh.mono ?_
  rintro e w1 ⟨rfl, rfl⟩
  obtain ⟨m, hm⟩ : ∃ m, leastC T x = m := ⟨_, rfl⟩
  rw [hm] at r1 r2 r3 r6 hst
  have hl : ∀ n, Calls Try.prog 13 #[.pointer (some ⟨A, 0, none⟩)] (w1.drewN n) fun e w' => e = .returned (.int .i64 m) ∧ ∃ l, w' = w1.drewN l := fun n =>
    (least_any (w := w1.drewN n) (T := T) (most := most) (h.on (w' := w1.drewN n) ⟨rfl, rfl, rfl, Nat.le_refl _, fun _ _ => rfl⟩) hk (m := m) (by rw [hx]; exact hm)).mono fun _ _ q => ⟨q.1, n + 1, q.2⟩
  obtain ⟨p, hp⟩ : ∃ p, m + most = p := ⟨_, rfl⟩
  obtain ⟨y, hy⟩ : ∃ y, p - x = y := ⟨_, rfl⟩
  have w5 : IntKind.i64.wrap (m + most) = p := by rw [IntKind.wrap_i64]; omega
  have w6 : IntKind.i64.wrap (p - x) = y := by rw [IntKind.wrap_i64]; omega
  obtain ⟨g, hg⟩ : ∃ g, (if y < d then y else d) = g := ⟨_, rfl⟩
  have g0 : 0 ≤ g ∧ g ≤ 1073741824 ∧ min d (most - (x - m)) = g := by
    rw [← hg]
    split <;> omega
  rw [g0.2.2] at hst
  obtain ⟨g0, g1, _⟩ := g0
  have HT := Lib.hid hst
  have HP := Lib.hid hput
  have HX := Lib.hid hx
  have HH := Lib.hid h
  clear hst hput hx hc hh h c5 hok hm hp hy r1 r2 r3 r6
  go_wp2
  go_quiet ((go_at_call 13; exact hl _))
  clear hl w5 w6 hg
  obtain ⟨V, hV⟩ : ∃ V, V = w1.drewN nq := ⟨_, rfl⟩
  rw [← hV]
  have ex : V.cell? ⟨A, k, none⟩ = some (.int .i64 x) := by rw [hV]; exact cx
  have hAV : ∃ C : Array Value, V.heap[A]? = some (.cells C 38 (0, 0)) ∧ C.size = 7 ∧ (∀ k (h : k < T.length), C[k]? = some (.int .i64 T[k])) ∧ C[5]? = some (.int .i64 T.length) ∧ C[6]? = some (.int .i64 most) := by
    obtain ⟨C, q1, q2, q3, q4, q5, _⟩ := HH.out
    exact ⟨C, by rw [hV]; exact q1, q2, q3, q4, q5⟩
  obtain ⟨C, q1, q2, q3, q4, q5⟩ := hAV
  have fz : V.frozen? ⟨A, k, none⟩ = false := frozen_blk q1 k
  have hfV : Fr w1 V (fun b => b = A) := by rw [hV]; exact ⟨rfl, rfl, rfl, Nat.le_refl _, fun _ _ _ => rfl⟩
  have HQ := Lib.hid q1
  have HV := Lib.hid hV
  have HQ2 := Lib.hid q2
  have HQ3 := Lib.hid q3
  have HQ4 := Lib.hid q4
  have HQ5 := Lib.hid q5
  have HFV := Lib.hid hfV
  clear q1 q2 q3 q4 q5 hV hfV cx c6
  by_cases hbig : 1125899906842624 < x + g
  · go_wp2
    go_ret
    have he := HT.out
    rw [if_pos hbig] at he
    rw [he, putC_zero]
    exact ⟨rfl, HH.out.stays (S := fun _ => False) ⟨HFV.out.os, HFV.out.tape, HFV.out.output, HFV.out.size, fun b hb _ => by rw [HV.out]; rfl⟩ (fun q => q), HFV.out⟩
  · go_wp2
    go_region
    all_goals
      go_wp2
      go_ret
      have he := HT.out
      rw [if_neg (by omega)] at he
      have hp := HP.out
      rw [he] at hp ⊢
      have hset := set_blk (i := k) (w := V) HQ.out (.int .i64 (x + g))
      refine ⟨rfl, ⟨_, hset, by simpa using HQ2.out, fun j hj => ?_, ?_, ?_, hp⟩, (Fr.set (a := ⟨A, k, none⟩) HFV.out (.inl rfl) _).drewN 1⟩
      · exact (arr_put hk HX.out HQ3.out (by have := HQ2.out; omega) g j hj)
      · rw [putC_len, Array.getElem?_setIfInBounds_ne (by omega)]
        exact HQ4.out
      · rw [Array.getElem?_setIfInBounds_ne (by omega)]
        exact HQ5.out
theorem tick_any (h : Cs w A T most) (i : Int) {d : Int} (hd2 : d ≤ 9223372036854775807) :
    Calls Try.prog 10 #[.pointer (some ⟨A, 0, none⟩), .int .i64 i, .int .i64 d] w fun e w' => e = .returned (.int .i64 (stepC T most i d)) ∧ Cs w' A (putC T i (stepC T most i d)) most ∧ Fr w w' (fun b => b = A) := by
  rcases hasC_split T i with ⟨k, rfl, hk⟩ | hi
  · by_cases hd : d < 1
    · rw [stepC_small T most _ hd, putC_zero]
      refine (tick_small h hk hd).mono ?_
      rintro e w' ⟨rfl, rfl⟩
      exact ⟨rfl, h, Fr.refl _ _⟩
    · exact tick_yes h hk hd hd2
  · rw [stepC_not hi, putC_zero]
    refine (tick_none h hi d).mono ?_
    rintro e w' ⟨rfl, rfl⟩
    exact ⟨rfl, h, Fr.refl _ _⟩
end
end Go.Proofs.Ytjnkfnohnibgiaa
