/- The walk of the statement PostOrder. -/
import Derived.Test.YtgmlfldjmnoecaaGj
namespace Go.Proofs.Ytgmlfldjmnoecaa
open Go.RowKit

theorem rem_q (z : Int) {n : Nat} (h : 0 < n) (h3 : n ≤ 300) : ∃ q : Nat, q < n ∧ wrap64 ((IntKind.u64.wrap z).tmod (n : Int)) = (q : Int) := by
  have h0 := wrap_u64_nonneg z
  obtain ⟨u, hu⟩ := Int.eq_ofNat_of_zero_le h0
  rw [hu]
  refine ⟨u % n, Nat.mod_lt _ h, ?_⟩
  have hlt := Nat.mod_lt u h
  have e : ((u : Int)).tmod (n : Int) = ((u % n : Nat) : Int) := rfl
  rw [e]
  exact IntWalk.wrap64_in _ (by omega)
/-- What the second loop keeps. -/
def OR (L : List Lt) (w wr : World) (A B : Nat) (v i : Value) : Prop := ∃ (k : Nat) (M : List Lt), M.length + k = L.length ∧ i = .int .i64 ((k : Nat) : Int) ∧ Tw w wr A B (L.drop k) M v M []

set_option maxHeartbeats 8000000 in
set_option maxRecDepth 100000 in
theorem order_law {L : List Lt} {N : List Int} {ad ad2 : Option Addr} {cap cap2 : Nat} {w : World} (hL : Lk L ad w) (hc : ad = none → cap = 0) (hN : Ints w ad2 N) :
    Calls Try.prog 4 #[.slice ad L.length cap, .slice ad2 N.length cap2] w fun e w' => e = .returned (.bool true) ∧ Below w.heap.size w w' := by
  by_cases hbig : 300 < L.length
  · have h : (300 : Int) < L.length := by omega
    go_enter Try.func4, Try.ntmps4
    go_wp2_with fail
    refine (awake_any w).mono ?_
    rintro e w1 ⟨rfl, hb1⟩
    go_wp2_with fail
    refine (awake_any w1).mono ?_
    rintro e w2 ⟨rfl, hb2⟩
    go_wp2
    go_ret
    exact ⟨rfl, hb1.trans (hb2.mono hb1.size)⟩
  · have n1 : ¬ (300 : Int) < L.length := by omega
    have n3 : (L.length : Int) ≤ 300 := by omega
    go_enter Try.func4, Try.ntmps4
    go_wp2_with fail
    refine (awake_any w).mono ?_
    rintro e w1 ⟨rfl, hb1⟩
    go_wp2_with fail
    refine (bk_new hb1).mono ?_
    rintro e w2 ⟨A, rfl, h2⟩
    go_wp2_with fail
    refine (tw_new h2.below h2).mono ?_
    rintro e w3 ⟨B, rfl, h3⟩
    clear h2
    go_wp2
    go_loopw [29] (fun iv wr => ∃ k : Nat, k ≤ L.length ∧ iv = .int .i64 k ∧ Tw w wr A B (L.take k) (L.take k) (.slice none 0 0) [] []) (fun iv _ => L.length - (intOf iv).toNat)
    case atStart => exact ⟨0, Nat.zero_le _, rfl, h3⟩
    case round =>
      clear h3
      obtain ⟨k, hk, rfl, hB⟩ := hrel
      by_cases hkl : k < L.length
      · have hki : (k : Int) < L.length := by omega
        have k0 : (0 : Int) ≤ k := by omega
        obtain ⟨b, o, rfl, hbl, c0, c1, c2⟩ := (hL.on hB.below).at' k hkl
        have hst := take_snoc L k hkl
        obtain ⟨y, hy⟩ : ∃ y, L[k] = y := ⟨_, rfl⟩
        rw [hy] at c0 c1 c2 hst
        have hsend := tw_send (hB.box (ltO y)) (by simp; omega) y
        rw [← hst] at hsend
        have HS := Lib.hid hst
        clear hst hy hB
        go_wp2_with fail
        refine hsend.mono ?_
        rintro e w4 ⟨rfl, h4⟩
        obtain ⟨x0, x1, x2⟩ := lt_cells (h4.blk _ List.mem_cons_self)
        have hsend2 := tw_send h4.swap (by simp; omega) y
        rw [← HS.out] at hsend2
        clear hsend
        go_wp2_with fail
        refine hsend2.mono ?_
        rintro e w5 ⟨rfl, h5⟩
        clear hsend2 h4
        go_wp2
        go_roundw
        case rel => exact ⟨k + 1, hkl, by go_num, (h5.sub (K' := []) (fun p hp => by cases hp)).swap⟩
        case measure => simp [intOf]; omega
      · have e : k = L.length := by omega
        have hki : ¬ (k : Int) < L.length := by omega
        subst e
        rw [List.take_of_length_le (Nat.le_refl _)] at hB
        obtain ⟨v', w6, hrun, ho, hb6⟩ := letters_copy (hL.on hB.below) (by omega) hc
        have h6 := hB.renew ho hb6
        clear hB ho
        go_wp2_with (at_builtin; refine wpl_run _ _ rfl hrun ?_)
        go_loopw [9, 45] (fun v i wr => OR L w wr A B v i) (fun _ i _ => L.length - (intOf i).toNat)
        case atStart => exact ⟨0, L, by omega, rfl, h6⟩
        case round =>
          clear h6 hrun hb6
          obtain ⟨k, M, hM, rfl, hB⟩ := hrel
          by_cases hkl : k < L.length
          · have hki : (k : Int) < L.length := by omega
            have k0 : (0 : Int) ≤ k := by omega
            have hM1 : 0 < M.length := by omega
            have hM2 : M.length ≤ 300 := by omega
            obtain ⟨b, o, rfl, hbl, c0, c1, c2⟩ := (hL.on hB.below).at' k hkl
            have hat : atL (L.drop k) 0 = L[k] := by
              rw [show (0 : Int) = ((0 : Nat) : Int) from rfl, atL_nat (by simp; omega)]
              simp
            have his : isL (L.drop k) 0 = true := by
              rw [show (0 : Int) = ((0 : Nat) : Int) from rfl, isL_nat (by simp; omega)]
            have hre : remL (L.drop k) 0 = L.drop (k + 1) := by
              rw [show (0 : Int) = ((0 : Nat) : Int) from rfl, remL_nat (by simp; omega)]
              simp
            obtain ⟨y, hy⟩ : ∃ y, L[k] = y := ⟨_, rfl⟩
            rw [hy] at c0 c1 c2 hat
            have htake := tw_take (hB.box (ltO y)) 0
            rw [hat, his, hre] at htake
            have e1 := str_self y.text
            obtain ⟨D, hD⟩ : ∃ D, D = L.drop (k + 1) := ⟨_, rfl⟩
            rw [← hD] at htake
            have HM := Lib.hid hM
            have HD := Lib.hid hD
            clear hat his hre hy hD hM hB
            go_wp2_with fail
            refine htake.mono ?_
            rintro e w4 ⟨rfl, h4⟩
            have h5 := h4.box (ltO y)
            obtain ⟨x0, x1, x2⟩ := lt_cells (h5.blk _ List.mem_cons_self)
            obtain ⟨y0, y1, y2⟩ := lt_cells (h5.blk _ (List.mem_cons_of_mem _ List.mem_cons_self))
            obtain ⟨adv, capv, rfl, hLk⟩ := Lk.own h5.row
            clear h4 htake
            by_cases hp : k < N.length
            · have hp1 : (k : Int) < N.length := by omega
              obtain ⟨b2, o2, rfl, hbl2, z0⟩ := (hN.on h5.below) k hp
              obtain ⟨z, hz⟩ : ∃ z, N[k] = z := ⟨_, rfl⟩
              rw [hz] at z0
              clear hz
              go_wp2_with fail
              obtain ⟨q, hq, hw⟩ := rem_q z hM1 hM2
              rw [hw]
              clear hw
              have a1 := atL_nat hq
              have a2 := isL_nat hq
              obtain ⟨u, hu⟩ : ∃ u, M[q] = u := ⟨_, rfl⟩
              rw [hu] at a1
              have htk := tw_take h5.swap (q : Int)
              rw [a1, a2] at htk
              have e2 := str_self u.text
              refine htk.mono ?_
              rintro e w6 ⟨rfl, h6⟩
              have h7 := h6.box (ltO u)
              obtain ⟨v0, v1, v2⟩ := lt_cells (h7.blk _ List.mem_cons_self)
              obtain ⟨ad', cap', ev, hLk7⟩ := Lk.own h7.row
              cases ev
              obtain ⟨g, o', rfl, hgl, d0, d1, d2⟩ := hLk7.at' q hq
              rw [hu] at d0 d1 d2
              have q0 : (0 : Int) ≤ (q : Int) := by omega
              have q1 : (q : Int) < M.length := by omega
              clear a1 a2 hu htk h6 h5 hLk hLk7 x0 x1 x2 y0 y1 y2
              go_wp2
              go_quiet (fail)
              go_wp2_with fail
              refine (tw_without (h7.drewN nq) (by omega) (q : Int)).mono ?_
              rintro e w8 ⟨v9, rfl, h8⟩
              go_wp2
              go_roundw
              case rel =>
                refine ⟨k + 1, remL M (q : Int), ?_, by go_num, ?_⟩
                · have hM := HM.out
                  have e9 : (remL M (q : Int)).length = M.length - 1 := by rw [remL_nat hq, List.length_eraseIdx_of_lt hq]
                  omega
                · rw [← HD.out]
                  exact (h8.sub (K' := []) (fun p hp => by cases hp)).swap
              case measure => simp [intOf]; omega
            · have hp1 : ¬ (k : Int) < N.length := by omega
              have hq := hM1
              go_wp2_with fail
              have a1 : atL M 0 = M[0] := atL_nat hq
              have a2 : isL M 0 = true := isL_nat hq
              obtain ⟨u, hu⟩ : ∃ u, M[0] = u := ⟨_, rfl⟩
              rw [hu] at a1
              have htk := tw_take h5.swap (0 : Int)
              rw [a1, a2] at htk
              have e2 := str_self u.text
              refine htk.mono ?_
              rintro e w6 ⟨rfl, h6⟩
              have h7 := h6.box (ltO u)
              obtain ⟨v0, v1, v2⟩ := lt_cells (h7.blk _ List.mem_cons_self)
              obtain ⟨ad', cap', ev, hLk7⟩ := Lk.own h7.row
              cases ev
              obtain ⟨g, o', rfl, hgl, d0, d1, d2⟩ := hLk7.at' 0 hq
              rw [hu] at d0 d1 d2
              simp only [Nat.zero_mul, Nat.add_zero] at d0 d1 d2
              have q0 : (0 : Int) ≤ (0 : Int) := by omega
              have q1 : (0 : Int) < M.length := by omega
              clear a1 a2 hu htk h6 h5 hLk hLk7 x0 x1 x2 y0 y1 y2
              go_wp2
              go_quiet (fail)
              go_wp2_with fail
              refine (tw_without (h7.drewN nq) (by omega) (0 : Int)).mono ?_
              rintro e w8 ⟨v9, rfl, h8⟩
              go_wp2
              go_roundw
              case rel =>
                refine ⟨k + 1, remL M (0 : Int), ?_, by go_num, ?_⟩
                · have hM := HM.out
                  have e9 : (remL M (0 : Int)).length = M.length - 1 := by rw [show remL M 0 = M.eraseIdx 0 from remL_nat hq, List.length_eraseIdx_of_lt hq]
                  omega
                · rw [← HD.out]
                  exact (h8.sub (K' := []) (fun p hp => by cases hp)).swap
              case measure => simp [intOf]; omega
          · have hki : ¬ (k : Int) < L.length := by omega
            have hM0 : M = [] := List.eq_nil_of_length_eq_zero (by omega)
            have hD0 : L.drop k = [] := List.drop_eq_nil_of_le (by omega)
            subst hM0
            rw [hD0] at hB
            have t1 : Calls Try.prog 14 #[.pointer (some ⟨A, 0, none⟩)] wr fun e w' => e = .returned (.int .i64 0) ∧ w' = wr := tw_len hB
            have t2 : Calls Try.prog 14 #[.pointer (some ⟨B, 0, none⟩)] wr fun e w' => e = .returned (.int .i64 0) ∧ w' = wr := tw_len hB.swap
            have hbe := hB.below
            clear hM hD0 hB
            go_wp2_with fail
            refine t1.mono ?_
            rintro e w7 ⟨rfl, rfl⟩
            go_wp2_with fail
            refine t2.mono ?_
            rintro e w8 ⟨rfl, rfl⟩
            go_wp2
            go_ret
            exact ⟨rfl, hbe⟩
end Go.Proofs.Ytgmlfldjmnoecaa
