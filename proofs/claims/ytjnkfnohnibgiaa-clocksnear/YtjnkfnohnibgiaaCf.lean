/- The walk of the statement ClocksNear. -/
import Derived.Test.YtjnkfnohnibgiaaCd
import Derived.Test.YtjnkfnohnibgiaaPa
namespace Go.Proofs.Ytjnkfnohnibgiaa
open Go.RowKit

abbrev prO (a b : Int) : Obj := .cells #[.int .i64 a, .int .i64 b] 29
theorem pr_cells {w : World} {g : Nat} {a b : Int} (h : w.heap[g]? = some (prO a b)) : w.cell? ⟨g, 0, none⟩ = some (.int .i64 a) ∧ w.cell? ⟨g, 1, none⟩ = some (.int .i64 b) := by
  refine ⟨?_, ?_⟩ <;> (rw [cell_blk h]; rfl)
theorem Ok.now_near {T : List Int} {most : Int} (h : Ok T most) (i k : Nat) (hi : i < T.length) (hk : k < T.length) : nowC T i - nowC T k ≤ most := by
  rw [nowC_nat hi, nowC_nat hk]
  exact h.near _ (List.getElem_mem hi) _ (List.getElem_mem hk)
theorem stepC_none {T : List Int} {i : Int} (most d : Int) (h : hasC T i = false) : stepC T most i d = 0 := by
  unfold stepC
  rw [h, if_neg (by simp)]
/-- What the loop keeps. -/
def NR (L : List (Int × Int)) (n : Nat) (most : Int) (w wr : World) (A : Nat) (i : Value) : Prop := ∃ (k : Nat) (T : List Int), k ≤ L.length ∧ T.length = n ∧ i = .int .i64 ((k : Nat) : Int) ∧ Ck w wr A T most []

set_option maxHeartbeats 8000000 in
set_option maxRecDepth 100000 in
theorem near_law {L : List (Int × Int)} {ad : Option Addr} {cap : Nat} {w : World} {n most : Int} (hL : Lp L ad w) (hB : ∀ x ∈ L, x.2 ≤ 9223372036854775807) :
    Calls Try.prog 4 #[.int .i64 n, .int .i64 most, .slice ad L.length cap] w fun e w' => e = .returned (.bool true) ∧ Below w.heap.size w w' := by
  by_cases hbad : n < 1 ∨ 5 < n ∨ most < 1 ∨ 1073741824 < most
  · have hnew := new_no hbad w
    clear hbad
    go_enter Try.func4, Try.ntmps4
    go_wp2_with fail
    refine hnew.mono ?_
    rintro e w1 ⟨rfl, rfl⟩
    go_wp2_with fail
    refine (awake_any _).mono ?_
    rintro e w2 ⟨rfl, hb2⟩
    go_wp2_with fail
    refine (awake_any _).mono ?_
    rintro e w3 ⟨rfl, hb3⟩
    go_wp2
    go_ret
    exact ⟨rfl, hb2.trans (hb3.mono hb2.size)⟩
  · obtain ⟨n, rfl⟩ : ∃ m : Nat, n = m := ⟨n.toNat, by omega⟩
    have n1 : 1 ≤ n := by omega
    have n5 : n ≤ 5 := by omega
    have m1 : 1 ≤ most := by omega
    have m2 : most ≤ 1073741824 := by omega
    have hnew := ck_new n n1 n5 m1 m2 (Below.refl _ w)
    clear hbad
    go_enter Try.func4, Try.ntmps4
    go_wp2_with fail
    refine hnew.mono ?_
    rintro e w1 ⟨A, rfl, h1⟩
    clear hnew
    go_wp2_with fail
    refine (awake_any w1).mono ?_
    rintro e w2 ⟨rfl, hb2⟩
    have h2 := h1.on hb2
    clear h1 hb2
    by_cases hbig : (400 : Int) < L.length
    · go_wp2_with fail
      refine (awake_any w2).mono ?_
      rintro e w3 ⟨rfl, hb3⟩
      go_wp2
      go_ret
      exact ⟨rfl, (h2.on hb3).below⟩
    · go_wp2
      go_loopw [35] (fun iv wr => NR L n most w wr A iv) (fun iv _ => L.length - (intOf iv).toNat)
      case atStart => exact ⟨0, _, Nat.zero_le _, List.length_replicate .., rfl, h2⟩
      case round =>
        clear h2
        obtain ⟨k, T, hk, hT, rfl, hC⟩ := hrel
        by_cases hkl : k < L.length
        · have hki : (k : Int) < L.length := by omega
          have k0 : (0 : Int) ≤ k := by omega
          obtain ⟨b, o, rfl, hbl, c0, c1⟩ := (hL.on hC.below).at' k hkl
          have hd := hB _ (List.getElem_mem hkl)
          obtain ⟨x, hx⟩ : ∃ x, L[k] = x := ⟨_, rfl⟩
          rw [hx] at c0 c1 hd
          obtain ⟨i, d⟩ := x
          simp only at c0 c1 hd
          have h3 := hC.box (prO i d)
          have hok := hC.ok
          have hst := hok.step i d
          have hnb := hok.now i
          have hnow := ck_now h3 i
          have htick := ck_tick h3 i hd
          have hpn := nowC_put (T := T) i (stepC T most i d) (fun q => stepC_none most d q)
          have hlen := putC_len T i (stepC T most i d)
          obtain ⟨p, hp⟩ : ∃ p, nowC T i = p := ⟨_, rfl⟩
          obtain ⟨s, hs⟩ : ∃ s, stepC T most i d = s := ⟨_, rfl⟩
          obtain ⟨T', hT'⟩ : ∃ T', putC T i s = T' := ⟨_, rfl⟩
          rw [hp] at hnow hpn hnb
          rw [hs] at htick hpn hst hlen
          rw [hT'] at htick hpn hlen
          rw [hT] at hlen
          have HL := Lib.hid hlen
          have HPN := Lib.hid hpn
          clear hx hp hs hT' hT hC hlen hpn hok
          obtain ⟨st1, st2, st3⟩ := hst
          have st4 : ¬ s < 0 := by omega
          go_wp2_with fail
          refine hnow.mono ?_
          rintro e w4 ⟨rfl, rfl⟩
          clear hnow
          go_wp2_with fail
          refine htick.mono ?_
          rintro e w5 ⟨rfl, h5⟩
          clear htick h3
          obtain ⟨x0, x1⟩ := pr_cells (h5.blk _ List.mem_cons_self)
          have hnow2 := ck_now h5 i
          rw [HPN.out] at hnow2
          have hsplit : (0 < d ∧ ¬ d < s) ∨ (d ≤ 0 ∧ ¬ 0 < s) := by omega
          have hok := h5.ok
          clear st2
          rcases hsplit with ⟨hd0, hds⟩ | ⟨hd0, hds⟩
          all_goals
            go_wp2_with fail
            refine hnow2.mono ?_
            rintro e w6 ⟨rfl, rfl⟩
            clear hnow2
            go_wp2
            go_loopw [69] (fun iv wr => ∃ j : Nat, j ≤ n ∧ iv = .int .i64 j ∧ wr = w6) (fun iv _ => n - (intOf iv).toNat)
            case atStart => exact ⟨0, Nat.zero_le _, rfl, rfl⟩
            case round =>
              obtain ⟨j, hj, rfl, rfl⟩ := hrel
              by_cases hjn : j < n
              · have j0 : (0 : Int) ≤ j := by omega
                have j1 : (j : Int) < n := by omega
                go_wp2
                go_loopw [73] (fun iv wr' => ∃ q : Nat, q ≤ n ∧ iv = .int .i64 q ∧ wr' = wr) (fun iv _ => n - (intOf iv).toNat)
                case atStart => exact ⟨0, Nat.zero_le _, rfl, rfl⟩
                case round =>
                  obtain ⟨q, hq, rfl, rfl⟩ := hrel
                  by_cases hqn : q < n
                  · have q0 : (0 : Int) ≤ q := by omega
                    have q1 : (q : Int) < n := by omega
                    have na := ck_now h5 j
                    have nb := ck_now h5 q
                    have hl := HL.out
                    have hne := hok.now_near j q (by omega) (by omega)
                    obtain ⟨a1, a2⟩ := hok.now j
                    obtain ⟨b1, b2⟩ := hok.now q
                    obtain ⟨u, hu⟩ : ∃ u, nowC T' j = u := ⟨_, rfl⟩
                    obtain ⟨v, hv⟩ : ∃ v, nowC T' q = v := ⟨_, rfl⟩
                    rw [hu] at na hne a1 a2
                    rw [hv] at nb hne b1 b2
                    have hne2 : ¬ most < u - v := by omega
                    clear hu hv hl hne
                    go_wp2_with fail
                    refine na.mono ?_
                    rintro e w7 ⟨rfl, rfl⟩
                    go_wp2_with fail
                    refine nb.mono ?_
                    rintro e w8 ⟨rfl, rfl⟩
                    go_wp2
                    go_roundw
                    case rel => exact ⟨q + 1, hqn, by go_num, by first | rfl | trivial⟩
                    case measure => simp [intOf]; omega
                  · have q1 : ¬ (q : Int) < n := by omega
                    go_wp2
                    go_roundw
                    case rel => exact ⟨j + 1, hjn, by go_num, by first | rfl | trivial⟩
                    case measure => simp [intOf]; omega
              · have j1 : ¬ (j : Int) < n := by omega
                go_wp2
                go_roundw
                case rel => exact ⟨k + 1, T', hkl, HL.out, by go_num, h5.sub (fun p hp => by cases hp)⟩
                case measure => simp [intOf]; omega
        · have hki : ¬ (k : Int) < L.length := by omega
          have hbe := hC.below
          go_wp2
          go_ret
          exact ⟨rfl, hbe⟩
end Go.Proofs.Ytjnkfnohnibgiaa
