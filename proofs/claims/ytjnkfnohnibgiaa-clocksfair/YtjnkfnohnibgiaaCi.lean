/- The walk of the statement ClocksFair. -/
import Derived.Test.YtjnkfnohnibgiaaCh
namespace Go.Proofs.Ytjnkfnohnibgiaa
open Go.RowKit

/-- What the loops keep. -/
def F1 (L : List (Int × Int)) (n : Nat) (most : Int) (w wr : World) (A : Nat) (i : Value) : Prop := ∃ (k : Nat) (T : List Int), k ≤ L.length ∧ T.length = n ∧ i = .int .i64 ((k : Nat) : Int) ∧ (∀ t ∈ T, t ≤ 1048576 * (k : Int)) ∧ Ck w wr A T most []
def F4 (n j : Nat) (most top : Int) (w wr : World) (A : Nat) : Prop := ∃ (T : List Int), T.length = n ∧ Ck w wr A T most [] ∧ Top T top ∧ ∀ q (h : q < T.length), q < j → T[q] = top
def F3 (n : Nat) (most top : Int) (w wr : World) (A : Nat) (i : Value) : Prop := ∃ (j : Nat), j ≤ n ∧ i = .int .i64 ((j : Nat) : Int) ∧ F4 n j most top w wr A
theorem stT_now {n j : Nat} (h : j < n) (v : Int) : nowC (stT n 0 v) j = v := by
  have hl : j < (stT n 0 v).length := by rw [stT_len (by omega)]; exact h
  rw [nowC_nat hl]
  simp [stT]
theorem F4.next {n j : Nat} {most top : Int} {w wr : World} {A : Nat} {T : List Int} (hT : T.length = n) (hC : Ck w wr A T most []) (ht : Top T top) (ha : ∀ q (h : q < T.length), q < j → T[q] = top) (hj : j < T.length) (hv : ¬ T[j] < top) : F4 n (j + 1) most top w wr A := by
  refine ⟨T, hT, hC, ht, fun q hq hqj => ?_⟩
  by_cases e : q = j
  · subst e
    have := ht.le _ (List.getElem_mem hq)
    omega
  · exact ha q hq (by omega)

set_option maxHeartbeats 8000000 in
set_option maxRecDepth 100000 in
theorem fair_law {L : List (Int × Int)} {ad : Option Addr} {cap : Nat} {w : World} {n most rounds : Int} (hL : Lp L ad w) :
    Calls Try.prog 5 #[.int .i64 n, .int .i64 most, .slice ad L.length cap, .int .i64 rounds] w fun e w' => e = .returned (.bool true) ∧ Below w.heap.size w w' := by
  by_cases hbad : n < 1 ∨ 5 < n ∨ most < 1 ∨ 1073741824 < most
  · have hnew := new_no hbad w
    clear hbad
    go_enter Try.func5, Try.ntmps5
    go_wp2_with fail
    refine hnew.mono ?_
    rintro e w1 ⟨rfl, rfl⟩
    go_wp2_with fail
    refine (awake_any _).mono ?_
    rintro e w2 ⟨rfl, hb2⟩
    go_wp2_with fail
    refine (awake_any _).mono ?_
    rintro e w3 ⟨rfl, hb3⟩
    go_wp2
    go_ret
    exact ⟨rfl, hb2.trans (hb3.mono hb2.size)⟩
  · obtain ⟨n, rfl⟩ : ∃ m : Nat, n = m := ⟨n.toNat, by omega⟩
    have n1 : 1 ≤ n := by omega
    have n5 : n ≤ 5 := by omega
    have m1 : 1 ≤ most := by omega
    have m2 : most ≤ 1073741824 := by omega
    have hnew := ck_new n n1 n5 m1 m2 (Below.refl _ w)
    clear hbad
    go_enter Try.func5, Try.ntmps5
    go_wp2_with fail
    refine hnew.mono ?_
    rintro e w1 ⟨A, rfl, h1⟩
    clear hnew
    go_wp2_with fail
    refine (awake_any w1).mono ?_
    rintro e w2 ⟨rfl, hb2⟩
    have h2 := h1.on hb2
    clear h1 hb2
    by_cases hbig : (400 : Int) < L.length ∨ (¬ (400 : Int) < L.length ∧ rounds < 0) ∨ (¬ (400 : Int) < L.length ∧ ¬ rounds < 0 ∧ 200 < rounds)
    · rcases hbig with hb | ⟨hb, hc⟩ | ⟨hb, hc, hd⟩
      all_goals
        go_wp2_with fail
        refine (awake_any w2).mono ?_
        rintro e w3 ⟨rfl, hb3⟩
        go_wp2
        go_ret
        exact ⟨rfl, (h2.on hb3).below⟩
    · obtain ⟨R, rfl⟩ : ∃ m : Nat, rounds = m := ⟨rounds.toNat, by omega⟩
      have b1 : ¬ (400 : Int) < L.length := by omega
      have b2 : ¬ (R : Int) < 0 := by omega
      have b3 : ¬ 200 < (R : Int) := by omega
      have b4 : R ≤ 200 := by omega
      clear hbig
      go_wp2
      go_loopw [46] (fun iv wr => F1 L n most w wr A iv) (fun iv _ => L.length - (intOf iv).toNat)
      case atStart => exact ⟨0, _, Nat.zero_le _, List.length_replicate .., rfl, fun t ht => by rw [List.eq_of_mem_replicate ht]; decide, h2⟩
      case round =>
        clear h2
        obtain ⟨k, T, hk, hT, rfl, hbd, hC⟩ := hrel
        by_cases hkl : k < L.length
        · have hki : (k : Int) < L.length := by omega
          have k0 : (0 : Int) ≤ k := by omega
          obtain ⟨b, o, rfl, hbl, c0, c1⟩ := (hL.on hC.below).at' k hkl
          obtain ⟨x, hx⟩ : ∃ x, L[k] = x := ⟨_, rfl⟩
          rw [hx] at c0 c1
          obtain ⟨i, d⟩ := x
          simp only at c0 c1
          have h3 := hC.box (prO i d)
          have hok := hC.ok
          obtain ⟨d', hd', hd2⟩ : ∃ d', (d ≤ 1048576 ∧ d' = d ∨ 1048576 < d ∧ d' = 1048576) ∧ d' ≤ 1048576 := by
            by_cases h : d ≤ 1048576
            · exact ⟨d, .inl ⟨h, rfl⟩, h⟩
            · exact ⟨1048576, .inr ⟨by omega, rfl⟩, Int.le_refl _⟩
          have htick := ck_tick h3 i (d := d') (by omega)
          have hst := hok.step i d'
          have hbd2 := put_bound (i := i) (s := stepC T most i d') (c := 1048576) hbd (by omega) (by decide)
          have hlen := putC_len T i (stepC T most i d')
          rw [hT] at hlen
          obtain ⟨s, hs⟩ : ∃ s, stepC T most i d' = s := ⟨_, rfl⟩
          rw [hs] at htick hbd2 hlen
          obtain ⟨T', hT'⟩ : ∃ T', putC T i s = T' := ⟨_, rfl⟩
          rw [hT'] at htick hbd2 hlen
          have HL := Lib.hid hlen
          have HB := Lib.hid hbd2
          clear hx hT hbd hC h3 hok hst hbd2 hlen hs hT'
          rcases hd' with ⟨hd1, rfl⟩ | ⟨hd1, rfl⟩
          all_goals
            go_wp2_with fail
            refine htick.mono ?_
            rintro e w5 ⟨rfl, h5⟩
            clear htick
            go_wp2
            go_roundw
            case rel => exact ⟨k + 1, T', hkl, HL.out, by go_num, fun t ht => by have := HB.out t ht; omega, h5.sub (fun p hp => by cases hp)⟩
            case measure => simp [intOf]; omega
        · have hki : ¬ (k : Int) < L.length := by omega
          have hbd2 : ∀ t ∈ T, t ≤ 419430400 := fun t ht => by have := hbd t ht; omega
          subst hT
          have hok := hC.ok
          have HB := Lib.hid hbd2
          clear hbd hbd2
          go_wp2
          go_loopw [13, 59] (fun tv iv wr' => ∃ j : Nat, j ≤ T.length ∧ iv = .int .i64 j ∧ tv = .int .i64 (maxC (T.take j) 0) ∧ wr' = wr) (fun _ iv _ => T.length - (intOf iv).toNat)
          case atStart => exact ⟨0, Nat.zero_le _, rfl, rfl, rfl⟩
          case round =>
            obtain ⟨j, hj, rfl, rfl, rfl⟩ := hrel
            by_cases hjl : j < T.length
            · have j0 : (0 : Int) ≤ j := by omega
              have j1 : (j : Int) < T.length := by omega
              have hnow := ck_now hC j
              rw [nowC_nat hjl] at hnow
              have hsn := maxC_snoc T j hjl 0
              obtain ⟨y, hy⟩ : ∃ y, T[j] = y := ⟨_, rfl⟩
              rw [hy] at hnow hsn
              obtain ⟨m, hm⟩ : ∃ m, maxC (T.take j) 0 = m := ⟨_, rfl⟩
              rw [hm] at hsn ⊢
              have HS := Lib.hid hsn
              clear hsn hy hm
              by_cases hmy : y ≤ m
              all_goals
                go_wp2_with fail
                refine hnow.mono ?_
                rintro e w6 ⟨rfl, rfl⟩
                clear hnow
                go_wp2
                go_roundw
                case rel => exact ⟨j + 1, hjl, by go_num, by rw [HS.out]; congr 1; omega, by first | rfl | trivial⟩
                case measure => simp [intOf]; omega
            · have e : j = T.length := by omega
              have j1 : ¬ (j : Int) < T.length := by omega
              subst e
              rw [List.take_of_length_le (Nat.le_refl _)]
              have htop := hok.top
              obtain ⟨top, ht⟩ : ∃ top, maxC T 0 = top := ⟨_, rfl⟩
              rw [ht] at htop ⊢
              have t1 : 0 ≤ top := hok.lo _ htop.mem
              have t2 : top ≤ 419430400 := HB.out _ htop.mem
              obtain ⟨n, hn⟩ : ∃ n, T.length = n := ⟨_, rfl⟩
              have hF : F4 n 0 most top w wr A := ⟨T, hn, hC, htop, fun q _ hq => absurd hq (Nat.not_lt_zero _)⟩
              rw [hn] at n1 n5 ⊢
              clear ht hn hC htop HB hok hj
              go_wp2
              go_loopw [69] (fun iv wr => F3 n most top w wr A iv) (fun iv _ => n - (intOf iv).toNat)
              case atStart => exact ⟨0, Nat.zero_le _, rfl, hF⟩
              case round =>
                clear hF
                obtain ⟨j, hj, rfl, hF⟩ := hrel
                by_cases hjn : j < n
                · have j0 : (0 : Int) ≤ j := by omega
                  have j1 : (j : Int) < n := by omega
                  go_wp2
                  go_loopw [76] (fun _ wr => F4 n j most top w wr A) (fun _ wr => (top - atW wr A j).toNat)
                  case atStart => exact hF
                  case round =>
                    clear hF
                    obtain ⟨T, hT, hC, ht, ha⟩ := hrel
                    have hjT : j < T.length := by omega
                    have hnow := ck_now hC j
                    have hok := hC.ok
                    have hb := hok.now j
                    have hat := hC.1.atW hjT
                    rw [nowC_nat hjT] at hnow hb
                    by_cases hv : T[j] < top
                    · have htick := ck_tick hC j (d := top - T[j]) (by omega)
                      rw [catch_up hok ht hjT hv] at htick
                      obtain ⟨e1, ht2⟩ := put_top ht hjT
                      rw [e1] at htick
                      obtain ⟨T', hT'⟩ : ∃ T', T.set j top = T' := ⟨_, rfl⟩
                      have hl' : T'.length = n := by rw [← hT']; simpa using hT
                      have ha' : ∀ q (h : q < T'.length), q < j → T'[q] = top := by
                        subst hT'
                        intro q hq hqj
                        rw [List.getElem_set_ne (by omega)]
                        exact ha q (by simpa using hq) hqj
                      have hj' : ∀ (h : j < T'.length), T'[j] = top := by
                        subst hT'
                        intro h
                        simp
                      rw [hT'] at htick ht2
                      obtain ⟨v, hvv⟩ : ∃ v, T[j] = v := ⟨_, rfl⟩
                      rw [hvv] at hnow hb hat hv htick
                      have HL := Lib.hid hl'
                      have HA := Lib.hid ha'
                      have HJ := Lib.hid hj'
                      have HAT := Lib.hid hat
                      clear hT ha ht hat hvv hT' hl' ha' hj' e1 hok hC
                      have v1 : ¬ top - v < 1 := by omega
                      go_wp2_with fail
                      refine hnow.mono ?_
                      rintro e w7 ⟨rfl, rfl⟩
                      go_wp2_with fail
                      refine hnow.mono ?_
                      rintro e w8 ⟨rfl, rfl⟩
                      go_wp2_with fail
                      refine htick.mono ?_
                      rintro e w9 ⟨rfl, h9⟩
                      clear htick hnow
                      go_wp2
                      go_roundw
                      case rel => exact ⟨T', HL.out, h9, ht2, HA.out⟩
                      case measure =>
                        have hl := HL.out
                        have e2 := h9.1.atW (k := j) (by omega)
                        rw [HJ.out (by omega)] at e2
                        rw [e2, HAT.out]
                        omega
                    · have hF4 := F4.next hT hC ht ha hjT hv
                      obtain ⟨v, hvv⟩ : ∃ v, T[j] = v := ⟨_, rfl⟩
                      rw [hvv] at hnow hb hv
                      clear hT ha ht hat hvv hok hC
                      go_wp2_with fail
                      refine hnow.mono ?_
                      rintro e w7 ⟨rfl, rfl⟩
                      go_wp2
                      go_roundw
                      case rel => exact ⟨j + 1, hjn, by go_num, hF4⟩
                      case measure => simp [intOf]; omega
                · have j1 : ¬ (j : Int) < n := by omega
                  have hS : Ck w wr A (stT n 0 top) most [] := by
                    obtain ⟨T, hT, hC, ht, ha⟩ := hF
                    have e := all_top (fun q hq => ha q hq (by omega))
                    rw [hT] at e
                    rwa [e] at hC
                  clear hF
                  go_wp2
                  go_loopw [88] (fun iv wr => ∃ r : Nat, r ≤ R ∧ iv = .int .i64 r ∧ Ck w wr A (stT n 0 (top + r)) most []) (fun iv _ => R - (intOf iv).toNat)
                  case atStart => exact ⟨0, Nat.zero_le _, rfl, by simpa using hS⟩
                  case round =>
                    clear hS
                    obtain ⟨r, hr, rfl, hS⟩ := hrel
                    by_cases hrR : r < R
                    · have r0 : (0 : Int) ≤ r := by omega
                      have r1 : (r : Int) < R := by omega
                      go_wp2
                      go_loopw [91] (fun iv wr => ∃ q : Nat, q ≤ n ∧ iv = .int .i64 q ∧ Ck w wr A (stT n q (top + r)) most []) (fun iv _ => n - (intOf iv).toNat)
                      case atStart => exact ⟨0, Nat.zero_le _, rfl, hS⟩
                      case round =>
                        clear hS
                        obtain ⟨q, hq, rfl, hS⟩ := hrel
                        by_cases hqn : q < n
                        · have q0 : (0 : Int) ≤ q := by omega
                          have q1 : (q : Int) < n := by omega
                          have htick := ck_tick hS q (d := 1) (by decide)
                          rw [stT_step hqn m1 (by omega), stT_put hqn] at htick
                          clear hS
                          go_wp2_with fail
                          refine htick.mono ?_
                          rintro e w7 ⟨rfl, h7⟩
                          clear htick
                          go_wp2
                          go_roundw
                          case rel => exact ⟨q + 1, hqn, by go_num, h7⟩
                          case measure => simp [intOf]; omega
                        · have q1 : ¬ (q : Int) < n := by omega
                          have e : q = n := by omega
                          subst e
                          rw [stT_full] at hS
                          go_wp2
                          go_roundw
                          case rel => exact ⟨r + 1, hrR, by go_num, by rw [show top + ((r + 1 : Nat) : Int) = top + r + 1 by omega]; exact hS⟩
                          case measure => simp [intOf]; omega
                    · have r1 : ¬ (r : Int) < R := by omega
                      have e : r = R := by omega
                      subst e
                      go_wp2
                      go_loopw [101] (fun iv wr' => ∃ q : Nat, q ≤ n ∧ iv = .int .i64 q ∧ wr' = wr) (fun iv _ => n - (intOf iv).toNat)
                      case atStart => exact ⟨0, Nat.zero_le _, rfl, rfl⟩
                      case round =>
                        obtain ⟨q, hq, rfl, rfl⟩ := hrel
                        by_cases hqn : q < n
                        · have q0 : (0 : Int) ≤ q := by omega
                          have q1 : (q : Int) < n := by omega
                          have hnow := ck_now hS q
                          rw [stT_now hqn] at hnow
                          go_wp2_with fail
                          refine hnow.mono ?_
                          rintro e w7 ⟨rfl, rfl⟩
                          clear hnow
                          go_wp2
                          go_roundw
                          case rel => exact ⟨q + 1, hqn, by go_num, by first | rfl | trivial⟩
                          case measure => simp [intOf]; omega
                        · have q1 : ¬ (q : Int) < n := by omega
                          have hbe := hS.below
                          go_wp2
                          go_ret
                          exact ⟨rfl, hbe⟩
end Go.Proofs.Ytjnkfnohnibgiaa
