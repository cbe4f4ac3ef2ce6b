/- The walk of the statement ClocksPlays. -/
import Derived.Test.YtjnkfnohnibgiaaCf
import Derived.Test.YtjnkfnohnibgiaaCe
import Derived.Laws.MakeOwn
namespace Go.Proofs.Ytjnkfnohnibgiaa
open Go.RowKit

abbrev rowO (T : List Int) : Obj := .cells (T.map (Value.int .i64)).toArray 3
theorem info3 : (Try.prog.info? 3).map (fun i => (i.zero, i.size, i.bytes)) = some (some (.int .i64 0), 1, 8) := by kernel_rfl
/-- make([]int, n) -/
theorem make_row (w : World) {n : Nat} (h5 : n ≤ 5) : (Instr.makeSlice 28 (.int .i64 n) (.int .i64 n)).run Try.prog w = .ok (.slice (some ⟨w.heap.size, 0, none⟩) n n) (w.alloc (rowO (List.replicate n 0))) := by
  obtain ⟨i, hi, hz0, hz1, hz2⟩ := info_parts info3
  have h := run_makeSlice (P := Try.prog) w 28 3 i _ Try.underlying28 hi hz0 .i64 .i64 n n (by omega) (Int.le_refl _) (by rw [hz1]; omega) (by rw [hz2]; omega) (by omega)
  rw [h]
  have e : madeCells (Value.int IntKind.i64 0).cells ((n : Int).toNat * i.size) = ((List.replicate n (0 : Int)).map (Value.int .i64)).toArray := by
    rw [hz1, Nat.mul_one, Int.toNat_natCast]
    exact Array.toList_inj.1 ((toList_madeCells_one (.int .i64 0) n).trans (by simp))
  rw [e]
  rfl
theorem row_cells {w : World} {g : Nat} {T : List Int} (h : w.heap[g]? = some (rowO T)) : ∀ k (h : k < T.length), w.cell? ⟨g, k, none⟩ = some (.int .i64 T[k]) := by
  intro k hk
  rw [cell_blk h]
  simp [hk]
theorem Ck.row_set {w0 w : World} {A g : Nat} {T T' : List Int} {most : Int} {K : List (Nat × Obj)} (h : Ck w0 w A T' most K) (hm : (g, rowO T) ∈ K) (hg : w0.heap.size ≤ g) {m : Nat} (s : Int) :
    Ck w0 (w.setCell ⟨g, m, none⟩ (.int .i64 s)) A T' most [(g, rowO (T.set m s))] := by
  obtain ⟨h1, h2, h3, h4⟩ := h
  obtain ⟨a, b⟩ := h4 _ hm
  have hf : Fr w (w.setCell ⟨g, m, none⟩ (.int .i64 s)) (fun k => k = g) := Fr.set (a := ⟨g, m, none⟩) (Fr.refl w (fun k => k = g)) (Or.inl rfl) _
  refine ⟨h1.stays hf (fun q => b (show g = A from (show A = g from q).symm)), h2, fr_below (fun k q => (show k = g from q) ▸ hg) h3 hf, fun p hp => ?_⟩
  rcases List.mem_singleton.1 hp with rfl
  refine ⟨?_, b⟩
  have e := set_blk (i := m) a (Value.int .i64 s)
  simp only [rowO] at e ⊢
  rw [e]
  congr 2
  simp [List.map_set]
/-- What the loop keeps. -/
def PR (L : List (Int × Int)) (n : Nat) (most : Int) (w wr : World) (A g : Nat) (i : Value) : Prop := ∃ (k : Nat) (T : List Int), k ≤ L.length ∧ T.length = n ∧ i = .int .i64 ((k : Nat) : Int) ∧ Ck w wr A T most [(g, rowO T)]

set_option maxHeartbeats 8000000 in
set_option maxRecDepth 100000 in
theorem plays_law {L : List (Int × Int)} {ad : Option Addr} {cap : Nat} {w : World} {n most : Int} (hL : Lp L ad w) (hB : ∀ x ∈ L, x.2 ≤ 9223372036854775807) :
    Calls Try.prog 3 #[.int .i64 n, .int .i64 most, .slice ad L.length cap] w fun e w' => e = .returned (.bool true) ∧ Below w.heap.size w w' := by
  by_cases hbad : n < 1 ∨ 5 < n ∨ most < 1 ∨ 1073741824 < most
  · have hnew := new_no hbad w
    have h' : n < 1 ∨ (¬ n < 1 ∧ 5 < n) ∨ (¬ n < 1 ∧ ¬ 5 < n ∧ most < 1) ∨ (¬ n < 1 ∧ ¬ 5 < n ∧ ¬ most < 1 ∧ 1073741824 < most) := by omega
    clear hbad
    by_cases hbig : (400 : Int) < L.length
    · go_enter Try.func3, Try.ntmps3
      go_wp2_with fail
      refine hnew.mono ?_
      rintro e w1 ⟨rfl, rfl⟩
      go_wp2_with fail
      refine (awake_any _).mono ?_
      rintro e w2 ⟨rfl, hb2⟩
      go_wp2_with fail
      refine (awake_any _).mono ?_
      rintro e w3 ⟨rfl, hb3⟩
      go_wp2
      go_ret
      exact ⟨rfl, hb2.trans (hb3.mono hb2.size)⟩
    · go_enter Try.func3, Try.ntmps3
      go_wp2_with fail
      refine hnew.mono ?_
      rintro e w1 ⟨rfl, rfl⟩
      go_wp2_with fail
      refine (awake_any _).mono ?_
      rintro e w2 ⟨rfl, hb2⟩
      rcases h' with h | ⟨h0, h⟩ | ⟨h0, h1, h⟩ | ⟨h0, h1, h2, h⟩
      all_goals
        go_wp2
        go_ret
        exact ⟨rfl, hb2⟩
  · obtain ⟨n, rfl⟩ : ∃ m : Nat, n = m := ⟨n.toNat, by omega⟩
    have n1 : 1 ≤ n := by omega
    have n5 : n ≤ 5 := by omega
    have m1 : 1 ≤ most := by omega
    have m2 : most ≤ 1073741824 := by omega
    have n1' : ¬ (n : Int) < 1 := by omega
    have n5' : ¬ (5 : Int) < n := by omega
    have m1' : ¬ most < 1 := by omega
    have m2' : ¬ 1073741824 < most := by omega
    have hnew := ck_new n n1 n5 m1 m2 (Below.refl _ w)
    clear hbad
    go_enter Try.func3, Try.ntmps3
    go_wp2_with fail
    refine hnew.mono ?_
    rintro e w1 ⟨A, rfl, h1⟩
    clear hnew
    go_wp2_with fail
    refine (awake_any w1).mono ?_
    rintro e w2 ⟨rfl, hb2⟩
    have h2 := h1.on hb2
    clear h1 hb2
    by_cases hbig : (400 : Int) < L.length
    · go_wp2_with fail
      refine (awake_any w2).mono ?_
      rintro e w3 ⟨rfl, hb3⟩
      go_wp2
      go_ret
      exact ⟨rfl, (h2.on hb3).below⟩
    · have hmk := make_row w2 n5
      have hs2 := h2.below.size
      have h3 := h2.box (rowO (List.replicate n 0))
      clear h2
      go_wp2
      clear hmk
      obtain ⟨g, hg⟩ : ∃ g, w2.heap.size = g := ⟨_, rfl⟩
      have hgw : w.heap.size ≤ g := by rw [← hg]; exact hs2
      rw [hg] at h3 ⊢
      clear hg hs2
      go_loopw [58] (fun iv wr => PR L n most w wr A g iv) (fun iv _ => L.length - (intOf iv).toNat)
      case atStart => exact ⟨0, _, Nat.zero_le _, List.length_replicate .., rfl, h3⟩
      case round =>
        clear h3
        obtain ⟨k, T, hk, hT, rfl, hC⟩ := hrel
        subst hT
        by_cases hkl : k < L.length
        · have hki : (k : Int) < L.length := by omega
          have k0 : (0 : Int) ≤ k := by omega
          obtain ⟨b, o, rfl, hbl, c0, c1⟩ := (hL.on hC.below).at' k hkl
          have hd := hB _ (List.getElem_mem hkl)
          obtain ⟨x, hx⟩ : ∃ x, L[k] = x := ⟨_, rfl⟩
          rw [hx] at c0 c1 hd
          obtain ⟨i, d⟩ := x
          simp only at c0 c1 hd
          have h3 := hC.box (prO i d)
          have hok := hC.ok
          have hst := hok.step i d
          have hrow := row_cells (h3.blk _ (List.mem_cons_of_mem _ List.mem_cons_self))
          have href := ref_any (cap := T.length) hok hrow i hd
          have htick := ck_tick h3 i hd
          have hz : hasC T i = false → stepC T most i d = 0 := fun q => stepC_none most d q
          obtain ⟨s, hs⟩ : ∃ s, stepC T most i d = s := ⟨_, rfl⟩
          rw [hs] at href htick hst hz
          have HZ := Lib.hid hz
          have HR := Lib.hid hrow
          obtain ⟨st1, st2, st3⟩ := hst
          clear hx hs hC hz hrow st2
          go_wp2_with fail
          refine href.mono ?_
          rintro e w4 ⟨rfl, rfl⟩
          clear href
          go_wp2_with fail
          refine htick.mono ?_
          rintro e w5 ⟨rfl, h5⟩
          clear htick h3
          obtain ⟨x0, x1⟩ := pr_cells (h5.blk _ List.mem_cons_self)
          by_cases hs0 : 0 < s
          · rcases hasC_split T i with ⟨m, rfl, hm⟩ | hi
            · have cm := row_cells (h5.blk _ (List.mem_cons_of_mem _ List.mem_cons_self)) m hm
              have fz : w5.frozen? ⟨g, m, none⟩ = false := frozen_blk (h5.blk _ (List.mem_cons_of_mem _ List.mem_cons_self)) m
              have hb := hok.now m
              rw [nowC_nat hm] at hb
              have hput := putC_nat hm s
              have hset := h5.row_set (m := m) (List.mem_cons_of_mem _ List.mem_cons_self) hgw (T[m] + s)
              rw [← hput] at hset
              have hlen := putC_len T m s
              obtain ⟨T', hT'⟩ : ∃ T', putC T m s = T' := ⟨_, rfl⟩
              rw [hT'] at hset hlen
              obtain ⟨y, hy⟩ : ∃ y, T[m] = y := ⟨_, rfl⟩
              rw [hy] at cm hset hb
              have m0 : (0 : Int) ≤ m := by omega
              have m1' : (m : Int) < T.length := by omega
              have HLN := Lib.hid hlen
              clear hT' hy hput hlen hok h5
              have hok := hset.ok
              have l0 : (0 : Int) ≤ T.length := by omega
              go_wp2
              go_loopw [89] (fun iv wr' => ∃ j : Nat, j ≤ T.length ∧ iv = .int .i64 j ∧ Ck w wr' A T' most [(g, rowO T')]) (fun iv _ => T.length - (intOf iv).toNat)
              case atStart => exact ⟨0, Nat.zero_le _, rfl, hset⟩
              case round =>
                clear hset
                obtain ⟨j, hj, rfl, hD⟩ := hrel
                by_cases hjn : j < T.length
                · have j0 : (0 : Int) ≤ j := by omega
                  have j1 : (j : Int) < T.length := by omega
                  have hjT : j < T'.length := by (have := HLN.out; omega)
                  have cj := row_cells (hD.blk _ List.mem_cons_self) j hjT
                  have hnow := hD.1
                  have enow := nowC_nat hjT
                  obtain ⟨y, hy⟩ : ∃ y, T'[j] = y := ⟨_, rfl⟩
                  rw [hy] at cj enow
                  have hq : ∀ w', Cs w' A T' most → Calls Try.prog 11 #[.pointer (some ⟨A, 0, none⟩), .int .i64 j] w' fun e w'' => e = .returned (.int .i64 y) ∧ w'' = w' := fun w' hw' => by
                    have := now_any hw' j
                    rwa [enow] at this
                  have hqd : ∀ m, Calls Try.prog 11 #[.pointer (some ⟨A, 0, none⟩), .int .i64 j] (wr.drewN m) fun e w'' => e = .returned (.int .i64 y) ∧ w'' = wr.drewN m := fun m => hq _ (hD.drewN m).1
                  clear hy enow hnow hq
                  go_wp2
                  go_quiet ((go_at_call 11; exact Calls.quiet_of_same (hqd _)))
                  go_wp2
                  go_roundw
                  case rel => exact ⟨j + 1, hjn, by go_num, hD.drewN _⟩
                  case measure => simp [intOf]; omega
                · have j1 : ¬ (j : Int) < T.length := by omega
                  go_wp2
                  go_roundw
                  case rel => exact ⟨k + 1, T', hkl, HLN.out, by go_num, hD⟩
                  case measure => simp [intOf]; omega
            · have := HZ.out (hasC_not hi)
              omega
          · have hs1 : s = 0 := by omega
            subst hs1
            rw [putC_zero] at h5
            have h6 := h5.sub (K' := [(g, rowO T)]) (fun p hp => by simp only [List.mem_singleton] at hp; rw [hp]; exact List.mem_cons_of_mem _ List.mem_cons_self)
            clear h5 hok
            have hok := h6.ok
            have l0 : (0 : Int) ≤ T.length := by omega
            go_wp2
            go_loopw [89] (fun iv wr' => ∃ j : Nat, j ≤ T.length ∧ iv = .int .i64 j ∧ Ck w wr' A T most [(g, rowO T)]) (fun iv _ => T.length - (intOf iv).toNat)
            case atStart => exact ⟨0, Nat.zero_le _, rfl, h6⟩
            case round =>
              clear h6
              obtain ⟨j, hj, rfl, hD⟩ := hrel
              by_cases hjn : j < T.length
              · have j0 : (0 : Int) ≤ j := by omega
                have j1 : (j : Int) < T.length := by omega
                have hjT : j < T.length := by exact hjn
                have cj := row_cells (hD.blk _ List.mem_cons_self) j hjT
                have hnow := hD.1
                have enow := nowC_nat hjT
                obtain ⟨y, hy⟩ : ∃ y, T[j] = y := ⟨_, rfl⟩
                rw [hy] at cj enow
                have hq : ∀ w', Cs w' A T most → Calls Try.prog 11 #[.pointer (some ⟨A, 0, none⟩), .int .i64 j] w' fun e w'' => e = .returned (.int .i64 y) ∧ w'' = w' := fun w' hw' => by
                  have := now_any hw' j
                  rwa [enow] at this
                have hqd : ∀ m, Calls Try.prog 11 #[.pointer (some ⟨A, 0, none⟩), .int .i64 j] (wr.drewN m) fun e w'' => e = .returned (.int .i64 y) ∧ w'' = wr.drewN m := fun m => hq _ (hD.drewN m).1
                clear hy enow hnow hq
                go_wp2
                go_quiet ((go_at_call 11; exact Calls.quiet_of_same (hqd _)))
                go_wp2
                go_roundw
                case rel => exact ⟨j + 1, hjn, by go_num, hD.drewN _⟩
                case measure => simp [intOf]; omega
              · have j1 : ¬ (j : Int) < T.length := by omega
                go_wp2
                go_roundw
                case rel => exact ⟨k + 1, T, hkl, rfl, by go_num, hD⟩
                case measure => simp [intOf]; omega
        · have hki : ¬ (k : Int) < L.length := by omega
          have hbe := hC.below
          have na := ck_now hC T.length
          have nb := ck_now hC (-1)
          rw [nowC_not (.inr (Int.le_refl _))] at na
          rw [nowC_not (.inl (by decide))] at nb
          clear hC
          go_wp2_with fail
          refine na.mono ?_
          rintro e w7 ⟨rfl, rfl⟩
          go_wp2_with fail
          refine nb.mono ?_
          rintro e w8 ⟨rfl, rfl⟩
          go_wp2
          go_ret
          exact ⟨rfl, hbe⟩
end Go.Proofs.Ytjnkfnohnibgiaa
