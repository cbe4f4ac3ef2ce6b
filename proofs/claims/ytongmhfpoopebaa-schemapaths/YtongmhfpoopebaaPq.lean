/- The document's moves and Path. -/
import Derived.Test.YtongmhfpoopebaaPp
import Derived.Test.YtongmhfpoopebaaBi
namespace Go.Proofs.Ytongmhfpoopebaa
open Go.RowKit
section
variable {w w' : World} {v : Value}
theorem run_mv {base n m c : Nat} {xs news : List Value} {ad : Option Addr} (ho : w.ownsRow base 32 2 v n xs) (hb : base ≤ w.heap.size) (hs : (ad = none ∧ m = 0 ∧ c = 0 ∧ news = []) ∨ ∃ a, ad = some a ∧ news.length = m * 2 ∧ (∀ j u, news[j]? = some u → w.cell? (a.add j) = some u))
    (h1 : ∀ u ∈ news, u.oneCell' = true) (hnm : (n + m) * 16 ≤ 140737488355328) : ∃ ad' cap' w', (Builtin.append_ #[27, 27] 27 #[v, .slice ad m c]).run Try.prog w = .ok (.slice ad' (n + m) cap') w' ∧ w'.ownsRow base 32 2 (.slice ad' (n + m) cap') (n + m) (xs ++ news) ∧ w.grownBy w' v.ownBlock ∧ ((Value.slice ad' (n + m) cap').ownBlock = v.ownBlock ∨ (Value.slice ad' (n + m) cap').ownBlock = some w.heap.size) := by
  obtain ⟨i0, hi, hz0, hz1, hz2⟩ := info_parts info60
  rcases hs with ⟨rfl, rfl, rfl, rfl⟩ | ⟨a, rfl, hl, hc⟩
  · obtain ⟨ad', cap', rfl⟩ := own_shape ho
    refine ⟨ad', cap', w, ?_, by simpa using ho, ⟨rfl, rfl, rfl, Nat.le_refl _, fun _ _ _ => rfl⟩, .inl rfl⟩
    exact run_append_owned_none (P := Try.prog) (w := w) base 27 27 32 i0 2 Try.underlying27 hi _ n xs ho
  · obtain ⟨v', w', hr, ho', hg, _, hat⟩ := run_append_own_at (P := Try.prog) (w := w) base 27 27 32 i0 _ 2 16 Try.underlying27 hi hz0 hz1 hz2 rfl (by decide) v n xs ho a m c news hl hc h1 (by unfold maxLen; omega) hnm hb
    obtain ⟨ad', cap', rfl⟩ := own_shape ho'
    exact ⟨ad', cap', w', hr, ho', hg, hat⟩
end
theorem pushM {X : World} {B : Nat} {l : List Mv} {v : Value} (ho : X.ownsRow B 32 2 v l.length (l.flatMap mvL)) (hB : B ≤ X.heap.size) (x : Mv) (hz : l.length ≤ 100000000) :
    ∃ ad cap w', (Builtin.append_ #[27, 27] 27 #[v, .slice (some ⟨X.heap.size, 0, none⟩) 1 1]).run Try.prog (X.alloc (.cells #[.int .i64 x.1, .int .i64 x.2] 32)) = .ok (.slice ad (l.length + 1) cap) w' ∧ w'.ownsRow B 32 2 (.slice ad (l.length + 1) cap) (l ++ [x]).length ((l ++ [x]).flatMap mvL) ∧ Below B X w' := by
  have hal := bnew X (.cells #[.int .i64 x.1, .int .i64 x.2] 32)
  have hj := heap_alloc_new X (.cells #[.int .i64 x.1, .int .i64 x.2] 32)
  obtain ⟨ad, cap, w', h1, h2, h3, h4⟩ := run_mv (m := 1) (c := 1) (news := mvL x) (own_below ho hal) (Nat.le_trans hB hal.size) (.inr ⟨_, rfl, rfl, fun j u hu => by
    rw [add_at, Nat.zero_add, cell_blk hj]
    simpa using hu⟩) (fun u hu => by
      simp at hu
      rcases hu with rfl | rfl <;> rfl) (by omega)
  refine ⟨ad, cap, w', h1, by simpa using h2, (hal.mono hB).grown h3 (Nat.le_trans hB hal.size) (fun k hk => (own_ge ho k hk).1)⟩
theorem wrap_one {i : Nat} (h : (i : Int) + 1 ≤ 9223372036854775807) : IntKind.i64.wrap ((i : Int) + 1) = (i : Int) + 1 := by
  rw [IntKind.wrap_i64]
  first | omega | (unfold wrap64; omega)
/-- Amid the moves. -/
def MJ (w : World) (Q : List Mv) (lv iv : Value) (wr : World) : Prop := ∃ k : Nat, k ≤ Q.length ∧ iv = .int .i64 ((2 * k : Nat) : Int) ∧ wr.ownsRow w.heap.size 32 2 lv (Q.take k).length ((Q.take k).flatMap mvL) ∧ Below w.heap.size w wr
set_option maxHeartbeats 4000000 in
set_option maxRecDepth 100000 in
theorem moves_any {w : World} {Q : List Mv} {F n : Nat} {cs : Array Value} {T : TypeId} (hF : w.heap[F]? = some (.cells cs T (0, 0))) (hc : cs.toList = Q.flatMap mvL) (hn : n = 2 * Q.length) (hm : Q.length ≤ 10) : Calls Try.prog 14 #[.slice (some ⟨F, 0, none⟩) n n] w (MvAns w Q) := by
  have HFF := Lib.hid hF
  have HC : Hid (∀ k (hk : k < Q.length), w.cell? ⟨F, 2 * k, none⟩ = some (.int .i64 Q[k].1) ∧ w.cell? ⟨F, 2 * k + 1, none⟩ = some (.int .i64 Q[k].2)) := fun k hk => by
    have g0 := fl_get mvL_len Q k hk 0 (by omega)
    have g1 := fl_get mvL_len Q k hk 1 (by omega)
    rw [← hc, Nat.mul_comm k 2] at g0 g1
    rw [cell_blk hF, cell_blk hF]
    constructor
    · simpa using g0
    · simpa using g1
  have HN := Lib.hid hn
  have HM := Lib.hid hm
  clear hF hc hn hm
  go_enter Try.func14, Try.ntmps14
  go_wp2
  go_loopw [3, 4] (fun lv iv wr => MJ w Q lv iv wr) (fun _ iv _ => n - (intOf iv).toNat)
  case atStart => exact ⟨0, Nat.zero_le _, rfl, World.ownsRow_nil _ _ 32 2, Below.refl _ _⟩
  case round =>
    obtain ⟨k, hk, rfl, ho, hb⟩ := hrel
    obtain ⟨V, rfl⟩ : ∃ V, V = wr := ⟨_, rfl⟩
    obtain ⟨i, hi⟩ : ∃ i, 2 * k = i := ⟨_, rfl⟩
    rw [hi]
    have HO := Lib.hid ho
    obtain ⟨nad, ncap, hsh⟩ := own_shape ho
    have hln : (Q.take k).length = k := by rw [List.length_take]; omega
    rw [hln] at hsh
    subst hsh
    by_cases hlt : k < Q.length
    · have nn := HN.out
      have mm := HM.out
      have k0 : (0 : Int) ≤ i := by omega
      have k1 : (i : Int) + 1 < n := by omega
      have k2 : (0 : Int) ≤ (i : Int) + 1 := by omega
      have k3 : (i : Int) < n := by omega
      have k4 : ((i : Int) + 1).toNat = i + 1 := by omega
      have kk : (i : Int) + 1 ≤ 9223372036854775807 := by omega
      have kw := wrap_one kk
      have kk2 : (i : Int) + 2 ≤ 9223372036854775807 := by omega
      have d0 := cell_on hb (HC.out k hlt).1
      have d1 := cell_on hb (HC.out k hlt).2
      rw [hi] at d0 d1
      obtain ⟨x, hx⟩ : ∃ x, Q[k] = x := ⟨_, rfl⟩
      have HTK : Hid (Q.take (k + 1) = Q.take k ++ [x]) := by
        rw [List.take_succ_eq_append_getElem hlt, hx]
        exact Lib.hid rfl
      rw [hx] at d0 d1
      have hbD : Below V.heap.size V V.drew := bdrew (Below.refl _ _)
      obtain ⟨nad2, ncap2, w2, hrun, r1, r2⟩ := pushM (X := V.drew) (own_below HO.out hbD) (Nat.le_trans hb.size hbD.size) x (by rw [hln]; omega)
      rw [hln] at hrun r1
      rw [← HTK.out] at r1
      have R1 := Lib.hid r1
      have R2 := Lib.hid (hb.trans ((hbD.mono hb.size).trans r2))
      have HI := Lib.hid hi
      have HK := Lib.hid hlt
      clear hx ho hb r1 r2 hln hi hk hlt nn mm hbD
      go_upto_region 5 with fail
      go_region_law (refine step_run (.tmp 12) (.tmp 23) rfl rfl hrun ?_)
      all_goals
        go_wp2
        go_roundw
        case rel => exact ⟨k + 1, HK.out, by have := HI.out; simp; omega, R1.out, R2.out⟩
        case measure => simp [intOf]; omega
    · have nn := HN.out
      have mm := HM.out
      obtain rfl : k = Q.length := by omega
      have k1 : ¬ (i : Int) + 1 < n := by omega
      have k0 : (0 : Int) ≤ i := by omega
      have kk : (i : Int) + 1 ≤ 9223372036854775807 := by omega
      have ho2 := HO.out
      rw [List.take_length] at ho2
      have HO2 := Lib.hid ho2
      have HB := Lib.hid hb
      clear ho ho2 hb hln hi hk hlt nn mm
      go_wp2
      go_ret
      exact ⟨nad, ncap, rfl, HO2.out, HB.out⟩
theorem MvAns.new {w : World} {cs : Array Value} {T : TypeId} {Q : List Mv} {e : Ending} {w' : World} (h : MvAns (w.alloc (.cells cs T)) Q e w') : MvAns w Q e w' := MvAns.from (bnew w _) h
set_option maxHeartbeats 4000000 in
set_option maxRecDepth 100000 in
theorem refpath_any (w : World) (k : Int) (b : Bool) : Calls Try.prog 6 #[.int .i64 k, .bool b] w (MvAns w (pathP k b)) := by
  unfold pathP
  go_enter Try.func6, Try.ntmps6
  cases b with
  | true =>
    rw [show (if true = true then backP k else onP k) = backP k from rfl]
    unfold backP
    by_cases h2 : k = 2
    · subst h2
      have hj := heap_alloc_new w (.cells #[.int .i64 1, .int .i64 1, .int .i64 3, .int .i64 0, .int .i64 5, .int .i64 0, .int .i64 1, .int .i64 0] 3)
      have hc := moves_any (Q := [(1, 1), (3, 0), (5, 0), (1, 0)]) hj rfl (n := 8) rfl (by decide)
      clear hj
      go_wp2_with fail
      refine hc.mono ?_
      rintro e w1 ⟨ad, cap, rfl, h1, h2⟩
      clear hc
      go_wp2
      go_ret
      exact MvAns.from (bnew w _) ⟨ad, cap, rfl, h1, h2⟩
    by_cases h4 : k = 4
    · subst h4
      clear h2
      have hj := heap_alloc_new w (.cells #[.int .i64 1, .int .i64 1, .int .i64 1, .int .i64 0] 3)
      have hc := moves_any (Q := [(1, 1), (1, 0)]) hj rfl (n := 4) rfl (by decide)
      clear hj
      go_wp2_with fail
      refine hc.mono ?_
      rintro e w1 ⟨ad, cap, rfl, h1, h2⟩
      clear hc
      go_wp2
      go_ret
      exact MvAns.from (bnew w _) ⟨ad, cap, rfl, h1, h2⟩
    by_cases h6 : k = 6
    · subst h6
      clear h2 h4
      have hj := heap_alloc_new w (.cells #[.int .i64 1, .int .i64 0] 3)
      have hc := moves_any (Q := [(1, 0)]) hj rfl (n := 2) rfl (by decide)
      clear hj
      go_wp2_with fail
      refine hc.mono ?_
      rintro e w1 ⟨ad, cap, rfl, h1, h2⟩
      clear hc
      go_wp2
      go_ret
      exact MvAns.from (bnew w _) ⟨ad, cap, rfl, h1, h2⟩
    have HE : Hid ((if k = 2 then [(1, 1), (3, 0), (5, 0), (1, 0)] else if k = 4 then [(1, 1), (1, 0)] else if k = 6 then [(1, 0)] else [] : List Mv) = []) := by
      rw [if_neg h2, if_neg h4, if_neg h6]
      exact Lib.hid rfl
    rw [HE.out]
    go_wp2
    go_ret
    exact mv_none (Below.refl _ _)
  | false =>
    rw [show (if false = true then backP k else onP k) = onP k from rfl]
    unfold onP
    by_cases h1 : k = 1
    · subst h1
      have hj := heap_alloc_new w (.cells #[.int .i64 1, .int .i64 3] 3)
      have hc := moves_any (Q := [(1, 3)]) hj rfl (n := 2) rfl (by decide)
      clear hj
      go_wp2_with fail
      refine hc.mono ?_
      rintro e w1 ⟨ad, cap, rfl, h1, h2⟩
      clear hc
      go_wp2
      go_ret
      exact MvAns.from (bnew w _) ⟨ad, cap, rfl, h1, h2⟩
    by_cases h2 : k = 2
    · subst h2
      clear h1
      have hj := heap_alloc_new w (.cells #[.int .i64 1, .int .i64 1, .int .i64 1, .int .i64 2, .int .i64 3, .int .i64 0, .int .i64 4, .int .i64 0, .int .i64 1, .int .i64 3] 3)
      have hc := moves_any (Q := [(1, 1), (1, 2), (3, 0), (4, 0), (1, 3)]) hj rfl (n := 10) rfl (by decide)
      clear hj
      go_wp2_with fail
      refine hc.mono ?_
      rintro e w1 ⟨ad, cap, rfl, h1, h2⟩
      clear hc
      go_wp2
      go_ret
      exact MvAns.from (bnew w _) ⟨ad, cap, rfl, h1, h2⟩
    by_cases h3 : k = 3
    · subst h3
      clear h1 h2
      have hj := heap_alloc_new w (.cells #[.int .i64 1, .int .i64 2, .int .i64 1, .int .i64 1, .int .i64 3, .int .i64 0, .int .i64 5, .int .i64 0, .int .i64 1, .int .i64 0] 3)
      have hc := moves_any (Q := [(1, 2), (1, 1), (3, 0), (5, 0), (1, 0)]) hj rfl (n := 10) rfl (by decide)
      clear hj
      go_wp2_with fail
      refine hc.mono ?_
      rintro e w1 ⟨ad, cap, rfl, h1, h2⟩
      clear hc
      go_wp2
      go_ret
      exact MvAns.from (bnew w _) ⟨ad, cap, rfl, h1, h2⟩
    by_cases h4 : k = 4
    · subst h4
      clear h1 h2 h3
      have hj := heap_alloc_new w (.cells #[.int .i64 1, .int .i64 1, .int .i64 1, .int .i64 2, .int .i64 3, .int .i64 0, .int .i64 4, .int .i64 0, .int .i64 2, .int .i64 3] 3)
      have hc := moves_any (Q := [(1, 1), (1, 2), (3, 0), (4, 0), (2, 3)]) hj rfl (n := 10) rfl (by decide)
      clear hj
      go_wp2_with fail
      refine hc.mono ?_
      rintro e w1 ⟨ad, cap, rfl, h1, h2⟩
      clear hc
      go_wp2
      go_ret
      exact MvAns.from (bnew w _) ⟨ad, cap, rfl, h1, h2⟩
    by_cases h5 : k = 5
    · subst h5
      clear h1 h2 h3 h4
      have hj := heap_alloc_new w (.cells #[.int .i64 2, .int .i64 2, .int .i64 1, .int .i64 1, .int .i64 1, .int .i64 0] 3)
      have hc := moves_any (Q := [(2, 2), (1, 1), (1, 0)]) hj rfl (n := 6) rfl (by decide)
      clear hj
      go_wp2_with fail
      refine hc.mono ?_
      rintro e w1 ⟨ad, cap, rfl, h1, h2⟩
      clear hc
      go_wp2
      go_ret
      exact MvAns.from (bnew w _) ⟨ad, cap, rfl, h1, h2⟩
    by_cases h6 : k = 6
    · subst h6
      clear h1 h2 h3 h4 h5
      have hj := heap_alloc_new w (.cells #[.int .i64 1, .int .i64 2, .int .i64 3, .int .i64 0, .int .i64 4, .int .i64 0, .int .i64 1, .int .i64 3] 3)
      have hc := moves_any (Q := [(1, 2), (3, 0), (4, 0), (1, 3)]) hj rfl (n := 8) rfl (by decide)
      clear hj
      go_wp2_with fail
      refine hc.mono ?_
      rintro e w1 ⟨ad, cap, rfl, h1, h2⟩
      clear hc
      go_wp2
      go_ret
      exact MvAns.from (bnew w _) ⟨ad, cap, rfl, h1, h2⟩
    by_cases h7 : k = 7
    · subst h7
      clear h1 h2 h3 h4 h5 h6
      have hj := heap_alloc_new w (.cells #[.int .i64 1, .int .i64 0] 3)
      have hc := moves_any (Q := [(1, 0)]) hj rfl (n := 2) rfl (by decide)
      clear hj
      go_wp2_with fail
      refine hc.mono ?_
      rintro e w1 ⟨ad, cap, rfl, h1, h2⟩
      clear hc
      go_wp2
      go_ret
      exact MvAns.from (bnew w _) ⟨ad, cap, rfl, h1, h2⟩
    have HE : Hid ((if k = 1 then [(1, 3)] else if k = 2 then [(1, 1), (1, 2), (3, 0), (4, 0), (1, 3)] else if k = 3 then [(1, 2), (1, 1), (3, 0), (5, 0), (1, 0)] else if k = 4 then [(1, 1), (1, 2), (3, 0), (4, 0), (2, 3)] else if k = 5 then [(2, 2), (1, 1), (1, 0)] else if k = 6 then [(1, 2), (3, 0), (4, 0), (1, 3)] else if k = 7 then [(1, 0)] else [] : List Mv) = []) := by
      rw [if_neg h1, if_neg h2, if_neg h3, if_neg h4, if_neg h5, if_neg h6, if_neg h7]
      exact Lib.hid rfl
    rw [HE.out]
    go_wp2
    go_ret
    exact mv_none (Below.refl _ _)
end Go.Proofs.Ytongmhfpoopebaa
