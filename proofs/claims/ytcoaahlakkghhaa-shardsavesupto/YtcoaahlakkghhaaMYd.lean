/- The law ShardHolds. -/
import Derived.Test.YtcoaahlakkghhaaGq
namespace Go.Proofs.Ytcoaahlakkghhaa
open Go.RowKit
/-- A loop that does a script. -/
structure Lj (w V0 V : World) (A : Nat) (T : Nat → Prop) (s : Sh) (L : List Oq) (b n i : Nat) : Prop where
  st : St w V0 V A T (s.acts (L.take i))
  bd : Bd (s.acts (L.take i)) (b + tot (L.take i)) (n + tot (L.take i))
section
variable {w V0 V X : World} {A : Nat} {T : Nat → Prop} {s : Sh} {L : List Oq} {b n i : Nat}
theorem Lj.next (h : Lj w V0 V A T s L b n i) (hi : i < L.length) (st : St w V0 X A T ((s.acts (L.take i)).act L[i].1 L[i].2).1) : Lj w V0 X A T s L b n (i + 1) := by
  refine ⟨by rw [acts_next hi]; exact st, ?_⟩
  rw [acts_next hi, tot_next hi]
  have := bd_act h.bd L[i].1 L[i].2
  have hg := gsz_w L[i].2
  exact this.mono (by omega) (by omega)
end
section
variable {w : World} {L M : List Oq} {v u : Value}
set_option maxHeartbeats 8000000 in
set_option maxRecDepth 100000 in
theorem holds_law (hl : Lr opE 31 w L v) (hz : ∀ q ∈ L, CmSz q.2) (ht : tot L ≤ 1048576) (hl2 : Lr opE 31 w M u) (hz2 : ∀ q ∈ M, CmSz q.2) (ht2 : tot M ≤ 1048576) {p : Sn} {t : Td} (htd : TdOk t) : Calls Try.prog 6 #[v, snV p, tdV t, u] w fun e w' => e = .returned (.bool true) ∧ Below w.heap.size w w' := by
  obtain ⟨W, hW⟩ : ∃ W, W = (w.alloc (.cells #[.string p.lo, .string p.hi] 57)).alloc (.cells #[.int .i64 t.1, .int .i64 t.2.1, .int .i64 t.2.2] 37) := ⟨_, rfl⟩
  obtain ⟨Y5, hY5⟩ : ∃ Y5, w.heap.size = Y5 := ⟨_, rfl⟩
  obtain ⟨Y6, hY6⟩ : ∃ Y6, Y5 + 1 = Y6 := ⟨_, rfl⟩
  have hbW : Below w.heap.size w W := by rw [hW]; exact ((Below.refl _ w).alloc (Nat.le_refl _) _).alloc (by simp) _
  have j5 : W.heap[Y5]? = some (.cells #[.string p.lo, .string p.hi] 57 (0, 0)) := by
    rw [hW, ← hY5, Below.heap_alloc _ _ _ (by simp)]
    exact heap_alloc_new w _
  have j6 : W.heap[Y6]? = some (.cells #[.int .i64 t.1, .int .i64 t.2.1, .int .i64 t.2.2] 37 (0, 0)) := by
    have := heap_alloc_new (w.alloc (.cells #[.string p.lo, .string p.hi] 57)) (.cells #[.int .i64 t.1, .int .i64 t.2.1, .int .i64 t.2.2] 37)
    rw [hW, ← hY6, ← hY5]
    simpa using this
  have haw := awake_any W
  have HG1 := Lib.hid (fun X (hX : Below w.heap.size w X) => great_any (hl.on opE_held hX) (by omega))
  have HG2 := Lib.hid (fun X (hX : Below w.heap.size w X) => great_any (hl2.on opE_held hX) (by omega))
  have HL := Lib.hid hl
  have HL2 := Lib.hid hl2
  obtain ⟨ad, cap, rfl, _, _, hcap, _⟩ := hl
  obtain ⟨ad2, cap2, rfl, _, _, hcap2, _⟩ := hl2
  obtain ⟨n, hn⟩ : ∃ n, L.length = n := ⟨_, rfl⟩
  obtain ⟨m, hm⟩ : ∃ m, M.length = m := ⟨_, rfl⟩
  have hmx : (n : Int) ≤ 9223372036854775807 := by unfold maxLen at hcap; omega
  have hmx2 : (m : Int) ≤ 9223372036854775807 := by unfold maxLen at hcap2; omega
  have HN := Lib.hid hn
  have HM := Lib.hid hm
  have HW := Lib.hid hW
  have HY5 := Lib.hid hY5
  have HY6 := Lib.hid hY6
  have HBW := Lib.hid hbW
  have HJ5 := Lib.hid j5
  have HJ6 := Lib.hid j6
  rw [hn] at HG1 HL ⊢
  rw [hm] at HG2 HL2 ⊢
  clear hn hm hW hY5 hY6 hbW j5 j6 hcap hcap2
  go_enter Try.func6, Try.ntmps6
  go_upto_region 1 with fail
  rw [← HW.out, HY5.out, HY6.out]
  go_wp2_with (go_at_call 9; refine haw.mono ?_; rintro e w1 ⟨rfl, hb1⟩; refine Hid.out ?_)
  refine Lib.hid ?_
  have HB1 := Lib.hid (HBW.out.trans (hb1.mono HBW.out.size))
  have hg1 := HG1.out w1 HB1.out
  have HJ51 := Lib.hid ((hb1.block Y5 (blk_lt HJ5.out)).trans HJ5.out)
  have HJ61 := Lib.hid ((hb1.block Y6 (blk_lt HJ6.out)).trans HJ6.out)
  clear hb1 haw
  go_wp2_with (go_at_call 10; refine hg1.mono ?_; rintro e w2 ⟨⟨g1, rfl, hq1⟩, hb2⟩; refine Hid.out ?_)
  refine Lib.hid ?_
  have HB2 := Lib.hid (HB1.out.trans (hb2.mono HB1.out.size))
  have HJ52 := Lib.hid ((hb2.block Y5 (blk_lt HJ51.out)).trans HJ51.out)
  have HJ62 := Lib.hid ((hb2.block Y6 (blk_lt HJ61.out)).trans HJ61.out)
  clear hb2 hg1
  cases g1 with
  | true =>
    have haw2 := awake_any w2
    clear hq1
    go_wp2_with (go_at_call 9; refine haw2.mono ?_; rintro e w3 ⟨rfl, hb3⟩; refine Hid.out ?_)
    refine Lib.hid ?_
    have HB3 := Lib.hid (HB2.out.trans (hb3.mono HB2.out.size))
    clear hb3 haw2
    go_wp2
    go_ret
    exact ⟨rfl, HB3.out⟩
  | false =>
  have HQ1 := Lib.hid (hq1 rfl)
  have hg2 := HG2.out w2 HB2.out
  clear hq1
  go_wp2_with (go_at_call 10; refine hg2.mono ?_; rintro e w3 ⟨⟨g2, rfl, hq2⟩, hb3⟩; refine Hid.out ?_)
  refine Lib.hid ?_
  have HB3 := Lib.hid (HB2.out.trans (hb3.mono HB2.out.size))
  have HJ53 := Lib.hid ((hb3.block Y5 (blk_lt HJ52.out)).trans HJ52.out)
  have HJ63 := Lib.hid ((hb3.block Y6 (blk_lt HJ62.out)).trans HJ62.out)
  clear hb3 hg2
  cases g2 with
  | true =>
    have haw2 := awake_any w3
    clear hq2
    go_wp2_with (go_at_call 9; refine haw2.mono ?_; rintro e w4 ⟨rfl, hb4⟩; refine Hid.out ?_)
    refine Lib.hid ?_
    have HB4 := Lib.hid (HB3.out.trans (hb4.mono HB3.out.size))
    clear hb4 haw2
    go_wp2
    go_ret
    exact ⟨rfl, HB4.out⟩
  | false =>
  have HQ2 := Lib.hid (hq2 rfl)
  have hnew := newS_any w3
  clear hq2 HG1 HG2
  obtain ⟨T, hT⟩ : ∃ T : Nat → Prop, T = fun k => k = Y5 ∨ k = Y6 := ⟨_, rfl⟩
  have hTl : ∀ k, T k → k < w3.heap.size := fun k hk => by
    rw [hT] at hk
    rcases hk with rfl | rfl
    · exact blk_lt HJ53.out
    · exact blk_lt HJ63.out
  have HT := Lib.hid hT
  have HTL := Lib.hid hTl
  clear hT hTl
  go_wp2_with (go_at_call 11; refine hnew.mono ?_; rintro e w4 hq; obtain ⟨A, rfl, hst⟩ := St.new (T := T) HB3.out HTL.out hq; refine Hid.out ?_)
  refine Lib.hid ?_
  have HST := Lib.hid hst
  clear hst hq hnew
  go_wp2
  go_loopw [33] (fun iv wr => ∃ i : Nat, i ≤ n ∧ iv = .int .i64 (i : Int) ∧ Lj w w3 wr A T Sh.nil L 0 0 i) (fun iv _ => n - (intOf iv).toNat)
  case atStart => exact ⟨0, Nat.zero_le _, rfl, ⟨by rw [List.take_zero]; exact HST.out, by rw [List.take_zero]; exact Bd.nil⟩⟩
  case round =>
    clear HST
    obtain ⟨i, hi, rfl, hlj⟩ := hrel
    obtain ⟨V1, rfl⟩ : ∃ V1, V1 = wr := ⟨_, rfl⟩
    by_cases hlt : i < n
    · have hiL : i < L.length := by rw [HN.out]; exact hlt
      have k0 : (0 : Int) ≤ i := by omega
      have k1 : (i : Int) < n := by omega
      have htl := tot_le L i
      obtain ⟨b, o, os, cs, V, rfl, hld, hst, hdq, hbV⟩ := op_box HL.out hz hiL hlj.st hlj.bd (by have := HQ1.out.2; omega) (by have := HQ1.out.2; omega) (by have := HQ1.out.2; omega)
      obtain ⟨Y, hY⟩ : ∃ Y, V1.heap.size = Y := ⟨_, rfl⟩
      have HNX := Lib.hid (fun X hX => hlj.next (X := X) hiL hX)
      obtain ⟨q, hq⟩ : ∃ q, L[i] = q := ⟨_, rfl⟩
      obtain ⟨s, hs⟩ : ∃ s, Sh.nil.acts (L.take i) = s := ⟨_, rfl⟩
      rw [hY, hq, hs] at hdq
      rw [hq, hs] at HNX
      have DQ := Lib.hid hdq
      have HY := Lib.hid hY
      clear hdq hY hq hs hlj htl hbV
      go_upto_region 7 with (first | refine wpl_load _ rfl (by simp [Act.eval]) hld ?_ | refine wpl_store _ _ rfl (by simp [Act.eval, Act.put]) (by simp [Act.eval, Act.put]) hst ?_)
      rw [HY.out]
      clear hld hst
      refine wp_region_last (fun X9 => Below V.heap.size V X9) (fun X9 X' => Below X9.heap.size X9 X') [
        fun v9 _ => v9 = .pointer (some ⟨A, 0, none⟩),
        fun v9 _ => v9 = .pointer (some ⟨Y, 0, none⟩),
        fun v9 _ => v9 = .int .i64 q.1,
        fun v9 _ => v9 = .pointer (some ⟨Y, 1, none⟩),
        fun v9 _ => v9 = .agg cs,
        fun v9 X9 => ∃ cs9, v9 = .agg cs9 ∧ OwnV V X9 q.2 cs9]
        (fun v9 X9 => v9 = rzV (s.act q.1 q.2).2 ∧ St w w3 X9 A T (s.act q.1 q.2).1 ∧ X9.heap[Y]? = some (.cells os 49 (0, 0))) rfl (by kernel_rfl) (by kernel_rfl) (by kernel_rfl) (by kernel_rfl) ?st ?g0 ?os ?la ?en
      case st => exact ⟨fun _ _ _ _ h => h, fun _ _ _ _ h => h, fun _ _ _ _ h => h, fun _ _ _ _ h => h, fun _ _ _ _ h => h, (fun _ _ _ hb h => by obtain ⟨c9, e9, h9⟩ := h; exact ⟨c9, e9, h9.on hb⟩), trivial⟩
      case g0 => exact ⟨rfl, rfl, rfl, Nat.le_refl _, fun _ _ => rfl⟩
      case os =>
        refine ⟨?_, ?_, ?_, ?_, ?_, ?_, trivial⟩
        · exact ⟨rfl, fun ρ X9 hg ho hc hf hr => Runs.val _ (op_move (show ρ (.tmp 9) = .pointer (some ⟨A, 0, none⟩) from ho 9 rfl)) ⟨hg, Below.refl _ _, rfl⟩⟩
        · exact ⟨rfl, fun ρ X9 hg ho hc hf hr => Runs.val _ (op_f49_0 (show ρ (.tmp 11) = .pointer (some ⟨Y, 0, none⟩) from ho 11 rfl)) ⟨hg, Below.refl _ _, rfl⟩⟩
        · exact ⟨rfl, fun ρ X9 hg ho hc hf hr => Runs.val _ (op_loadI (show ρ (.tmp 38) = .pointer (some ⟨Y, 0, none⟩) from hr 1 38 rfl rfl) (cell_on hg DQ.out.a0)) ⟨hg, Below.refl _ _, rfl⟩⟩
        · exact ⟨rfl, fun ρ X9 hg ho hc hf hr => Runs.val _ (op_f49_1 (show ρ (.tmp 11) = .pointer (some ⟨Y, 0, none⟩) from ho 11 rfl)) ⟨hg, Below.refl _ _, rfl⟩⟩
        · exact ⟨rfl, fun ρ X9 hg ho hc hf hr => Runs.val _ (op_loadAt (show ρ (.tmp 40) = .pointer (some ⟨Y, 1, none⟩) from (hr 3 40 rfl rfl)) (DQ.out.ld X9 hg)) ⟨hg, Below.refl _ _, rfl⟩⟩
        · refine ⟨rfl, fun ρ X9 hg ho hc hf hr => ?_⟩
          refine Runs.goes 12 #[.agg cs] (op_call1 hf call12 (show ρ (.tmp 41) = .agg cs from hr 4 41 rfl rfl)) ((DQ.out.ow X9 hg).mono ?_)
          rintro e7 w7 ⟨b7, cs7, rfl, h7⟩
          exact ⟨_, rfl, hg.trans (b7.mono hg.size), b7, cs7, rfl, h7⟩
      case la =>
        refine ⟨rfl, fun ρ X9 hg ho hc hf hr => ?_⟩
        obtain ⟨cs9, e9, h9⟩ : ∃ cs9, ρ (.tmp 42) = .agg cs9 ∧ OwnV V X9 q.2 cs9 := hr 5 42 (by decide) rfl
        refine Runs.goes 13 #[.pointer (some ⟨A, 0, none⟩), .int .i64 q.1, .agg cs9] (op_call3 hf call13 (show ρ (.tmp 37) = .pointer (some ⟨A, 0, none⟩) from hr 0 37 (by decide) rfl) (show ρ (.tmp 39) = .int .i64 q.1 from hr 2 39 (by decide) rfl) e9) ((DQ.out.go X9 cs9 hg h9).mono ?_)
        rintro e7 w7 ⟨rfl, h7⟩
        exact ⟨_, rfl, rfl, h7⟩
      case en =>
        intro a9 X9 Xb v9 hF hs9 hd9 ho9 hv9 hr9
        obtain ⟨x9, hx, hxt⟩ := act_put hs9 hd9 ho9
        change a9 = putAll _ x9 [37, 38, 39, 40, 41, 42, 43] at hx
        simp only [putAll, Act.put, List.setIfInBounds_toArray, List.set_cons_zero, List.set_cons_succ] at hx
        have HF := Lib.hid hF.2
        clear hF hs9 hd9 ho9 hv9 hr9 hxt
        subst hx
        generalize x9 37 = z37, x9 38 = z38, x9 39 = z39, x9 40 = z40, x9 41 = z41, x9 42 = z42, x9 43 = z43
        go_wp2
        go_roundw
        case rel => exact ⟨i + 1, hlt, by go_num, HNX.out X9 HF.out.1⟩
        case measure => simp [intOf]; omega
    · have k1 : ¬ ((i : Int) < n) := by omega
      have ei : i = n := by omega
      have hst : St w w3 V1 A T (Sh.nil.acts L) := by
        have := hlj.st
        rw [List.take_of_length_le (by rw [HN.out]; omega)] at this
        exact this
      have hbd : Bd (Sh.nil.acts L) 3000 3000 := by
        have := hlj.bd
        rw [List.take_of_length_le (by rw [HN.out]; omega)] at this
        have h3 := HQ1.out.2
        exact this.mono (by omega) (by omega)
      obtain ⟨s, hs⟩ : ∃ s, Sh.nil.acts L = s := ⟨_, rfl⟩
      rw [hs] at hst hbd
      have HBD := Lib.hid hbd
      have t5 : T Y5 := by rw [HT.out]; exact .inl rfl
      have t6 : T Y6 := by rw [HT.out]; exact .inr rfl
      have j5 := (hst.kp t5).trans HJ53.out
      have y0 : V1.cell? ⟨Y5, 0, none⟩ = some (.string p.lo) := cell_blk j5 0
      have y1 : V1.cell? ⟨Y5, 1, none⟩ = some (.string p.hi) := cell_blk j5 1
      have hspn : Calls Try.prog 24 #[.pointer (some ⟨A, 0, none⟩), snV p] V1 fun e w' => SpanAns V1 (span s.rows p.lo p.hi ever) e w' := by
        obtain ⟨S, hS⟩ := hst
        obtain ⟨S1, S2, P, M, N, G, lv, rv, ov, hx, _⟩ := hS.sy
        exact spanS_any hx p
      have HST := Lib.hid hst
      clear hst hlj hs j5 hbd ei
      obtain ⟨H, hH⟩ : ∃ H, span s.rows p.lo p.hi ever = H := ⟨_, rfl⟩
      rw [hH] at hspn
      have hHl : H.length < 900000 := by
        have h1 := HBD.out.rw
        have h2 : H.length ≤ s.rows.length := by
          rw [← hH]
          unfold span
          exact Nat.le_trans (List.length_filterMap_le _ _) (List.length_filter_le _ _)
        omega
      have HH := Lib.hid hH
      clear hH
      go_wp2_with (go_at_call 24; refine hspn.mono ?_; rintro e w5 ⟨ad3, cap3, rfl, ho3, hb3⟩; refine Hid.out ?_)
      refine Lib.hid ?_
      obtain ⟨T2, hT2⟩ : ∃ T2 : Nat → Prop, T2 = fun k => T k ∨ (Value.slice ad3 H.length cap3).ownBlock = some k := ⟨_, rfl⟩
      have hst5 : St w w5 w5 A T2 s := HST.out.more hb3 (fun k hk => by
        rw [hT2] at hk
        rcases hk with z | z
        · exact .inl z
        · exact .inr (ho3.lt k z))
      have j55 : w5.heap[Y5]? = some (.cells #[.string p.lo, .string p.hi] 57 (0, 0)) := (hb3.block Y5 (by have := blk_lt ((HST.out.kp t5).trans HJ53.out); exact this)).trans ((HST.out.kp t5).trans HJ53.out)
      have j65 : w5.heap[Y6]? = some (.cells #[.int .i64 t.1, .int .i64 t.2.1, .int .i64 t.2.2] 37 (0, 0)) := (hb3.block Y6 (by have := blk_lt ((HST.out.kp t6).trans HJ63.out); exact this)).trans ((HST.out.kp t6).trans HJ63.out)
      have hmh : (H.length : Int) ≤ 9223372036854775807 := by omega
      have HO3 := Lib.hid ho3
      have HT2 := Lib.hid hT2
      have HST5 := Lib.hid hst5
      have HJ55 := Lib.hid j55
      have HJ65 := Lib.hid j65
      have HHM := Lib.hid (hi_own ho3)
      clear ho3 hb3 hspn hT2 hst5 HST HJ53 HJ63 j55 j65 y0 y1
      go_wp2
      go_loopw [13, 50] (fun lv iv wr => SJ w5 wr H lv iv) (fun _ iv _ => H.length - (intOf iv).toNat)
      case atStart => exact ⟨0, Nat.zero_le _, rfl, World.ownsRow_nil _ _ _ _, Below.refl _ _⟩
      case round =>
        obtain ⟨j, hj, rfl, hoj, hbj⟩ := hrel
        obtain ⟨U, rfl⟩ : ∃ U, U = wr := ⟨_, rfl⟩
        obtain ⟨sad, scap, rfl⟩ := own_shape hoj
        by_cases hlt2 : j < H.length
        · have m0 : (0 : Int) ≤ j := by omega
          have m1 : (j : Int) < H.length := by omega
          obtain ⟨_, _, e9, _, _, hcl⟩ := HHM.out.on hbj
          obtain ⟨bh, rfl, c0, c1, c2⟩ := hcl j hlt2
          cases e9
          obtain ⟨x, hx⟩ : ∃ x, H[j] = x := ⟨_, rfl⟩
          rw [hx] at c0 c1 c2
          obtain ⟨ad9, cap9, w9, hrun, hsj⟩ := sj_more hoj hbj hlt2 hx hHl
          have HSJ := Lib.hid hsj
          obtain ⟨ln, hln⟩ : ∃ ln, ((H.take j).map stOf).length = ln := ⟨_, rfl⟩
          rw [hln] at hrun HSJ ⊢
          clear hsj hoj hbj hx hcl hln
          go_wp2_with (at_builtin; refine wpl_run2 _ _ rfl (by simp [Act.eval]) (by simp [Act.eval]) hrun ?_)
          go_roundw
          case rel => exact HSJ.out
          case measure => simp [intOf]; omega
        · have m1 : ¬ ((j : Int) < H.length) := by omega
          have ej : j = H.length := by omega
          obtain ⟨Q, hQ⟩ : ∃ Q, H.map stOf = Q := ⟨_, rfl⟩
          rw [ej, List.take_length, hQ] at hoj ⊢
          have u0 : U.cell? ⟨Y5, 0, none⟩ = some (.string p.lo) := cell_on hbj (cell_blk HJ55.out 0)
          have u1 : U.cell? ⟨Y5, 1, none⟩ = some (.string p.hi) := cell_on hbj (cell_blk HJ55.out 1)
          have v0 : U.cell? ⟨Y6, 0, none⟩ = some (.int .i64 t.1) := cell_on hbj (cell_blk HJ65.out 0)
          have v1 : U.cell? ⟨Y6, 1, none⟩ = some (.int .i64 t.2.1) := cell_on hbj (cell_blk HJ65.out 1)
          have v2 : U.cell? ⟨Y6, 2, none⟩ = some (.int .i64 t.2.2) := cell_on hbj (cell_blk HJ65.out 2)
          have bU : Below U.heap.size U (U.alloc (.cells #[.string p.lo, .string p.hi, .slice sad Q.length scap] 60)) := (Below.refl _ U).alloc (Nat.le_refl _) _
          have how := see_own (t := t) (p := p) (Q := Q) (own_below hoj bU) (heap_alloc_new U _) hbj.size
          have hgo := go_own HST5.out (hbj.trans (bU.mono hbj.size)) how (Nat.le_refl _) htd ⟨by show _ ≤ (1 : Int); decide, by show (1 : Int) ≤ _; decide⟩ HBD.out (by decide) (by decide) (by show 1 ≤ 800000; omega) (by show 0 ≤ 800000; omega) 1
          have hsee := see_act (s := s) (t := t) (p := p) 1
          rw [HH.out, hQ] at hsee
          have HBD2 := Lib.hid (bd_act HBD.out 1 (seeC t p Q))
          obtain ⟨r, hr⟩ : ∃ r, s.act 1 (seeC t p Q) = r := ⟨_, rfl⟩
          rw [hr] at hgo hsee HBD2
          have HSEE := Lib.hid hsee
          clear how bU hsee hr hoj ej hQ
          go_wp2_with (go_at_call 13; refine hgo.mono ?_; rintro e w6 ⟨rfl, hst6⟩; refine Hid.out ?_)
          refine Lib.hid ?_
          obtain ⟨Z, hZ⟩ : ∃ Z, w6.heap.size = Z := ⟨_, rfl⟩
          obtain ⟨W7, hW7⟩ : ∃ W7, W7 = w6.alloc (.cells #[.int .i64 0, .int .i64 0, .int .i64 0, .int .i64 0, .int .i64 0, .int .i64 0, .int .i64 0, .int .i64 0, .bool false] 52) := ⟨_, rfl⟩
          have jZ : W7.heap[Z]? = some (.cells #[.int .i64 0, .int .i64 0, .int .i64 0, .int .i64 0, .int .i64 0, .int .i64 0, .int .i64 0, .int .i64 0, .bool false] 52 (0, 0)) := by rw [hW7, ← hZ]; exact heap_alloc_new w6 _
          have b7 : Below w6.heap.size w6 W7 := by rw [hW7]; exact (Below.refl _ w6).alloc (Nat.le_refl _) _
          obtain ⟨X, hstr, jX, fX⟩ := put_rz jZ rfl r.2
          have b8 : Below w6.heap.size w6 X := b7.trans (fX.toBelow (fun k hk e => by have e' : k = Z := e; omega) b7.size)
          have hst7 := hst6.on b8
          have x8 : X.cell? ⟨Z, 8, none⟩ = some (.bool r.2.nw) := cell_blk jX 8
          have x0 : X.cell? ⟨Z, 0, none⟩ = some (.int .i64 r.2.err) := cell_blk jX 0
          rw [hW7, ← hZ] at hstr
          rw [← hZ] at x8 x0
          have HST7 := Lib.hid hst7
          clear hZ hW7 jZ b7 jX fX b8 hst7 hst6 hgo u0 u1 v0 v1 v2 hbj
          have hse := HSEE.out
          rcases hse with ⟨hnw, herr⟩ | ⟨hnw, hhold, hrows⟩
          · rw [hnw] at x8
            have HBX := Lib.hid HST7.out.bl
            have herr2 : (r.2.err == 130) = false := by simpa using herr
            clear HSEE hnw
            obtain ⟨er, her⟩ : ∃ er, r.2.err = er := ⟨_, rfl⟩
            rw [her] at x0 herr herr2
            clear her
            go_wp2_with (refine wpl_store _ _ rfl (by simp [Act.eval, Act.put]) (by simp [Act.eval, Act.put]) hstr ?_)
            go_ret
            exact ⟨by simp [herr], HBX.out⟩
          · rw [hnw] at x8
            have HSP : Hid (span r.1.rows p.lo p.hi ever = H) := Lib.hid (by rw [hrows]; exact HH.out)
            have HHO := Lib.hid hhold
            clear HSEE hnw hhold hrows x0
            go_wp2_with (refine wpl_store _ _ rfl (by simp [Act.eval, Act.put]) (by simp [Act.eval, Act.put]) hstr ?_)
            clear hstr x8
            go_loopw [79] (fun iv wr => ∃ (i : Nat) (s' : Sh), i ≤ m ∧ iv = .int .i64 (i : Int) ∧ St w w5 wr A T2 s' ∧ Bd s' (4000 + tot (M.take i)) (4000 + tot (M.take i)) ∧ Hold s' t p ∧ span s'.rows p.lo p.hi ever = H) (fun iv _ => m - (intOf iv).toNat)
            case atStart => exact ⟨0, r.1, Nat.zero_le _, rfl, HST7.out, HBD2.out.mono (by show 3000 + 0 ≤ _; omega) (by omega), HHO.out, HSP.out⟩
            case round =>
              clear HST7 HBD2 HHO HSP
              obtain ⟨i2, s2, hi2, rfl, hst, hbd, hho, hsp2⟩ := hrel
              obtain ⟨V1, rfl⟩ : ∃ V1, V1 = wr := ⟨_, rfl⟩
              by_cases hlt3 : i2 < m
              · have hiM : i2 < M.length := by rw [HM.out]; exact hlt3
                have k2 : (0 : Int) ≤ i2 := by omega
                have k3 : (i2 : Int) < m := by omega
                have htl := tot_le M i2
                have htn := tot_next hiM
                obtain ⟨b4, o4, os, cs, V, rfl, hld, hstr, hdq, hbV⟩ := op_box HL2.out hz2 hiM hst hbd (by have := HQ2.out.2; omega) (by have := HQ2.out.2; omega) (by have := HQ2.out.2; omega)
                obtain ⟨Y, hY⟩ : ∃ Y, V1.heap.size = Y := ⟨_, rfl⟩
                have hgw := gsz_w M[i2].2
                have hbn := bd_act hbd M[i2].1 M[i2].2
                have hbn0 := hbd.mono (T' := 4000 + tot (M.take (i2 + 1))) (n' := 4000 + tot (M.take (i2 + 1))) (by omega) (by omega)
                have hbn1 := hbn.mono (T' := 4000 + tot (M.take (i2 + 1))) (n' := 4000 + tot (M.take (i2 + 1))) (by omega) (by omega)
                obtain ⟨q, hq⟩ : ∃ q, M[i2] = q := ⟨_, rfl⟩
                rw [hY, hq] at hdq
                rw [hq] at hbn1
                have hha := hold_act hho q.1 q.2
                obtain ⟨ra4, rc4, wa4, wc4, hok⟩ := hdq.ok
                have d1 : V.cell? ⟨Y, 1, none⟩ = some (.int .i64 q.2.kind) := (hdq.at' 0).trans hok.cc.k
                have d5 : V.cell? ⟨Y, 5, none⟩ = some (.int .i64 q.2.txn.1) := (hdq.at' 4).trans hok.cc.t0
                have d6 : V.cell? ⟨Y, 6, none⟩ = some (.int .i64 q.2.txn.2.1) := (hdq.at' 5).trans hok.cc.t1
                have d7 : V.cell? ⟨Y, 7, none⟩ = some (.int .i64 q.2.txn.2.2) := (hdq.at' 6).trans hok.cc.t2
                have t52 : T2 Y5 := by rw [HT2.out]; exact .inl t5
                have t62 : T2 Y6 := by rw [HT2.out]; exact .inl t6
                have j6v := (hdq.st.kp t62).trans HJ65.out
                have f0 : V.cell? ⟨Y6, 0, none⟩ = some (.int .i64 t.1) := cell_blk j6v 0
                have f1 : V.cell? ⟨Y6, 1, none⟩ = some (.int .i64 t.2.1) := cell_blk j6v 1
                have f2 : V.cell? ⟨Y6, 2, none⟩ = some (.int .i64 t.2.2) := cell_blk j6v 2
                have he37 := eq37 q.2.txn t
                have DQ := Lib.hid hdq
                have HY := Lib.hid hY
                have HB0 := Lib.hid hbn0
                have HB9 := Lib.hid hbn1
                have HHA := Lib.hid hha
                have HHO := Lib.hid hho
                have HS2 := Lib.hid hsp2
                clear hdq hY hq hst hbd htl htn hbV hgw hbn hbn0 hbn1 hha hho hsp2 hok j6v
                go_upto_region 22 with (first | refine wpl_load _ rfl (by simp [Act.eval]) hld ?_ | refine wpl_store _ _ rfl (by simp [Act.eval, Act.put]) (by simp [Act.eval, Act.put]) hstr ?_)
                rw [HY.out]
                clear hld hstr
                by_cases hkd : q.2.kind = 4 ∧ q.2.txn = t
                · have hkk : q.2.kind = 4 := hkd.1
                  rw [hkk] at d1
                  have e3 : decide (q.2.txn = t) = true := decide_eq_true hkd.2
                  rw [e3] at he37
                  clear hkd hkk e3
                  obtain ⟨a1, ha1⟩ : ∃ a1, q.2.txn = a1 := ⟨_, rfl⟩
                  rw [ha1] at d5 d6 d7 he37
                  clear ha1
                  go_wp2
                  go_roundw
                  case rel => exact ⟨i2 + 1, s2, hlt3, by go_num, DQ.out.st, HB0.out, HHO.out, HS2.out⟩
                  case measure => simp [intOf]; omega
                · have HHB := Lib.hid (HHA.out hkd)
                  have hcond : decide (q.2.kind = 4) = false ∨ decide (q.2.txn = t) = false := by
                    by_cases z : q.2.kind = 4
                    · exact .inr (decide_eq_false (fun y => hkd ⟨z, y⟩))
                    · exact .inl (decide_eq_false z)
                  have HCO := Lib.hid hcond
                  clear hkd hcond HHA HB0 HHO
                  obtain ⟨a1, ha1⟩ : ∃ a1, q.2.txn = a1 := ⟨_, rfl⟩
                  obtain ⟨kd, hkd⟩ : ∃ kd, q.2.kind = kd := ⟨_, rfl⟩
                  rw [ha1] at d5 d6 d7 he37 HCO
                  rw [hkd] at d1 HCO
                  clear ha1 hkd
                  rcases HCO.out with z | z
                  · have z2 : (kd == 4) = false := by simpa using z
                    have z3 : ¬ kd = 4 := of_decide_eq_false z
                    clear HCO z
                    go_upto_region 23 with fail
                    refine wp_region_last (fun X9 => Below V.heap.size V X9) (fun X9 X' => Below X9.heap.size X9 X') [
                      fun v9 _ => v9 = .pointer (some ⟨A, 0, none⟩),
                      fun v9 _ => v9 = .pointer (some ⟨Y, 0, none⟩),
                      fun v9 _ => v9 = .int .i64 q.1,
                      fun v9 _ => v9 = .pointer (some ⟨Y, 1, none⟩),
                      fun v9 _ => v9 = .agg cs,
                      fun v9 X9 => ∃ cs9, v9 = .agg cs9 ∧ OwnV V X9 q.2 cs9]
                      (fun v9 X9 => v9 = rzV (s2.act q.1 q.2).2 ∧ St w w5 X9 A T2 (s2.act q.1 q.2).1 ∧ X9.heap[Y]? = some (.cells os 49 (0, 0))) rfl (by kernel_rfl) (by kernel_rfl) (by kernel_rfl) (by kernel_rfl) ?st ?g0 ?os ?la ?en
                    case st => exact ⟨fun _ _ _ _ h => h, fun _ _ _ _ h => h, fun _ _ _ _ h => h, fun _ _ _ _ h => h, fun _ _ _ _ h => h, (fun _ _ _ hb h => by obtain ⟨c9, e9, h9⟩ := h; exact ⟨c9, e9, h9.on hb⟩), trivial⟩
                    case g0 => exact ⟨rfl, rfl, rfl, Nat.le_refl _, fun _ _ => rfl⟩
                    case os =>
                      refine ⟨?_, ?_, ?_, ?_, ?_, ?_, trivial⟩
                      · exact ⟨rfl, fun ρ X9 hg ho hc hf hr => Runs.val _ (op_move (show ρ (.tmp 9) = .pointer (some ⟨A, 0, none⟩) from ho 9 rfl)) ⟨hg, Below.refl _ _, rfl⟩⟩
                      · exact ⟨rfl, fun ρ X9 hg ho hc hf hr => Runs.val _ (op_f49_0 (show ρ (.tmp 18) = .pointer (some ⟨Y, 0, none⟩) from ho 18 rfl)) ⟨hg, Below.refl _ _, rfl⟩⟩
                      · exact ⟨rfl, fun ρ X9 hg ho hc hf hr => Runs.val _ (op_loadI (show ρ (.tmp 95) = .pointer (some ⟨Y, 0, none⟩) from hr 1 95 rfl rfl) (cell_on hg DQ.out.a0)) ⟨hg, Below.refl _ _, rfl⟩⟩
                      · exact ⟨rfl, fun ρ X9 hg ho hc hf hr => Runs.val _ (op_f49_1 (show ρ (.tmp 18) = .pointer (some ⟨Y, 0, none⟩) from ho 18 rfl)) ⟨hg, Below.refl _ _, rfl⟩⟩
                      · exact ⟨rfl, fun ρ X9 hg ho hc hf hr => Runs.val _ (op_loadAt (show ρ (.tmp 97) = .pointer (some ⟨Y, 1, none⟩) from (hr 3 97 rfl rfl)) (DQ.out.ld X9 hg)) ⟨hg, Below.refl _ _, rfl⟩⟩
                      · refine ⟨rfl, fun ρ X9 hg ho hc hf hr => ?_⟩
                        refine Runs.goes 12 #[.agg cs] (op_call1 hf call12 (show ρ (.tmp 98) = .agg cs from hr 4 98 rfl rfl)) ((DQ.out.ow X9 hg).mono ?_)
                        rintro e7 w7 ⟨b7, cs7, rfl, h7⟩
                        exact ⟨_, rfl, hg.trans (b7.mono hg.size), b7, cs7, rfl, h7⟩
                    case la =>
                      refine ⟨rfl, fun ρ X9 hg ho hc hf hr => ?_⟩
                      obtain ⟨cs9, e9, h9⟩ : ∃ cs9, ρ (.tmp 99) = .agg cs9 ∧ OwnV V X9 q.2 cs9 := hr 5 99 (by decide) rfl
                      refine Runs.goes 13 #[.pointer (some ⟨A, 0, none⟩), .int .i64 q.1, .agg cs9] (op_call3 hf call13 (show ρ (.tmp 94) = .pointer (some ⟨A, 0, none⟩) from hr 0 94 (by decide) rfl) (show ρ (.tmp 96) = .int .i64 q.1 from hr 2 96 (by decide) rfl) e9) ((DQ.out.go X9 cs9 hg h9).mono ?_)
                      rintro e7 w7 ⟨rfl, h7⟩
                      exact ⟨_, rfl, rfl, h7⟩
                    case en =>
                      intro a9 X9 Xb v9 hF hs9 hd9 ho9 hv9 hr9
                      obtain ⟨x9, hx, hxt⟩ := act_put hs9 hd9 ho9
                      change a9 = putAll _ x9 [94, 95, 96, 97, 98, 99, 100] at hx
                      simp only [putAll, Act.put, List.setIfInBounds_toArray, List.set_cons_zero, List.set_cons_succ] at hx
                      have HF := Lib.hid hF.2
                      clear hF hs9 hd9 ho9 hv9 hr9 hxt
                      subst hx
                      generalize x9 94 = z94, x9 95 = z95, x9 96 = z96, x9 97 = z97, x9 98 = z98, x9 99 = z99, x9 100 = z100
                      have HST9 := Lib.hid HF.out.1
                      have j5v := (HST9.out.kp t52).trans HJ55.out
                      have g0 : X9.cell? ⟨Y5, 0, none⟩ = some (.string p.lo) := cell_blk j5v 0
                      have g1 : X9.cell? ⟨Y5, 1, none⟩ = some (.string p.hi) := cell_blk j5v 1
                      have hspn : Calls Try.prog 24 #[.pointer (some ⟨A, 0, none⟩), snV p] X9 fun e w' => SpanAns X9 H e w' := by
                        obtain ⟨S, hS⟩ := HST9.out
                        obtain ⟨S1, S2, P, M, N, G, lv, rv, ov, hx, _⟩ := hS.sy
                        have := spanS_any hx p
                        rw [HHB.out.2, HS2.out] at this
                        exact this
                      have hrow : X9.ownsRow 0 80 3 (.slice ad3 H.length cap3) H.length (hiC H) := own_like (own_mono HO3.out (Nat.zero_le _)) (fun k hk => HST9.out.kp (by rw [HT2.out]; exact .inr hk))
                      have HRW := Lib.hid (hi_own hrow)
                      clear hrow j5v d1 d5 d6 d7 f0 f1 f2
                      go_wp2_with (go_at_call 24; refine hspn.mono ?_; rintro e w8 ⟨ad8, cap8, rfl, ho8, hb8⟩; refine Hid.out ?_)
                      refine Lib.hid ?_
                      have hsm := same_hits (hi_own ho8) (HRW.out.on hb8)
                      have HB8 := Lib.hid hb8
                      clear ho8 hb8 hspn
                      go_wp2_with (go_at_call 25; refine hsm.mono ?_; rintro e w10 ⟨rfl, hb10⟩; refine Hid.out ?_)
                      refine Lib.hid ?_
                      have HB10 := Lib.hid (HB8.out.trans (hb10.mono HB8.out.size))
                      clear hb10 hsm
                      go_wp2
                      go_roundw
                      case rel => exact ⟨i2 + 1, _, hlt3, by go_num, HST9.out.on HB10.out, HB9.out, HHB.out.1, HHB.out.2.trans HS2.out⟩
                      case measure => simp [intOf]; omega
                  · rw [z] at he37
                    clear HCO z
                    by_cases z3 : kd = 4
                    · rw [z3] at d1
                      clear z3
                      go_upto_region 23 with fail
                      refine wp_region_last (fun X9 => Below V.heap.size V X9) (fun X9 X' => Below X9.heap.size X9 X') [
                        fun v9 _ => v9 = .pointer (some ⟨A, 0, none⟩),
                        fun v9 _ => v9 = .pointer (some ⟨Y, 0, none⟩),
                        fun v9 _ => v9 = .int .i64 q.1,
                        fun v9 _ => v9 = .pointer (some ⟨Y, 1, none⟩),
                        fun v9 _ => v9 = .agg cs,
                        fun v9 X9 => ∃ cs9, v9 = .agg cs9 ∧ OwnV V X9 q.2 cs9]
                        (fun v9 X9 => v9 = rzV (s2.act q.1 q.2).2 ∧ St w w5 X9 A T2 (s2.act q.1 q.2).1 ∧ X9.heap[Y]? = some (.cells os 49 (0, 0))) rfl (by kernel_rfl) (by kernel_rfl) (by kernel_rfl) (by kernel_rfl) ?st ?g0 ?os ?la ?en
                      case st => exact ⟨fun _ _ _ _ h => h, fun _ _ _ _ h => h, fun _ _ _ _ h => h, fun _ _ _ _ h => h, fun _ _ _ _ h => h, (fun _ _ _ hb h => by obtain ⟨c9, e9, h9⟩ := h; exact ⟨c9, e9, h9.on hb⟩), trivial⟩
                      case g0 => exact ⟨rfl, rfl, rfl, Nat.le_refl _, fun _ _ => rfl⟩
                      case os =>
                        refine ⟨?_, ?_, ?_, ?_, ?_, ?_, trivial⟩
                        · exact ⟨rfl, fun ρ X9 hg ho hc hf hr => Runs.val _ (op_move (show ρ (.tmp 9) = .pointer (some ⟨A, 0, none⟩) from ho 9 rfl)) ⟨hg, Below.refl _ _, rfl⟩⟩
                        · exact ⟨rfl, fun ρ X9 hg ho hc hf hr => Runs.val _ (op_f49_0 (show ρ (.tmp 18) = .pointer (some ⟨Y, 0, none⟩) from ho 18 rfl)) ⟨hg, Below.refl _ _, rfl⟩⟩
                        · exact ⟨rfl, fun ρ X9 hg ho hc hf hr => Runs.val _ (op_loadI (show ρ (.tmp 95) = .pointer (some ⟨Y, 0, none⟩) from hr 1 95 rfl rfl) (cell_on hg DQ.out.a0)) ⟨hg, Below.refl _ _, rfl⟩⟩
                        · exact ⟨rfl, fun ρ X9 hg ho hc hf hr => Runs.val _ (op_f49_1 (show ρ (.tmp 18) = .pointer (some ⟨Y, 0, none⟩) from ho 18 rfl)) ⟨hg, Below.refl _ _, rfl⟩⟩
                        · exact ⟨rfl, fun ρ X9 hg ho hc hf hr => Runs.val _ (op_loadAt (show ρ (.tmp 97) = .pointer (some ⟨Y, 1, none⟩) from (hr 3 97 rfl rfl)) (DQ.out.ld X9 hg)) ⟨hg, Below.refl _ _, rfl⟩⟩
                        · refine ⟨rfl, fun ρ X9 hg ho hc hf hr => ?_⟩
                          refine Runs.goes 12 #[.agg cs] (op_call1 hf call12 (show ρ (.tmp 98) = .agg cs from hr 4 98 rfl rfl)) ((DQ.out.ow X9 hg).mono ?_)
                          rintro e7 w7 ⟨b7, cs7, rfl, h7⟩
                          exact ⟨_, rfl, hg.trans (b7.mono hg.size), b7, cs7, rfl, h7⟩
                      case la =>
                        refine ⟨rfl, fun ρ X9 hg ho hc hf hr => ?_⟩
                        obtain ⟨cs9, e9, h9⟩ : ∃ cs9, ρ (.tmp 99) = .agg cs9 ∧ OwnV V X9 q.2 cs9 := hr 5 99 (by decide) rfl
                        refine Runs.goes 13 #[.pointer (some ⟨A, 0, none⟩), .int .i64 q.1, .agg cs9] (op_call3 hf call13 (show ρ (.tmp 94) = .pointer (some ⟨A, 0, none⟩) from hr 0 94 (by decide) rfl) (show ρ (.tmp 96) = .int .i64 q.1 from hr 2 96 (by decide) rfl) e9) ((DQ.out.go X9 cs9 hg h9).mono ?_)
                        rintro e7 w7 ⟨rfl, h7⟩
                        exact ⟨_, rfl, rfl, h7⟩
                      case en =>
                        intro a9 X9 Xb v9 hF hs9 hd9 ho9 hv9 hr9
                        obtain ⟨x9, hx, hxt⟩ := act_put hs9 hd9 ho9
                        change a9 = putAll _ x9 [94, 95, 96, 97, 98, 99, 100] at hx
                        simp only [putAll, Act.put, List.setIfInBounds_toArray, List.set_cons_zero, List.set_cons_succ] at hx
                        have HF := Lib.hid hF.2
                        clear hF hs9 hd9 ho9 hv9 hr9 hxt
                        subst hx
                        generalize x9 94 = z94, x9 95 = z95, x9 96 = z96, x9 97 = z97, x9 98 = z98, x9 99 = z99, x9 100 = z100
                        have HST9 := Lib.hid HF.out.1
                        have j5v := (HST9.out.kp t52).trans HJ55.out
                        have g0 : X9.cell? ⟨Y5, 0, none⟩ = some (.string p.lo) := cell_blk j5v 0
                        have g1 : X9.cell? ⟨Y5, 1, none⟩ = some (.string p.hi) := cell_blk j5v 1
                        have hspn : Calls Try.prog 24 #[.pointer (some ⟨A, 0, none⟩), snV p] X9 fun e w' => SpanAns X9 H e w' := by
                          obtain ⟨S, hS⟩ := HST9.out
                          obtain ⟨S1, S2, P, M, N, G, lv, rv, ov, hx, _⟩ := hS.sy
                          have := spanS_any hx p
                          rw [HHB.out.2, HS2.out] at this
                          exact this
                        have hrow : X9.ownsRow 0 80 3 (.slice ad3 H.length cap3) H.length (hiC H) := own_like (own_mono HO3.out (Nat.zero_le _)) (fun k hk => HST9.out.kp (by rw [HT2.out]; exact .inr hk))
                        have HRW := Lib.hid (hi_own hrow)
                        clear hrow j5v d1 d5 d6 d7 f0 f1 f2
                        go_wp2_with (go_at_call 24; refine hspn.mono ?_; rintro e w8 ⟨ad8, cap8, rfl, ho8, hb8⟩; refine Hid.out ?_)
                        refine Lib.hid ?_
                        have hsm := same_hits (hi_own ho8) (HRW.out.on hb8)
                        have HB8 := Lib.hid hb8
                        clear ho8 hb8 hspn
                        go_wp2_with (go_at_call 25; refine hsm.mono ?_; rintro e w10 ⟨rfl, hb10⟩; refine Hid.out ?_)
                        refine Lib.hid ?_
                        have HB10 := Lib.hid (HB8.out.trans (hb10.mono HB8.out.size))
                        clear hb10 hsm
                        go_wp2
                        go_roundw
                        case rel => exact ⟨i2 + 1, _, hlt3, by go_num, HST9.out.on HB10.out, HB9.out, HHB.out.1, HHB.out.2.trans HS2.out⟩
                        case measure => simp [intOf]; omega
                    · have z2 : (kd == 4) = false := by simpa using z3
                      go_upto_region 23 with fail
                      refine wp_region_last (fun X9 => Below V.heap.size V X9) (fun X9 X' => Below X9.heap.size X9 X') [
                        fun v9 _ => v9 = .pointer (some ⟨A, 0, none⟩),
                        fun v9 _ => v9 = .pointer (some ⟨Y, 0, none⟩),
                        fun v9 _ => v9 = .int .i64 q.1,
                        fun v9 _ => v9 = .pointer (some ⟨Y, 1, none⟩),
                        fun v9 _ => v9 = .agg cs,
                        fun v9 X9 => ∃ cs9, v9 = .agg cs9 ∧ OwnV V X9 q.2 cs9]
                        (fun v9 X9 => v9 = rzV (s2.act q.1 q.2).2 ∧ St w w5 X9 A T2 (s2.act q.1 q.2).1 ∧ X9.heap[Y]? = some (.cells os 49 (0, 0))) rfl (by kernel_rfl) (by kernel_rfl) (by kernel_rfl) (by kernel_rfl) ?st ?g0 ?os ?la ?en
                      case st => exact ⟨fun _ _ _ _ h => h, fun _ _ _ _ h => h, fun _ _ _ _ h => h, fun _ _ _ _ h => h, fun _ _ _ _ h => h, (fun _ _ _ hb h => by obtain ⟨c9, e9, h9⟩ := h; exact ⟨c9, e9, h9.on hb⟩), trivial⟩
                      case g0 => exact ⟨rfl, rfl, rfl, Nat.le_refl _, fun _ _ => rfl⟩
                      case os =>
                        refine ⟨?_, ?_, ?_, ?_, ?_, ?_, trivial⟩
                        · exact ⟨rfl, fun ρ X9 hg ho hc hf hr => Runs.val _ (op_move (show ρ (.tmp 9) = .pointer (some ⟨A, 0, none⟩) from ho 9 rfl)) ⟨hg, Below.refl _ _, rfl⟩⟩
                        · exact ⟨rfl, fun ρ X9 hg ho hc hf hr => Runs.val _ (op_f49_0 (show ρ (.tmp 18) = .pointer (some ⟨Y, 0, none⟩) from ho 18 rfl)) ⟨hg, Below.refl _ _, rfl⟩⟩
                        · exact ⟨rfl, fun ρ X9 hg ho hc hf hr => Runs.val _ (op_loadI (show ρ (.tmp 95) = .pointer (some ⟨Y, 0, none⟩) from hr 1 95 rfl rfl) (cell_on hg DQ.out.a0)) ⟨hg, Below.refl _ _, rfl⟩⟩
                        · exact ⟨rfl, fun ρ X9 hg ho hc hf hr => Runs.val _ (op_f49_1 (show ρ (.tmp 18) = .pointer (some ⟨Y, 0, none⟩) from ho 18 rfl)) ⟨hg, Below.refl _ _, rfl⟩⟩
                        · exact ⟨rfl, fun ρ X9 hg ho hc hf hr => Runs.val _ (op_loadAt (show ρ (.tmp 97) = .pointer (some ⟨Y, 1, none⟩) from (hr 3 97 rfl rfl)) (DQ.out.ld X9 hg)) ⟨hg, Below.refl _ _, rfl⟩⟩
                        · refine ⟨rfl, fun ρ X9 hg ho hc hf hr => ?_⟩
                          refine Runs.goes 12 #[.agg cs] (op_call1 hf call12 (show ρ (.tmp 98) = .agg cs from hr 4 98 rfl rfl)) ((DQ.out.ow X9 hg).mono ?_)
                          rintro e7 w7 ⟨b7, cs7, rfl, h7⟩
                          exact ⟨_, rfl, hg.trans (b7.mono hg.size), b7, cs7, rfl, h7⟩
                      case la =>
                        refine ⟨rfl, fun ρ X9 hg ho hc hf hr => ?_⟩
                        obtain ⟨cs9, e9, h9⟩ : ∃ cs9, ρ (.tmp 99) = .agg cs9 ∧ OwnV V X9 q.2 cs9 := hr 5 99 (by decide) rfl
                        refine Runs.goes 13 #[.pointer (some ⟨A, 0, none⟩), .int .i64 q.1, .agg cs9] (op_call3 hf call13 (show ρ (.tmp 94) = .pointer (some ⟨A, 0, none⟩) from hr 0 94 (by decide) rfl) (show ρ (.tmp 96) = .int .i64 q.1 from hr 2 96 (by decide) rfl) e9) ((DQ.out.go X9 cs9 hg h9).mono ?_)
                        rintro e7 w7 ⟨rfl, h7⟩
                        exact ⟨_, rfl, rfl, h7⟩
                      case en =>
                        intro a9 X9 Xb v9 hF hs9 hd9 ho9 hv9 hr9
                        obtain ⟨x9, hx, hxt⟩ := act_put hs9 hd9 ho9
                        change a9 = putAll _ x9 [94, 95, 96, 97, 98, 99, 100] at hx
                        simp only [putAll, Act.put, List.setIfInBounds_toArray, List.set_cons_zero, List.set_cons_succ] at hx
                        have HF := Lib.hid hF.2
                        clear hF hs9 hd9 ho9 hv9 hr9 hxt
                        subst hx
                        generalize x9 94 = z94, x9 95 = z95, x9 96 = z96, x9 97 = z97, x9 98 = z98, x9 99 = z99, x9 100 = z100
                        have HST9 := Lib.hid HF.out.1
                        have j5v := (HST9.out.kp t52).trans HJ55.out
                        have g0 : X9.cell? ⟨Y5, 0, none⟩ = some (.string p.lo) := cell_blk j5v 0
                        have g1 : X9.cell? ⟨Y5, 1, none⟩ = some (.string p.hi) := cell_blk j5v 1
                        have hspn : Calls Try.prog 24 #[.pointer (some ⟨A, 0, none⟩), snV p] X9 fun e w' => SpanAns X9 H e w' := by
                          obtain ⟨S, hS⟩ := HST9.out
                          obtain ⟨S1, S2, P, M, N, G, lv, rv, ov, hx, _⟩ := hS.sy
                          have := spanS_any hx p
                          rw [HHB.out.2, HS2.out] at this
                          exact this
                        have hrow : X9.ownsRow 0 80 3 (.slice ad3 H.length cap3) H.length (hiC H) := own_like (own_mono HO3.out (Nat.zero_le _)) (fun k hk => HST9.out.kp (by rw [HT2.out]; exact .inr hk))
                        have HRW := Lib.hid (hi_own hrow)
                        clear hrow j5v d1 d5 d6 d7 f0 f1 f2
                        go_wp2_with (go_at_call 24; refine hspn.mono ?_; rintro e w8 ⟨ad8, cap8, rfl, ho8, hb8⟩; refine Hid.out ?_)
                        refine Lib.hid ?_
                        have hsm := same_hits (hi_own ho8) (HRW.out.on hb8)
                        have HB8 := Lib.hid hb8
                        clear ho8 hb8 hspn
                        go_wp2_with (go_at_call 25; refine hsm.mono ?_; rintro e w10 ⟨rfl, hb10⟩; refine Hid.out ?_)
                        refine Lib.hid ?_
                        have HB10 := Lib.hid (HB8.out.trans (hb10.mono HB8.out.size))
                        clear hb10 hsm
                        go_wp2
                        go_roundw
                        case rel => exact ⟨i2 + 1, _, hlt3, by go_num, HST9.out.on HB10.out, HB9.out, HHB.out.1, HHB.out.2.trans HS2.out⟩
                        case measure => simp [intOf]; omega
              · have k3 : ¬ ((i2 : Int) < m) := by omega
                have HBX := Lib.hid hst.bl
                clear hst hbd hho hsp2
                go_wp2
                go_ret
                exact ⟨rfl, HBX.out⟩
end
end Go.Proofs.Ytcoaahlakkghhaa
