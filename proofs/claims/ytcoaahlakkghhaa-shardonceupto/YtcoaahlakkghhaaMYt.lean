/- The law ShardOnce. -/
import Derived.Test.YtcoaahlakkghhaaGv
namespace Go.Proofs.Ytcoaahlakkghhaa
open Go.RowKit
section
variable {w : World} {L M : List Oq} {v u : Value} {q1 : Oq} {cs1 os1 : Array Value} {ra1 wa1 : Option Addr} {rc1 wc1 : Nat}
set_option maxHeartbeats 8000000 in
set_option maxRecDepth 100000 in
theorem once_law (hl : Lr opE 31 w L v) (hI : ∀ q ∈ L, CmIn q.2) (hl2 : Lr opE 31 w M u) (h0 : os1[0]? = some (.int .i64 q1.1)) (hos : ∀ j, os1[j + 1]? = cs1[j]?) (hok : CmOk w q1.2 cs1 ra1 rc1 wa1 wc1) (hin : CmIn q1.2) (h64 : I64 q1.1) (ht : totB L + cmB q1.2 + totB M ≤ 1048576) : Calls Try.prog 7 #[v, .agg os1, u] w fun e w' => e = .returned (.bool true) ∧ Below w.heap.size w w' := by
  have htL := tot_totB L
  have htM := tot_totB M
  have hz : ∀ q ∈ L, CmSz q.2 := fun q hq => cmB_sz (Nat.le_trans (sum_mem (f := fun q : Oq => cmB q.2) hq) (by unfold totB at ht; omega))
  have hz2 : ∀ q ∈ M, CmSz q.2 := fun q hq => cmB_sz (Nat.le_trans (sum_mem (f := fun q : Oq => cmB q.2) hq) (by unfold totB at ht; omega))
  have hz1 : CmSz q1.2 := cmB_sz (by omega)
  have hw1 : q1.2.writes.length ≤ 524288 ∧ q1.2.reads.length ≤ 524288 := by
    have h1 := sum_ge2 (f := wrB) (fun x => by unfold wrB; omega) q1.2.writes
    have h2 := sum_ge2 (f := rnB) (fun x => by unfold rnB; omega) q1.2.reads
    have h3 : cmB q1.2 = 1 + (q1.2.writes.map wrB).sum + (q1.2.reads.map rnB).sum := rfl
    omega
  have hops := ops_ok hl
  have hshin : ShIn (Sh.nil.acts L) := in_acts in_nil L (fun q hq => ⟨(hops q hq).1, hI q hq, (hops q hq).2⟩)
  have hshin1 : ShIn ((Sh.nil.acts L).act q1.1 q1.2).1 := in_act hshin h64 hin hok.td
  have hshB : shB ((Sh.nil.acts L).act q1.1 q1.2).1 ≤ 2097152 := by
    have h1 := shB_acts Sh.nil L
    have h2 := shB_act (Sh.nil.acts L) q1.1 q1.2
    have h3 : shB Sh.nil = 0 := rfl
    omega
  have hlen : (rangeL ((Sh.nil.acts L).act q1.1 q1.2).1).length ≤ 1000000000 := by
    have := rangeL_len ((Sh.nil.acts L).act q1.1 q1.2).1
    omega
  have hfew : Few ((Sh.nil.acts L).act q1.1 q1.2).1 800000 := few_act (few_acts (fun l hl => (by cases hl)) L (fun q hq => by
    have h1 := gsz_mem hq
    have h2 := gsz_r q.2
    have h3 := sum_ge2 (f := rnB) (fun x => by unfold rnB; omega) q.2.reads
    have h4 : cmB q.2 = 1 + (q.2.writes.map wrB).sum + (q.2.reads.map rnB).sum := rfl
    have h5 : cmB q.2 ≤ totB L := sum_mem (f := fun q : Oq => cmB q.2) hq
    omega)) q1.1 q1.2 (by omega)
  obtain ⟨W, hW⟩ : ∃ W, W = w.alloc (.cells os1 49) := ⟨_, rfl⟩
  obtain ⟨Y4, hY4⟩ : ∃ Y4, w.heap.size = Y4 := ⟨_, rfl⟩
  have hbW : Below w.heap.size w W := by rw [hW]; exact (Below.refl _ w).alloc (Nat.le_refl _) _
  have j4 : W.heap[Y4]? = some (.cells os1 49 (0, 0)) := by rw [hW, ← hY4]; exact heap_alloc_new w _
  have haw := awake_any W
  have HG1 := Lib.hid (fun X (hX : Below w.heap.size w X) => great_any (hl.on opE_held hX) (by omega))
  have HG2 := Lib.hid (fun X (hX : Below w.heap.size w X) => great_any (hl2.on opE_held hX) (by omega))
  have HL := Lib.hid hl
  have HL2 := Lib.hid hl2
  obtain ⟨ad, cap, rfl, _, _, hcap, _⟩ := hl
  obtain ⟨ad2, cap2, rfl, _, _, hcap2, _⟩ := hl2
  obtain ⟨n, hn⟩ : ∃ n, L.length = n := ⟨_, rfl⟩
  obtain ⟨m, hm⟩ : ∃ m, M.length = m := ⟨_, rfl⟩
  have hmx : (n : Int) ≤ 9223372036854775807 := by unfold maxLen at hcap; omega
  have hmx2 : (m : Int) ≤ 9223372036854775807 := by unfold maxLen at hcap2; omega
  have HN := Lib.hid hn
  have HM := Lib.hid hm
  have HW := Lib.hid hW
  have HY4 := Lib.hid hY4
  have HBW := Lib.hid hbW
  have HJ4 := Lib.hid j4
  have H0 := Lib.hid h0
  have HOS := Lib.hid hos
  have HOK := Lib.hid hok
  have HTD := Lib.hid hok.td
  have HSI := Lib.hid hshin1
  have HLN := Lib.hid hlen
  have HFW := Lib.hid hfew
  have HW1 := Lib.hid hw1
  have HZ1 := Lib.hid hz1
  have HZ := Lib.hid hz
  have HZ2 := Lib.hid hz2
  have HYL : Hid (w.heap.size ≤ Y4) := Lib.hid (Nat.le_of_eq hY4)
  rw [hn] at HG1 HL ⊢
  rw [hm] at HG2 HL2 ⊢
  clear hn hm hW hY4 hbW j4 hcap hcap2 h0 hos hok hin h64 ht htL htM hops hshin hshin1 hshB hlen hfew hw1 hz hz1 hz2 hI
  go_enter Try.func7, Try.ntmps7
  go_upto_region 1 with fail
  rw [← HW.out, HY4.out]
  go_wp2_with (go_at_call 9; refine haw.mono ?_; rintro e w1 ⟨rfl, hb1⟩; refine Hid.out ?_)
  refine Lib.hid ?_
  have HB1 := Lib.hid (HBW.out.trans (hb1.mono HBW.out.size))
  have hg1 := HG1.out w1 HB1.out
  have HJ41 := Lib.hid ((hb1.block Y4 (blk_lt HJ4.out)).trans HJ4.out)
  clear hb1 haw
  go_wp2_with (go_at_call 10; refine hg1.mono ?_; rintro e w2 ⟨⟨g1, rfl, hq1⟩, hb2⟩; refine Hid.out ?_)
  refine Lib.hid ?_
  have HB2 := Lib.hid (HB1.out.trans (hb2.mono HB1.out.size))
  have HJ42 := Lib.hid ((hb2.block Y4 (blk_lt HJ41.out)).trans HJ41.out)
  clear hb2 hg1
  cases g1 with
  | true =>
    have haw2 := awake_any w2
    clear hq1
    go_wp2_with (go_at_call 9; refine haw2.mono ?_; rintro e w3 ⟨rfl, hb3⟩; refine Hid.out ?_)
    refine Lib.hid ?_
    have HB3 := Lib.hid (HB2.out.trans (hb3.mono HB2.out.size))
    clear hb3 haw2
    go_wp2
    go_ret
    exact ⟨rfl, HB3.out⟩
  | false =>
  have HQ1 := Lib.hid (hq1 rfl)
  have hg2 := HG2.out w2 HB2.out
  clear hq1
  go_wp2_with (go_at_call 10; refine hg2.mono ?_; rintro e w3 ⟨⟨g2, rfl, hq2⟩, hb3⟩; refine Hid.out ?_)
  refine Lib.hid ?_
  have HB3 := Lib.hid (HB2.out.trans (hb3.mono HB2.out.size))
  have HJ43 := Lib.hid ((hb3.block Y4 (blk_lt HJ42.out)).trans HJ42.out)
  clear hb3 hg2
  cases g2 with
  | true =>
    have haw2 := awake_any w3
    clear hq2
    go_wp2_with (go_at_call 9; refine haw2.mono ?_; rintro e w4 ⟨rfl, hb4⟩; refine Hid.out ?_)
    refine Lib.hid ?_
    have HB4 := Lib.hid (HB3.out.trans (hb4.mono HB3.out.size))
    clear hb4 haw2
    go_wp2
    go_ret
    exact ⟨rfl, HB4.out⟩
  | false =>
  have HQ2 := Lib.hid (hq2 rfl)
  have hnew := newS_any w3
  clear hq2 HG1 HG2
  obtain ⟨T, hT⟩ : ∃ T : Nat → Prop, T = fun k => k = Y4 := ⟨_, rfl⟩
  have hTl : ∀ k, T k → k < w3.heap.size := fun k hk => by
    rw [hT] at hk
    have hk' : k = Y4 := hk
    rw [hk']
    exact blk_lt HJ43.out
  have HT := Lib.hid hT
  have HTL := Lib.hid hTl
  have HT4 : Hid (T Y4) := Lib.hid (by rw [hT])
  clear hT hTl
  go_wp2_with (go_at_call 11; refine hnew.mono ?_; rintro e w4 hq; obtain ⟨A, rfl, hst⟩ := St.new (T := T) HB3.out HTL.out hq; refine Hid.out ?_)
  refine Lib.hid ?_
  have HST := Lib.hid hst
  clear hst hq hnew
  go_wp2
  go_loopw [33] (fun iv wr => ∃ i : Nat, i ≤ n ∧ iv = .int .i64 (i : Int) ∧ Lj w w3 wr A T Sh.nil L 0 0 i) (fun iv _ => n - (intOf iv).toNat)
  case atStart => exact ⟨0, Nat.zero_le _, rfl, ⟨by rw [List.take_zero]; exact HST.out, by rw [List.take_zero]; exact Bd.nil⟩⟩
  case round =>
    clear HST
    obtain ⟨i, hi, rfl, hlj⟩ := hrel
    obtain ⟨V1, rfl⟩ : ∃ V1, V1 = wr := ⟨_, rfl⟩
    by_cases hlt : i < n
    · have hiL : i < L.length := by rw [HN.out]; exact hlt
      have k0 : (0 : Int) ≤ i := by omega
      have k1 : (i : Int) < n := by omega
      have htl := tot_le L i
      obtain ⟨b, o, os, cs, V, rfl, hld, hst, hdq, hbV⟩ := op_box HL.out HZ.out hiL hlj.st hlj.bd (by have := HQ1.out.2; omega) (by have := HQ1.out.2; omega) (by have := HQ1.out.2; omega)
      obtain ⟨Y, hY⟩ : ∃ Y, V1.heap.size = Y := ⟨_, rfl⟩
      have HNX := Lib.hid (fun X hX => hlj.next (X := X) hiL hX)
      obtain ⟨q, hq⟩ : ∃ q, L[i] = q := ⟨_, rfl⟩
      obtain ⟨s, hs⟩ : ∃ s, Sh.nil.acts (L.take i) = s := ⟨_, rfl⟩
      rw [hY, hq, hs] at hdq
      rw [hq, hs] at HNX
      have DQ := Lib.hid hdq
      have HY := Lib.hid hY
      clear hdq hY hq hs hlj htl hbV
      go_upto_region 7 with (first | refine wpl_load _ rfl (by simp [Act.eval]) hld ?_ | refine wpl_store _ _ rfl (by simp [Act.eval, Act.put]) (by simp [Act.eval, Act.put]) hst ?_)
      rw [HY.out]
      clear hld hst
      refine wp_region_last (fun X9 => Below V.heap.size V X9) (fun X9 X' => Below X9.heap.size X9 X') [
        fun v9 _ => v9 = .pointer (some ⟨A, 0, none⟩),
        fun v9 _ => v9 = .pointer (some ⟨Y, 0, none⟩),
        fun v9 _ => v9 = .int .i64 q.1,
        fun v9 _ => v9 = .pointer (some ⟨Y, 1, none⟩),
        fun v9 _ => v9 = .agg cs,
        fun v9 X9 => ∃ cs9, v9 = .agg cs9 ∧ OwnV V X9 q.2 cs9]
        (fun v9 X9 => v9 = rzV (s.act q.1 q.2).2 ∧ St w w3 X9 A T (s.act q.1 q.2).1 ∧ X9.heap[Y]? = some (.cells os 49 (0, 0))) rfl (by kernel_rfl) (by kernel_rfl) (by kernel_rfl) (by kernel_rfl) ?st ?g0 ?os ?la ?en
      case st => exact ⟨fun _ _ _ _ h => h, fun _ _ _ _ h => h, fun _ _ _ _ h => h, fun _ _ _ _ h => h, fun _ _ _ _ h => h, (fun _ _ _ hb h => by obtain ⟨c9, e9, h9⟩ := h; exact ⟨c9, e9, h9.on hb⟩), trivial⟩
      case g0 => exact ⟨rfl, rfl, rfl, Nat.le_refl _, fun _ _ => rfl⟩
      case os =>
        refine ⟨?_, ?_, ?_, ?_, ?_, ?_, trivial⟩
        · exact ⟨rfl, fun ρ X9 hg ho hc hf hr => Runs.val _ (op_move (show ρ (.tmp 7) = .pointer (some ⟨A, 0, none⟩) from ho 7 rfl)) ⟨hg, Below.refl _ _, rfl⟩⟩
        · exact ⟨rfl, fun ρ X9 hg ho hc hf hr => Runs.val _ (op_f49_0 (show ρ (.tmp 9) = .pointer (some ⟨Y, 0, none⟩) from ho 9 rfl)) ⟨hg, Below.refl _ _, rfl⟩⟩
        · exact ⟨rfl, fun ρ X9 hg ho hc hf hr => Runs.val _ (op_loadI (show ρ (.tmp 38) = .pointer (some ⟨Y, 0, none⟩) from hr 1 38 rfl rfl) (cell_on hg DQ.out.a0)) ⟨hg, Below.refl _ _, rfl⟩⟩
        · exact ⟨rfl, fun ρ X9 hg ho hc hf hr => Runs.val _ (op_f49_1 (show ρ (.tmp 9) = .pointer (some ⟨Y, 0, none⟩) from ho 9 rfl)) ⟨hg, Below.refl _ _, rfl⟩⟩
        · exact ⟨rfl, fun ρ X9 hg ho hc hf hr => Runs.val _ (op_loadAt (show ρ (.tmp 40) = .pointer (some ⟨Y, 1, none⟩) from (hr 3 40 rfl rfl)) (DQ.out.ld X9 hg)) ⟨hg, Below.refl _ _, rfl⟩⟩
        · refine ⟨rfl, fun ρ X9 hg ho hc hf hr => ?_⟩
          refine Runs.goes 12 #[.agg cs] (op_call1 hf call12 (show ρ (.tmp 41) = .agg cs from hr 4 41 rfl rfl)) ((DQ.out.ow X9 hg).mono ?_)
          rintro e7 w7 ⟨b7, cs7, rfl, h7⟩
          exact ⟨_, rfl, hg.trans (b7.mono hg.size), b7, cs7, rfl, h7⟩
      case la =>
        refine ⟨rfl, fun ρ X9 hg ho hc hf hr => ?_⟩
        obtain ⟨cs9, e9, h9⟩ : ∃ cs9, ρ (.tmp 42) = .agg cs9 ∧ OwnV V X9 q.2 cs9 := hr 5 42 (by decide) rfl
        refine Runs.goes 13 #[.pointer (some ⟨A, 0, none⟩), .int .i64 q.1, .agg cs9] (op_call3 hf call13 (show ρ (.tmp 37) = .pointer (some ⟨A, 0, none⟩) from hr 0 37 (by decide) rfl) (show ρ (.tmp 39) = .int .i64 q.1 from hr 2 39 (by decide) rfl) e9) ((DQ.out.go X9 cs9 hg h9).mono ?_)
        rintro e7 w7 ⟨rfl, h7⟩
        exact ⟨_, rfl, rfl, h7⟩
      case en =>
        intro a9 X9 Xb v9 hF hs9 hd9 ho9 hv9 hr9
        obtain ⟨x9, hx, hxt⟩ := act_put hs9 hd9 ho9
        change a9 = putAll _ x9 [37, 38, 39, 40, 41, 42, 43] at hx
        simp only [putAll, Act.put, List.setIfInBounds_toArray, List.set_cons_zero, List.set_cons_succ] at hx
        have HF := Lib.hid hF.2
        clear hF hs9 hd9 ho9 hv9 hr9 hxt
        subst hx
        generalize x9 37 = z37, x9 38 = z38, x9 39 = z39, x9 40 = z40, x9 41 = z41, x9 42 = z42, x9 43 = z43
        go_wp2
        go_roundw
        case rel => exact ⟨i + 1, hlt, by go_num, HNX.out X9 HF.out.1⟩
        case measure => simp [intOf]; omega
    · have k1 : ¬ ((i : Int) < n) := by omega
      have ei : i = n := by omega
      have hst : St w w3 V1 A T (Sh.nil.acts L) := by
        have := hlj.st
        rw [List.take_of_length_le (by rw [HN.out]; omega)] at this
        exact this
      have hbd : Bd (Sh.nil.acts L) 3000 3000 := by
        have := hlj.bd
        rw [List.take_of_length_le (by rw [HN.out]; omega)] at this
        have h3 := HQ1.out.2
        exact this.mono (by omega) (by omega)
      obtain ⟨s, hs⟩ : ∃ s, Sh.nil.acts L = s := ⟨_, rfl⟩
      rw [hs] at hst hbd HSI HLN HFW
      have hdq : Dq w w3 V1 A Y4 T s q1 cs1 os1 := by
        have jY := (hst.kp HT4.out).trans HJ43.out
        have hbl := hst.bl
        have hw1 := HW1.out
        obtain ⟨S, hS⟩ := hst
        exact dq_of hS jY HYL.out (hS.off _ HT4.out) H0.out HOS.out (HOK.out.on hbl) HZ1.out hbd (by decide) (by decide) (by omega) (by omega)
      have hbd1 := bd_act hbd q1.1 q1.2
      have honce := once_act s q1.1 q1.2
      obtain ⟨s1, hs1⟩ : ∃ s1, (s.act q1.1 q1.2).1 = s1 := ⟨_, rfl⟩
      rw [hs1] at hbd1 honce HSI HLN HFW
      have HBD1 := Lib.hid hbd1
      have HON := Lib.hid honce
      have HS1 := Lib.hid hs1
      have DQ := Lib.hid hdq
      clear hst hlj hs hbd ei hdq hbd1 honce hs1
      go_upto_region 9 with fail
      refine wp_region_last (fun X9 => Below V1.heap.size V1 X9) (fun X9 X' => Below X9.heap.size X9 X') [
        fun v9 _ => v9 = .pointer (some ⟨A, 0, none⟩),
        fun v9 _ => v9 = .pointer (some ⟨Y4, 0, none⟩),
        fun v9 _ => v9 = .int .i64 q1.1,
        fun v9 _ => v9 = .pointer (some ⟨Y4, 1, none⟩),
        fun v9 _ => v9 = .agg cs1,
        fun v9 X9 => ∃ cs9, v9 = .agg cs9 ∧ OwnV V1 X9 q1.2 cs9]
        (fun v9 X9 => v9 = rzV (s.act q1.1 q1.2).2 ∧ St w w3 X9 A T (s.act q1.1 q1.2).1 ∧ X9.heap[Y4]? = some (.cells os1 49 (0, 0))) rfl (by kernel_rfl) (by kernel_rfl) (by kernel_rfl) (by kernel_rfl) ?st ?g0 ?os ?la ?en
      case st => exact ⟨fun _ _ _ _ h => h, fun _ _ _ _ h => h, fun _ _ _ _ h => h, fun _ _ _ _ h => h, fun _ _ _ _ h => h, (fun _ _ _ hb h => by obtain ⟨c9, e9, h9⟩ := h; exact ⟨c9, e9, h9.on hb⟩), trivial⟩
      case g0 => exact ⟨rfl, rfl, rfl, Nat.le_refl _, fun _ _ => rfl⟩
      case os =>
        refine ⟨?_, ?_, ?_, ?_, ?_, ?_, trivial⟩
        · exact ⟨rfl, fun ρ X9 hg ho hc hf hr => Runs.val _ (op_move (show ρ (.tmp 7) = .pointer (some ⟨A, 0, none⟩) from ho 7 rfl)) ⟨hg, Below.refl _ _, rfl⟩⟩
        · exact ⟨rfl, fun ρ X9 hg ho hc hf hr => Runs.val _ (op_f49_0 (show ρ (.tmp 4) = .pointer (some ⟨Y4, 0, none⟩) from ho 4 rfl)) ⟨hg, Below.refl _ _, rfl⟩⟩
        · exact ⟨rfl, fun ρ X9 hg ho hc hf hr => Runs.val _ (op_loadI (show ρ (.tmp 46) = .pointer (some ⟨Y4, 0, none⟩) from hr 1 46 rfl rfl) (cell_on hg DQ.out.a0)) ⟨hg, Below.refl _ _, rfl⟩⟩
        · exact ⟨rfl, fun ρ X9 hg ho hc hf hr => Runs.val _ (op_f49_1 (show ρ (.tmp 4) = .pointer (some ⟨Y4, 0, none⟩) from ho 4 rfl)) ⟨hg, Below.refl _ _, rfl⟩⟩
        · exact ⟨rfl, fun ρ X9 hg ho hc hf hr => Runs.val _ (op_loadAt (show ρ (.tmp 48) = .pointer (some ⟨Y4, 1, none⟩) from (hr 3 48 rfl rfl)) (DQ.out.ld X9 hg)) ⟨hg, Below.refl _ _, rfl⟩⟩
        · refine ⟨rfl, fun ρ X9 hg ho hc hf hr => ?_⟩
          refine Runs.goes 12 #[.agg cs1] (op_call1 hf call12 (show ρ (.tmp 49) = .agg cs1 from hr 4 49 rfl rfl)) ((DQ.out.ow X9 hg).mono ?_)
          rintro e7 w7 ⟨b7, cs7, rfl, h7⟩
          exact ⟨_, rfl, hg.trans (b7.mono hg.size), b7, cs7, rfl, h7⟩
      case la =>
        refine ⟨rfl, fun ρ X9 hg ho hc hf hr => ?_⟩
        obtain ⟨cs9, e9, h9⟩ : ∃ cs9, ρ (.tmp 50) = .agg cs9 ∧ OwnV V1 X9 q1.2 cs9 := hr 5 50 (by decide) rfl
        refine Runs.goes 13 #[.pointer (some ⟨A, 0, none⟩), .int .i64 q1.1, .agg cs9] (op_call3 hf call13 (show ρ (.tmp 45) = .pointer (some ⟨A, 0, none⟩) from hr 0 45 (by decide) rfl) (show ρ (.tmp 47) = .int .i64 q1.1 from hr 2 47 (by decide) rfl) e9) ((DQ.out.go X9 cs9 hg h9).mono ?_)
        rintro e7 w7 ⟨rfl, h7⟩
        exact ⟨_, rfl, rfl, h7⟩
      case en =>
        intro a9 X9 Xb v9 hF hs9 hd9 ho9 hv9 hr9
        obtain ⟨x9, hx, hxt⟩ := act_put hs9 hd9 ho9
        change a9 = putAll _ x9 [45, 46, 47, 48, 49, 50, 51] at hx
        simp only [putAll, Act.put, List.setIfInBounds_toArray, List.set_cons_zero, List.set_cons_succ] at hx
        have HF := Lib.hid hF.2
        clear hF hs9 hd9 ho9 hv9 hr9 hxt
        subst hx
        generalize x9 45 = z45, x9 46 = z46, x9 47 = z47, x9 48 = z48, x9 49 = z49, x9 50 = z50, x9 51 = z51
        have HST1 : Hid (St w w3 X9 A T s1) := Lib.hid (by rw [← HS1.out]; exact HF.out.1)
        have hsv := HST1.out.save HBD1.out (by have := HW1.out; omega) HFW.out (Nat.le_refl _)
        go_wp2_with (go_at_call 15; refine hsv.mono ?_; rintro e w5 ⟨P1, G1, rv1, lv1, cv1, ov1, rfl, hsw, hb5⟩; refine Hid.out ?_)
        refine Lib.hid ?_
        have hrg := range_ref hsw.rg HSI.out HLN.out
        obtain ⟨tx, htx⟩ : ∃ tx, txt (rangeL s1) = tx := ⟨_, rfl⟩
        rw [htx] at hrg
        have HB5 := Lib.hid hb5
        clear hsw hb5 hsv
        go_wp2_with (go_at_call 16; refine hrg.mono ?_; rintro e w6 ⟨rfl, hb6⟩; refine Hid.out ?_)
        refine Lib.hid ?_
        have HST6 := Lib.hid (HST1.out.on (HB5.out.trans (hb6.mono HB5.out.size)))
        have HJ46 := Lib.hid ((HST6.out.kp HT4.out).trans HJ43.out)
        have HBW6 := Lib.hid HST6.out.bl
        have hgf : ∀ X cs', Below w6.heap.size w6 X → OwnV w6 X q1.2 cs' → Calls Try.prog 13 #[.pointer (some ⟨A, 0, none⟩), .int .i64 q1.1, .agg cs'] X fun e w' => e = .returned (rzV (s1.act q1.1 q1.2).2) ∧ (St w w3 w' A T (s1.act q1.1 q1.2).1 ∧ w'.heap[Y4]? = some (.cells os1 49 (0, 0)) ∧ w6.heap.size ≤ w'.heap.size) ∧ Sm' w6 X w' := by
          obtain ⟨S, hS⟩ := HST6.out
          have := HW1.out
          exact gf_of hS HJ46.out (hS.off _ HT4.out) (HOK.out.on HBW6.out) HBD1.out (by omega) (by decide) (by omega) (by omega)
        rw [HON.out.1] at hgf
        have hnw := HON.out.2
        obtain ⟨r1, hr1⟩ : ∃ r1, (s1.act q1.1 q1.2).2 = r1 := ⟨_, rfl⟩
        rw [hr1] at hgf hnw
        have HGF := Lib.hid hgf
        have HNW := Lib.hid hnw
        have HLT4 : Hid (∀ k, T k → k < w6.heap.size) := Lib.hid (fun k hk => by
          obtain ⟨S, hS⟩ := HST6.out
          exact Nat.lt_of_lt_of_le (hS.kp k hk).1 hS.sz)
        clear hgf hnw hr1 hb6 HB5 hrg
        go_upto_region 11 with fail
        refine wp_region_lo 6 (GO w w3 w6 A T s1 Y4 os1) (fun X9 X' => Below X9.heap.size X9 X') (Sm' w6) [
          fun v9 _ => v9 = .pointer (some ⟨A, 0, none⟩),
          fun v9 _ => v9 = .pointer (some ⟨Y4, 0, none⟩),
          fun v9 _ => v9 = .int .i64 q1.1,
          fun v9 _ => v9 = .pointer (some ⟨Y4, 1, none⟩),
          fun v9 _ => v9 = .agg cs1,
          fun v9 X9 => ∃ cs9, v9 = .agg cs9 ∧ OwnV w6 X9 q1.2 cs9,
          fun v9 _ => v9 = rzV r1,
          fun v9 X9 => ∃ Z9, v9 = .pointer (some ⟨Z9, 0, none⟩) ∧ w6.heap.size ≤ Z9 ∧ X9.heap[Z9]? = some (.cells z52 52 (0, 0))]
          (fun ρ _ X9 => ∃ Z9, ρ (.tmp 11) = .pointer (some ⟨Z9, 0, none⟩) ∧ X9.heap[Z9]? = some (.cells (rzA r1) 52 (0, 0)) ∧ St w w3 X9 A T s1) rfl (by kernel_rfl) (by kernel_rfl) (by kernel_rfl) (by kernel_rfl) ?st ?sm ?g0 (by decide) ?os ?la ?en
        case st => exact ⟨fun _ _ _ _ h => h, fun _ _ _ _ h => h, fun _ _ _ _ h => h, fun _ _ _ _ h => h, fun _ _ _ _ h => h, (fun _ _ _ hb h => by obtain ⟨c9, e9, h9⟩ := h; exact ⟨c9, e9, h9.on hb⟩), fun _ _ _ _ h => h, (fun _ _ _ hb h => by obtain ⟨Z9, e9, l9, j9⟩ := h; exact ⟨Z9, e9, l9, (hb.block Z9 (blk_lt j9)).trans j9⟩), trivial⟩
        case sm => exact ⟨fun _ _ _ _ h => h, fun _ _ _ _ h => h, fun _ _ _ _ h => h, fun _ _ _ _ h => h, fun _ _ _ _ h => h, (fun _ _ _ hb h => by obtain ⟨S9, hS9, f9⟩ := hb; obtain ⟨c9, e9, N9, b1, b2, b3, b4, K9, l9, h9⟩ := h; exact ⟨c9, e9, N9, b1, b2, b3, b4, K9, l9, h9.stays f9 (fun k hk => Nat.lt_of_lt_of_le (hS9 k hk) l9)⟩), fun _ _ _ _ h => h, (fun _ _ _ hb h => by obtain ⟨S9, hS9, f9⟩ := hb; obtain ⟨Z9, e9, l9, j9⟩ := h; exact ⟨Z9, e9, l9, (f9.block Z9 (blk_lt j9) (fun q => by have := hS9 Z9 q; omega)).trans j9⟩), trivial⟩
        case g0 => exact show Below w6.heap.size w6 w6.drew from ⟨rfl, rfl, rfl, Nat.le_refl _, fun _ _ => rfl⟩
        case os =>
          refine ⟨?_, ?_, ?_, ?_, ?_, ?_, ?_, ?_, trivial⟩
          · exact ⟨rfl, fun _ ρ X9 d9 hg ho hc hf hr => Runs.val _ (op_move (show ρ (.tmp 7) = .pointer (some ⟨A, 0, none⟩) from ho 7 rfl)) ⟨hg, Below.refl _ _, rfl⟩, fun q => absurd q (by decide)⟩
          · exact ⟨rfl, fun _ ρ X9 d9 hg ho hc hf hr => Runs.val _ (op_f49_0 (show ρ (.tmp 4) = .pointer (some ⟨Y4, 0, none⟩) from ho 4 rfl)) ⟨hg, Below.refl _ _, rfl⟩, fun q => absurd q (by decide)⟩
          · exact ⟨rfl, fun _ ρ X9 d9 hg ho hc hf hr => Runs.val _ (op_loadI (show ρ (.tmp 56) = .pointer (some ⟨Y4, 0, none⟩) from hr 1 56 rfl rfl) ((cell_blk (hg.k HBW6.out HJ46.out).2.1 0).trans H0.out)) ⟨hg, Below.refl _ _, rfl⟩, fun q => absurd q (by decide)⟩
          · exact ⟨rfl, fun _ ρ X9 d9 hg ho hc hf hr => Runs.val _ (op_f49_1 (show ρ (.tmp 4) = .pointer (some ⟨Y4, 0, none⟩) from ho 4 rfl)) ⟨hg, Below.refl _ _, rfl⟩, fun q => absurd q (by decide)⟩
          · exact ⟨rfl, fun _ ρ X9 d9 hg ho hc hf hr => Runs.val _ (op_loadAt (show ρ (.tmp 58) = .pointer (some ⟨Y4, 1, none⟩) from (hr 3 58 rfl rfl)) (ld47 (hg.k HBW6.out HJ46.out).2.1 HOS.out HOK.out)) ⟨hg, Below.refl _ _, rfl⟩, fun q => absurd q (by decide)⟩
          · refine ⟨rfl, fun _ ρ X9 d9 hg ho hc hf hr => ?_, fun q => absurd q (by decide)⟩
            refine Runs.goes 12 #[.agg cs1] (op_call1 hf call12 (show ρ (.tmp 59) = .agg cs1 from hr 4 59 rfl rfl)) ((ow12 (V := w6) (HOK.out.on (hg.k HBW6.out HJ46.out).1) HZ1.out (hg.k HBW6.out HJ46.out).2.2).mono ?_)
            rintro e7 w7 ⟨b7, cs7, rfl, h7⟩
            exact ⟨_, rfl, hg.next b7, b7, cs7, rfl, h7⟩
          · refine ⟨rfl, fun q => absurd rfl q, fun _ ρ X9 hg ho hc hf hr => ?_⟩
            obtain ⟨cs9, e9, h9⟩ : ∃ cs9, ρ (.tmp 60) = .agg cs9 ∧ OwnV w6 X9 q1.2 cs9 := hr 5 60 rfl rfl
            refine Runs.goes 13 #[.pointer (some ⟨A, 0, none⟩), .int .i64 q1.1, .agg cs9] (op_call3 hf call13 (show ρ (.tmp 55) = .pointer (some ⟨A, 0, none⟩) from hr 0 55 rfl rfl) (show ρ (.tmp 57) = .int .i64 q1.1 from hr 2 57 rfl rfl) e9) ((HGF.out X9 cs9 hg h9).mono ?_)
            rintro e7 w7 ⟨rfl, h7, s7⟩
            exact ⟨_, rfl, h7, s7, rfl⟩
          · refine ⟨rfl, fun _ ρ X9 d9 hg ho hc hf hr => ?_, fun q => absurd q (by decide)⟩
            have b7 : Below X9.heap.size X9 (X9.alloc (.cells z52 52)) := (Below.refl _ X9).alloc (Nat.le_refl _) _
            exact Runs.val _ op_alloc52 ⟨hg.next b7, b7, X9.heap.size, rfl, (hg.k HBW6.out HJ46.out).2.2, heap_alloc_new X9 _⟩
        case la =>
          refine ⟨rfl, fun ρ X9 hg ho hc hf hr => ?_⟩
          obtain ⟨Z9, e9, l9, j9⟩ : ∃ Z9, ρ (.tmp 11) = .pointer (some ⟨Z9, 0, none⟩) ∧ w6.heap.size ≤ Z9 ∧ X9.heap[Z9]? = some (.cells z52 52 (0, 0)) := hr 7 11 (by decide) rfl
          obtain ⟨X, hstr, jX, fX⟩ := put_rz j9 rfl r1
          refine Runs.skips (op_storeAt e9 (show ρ (.tmp 61) = rzV r1 from hr 6 61 (by decide) rfl) hstr) ⟨Z9, e9, jX, hg.1.keepT fX j9 (fun q => ?_) (Nat.le_trans HBW6.out.size l9)⟩
          have h4 := HLT4.out Z9 q
          omega
        case en =>
          intro a9 ρ9 X9 Xb v9 hF hρ9 hs9 hd9 ho9 hv9 hr9
          obtain ⟨x9, hx, hxt⟩ := act_put hs9 hd9 ho9
          obtain ⟨Z9, e9, j9, hst9⟩ := hF
          have e11 : x9 11 = .pointer (some ⟨Z9, 0, none⟩) := (hxt 11).symm.trans ((hρ9 11 (fun q => by cases q)).trans e9)
          change a9 = putAll _ x9 [55, 56, 57, 58, 59, 60, 61, 11] at hx
          simp only [putAll, Act.put, List.setIfInBounds_toArray, List.set_cons_zero, List.set_cons_succ, e11] at hx
          have HST9 := Lib.hid hst9
          have x8 : X9.cell? ⟨Z9, 8, none⟩ = some (.bool false) := by rw [← HNW.out]; exact cell_blk j9 8
          clear hst9 hs9 hd9 ho9 hv9 hr9 hxt e9 e11 hρ9 j9
          subst hx
          generalize x9 55 = z55, x9 56 = z56, x9 57 = z57, x9 58 = z58, x9 59 = z59, x9 60 = z60, x9 61 = z61
          have hsv2 := HST9.out.save HBD1.out (by have := HW1.out; omega) HFW.out (Nat.le_refl _)
          go_wp2_with (go_at_call 15; refine hsv2.mono ?_; rintro e w7 ⟨P2, G2, rv2, lv2, cv2, ov2, rfl, hsw2, hb7⟩; refine Hid.out ?_)
          refine Lib.hid ?_
          have hrg2 := range_ref hsw2.rg HSI.out HLN.out
          rw [htx] at hrg2
          have HB7 := Lib.hid hb7
          clear hsw2 hb7 hsv2 x8
          go_wp2_with (go_at_call 16; refine hrg2.mono ?_; rintro e w8 ⟨rfl, hb8⟩; refine Hid.out ?_)
          refine Lib.hid ?_
          have HST8 := Lib.hid (HST9.out.on (HB7.out.trans (hb8.mono HB7.out.size)))
          have jY8 := (HST8.out.kp HT4.out).trans HJ43.out
          obtain ⟨t1, ht1⟩ : ∃ t1, q1.2.txn = t1 := ⟨_, rfl⟩
          have HT1 := Lib.hid ht1
          have m5 : w8.cell? ⟨Y4, 5, none⟩ = some (.int .i64 t1.1) := (cell_blk jY8 5).trans ((HOS.out 4).trans (by rw [← ht1]; exact HOK.out.cc.t0))
          have m6 : w8.cell? ⟨Y4, 6, none⟩ = some (.int .i64 t1.2.1) := (cell_blk jY8 6).trans ((HOS.out 5).trans (by rw [← ht1]; exact HOK.out.cc.t1))
          have m7 : w8.cell? ⟨Y4, 7, none⟩ = some (.int .i64 t1.2.2) := (cell_blk jY8 7).trans ((HOS.out 6).trans (by rw [← ht1]; exact HOK.out.cc.t2))
          have hrec := HST8.out.rec (t := t1) (by rw [← ht1]; exact HTD.out)
          obtain ⟨rv, hrv⟩ : ∃ rv, (recOf s1.recs t1).getD 0 = rv := ⟨_, rfl⟩
          obtain ⟨rb, hrb⟩ : ∃ rb, (recOf s1.recs t1).isSome = rb := ⟨_, rfl⟩
          have hr1 : rb = true → recOf s1.recs t1 = some rv := fun e => by
            cases h : recOf s1.recs t1 with
            | none =>
              rw [h] at hrb
              rw [← hrb] at e
              cases e
            | some z =>
              rw [h] at hrv
              rw [← hrv]
              rfl
          rw [hrv, hrb] at hrec
          have HR1 := Lib.hid hr1
          clear hrv hrb hr1 hb8 HB7 jY8 ht1 hrg2 htx
          go_wp2_with (go_at_call 18; refine hrec.mono ?_; rintro e w9 ⟨rfl, hb9⟩; refine Hid.out ?_)
          refine Lib.hid ?_
          have HSTa := Lib.hid (HST8.out.on hb9)
          have n5 : w9.cell? ⟨Y4, 5, none⟩ = some (.int .i64 t1.1) := cell_on hb9 m5
          have n6 : w9.cell? ⟨Y4, 6, none⟩ = some (.int .i64 t1.2.1) := cell_on hb9 m6
          have n7 : w9.cell? ⟨Y4, 7, none⟩ = some (.int .i64 t1.2.2) := cell_on hb9 m7
          have hbw1 : 3000 + q1.2.writes.length < 800000 := by have := HW1.out; omega
          have hgo := go_own (c := seeC t1 allS [(nsk, -1)]) HSTa.out (((Below.refl _ w9).alloc (Nat.le_refl _) _).alloc (by simp) _) all_own (Nat.le_refl _) (by show TdOk t1; rw [← HT1.out]; exact HTD.out) ⟨by show _ ≤ (1 : Int); decide, by show (1 : Int) ≤ _; decide⟩ HBD1.out hbw1 (by decide) (by show 1 ≤ 800000; omega) (by show 0 ≤ 800000; omega) 0
          have hbd3 := bd_act HBD1.out 0 (seeC t1 allS [(nsk, -1)])
          have hr3 : rb = true → recOf (s1.act 0 (seeC t1 allS [(nsk, -1)])).1.recs t1 = some rv := fun e => act_rec (HR1.out e) 0 _
          have hov3 : (s1.act 0 (seeC t1 allS [(nsk, -1)])).2.err = 132 → t1 ∈ (s1.act 0 (seeC t1 allS [(nsk, -1)])).1.over := fun e => act_over (err_over (c := seeC t1 allS [(nsk, -1)]) rfl 0 e) 0 _
          obtain ⟨s3, hs3⟩ : ∃ s3, (s1.act 0 (seeC t1 allS [(nsk, -1)])).1 = s3 := ⟨_, rfl⟩
          obtain ⟨r3, hr3e⟩ : ∃ r3, (s1.act 0 (seeC t1 allS [(nsk, -1)])).2 = r3 := ⟨_, rfl⟩
          rw [hs3] at hgo hbd3 hr3 hov3
          rw [hr3e] at hgo hov3
          have HBD3 : Hid (Bd s3 (530000 + tot (M.take 0)) (4000 + tot (M.take 0))) := Lib.hid (hbd3.mono (by have := HW1.out; show 3000 + q1.2.writes.length + 0 ≤ _; omega) (by omega))
          have HR3 := Lib.hid hr3
          have HOV3 := Lib.hid hov3
          clear m5 m6 m7 hrec hb9 hbd3 hr3 hov3 hs3 hr3e hbw1
          obtain ⟨er, ts3, td3, ti3, nw3⟩ := r3
          simp only [rzV, rzA] at hgo
          by_cases hob : er = 132
          · have HOV := Lib.hid (HOV3.out hob)
            subst hob
            go_wp2_with (go_at_call 13; refine hgo.mono ?_; rintro e w10 ⟨rfl, hst10⟩; refine Hid.out ?_)
            refine Lib.hid ?_
            have HST10 := Lib.hid hst10
            have hfd := fld52 132 ts3 td3.1 td3.2.1 td3.2.2 0 ti3 0 nw3 w10
            clear hst10 hgo n5 n6 n7 HOV3
            go_wp2
            go_loopw [94] (fun iv wr => ∃ (i : Nat) (s' : Sh), i ≤ m ∧ iv = .int .i64 (i : Int) ∧ St w w3 wr A T s' ∧ Bd s' (530000 + tot (M.take i)) (4000 + tot (M.take i)) ∧ (rb = true → recOf s'.recs t1 = some rv) ∧ t1 ∈ s'.over) (fun iv _ => m - (intOf iv).toNat)
            case atStart => exact ⟨0, s3, Nat.zero_le _, rfl, HST10.out, HBD3.out, HR3.out, HOV.out⟩
            case round =>
              clear HST10 HBD3 HR3
              obtain ⟨i2, s2, hi2, rfl, hst, hbd, hrc2, hov2⟩ := hrel
              obtain ⟨V2, rfl⟩ : ∃ V2, V2 = wr := ⟨_, rfl⟩
              by_cases hlt3 : i2 < m
              · have hiM : i2 < M.length := by rw [HM.out]; exact hlt3
                have k2 : (0 : Int) ≤ i2 := by omega
                have k3 : (i2 : Int) < m := by omega
                have htl := tot_le M i2
                have htn := tot_next hiM
                obtain ⟨b4, o4, os, cs, V, rfl, hld, hstr, hdq, hbV⟩ := op_box HL2.out HZ2.out hiM hst hbd (by have := HQ2.out.2; omega) (by have := HQ2.out.2; omega) (by have := HQ2.out.2; omega)
                obtain ⟨Y, hY⟩ : ∃ Y, V2.heap.size = Y := ⟨_, rfl⟩
                have hgw := gsz_w M[i2].2
                have hbn := bd_act hbd M[i2].1 M[i2].2
                have hbn1 := hbn.mono (T' := 530000 + tot (M.take (i2 + 1))) (n' := 4000 + tot (M.take (i2 + 1))) (by omega) (by omega)
                have htl1 := tot_le M (i2 + 1)
                obtain ⟨q, hq⟩ : ∃ q, M[i2] = q := ⟨_, rfl⟩
                rw [hY, hq] at hdq
                rw [hq] at hbn1
                have hlz : 530000 + tot (M.take (i2 + 1)) < 800000 ∧ 4000 + tot (M.take (i2 + 1)) < 800000 := by have := HQ2.out.2; omega
                have hrc4 : rb = true → recOf (s2.act q.1 q.2).1.recs t1 = some rv := fun e => act_rec (hrc2 e) q.1 q.2
                have HRC4 := Lib.hid hrc4
                have HOV4 := Lib.hid (act_over hov2 q.1 q.2)
                have HLZ := Lib.hid hlz
                have DQ := Lib.hid hdq
                have HY := Lib.hid hY
                have HB9 := Lib.hid hbn1
                have hdA : Hid (V.cell? ⟨Y, 0, none⟩ = some (.int .i64 q.1)) := Lib.hid hdq.a0
                clear hdq hY hq hst hbd htl htn htl1 hbV hgw hbn hbn1 hrc2 hrc4 hlz hov2
                go_upto_region 19 with (first | refine wpl_load _ rfl (by simp [Act.eval]) hld ?_ | refine wpl_store _ _ rfl (by simp [Act.eval, Act.put]) (by simp [Act.eval, Act.put]) hstr ?_)
                rw [HY.out]
                clear hld hstr
                refine wp_region_last (fun X9 => Below V.heap.size V X9) (fun X9 X' => Below X9.heap.size X9 X') [
                  fun v9 _ => v9 = .pointer (some ⟨A, 0, none⟩),
                  fun v9 _ => v9 = .pointer (some ⟨Y, 0, none⟩),
                  fun v9 _ => v9 = .int .i64 q.1,
                  fun v9 _ => v9 = .pointer (some ⟨Y, 1, none⟩),
                  fun v9 _ => v9 = .agg cs,
                  fun v9 X9 => ∃ cs9, v9 = .agg cs9 ∧ OwnV V X9 q.2 cs9]
                  (fun v9 X9 => v9 = rzV (s2.act q.1 q.2).2 ∧ St w w3 X9 A T (s2.act q.1 q.2).1 ∧ X9.heap[Y]? = some (.cells os 49 (0, 0))) rfl (by kernel_rfl) (by kernel_rfl) (by kernel_rfl) (by kernel_rfl) ?st ?g0 ?os ?la ?en
                case st => exact ⟨fun _ _ _ _ h => h, fun _ _ _ _ h => h, fun _ _ _ _ h => h, fun _ _ _ _ h => h, fun _ _ _ _ h => h, (fun _ _ _ hb h => by obtain ⟨c9, e9, h9⟩ := h; exact ⟨c9, e9, h9.on hb⟩), trivial⟩
                case g0 => exact ⟨rfl, rfl, rfl, Nat.le_refl _, fun _ _ => rfl⟩
                case os =>
                  refine ⟨?_, ?_, ?_, ?_, ?_, ?_, trivial⟩
                  · exact ⟨rfl, fun ρ X9 hg ho hc hf hr => Runs.val _ (op_move (show ρ (.tmp 7) = .pointer (some ⟨A, 0, none⟩) from ho 7 rfl)) ⟨hg, Below.refl _ _, rfl⟩⟩
                  · exact ⟨rfl, fun ρ X9 hg ho hc hf hr => Runs.val _ (op_f49_0 (show ρ (.tmp 16) = .pointer (some ⟨Y, 0, none⟩) from ho 16 rfl)) ⟨hg, Below.refl _ _, rfl⟩⟩
                  · exact ⟨rfl, fun ρ X9 hg ho hc hf hr => Runs.val _ (op_loadI (show ρ (.tmp 99) = .pointer (some ⟨Y, 0, none⟩) from hr 1 99 rfl rfl) (cell_on hg DQ.out.a0)) ⟨hg, Below.refl _ _, rfl⟩⟩
                  · exact ⟨rfl, fun ρ X9 hg ho hc hf hr => Runs.val _ (op_f49_1 (show ρ (.tmp 16) = .pointer (some ⟨Y, 0, none⟩) from ho 16 rfl)) ⟨hg, Below.refl _ _, rfl⟩⟩
                  · exact ⟨rfl, fun ρ X9 hg ho hc hf hr => Runs.val _ (op_loadAt (show ρ (.tmp 101) = .pointer (some ⟨Y, 1, none⟩) from (hr 3 101 rfl rfl)) (DQ.out.ld X9 hg)) ⟨hg, Below.refl _ _, rfl⟩⟩
                  · refine ⟨rfl, fun ρ X9 hg ho hc hf hr => ?_⟩
                    refine Runs.goes 12 #[.agg cs] (op_call1 hf call12 (show ρ (.tmp 102) = .agg cs from hr 4 102 rfl rfl)) ((DQ.out.ow X9 hg).mono ?_)
                    rintro e7 w7 ⟨b7, cs7, rfl, h7⟩
                    exact ⟨_, rfl, hg.trans (b7.mono hg.size), b7, cs7, rfl, h7⟩
                case la =>
                  refine ⟨rfl, fun ρ X9 hg ho hc hf hr => ?_⟩
                  obtain ⟨cs9, e9, h9⟩ : ∃ cs9, ρ (.tmp 103) = .agg cs9 ∧ OwnV V X9 q.2 cs9 := hr 5 103 (by decide) rfl
                  refine Runs.goes 13 #[.pointer (some ⟨A, 0, none⟩), .int .i64 q.1, .agg cs9] (op_call3 hf call13 (show ρ (.tmp 98) = .pointer (some ⟨A, 0, none⟩) from hr 0 98 (by decide) rfl) (show ρ (.tmp 100) = .int .i64 q.1 from hr 2 100 (by decide) rfl) e9) ((DQ.out.go X9 cs9 hg h9).mono ?_)
                  rintro e7 w7 ⟨rfl, h7⟩
                  exact ⟨_, rfl, rfl, h7⟩
                case en =>
                  intro a9 X9 Xb v9 hF hs9 hd9 ho9 hv9 hr9
                  obtain ⟨x9, hx, hxt⟩ := act_put hs9 hd9 ho9
                  change a9 = putAll _ x9 [98, 99, 100, 101, 102, 103, 104] at hx
                  simp only [putAll, Act.put, List.setIfInBounds_toArray, List.set_cons_zero, List.set_cons_succ] at hx
                  have HF := Lib.hid hF.2
                  clear hF hs9 hd9 ho9 hv9 hr9 hxt
                  subst hx
                  generalize x9 98 = z98, x9 99 = z99, x9 100 = z100, x9 101 = z101, x9 102 = z102, x9 103 = z103, x9 104 = z104
                  obtain ⟨s4, hs4⟩ : ∃ s4, (s2.act q.1 q.2).1 = s4 := ⟨_, rfl⟩
                  have HST4 : Hid (St w w3 X9 A T s4) := Lib.hid (by rw [← hs4]; exact HF.out.1)
                  have HC0 : Hid (X9.cell? ⟨Y, 0, none⟩ = some (.int .i64 q.1)) := Lib.hid (by
                    have h1 := cell_blk HF.out.2 0
                    have h2 := cell_blk DQ.out.jY 0
                    rw [h1, ← h2]
                    exact hdA.out)
                  have HB4 : Hid (Bd s4 (530000 + tot (M.take (i2 + 1))) (4000 + tot (M.take (i2 + 1)))) := Lib.hid (by rw [← hs4]; exact HB9.out)
                  rw [hs4] at HRC4 HOV4
                  clear hs4 HB9
                  have jY4 := (HST4.out.kp HT4.out).trans HJ43.out
                  have g5 : X9.cell? ⟨Y4, 5, none⟩ = some (.int .i64 t1.1) := (cell_blk jY4 5).trans ((HOS.out 4).trans (by rw [← HT1.out]; exact HOK.out.cc.t0))
                  have g6 : X9.cell? ⟨Y4, 6, none⟩ = some (.int .i64 t1.2.1) := (cell_blk jY4 6).trans ((HOS.out 5).trans (by rw [← HT1.out]; exact HOK.out.cc.t1))
                  have g7 : X9.cell? ⟨Y4, 7, none⟩ = some (.int .i64 t1.2.2) := (cell_blk jY4 7).trans ((HOS.out 6).trans (by rw [← HT1.out]; exact HOK.out.cc.t2))
                  have hrec := HST4.out.rec (t := t1) (by rw [← HT1.out]; exact HTD.out)
                  clear jY4
                  cases rb with
                  | true =>
                    have HRR := Lib.hid (HRC4.out rfl)
                    rw [HRR.out] at hrec
                    go_wp2_with (go_at_call 18; refine hrec.mono ?_; rintro e w12 ⟨rfl, hb12⟩; refine Hid.out ?_)
                    refine Lib.hid ?_
                    have HST12 := Lib.hid (HST4.out.on hb12)
                    clear g5 g6 g7 hrec
                    have jY12 := (HST12.out.kp HT4.out).trans HJ43.out
                    have p5 : w12.cell? ⟨Y4, 5, none⟩ = some (.int .i64 t1.1) := (cell_blk jY12 5).trans ((HOS.out 4).trans (by rw [← HT1.out]; exact HOK.out.cc.t0))
                    have p6 : w12.cell? ⟨Y4, 6, none⟩ = some (.int .i64 t1.2.1) := (cell_blk jY12 6).trans ((HOS.out 5).trans (by rw [← HT1.out]; exact HOK.out.cc.t1))
                    have p7 : w12.cell? ⟨Y4, 7, none⟩ = some (.int .i64 t1.2.2) := (cell_blk jY12 7).trans ((HOS.out 6).trans (by rw [← HT1.out]; exact HOK.out.cc.t2))
                    have p0 : w12.cell? ⟨Y, 0, none⟩ = some (.int .i64 q.1) := cell_on hb12 HC0.out
                    have hgo2 := go_own (c := noC t1) HST12.out (Below.refl _ _) no_own (Nat.le_refl _) (by show TdOk t1; rw [← HT1.out]; exact HTD.out) ⟨by show _ ≤ (1 : Int); decide, by show (1 : Int) ≤ _; decide⟩ HB4.out HLZ.out.1 HLZ.out.2 (by show 0 ≤ 800000; omega) (by show 0 ≤ 800000; omega) q.1
                    rw [over_act (c := noC t1) rfl HOV4.out] at hgo2
                    simp only [over0, rzV, rzA] at hgo2
                    clear jY12 hb12
                    go_wp2_with (go_at_call 13; refine hgo2.mono ?_; rintro e w13 ⟨rfl, hst13⟩; refine Hid.out ?_)
                    refine Lib.hid ?_
                    have HST13 := Lib.hid hst13
                    have hfd2 := fld52 132 0 0 0 0 0 0 0 false w13
                    clear hst13 hgo2 p5 p6 p7 p0
                    go_wp2
                    go_roundw
                    case rel => exact ⟨i2 + 1, s4, hlt3, by go_num, HST13.out, HB4.out, HRC4.out, HOV4.out⟩
                    case measure => simp [intOf]; omega
                  | false =>
                    obtain ⟨rv2, hrv2⟩ : ∃ rv2, (recOf s4.recs t1).getD 0 = rv2 := ⟨_, rfl⟩
                    obtain ⟨rb2, hrb2⟩ : ∃ rb2, (recOf s4.recs t1).isSome = rb2 := ⟨_, rfl⟩
                    rw [hrv2, hrb2] at hrec
                    clear hrv2 hrb2
                    go_wp2_with (go_at_call 18; refine hrec.mono ?_; rintro e w12 ⟨rfl, hb12⟩; refine Hid.out ?_)
                    refine Lib.hid ?_
                    have HST12 := Lib.hid (HST4.out.on hb12)
                    clear g5 g6 g7 hrec
                    have jY12 := (HST12.out.kp HT4.out).trans HJ43.out
                    have p5 : w12.cell? ⟨Y4, 5, none⟩ = some (.int .i64 t1.1) := (cell_blk jY12 5).trans ((HOS.out 4).trans (by rw [← HT1.out]; exact HOK.out.cc.t0))
                    have p6 : w12.cell? ⟨Y4, 6, none⟩ = some (.int .i64 t1.2.1) := (cell_blk jY12 6).trans ((HOS.out 5).trans (by rw [← HT1.out]; exact HOK.out.cc.t1))
                    have p7 : w12.cell? ⟨Y4, 7, none⟩ = some (.int .i64 t1.2.2) := (cell_blk jY12 7).trans ((HOS.out 6).trans (by rw [← HT1.out]; exact HOK.out.cc.t2))
                    have p0 : w12.cell? ⟨Y, 0, none⟩ = some (.int .i64 q.1) := cell_on hb12 HC0.out
                    have hgo2 := go_own (c := noC t1) HST12.out (Below.refl _ _) no_own (Nat.le_refl _) (by show TdOk t1; rw [← HT1.out]; exact HTD.out) ⟨by show _ ≤ (1 : Int); decide, by show (1 : Int) ≤ _; decide⟩ HB4.out HLZ.out.1 HLZ.out.2 (by show 0 ≤ 800000; omega) (by show 0 ≤ 800000; omega) q.1
                    rw [over_act (c := noC t1) rfl HOV4.out] at hgo2
                    simp only [over0, rzV, rzA] at hgo2
                    clear jY12 hb12
                    go_wp2_with (go_at_call 13; refine hgo2.mono ?_; rintro e w13 ⟨rfl, hst13⟩; refine Hid.out ?_)
                    refine Lib.hid ?_
                    have HST13 := Lib.hid hst13
                    have hfd2 := fld52 132 0 0 0 0 0 0 0 false w13
                    clear hst13 hgo2 p5 p6 p7 p0
                    go_wp2
                    go_roundw
                    case rel => exact ⟨i2 + 1, s4, hlt3, by go_num, HST13.out, HB4.out, HRC4.out, HOV4.out⟩
                    case measure => simp [intOf]; omega
              · have k3 : ¬ ((i2 : Int) < m) := by omega
                have HBX := Lib.hid hst.bl
                clear hst hbd hrc2 hov2
                go_wp2
                go_ret
                exact ⟨rfl, HBX.out⟩
          · have hob2 : (er == 132) = false := by simpa using hob
            go_wp2_with (go_at_call 13; refine hgo.mono ?_; rintro e w10 ⟨rfl, hst10⟩; refine Hid.out ?_)
            refine Lib.hid ?_
            have HST10 := Lib.hid hst10
            have hfd := fld52 er ts3 td3.1 td3.2.1 td3.2.2 0 ti3 0 nw3 w10
            clear hst10 hgo n5 n6 n7 HOV3
            go_wp2
            go_loopw [94] (fun iv wr => ∃ (i : Nat) (s' : Sh), i ≤ m ∧ iv = .int .i64 (i : Int) ∧ St w w3 wr A T s' ∧ Bd s' (530000 + tot (M.take i)) (4000 + tot (M.take i)) ∧ (rb = true → recOf s'.recs t1 = some rv)) (fun iv _ => m - (intOf iv).toNat)
            case atStart => exact ⟨0, s3, Nat.zero_le _, rfl, HST10.out, HBD3.out, HR3.out⟩
            case round =>
              clear HST10 HBD3 HR3
              obtain ⟨i2, s2, hi2, rfl, hst, hbd, hrc2⟩ := hrel
              obtain ⟨V2, rfl⟩ : ∃ V2, V2 = wr := ⟨_, rfl⟩
              by_cases hlt3 : i2 < m
              · have hiM : i2 < M.length := by rw [HM.out]; exact hlt3
                have k2 : (0 : Int) ≤ i2 := by omega
                have k3 : (i2 : Int) < m := by omega
                have htl := tot_le M i2
                have htn := tot_next hiM
                obtain ⟨b4, o4, os, cs, V, rfl, hld, hstr, hdq, hbV⟩ := op_box HL2.out HZ2.out hiM hst hbd (by have := HQ2.out.2; omega) (by have := HQ2.out.2; omega) (by have := HQ2.out.2; omega)
                obtain ⟨Y, hY⟩ : ∃ Y, V2.heap.size = Y := ⟨_, rfl⟩
                have hgw := gsz_w M[i2].2
                have hbn := bd_act hbd M[i2].1 M[i2].2
                have hbn1 := hbn.mono (T' := 530000 + tot (M.take (i2 + 1))) (n' := 4000 + tot (M.take (i2 + 1))) (by omega) (by omega)
                have htl1 := tot_le M (i2 + 1)
                obtain ⟨q, hq⟩ : ∃ q, M[i2] = q := ⟨_, rfl⟩
                rw [hY, hq] at hdq
                rw [hq] at hbn1
                have hlz : 530000 + tot (M.take (i2 + 1)) < 800000 ∧ 4000 + tot (M.take (i2 + 1)) < 800000 := by have := HQ2.out.2; omega
                have hrc4 : rb = true → recOf (s2.act q.1 q.2).1.recs t1 = some rv := fun e => act_rec (hrc2 e) q.1 q.2
                have HRC4 := Lib.hid hrc4
                have HLZ := Lib.hid hlz
                have DQ := Lib.hid hdq
                have HY := Lib.hid hY
                have HB9 := Lib.hid hbn1
                have hdA : Hid (V.cell? ⟨Y, 0, none⟩ = some (.int .i64 q.1)) := Lib.hid hdq.a0
                clear hdq hY hq hst hbd htl htn htl1 hbV hgw hbn hbn1 hrc2 hrc4 hlz
                go_upto_region 19 with (first | refine wpl_load _ rfl (by simp [Act.eval]) hld ?_ | refine wpl_store _ _ rfl (by simp [Act.eval, Act.put]) (by simp [Act.eval, Act.put]) hstr ?_)
                rw [HY.out]
                clear hld hstr
                refine wp_region_last (fun X9 => Below V.heap.size V X9) (fun X9 X' => Below X9.heap.size X9 X') [
                  fun v9 _ => v9 = .pointer (some ⟨A, 0, none⟩),
                  fun v9 _ => v9 = .pointer (some ⟨Y, 0, none⟩),
                  fun v9 _ => v9 = .int .i64 q.1,
                  fun v9 _ => v9 = .pointer (some ⟨Y, 1, none⟩),
                  fun v9 _ => v9 = .agg cs,
                  fun v9 X9 => ∃ cs9, v9 = .agg cs9 ∧ OwnV V X9 q.2 cs9]
                  (fun v9 X9 => v9 = rzV (s2.act q.1 q.2).2 ∧ St w w3 X9 A T (s2.act q.1 q.2).1 ∧ X9.heap[Y]? = some (.cells os 49 (0, 0))) rfl (by kernel_rfl) (by kernel_rfl) (by kernel_rfl) (by kernel_rfl) ?st ?g0 ?os ?la ?en
                case st => exact ⟨fun _ _ _ _ h => h, fun _ _ _ _ h => h, fun _ _ _ _ h => h, fun _ _ _ _ h => h, fun _ _ _ _ h => h, (fun _ _ _ hb h => by obtain ⟨c9, e9, h9⟩ := h; exact ⟨c9, e9, h9.on hb⟩), trivial⟩
                case g0 => exact ⟨rfl, rfl, rfl, Nat.le_refl _, fun _ _ => rfl⟩
                case os =>
                  refine ⟨?_, ?_, ?_, ?_, ?_, ?_, trivial⟩
                  · exact ⟨rfl, fun ρ X9 hg ho hc hf hr => Runs.val _ (op_move (show ρ (.tmp 7) = .pointer (some ⟨A, 0, none⟩) from ho 7 rfl)) ⟨hg, Below.refl _ _, rfl⟩⟩
                  · exact ⟨rfl, fun ρ X9 hg ho hc hf hr => Runs.val _ (op_f49_0 (show ρ (.tmp 16) = .pointer (some ⟨Y, 0, none⟩) from ho 16 rfl)) ⟨hg, Below.refl _ _, rfl⟩⟩
                  · exact ⟨rfl, fun ρ X9 hg ho hc hf hr => Runs.val _ (op_loadI (show ρ (.tmp 99) = .pointer (some ⟨Y, 0, none⟩) from hr 1 99 rfl rfl) (cell_on hg DQ.out.a0)) ⟨hg, Below.refl _ _, rfl⟩⟩
                  · exact ⟨rfl, fun ρ X9 hg ho hc hf hr => Runs.val _ (op_f49_1 (show ρ (.tmp 16) = .pointer (some ⟨Y, 0, none⟩) from ho 16 rfl)) ⟨hg, Below.refl _ _, rfl⟩⟩
                  · exact ⟨rfl, fun ρ X9 hg ho hc hf hr => Runs.val _ (op_loadAt (show ρ (.tmp 101) = .pointer (some ⟨Y, 1, none⟩) from (hr 3 101 rfl rfl)) (DQ.out.ld X9 hg)) ⟨hg, Below.refl _ _, rfl⟩⟩
                  · refine ⟨rfl, fun ρ X9 hg ho hc hf hr => ?_⟩
                    refine Runs.goes 12 #[.agg cs] (op_call1 hf call12 (show ρ (.tmp 102) = .agg cs from hr 4 102 rfl rfl)) ((DQ.out.ow X9 hg).mono ?_)
                    rintro e7 w7 ⟨b7, cs7, rfl, h7⟩
                    exact ⟨_, rfl, hg.trans (b7.mono hg.size), b7, cs7, rfl, h7⟩
                case la =>
                  refine ⟨rfl, fun ρ X9 hg ho hc hf hr => ?_⟩
                  obtain ⟨cs9, e9, h9⟩ : ∃ cs9, ρ (.tmp 103) = .agg cs9 ∧ OwnV V X9 q.2 cs9 := hr 5 103 (by decide) rfl
                  refine Runs.goes 13 #[.pointer (some ⟨A, 0, none⟩), .int .i64 q.1, .agg cs9] (op_call3 hf call13 (show ρ (.tmp 98) = .pointer (some ⟨A, 0, none⟩) from hr 0 98 (by decide) rfl) (show ρ (.tmp 100) = .int .i64 q.1 from hr 2 100 (by decide) rfl) e9) ((DQ.out.go X9 cs9 hg h9).mono ?_)
                  rintro e7 w7 ⟨rfl, h7⟩
                  exact ⟨_, rfl, rfl, h7⟩
                case en =>
                  intro a9 X9 Xb v9 hF hs9 hd9 ho9 hv9 hr9
                  obtain ⟨x9, hx, hxt⟩ := act_put hs9 hd9 ho9
                  change a9 = putAll _ x9 [98, 99, 100, 101, 102, 103, 104] at hx
                  simp only [putAll, Act.put, List.setIfInBounds_toArray, List.set_cons_zero, List.set_cons_succ] at hx
                  have HF := Lib.hid hF.2
                  clear hF hs9 hd9 ho9 hv9 hr9 hxt
                  subst hx
                  generalize x9 98 = z98, x9 99 = z99, x9 100 = z100, x9 101 = z101, x9 102 = z102, x9 103 = z103, x9 104 = z104
                  obtain ⟨s4, hs4⟩ : ∃ s4, (s2.act q.1 q.2).1 = s4 := ⟨_, rfl⟩
                  have HST4 : Hid (St w w3 X9 A T s4) := Lib.hid (by rw [← hs4]; exact HF.out.1)
                  have HC0 : Hid (X9.cell? ⟨Y, 0, none⟩ = some (.int .i64 q.1)) := Lib.hid (by
                    have h1 := cell_blk HF.out.2 0
                    have h2 := cell_blk DQ.out.jY 0
                    rw [h1, ← h2]
                    exact hdA.out)
                  have HB4 : Hid (Bd s4 (530000 + tot (M.take (i2 + 1))) (4000 + tot (M.take (i2 + 1)))) := Lib.hid (by rw [← hs4]; exact HB9.out)
                  rw [hs4] at HRC4
                  clear hs4 HB9
                  have jY4 := (HST4.out.kp HT4.out).trans HJ43.out
                  have g5 : X9.cell? ⟨Y4, 5, none⟩ = some (.int .i64 t1.1) := (cell_blk jY4 5).trans ((HOS.out 4).trans (by rw [← HT1.out]; exact HOK.out.cc.t0))
                  have g6 : X9.cell? ⟨Y4, 6, none⟩ = some (.int .i64 t1.2.1) := (cell_blk jY4 6).trans ((HOS.out 5).trans (by rw [← HT1.out]; exact HOK.out.cc.t1))
                  have g7 : X9.cell? ⟨Y4, 7, none⟩ = some (.int .i64 t1.2.2) := (cell_blk jY4 7).trans ((HOS.out 6).trans (by rw [← HT1.out]; exact HOK.out.cc.t2))
                  have hrec := HST4.out.rec (t := t1) (by rw [← HT1.out]; exact HTD.out)
                  clear jY4
                  cases rb with
                  | true =>
                    have HRR := Lib.hid (HRC4.out rfl)
                    rw [HRR.out] at hrec
                    go_wp2_with (go_at_call 18; refine hrec.mono ?_; rintro e w12 ⟨rfl, hb12⟩; refine Hid.out ?_)
                    refine Lib.hid ?_
                    have HST12 := Lib.hid (HST4.out.on hb12)
                    clear g5 g6 g7 hrec
                    clear hb12
                    go_wp2
                    go_roundw
                    case rel => exact ⟨i2 + 1, s4, hlt3, by go_num, HST12.out, HB4.out, HRC4.out⟩
                    case measure => simp [intOf]; omega
                  | false =>
                    obtain ⟨rv2, hrv2⟩ : ∃ rv2, (recOf s4.recs t1).getD 0 = rv2 := ⟨_, rfl⟩
                    obtain ⟨rb2, hrb2⟩ : ∃ rb2, (recOf s4.recs t1).isSome = rb2 := ⟨_, rfl⟩
                    rw [hrv2, hrb2] at hrec
                    clear hrv2 hrb2
                    go_wp2_with (go_at_call 18; refine hrec.mono ?_; rintro e w12 ⟨rfl, hb12⟩; refine Hid.out ?_)
                    refine Lib.hid ?_
                    have HST12 := Lib.hid (HST4.out.on hb12)
                    clear g5 g6 g7 hrec
                    clear hb12
                    go_wp2
                    go_roundw
                    case rel => exact ⟨i2 + 1, s4, hlt3, by go_num, HST12.out, HB4.out, HRC4.out⟩
                    case measure => simp [intOf]; omega
              · have k3 : ¬ ((i2 : Int) < m) := by omega
                have HBX := Lib.hid hst.bl
                clear hst hbd hrc2
                go_wp2
                go_ret
                exact ⟨rfl, HBX.out⟩
end
end Go.Proofs.Ytcoaahlakkghhaa
