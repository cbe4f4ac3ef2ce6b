/- What the document's clearing asks for, while it resolves, and when it is over. -/
import Derived.Test.YtfokgalgdlajlaaRd
namespace Go.Proofs.Ytfokgalgdlajlaa
open Go.RowKit
theorem info3 : (Try.prog.info? 3).map (fun i => (i.zero, i.size, i.bytes)) = some (some (.int .i64 0), 1, 8) := by kernel_rfl
theorem info76 : (Try.prog.info? 76).map (fun i => (i.zero, i.size, i.bytes)) = some (some (.agg zC), 30, 336) := by kernel_rfl
theorem cm_one (a : Ak) : ∀ u ∈ cmL a, u.oneCell' = true := fun u hu => ak_one a u (List.mem_cons_of_mem _ hu)
theorem size89 : (Try.prog.info? 89).map (·.size) = some 4 := by kernel_rfl
/-- One number more to none, in a new row. -/
theorem push_i {V : World} (n : Int) : ∃ ad cap w', (Builtin.append_ #[116, 116] 116 #[.slice none 0 0, .slice (some ⟨V.heap.size, 0, none⟩) 1 1]).run Try.prog (V.alloc (.cells #[.int .i64 n] 3)) = .ok (.slice ad 1 cap) w' ∧ w'.ownsRow V.heap.size 3 1 (.slice ad 1 cap) 1 [.int .i64 n] ∧ Below V.heap.size V w' := by
  obtain ⟨i0, hi, hz0, hz1, hz2⟩ := info_parts info3
  have hb := bnew V (.cells #[.int .i64 n] 3)
  obtain ⟨v', w', hr, ho', hg, _, hat⟩ := run_append_own_at (P := Try.prog) (w := V.alloc (.cells #[.int .i64 n] 3)) V.heap.size 116 116 3 i0 _ 1 8 Try.underlying116 hi hz0 hz1 hz2 rfl (by decide) (.slice none 0 0) 0 [] (World.ownsRow_nil _ _ 3 1) ⟨V.heap.size, 0, none⟩ 1 1 [.int .i64 n] rfl (fun j u hu => by
    rw [add_at, Nat.zero_add, cell_blk (heap_alloc_new V _), ← hu]
    exact (Array.getElem?_toList (xs := #[Value.int .i64 n]) (i := j)).symm) (by simp [Value.oneCell']) (by unfold maxLen; omega) (by omega) hb.size
  obtain ⟨ad', cap', rfl⟩ := own_shape ho'
  have hf : Fr (V.alloc (.cells #[.int .i64 n] 3)) w' (fun k => (Value.slice none 0 0).ownBlock = some k) := Fr.grown (Fr.refl _ _) hg (fun k hk => .inl hk)
  exact ⟨ad', cap', w', hr, ho', bgo hb (hf.toBelow (fun k hk q => by cases q) (Nat.le_refl _))⟩
theorem push_c {V : World} (a : Ak) : ∃ ad cap w', (Builtin.append_ #[117, 117] 117 #[.slice none 0 0, .slice (some ⟨V.heap.size, 0, none⟩) 1 1]).run Try.prog (V.alloc (.cells (cmA a) 76)) = .ok (.slice ad 1 cap) w' ∧ w'.ownsRow V.heap.size 76 30 (.slice ad 1 cap) 1 (cmL a) ∧ Below V.heap.size V w' := by
  obtain ⟨i0, hi, hz0, hz1, hz2⟩ := info_parts info76
  have hb := bnew V (.cells (cmA a) 76)
  obtain ⟨v', w', hr, ho', hg, _, hat⟩ := run_append_own_at (P := Try.prog) (w := V.alloc (.cells (cmA a) 76)) V.heap.size 117 117 76 i0 _ 30 336 Try.underlying117 hi hz0 hz1 hz2 rfl (by decide) (.slice none 0 0) 0 [] (World.ownsRow_nil _ _ 76 30) ⟨V.heap.size, 0, none⟩ 1 1 (cmL a) rfl (fun j u hu => by
    rw [add_at, Nat.zero_add, cell_blk (heap_alloc_new V _), ← hu]
    exact (Array.getElem?_toList (xs := cmA a) (i := j)).symm) (cm_one a) (by unfold maxLen; omega) (by omega) hb.size
  obtain ⟨ad', cap', rfl⟩ := own_shape ho'
  have hf : Fr (V.alloc (.cells (cmA a) 76)) w' (fun k => (Value.slice none 0 0).ownBlock = some k) := Fr.grown (Fr.refl _ _) hg (fun k hk => .inl hk)
  exact ⟨ad', cap', w', hr, ho', bgo hb (hf.toBelow (fun k hk q => by cases q) (Nat.le_refl _))⟩
section
variable {w : World} {R b : Nat} {c : CW} {s : CS} {dn : Bool}
set_option maxHeartbeats 8000000 in
set_option maxRecDepth 100000 in
theorem rasks_4 (h : Rx w R b c s dn) (hp : s.ph = 4) : Calls Try.prog 47 #[.pointer (some ⟨R, 0, none⟩)] w (RfAns w []) := by
  have l9 : w.cell? ⟨R, 9, none⟩ = some (.int .i64 4) := by rw [← hp]; exact h.cell 9
  have l8 : w.cell? ⟨R, 8, none⟩ = some (.slice (some ⟨b, 0, none⟩) 1 1) := h.cell 8
  clear h hp
  go_enter Try.func47, Try.ntmps47
  go_wp2
  go_loopw [5, 6, 7] (fun av ov iv wr => av = .slice none 0 0 ∧ ov = .slice none 0 0 ∧ iv = .int .i64 0 ∧ wr = w) (fun _ _ _ _ => 0)
  case atStart => exact ⟨rfl, rfl, rfl, rfl⟩
  case round =>
    obtain ⟨rfl, rfl, rfl, rfl⟩ := hrel
    go_wp2
    refine bodyPost_ret (v := .tuple #[.slice none 0 0, .slice none 0 0]) (by simp [results, Try.results47, go_sem]) rfl ?_
    exact ⟨none, 0, none, 0, rfl, World.ownsRow_nil _ _ _ _, World.ownsRow_nil _ _ _ _, Below.refl _ _⟩
set_option maxHeartbeats 8000000 in
set_option maxRecDepth 100000 in
theorem rasks_3 (h : Rx w R b c s false) (hp : s.ph = 3) : Calls Try.prog 47 #[.pointer (some ⟨R, 0, none⟩)] w (RfAns w [(c.dl s).reso ⟨c.sh, .nil, .nil⟩]) := by
  have l9 : w.cell? ⟨R, 9, none⟩ = some (.int .i64 3) := by rw [← hp]; exact h.cell 9
  have l8 : w.cell? ⟨R, 8, none⟩ = some (.slice (some ⟨b, 0, none⟩) 1 1) := h.cell 8
  have t3 : ∀ j u, [Value.int .i64 c.t0, .int .i64 c.t1, .int .i64 c.t2][j]? = some u → (rxA c b s)[0 + j]? = some u := fun j u hu => by
    rw [Nat.zero_add]
    match j, hu with
    | 0, hu => exact hu
    | 1, hu => exact hu
    | 2, hu => exact hu
    | m + 3, hu => cases hu
  have T3 := Lib.hid t3
  clear t3
  have HX := Lib.hid h
  clear h hp
  go_enter Try.func47, Try.ntmps47
  go_wp2
  go_loopw [5, 6, 7] (fun av ov iv wr => (av = .slice none 0 0 ∧ ov = .slice none 0 0 ∧ iv = .int .i64 0 ∧ wr = w) ∨ (∃ aa ac oa oc, av = .slice aa 1 ac ∧ ov = .slice oa 1 oc ∧ iv = .int .i64 1 ∧ wr.ownsRow w.heap.size 3 1 (.slice aa 1 ac) 1 [.int .i64 c.sh] ∧ wr.ownsRow w.heap.size 76 30 (.slice oa 1 oc) 1 (cmL ⟨0, 4, c.t0, c.t1, c.t2, c.home, .nil, .nil, 0, 0, s.ts, 0, 0⟩) ∧ Below w.heap.size w wr)) (fun _ _ iv _ => 1 - (intOf iv).toNat)
  case atStart => exact .inl ⟨rfl, rfl, rfl, rfl⟩
  case round =>
    rcases hrel with ⟨rfl, rfl, rfl, hwr⟩ | ⟨aa, ac, oa, oc, rfl, rfl, rfl, o1, o2, hb⟩
    · have hwr' := hwr.symm
      subst hwr'
      clear hwr
      have hld : (Instr.loadAt 89 (.pointer (some ⟨b, 0, none⟩))).run Try.prog w = .ok (.agg (rpA c false)) w := load_row HX.out.part Try.underlying89 rfl size89
      obtain ⟨V3, e3, k3, f3⟩ := st_row (heap_alloc_new w (.cells #[.int .i64 0, .slice none 0 0, .slice none 0 0, .bool false] 89)) (us := rpA c false) rfl size89 (by simp [Value.oneCell'])
      have b3 : Below w.heap.size w V3 := below_put (bnew w _) (Nat.le_refl _) f3 (Nat.le_refl _)
      have m3 : V3.cell? ⟨w.heap.size, 3, none⟩ = some (.bool false) := cell_blk k3 3
      have HLD := Lib.hid hld
      have HS3 := Lib.hid e3
      have HK3 := Lib.hid k3
      have HB3 := Lib.hid b3
      have HX3 := Lib.hid (HX.out.on b3)
      have HL9 : Hid (V3.cell? ⟨R, 9, none⟩ = some (.int .i64 3)) := Lib.hid (cell_on b3 l9)
      clear hld e3 k3 f3 b3
      go_upto_region 13 with (first | (refine wpl_load _ rfl (by first | rfl | simp [Act.eval]) HLD.out ?_) | (refine wpl_store _ _ rfl (by first | rfl | simp [Act.eval]) (by first | rfl | simp [Act.eval]) HS3.out ?_))
      clear l9 l8 m3
      refine wp_region_gs (fun fl r X9 => SG V3 (cmA ⟨0, 4, c.t0, c.t1, c.t2, c.home, .nil, .nil, 0, 0, s.ts, 0, 0⟩) (fl 13) (fl 14) (r 9) X9) (fun _ _ => True) [
        fun v9 _ => v9 = .pointer (some ⟨R, 0, none⟩),
        fun v9 _ => v9 = .pointer (some ⟨R, 0, none⟩),
        fun v9 _ => v9 = .pointer (some ⟨R, 0, none⟩),
        fun v9 _ => v9 = .agg #[.int .i64 c.t0, .int .i64 c.t1, .int .i64 c.t2],
        fun v9 _ => v9 = .pointer (some ⟨R, 0, none⟩),
        fun v9 _ => v9 = .pointer (some ⟨R, 0, none⟩),
        fun v9 _ => v9 = .pointer (some ⟨R, 3, none⟩),
        fun v9 _ => v9 = .int .i64 c.home,
        fun v9 _ => v9 = .pointer (some ⟨R, 0, none⟩),
        fun v9 _ => v9 = .pointer (some ⟨R, 0, none⟩),
        fun v9 _ => v9 = .pointer (some ⟨R, 11, none⟩),
        fun v9 _ => v9 = .int .i64 s.ts,
        fun v9 _ => v9 = .agg (cmA ⟨0, 4, c.t0, c.t1, c.t2, c.home, .nil, .nil, 0, 0, s.ts, 0, 0⟩),
        fun _ _ => True,
        fun _ _ => True]
        (by kernel_rfl) (by kernel_rfl) (by kernel_rfl) ?st ?g0 ?os ?en
      case st => exact ⟨fun _ _ _ _ h => h, fun _ _ _ _ h => h, fun _ _ _ _ h => h, fun _ _ _ _ h => h, fun _ _ _ _ h => h, fun _ _ _ _ h => h, fun _ _ _ _ h => h, fun _ _ _ _ h => h, fun _ _ _ _ h => h, fun _ _ _ _ h => h, fun _ _ _ _ h => h, fun _ _ _ _ h => h, fun _ _ _ _ h => h, fun _ _ _ _ h => h, fun _ _ _ _ h => h, trivial⟩
      case g0 => exact SG.mk0
      case os =>
        refine ⟨?_, ?_, ?_, ?_, ?_, ?_, ?_, ?_, ?_, ?_, ?_, ?_, ?_, ?_, ?_, trivial⟩
        · exact fun ρ X9 fl hg hn hl hp ho hc hf hr => .inl ⟨rfl, Runs.val _ (op_move (show ρ (.tmp 0) = .pointer (some ⟨R, 0, none⟩) from ho 0 rfl)) ⟨(fun r' h1 h2 => hg.same rfl rfl (h1 9 (by decide))), trivial, rfl⟩⟩
        · exact fun ρ X9 fl hg hn hl hp ho hc hf hr => .inl ⟨rfl, Runs.val _ (op_nil (show ρ (.tmp 86) = .pointer (some ⟨R, 0, none⟩) from hr 0 86 rfl rfl)) ⟨(fun r' h1 h2 => hg.same rfl rfl (h1 9 (by decide))), trivial, rfl⟩⟩
        · exact fun ρ X9 fl hg hn hl hp ho hc hf hr => .inl ⟨rfl, Runs.val _ (op_f87_0 (show ρ (.tmp 87) = .pointer (some ⟨R, 0, none⟩) from hr 1 87 rfl rfl)) ⟨(fun r' h1 h2 => hg.same rfl rfl (h1 9 (by decide))), trivial, rfl⟩⟩
        · exact fun ρ X9 fl hg hn hl hp ho hc hf hr => .inl ⟨rfl, Runs.val _ (op_loadAt (show ρ (.tmp 88) = .pointer (some ⟨R, 0, none⟩) from hr 2 88 rfl rfl) (run_loadAt_mid X9 R 0 37 [.int .i64 c.t0, .int .i64 c.t1, .int .i64 c.t2] _ (fun j u hu => by have h9 := cell_on hg.1 ((HX3.out.cell (0 + j)).trans (T3.out j u hu)); exact h9) Try.underlying37 rfl size37)) ⟨(fun r' h1 h2 => hg.same rfl rfl (h1 9 (by decide))), trivial, rfl⟩⟩
        · exact fun ρ X9 fl hg hn hl hp ho hc hf hr => .inl ⟨rfl, Runs.val _ (op_move (show ρ (.tmp 0) = .pointer (some ⟨R, 0, none⟩) from ho 0 rfl)) ⟨(fun r' h1 h2 => hg.same rfl rfl (h1 9 (by decide))), trivial, rfl⟩⟩
        · exact fun ρ X9 fl hg hn hl hp ho hc hf hr => .inl ⟨rfl, Runs.val _ (op_nil (show ρ (.tmp 90) = .pointer (some ⟨R, 0, none⟩) from hr 4 90 rfl rfl)) ⟨(fun r' h1 h2 => hg.same rfl rfl (h1 9 (by decide))), trivial, rfl⟩⟩
        · exact fun ρ X9 fl hg hn hl hp ho hc hf hr => .inl ⟨rfl, Runs.val _ (op_f87_1 (show ρ (.tmp 91) = .pointer (some ⟨R, 0, none⟩) from hr 5 91 rfl rfl)) ⟨(fun r' h1 h2 => hg.same rfl rfl (h1 9 (by decide))), trivial, rfl⟩⟩
        · exact fun ρ X9 fl hg hn hl hp ho hc hf hr => .inl ⟨rfl, Runs.val _ (op_load3 (show ρ (.tmp 92) = .pointer (some ⟨R, 3, none⟩) from hr 6 92 rfl rfl) (cell_on hg.1 (HX3.out.cell 3))) ⟨(fun r' h1 h2 => hg.same rfl rfl (h1 9 (by decide))), trivial, rfl⟩⟩
        · exact fun ρ X9 fl hg hn hl hp ho hc hf hr => .inl ⟨rfl, Runs.val _ (op_move (show ρ (.tmp 0) = .pointer (some ⟨R, 0, none⟩) from ho 0 rfl)) ⟨(fun r' h1 h2 => hg.same rfl rfl (h1 9 (by decide))), trivial, rfl⟩⟩
        · exact fun ρ X9 fl hg hn hl hp ho hc hf hr => .inl ⟨rfl, Runs.val _ (op_nil (show ρ (.tmp 94) = .pointer (some ⟨R, 0, none⟩) from hr 8 94 rfl rfl)) ⟨(fun r' h1 h2 => hg.same rfl rfl (h1 9 (by decide))), trivial, rfl⟩⟩
        · exact fun ρ X9 fl hg hn hl hp ho hc hf hr => .inl ⟨rfl, Runs.val _ (op_f87_9 (show ρ (.tmp 95) = .pointer (some ⟨R, 0, none⟩) from hr 9 95 rfl rfl)) ⟨(fun r' h1 h2 => hg.same rfl rfl (h1 9 (by decide))), trivial, rfl⟩⟩
        · exact fun ρ X9 fl hg hn hl hp ho hc hf hr => .inl ⟨rfl, Runs.val _ (op_load3 (show ρ (.tmp 96) = .pointer (some ⟨R, 11, none⟩) from hr 10 96 rfl rfl) (cell_on hg.1 (HX3.out.cell 11))) ⟨(fun r' h1 h2 => hg.same rfl rfl (h1 9 (by decide))), trivial, rfl⟩⟩
        · exact fun ρ X9 fl hg hn hl hp ho hc hf hr => .inl ⟨rfl, Runs.val _ (op_b76c4 (hc _) (show ρ (.tmp 89) = .agg #[.int .i64 c.t0, .int .i64 c.t1, .int .i64 c.t2] from hr 3 89 rfl rfl) (show ρ (.tmp 93) = .int .i64 c.home from hr 7 93 rfl rfl) (show ρ (.tmp 97) = .int .i64 s.ts from hr 11 97 rfl rfl)) ⟨(fun r' h1 h2 => hg.same rfl rfl (h1 9 (by decide))), trivial, rfl⟩⟩
        · intro ρ X9 fl hg hn hl hp ho hc hf hr
          refine .inl ⟨rfl, Runs.val _ op_alloc76 ⟨(fun r' h1 h2 => ?_), trivial, trivial⟩⟩
          have ns : fl 14 = false := by
            cases h9 : fl 14 with
            | false => rfl
            | true => exact absurd (hl 14 _ 13 rfl rfl h9) (by rw [hn]; decide)
          show SG V3 (cmA ⟨0, 4, c.t0, c.t1, c.t2, c.home, .nil, .nil, 0, 0, s.ts, 0, 0⟩) true (fl 14) (r' 9) _
          rw [ns]
          exact SG.put hg (h2 9 rfl)
        · intro ρ X9 fl hg hn hl hp ho hc hf hr
          have ya : fl 13 = true := hp 13 rfl
          have hG : SG V3 (cmA ⟨0, 4, c.t0, c.t1, c.t2, c.home, .nil, .nil, 0, 0, s.ts, 0, 0⟩) (fl 13) (fl 14) (ρ (.tmp 9)) X9 := hg
          rw [ya, show fl 14 = false from hn] at hG
          obtain ⟨b9, X', e9, hst, hG2⟩ := hG.fill rfl (by simp [Value.oneCell'])
          refine .inl ⟨rfl, Runs.skips (op_storeAt e9 (show ρ (.tmp 98) = .agg (cmA ⟨0, 4, c.t0, c.t1, c.t2, c.home, .nil, .nil, 0, 0, s.ts, 0, 0⟩) from hr 12 98 rfl rfl) hst) ⟨(fun r' h1 h2 => ?_), trivial, trivial⟩⟩
          show SG V3 (cmA ⟨0, 4, c.t0, c.t1, c.t2, c.home, .nil, .nil, 0, 0, s.ts, 0, 0⟩) (fl 13) true (r' 9) X'
          rw [ya, h1 9 (by intro q; cases q)]
          exact hG2
      case en =>
        intro a9 w6 fl hfl hG9 hs9 hd9 ho9 hr9
        obtain ⟨x9, hx, hxt⟩ := act_put hs9 hd9 ho9
        obtain ⟨hbw, q9⟩ := (show SG V3 (cmA ⟨0, 4, c.t0, c.t1, c.t2, c.home, .nil, .nil, 0, 0, s.ts, 0, 0⟩) (fl 13) (fl 14) (a9.tmps.getD 9 undef) w6 from hG9)
        obtain ⟨Bx, e9, hlb, jB⟩ := q9 (hfl 13 (by decide))
        rw [hfl 14 (by decide)] at jB
        have xk9 : x9 9 = .pointer (some ⟨Bx, 0, none⟩) := (hxt 9).symm.trans e9
        clear hfl hG9 hs9 hd9 ho9 hr9
        change a9 = putAll _ x9 [86, 87, 88, 89, 90, 91, 92, 93, 94, 95, 96, 97, 98, 9] at hx
        simp only [putAll, Act.put, List.setIfInBounds_toArray, List.set_cons_zero, List.set_cons_succ, xk9] at hx
        subst hx
        clear hxt xk9 e9
        generalize x9 86 = z86, x9 87 = z87, x9 88 = z88, x9 89 = z89, x9 90 = z90, x9 91 = z91, x9 92 = z92, x9 93 = z93, x9 94 = z94, x9 95 = z95, x9 96 = z96, x9 97 = z97, x9 98 = z98
        obtain ⟨ad1, cap1, w7, hrun1, o1, b1⟩ := push_i (V := w6) c.sh
        obtain ⟨ad2, cap2, w8, hrun2, o2, b2⟩ := push_c (V := w7) ⟨0, 4, c.t0, c.t1, c.t2, c.home, .nil, .nil, 0, 0, s.ts, 0, 0⟩
        have hbw6 := bgo HB3.out hbw
        have m8 : w6.cell? ⟨w.heap.size, 0, none⟩ = some (.int .i64 c.sh) := cell_on hbw (cell_blk HK3.out 0)
        have l9 : w6.cell? ⟨R, 9, none⟩ = some (.int .i64 3) := cell_on hbw HL9.out
        have hld := load_row ((b1.block _ (blk_lt jB)).trans jB) Try.underlying76 rfl size76
        have HLDB := Lib.hid hld
        have HR1 := Lib.hid hrun1
        have HR2 := Lib.hid hrun2
        have HE := Lib.hid (And.intro (own_below (own_mono o1 hbw6.size) b2) (And.intro (own_mono o2 (bgo hbw6 b1).size) (bgo hbw6 (bgo b1 b2))))
        clear hbw jB hlb hrun1 hrun2 o1 o2 b1 b2 hbw6 hld
        go_wp2_with (first | (refine wpl_load _ rfl (by first | rfl | simp [Act.eval]) HLDB.out ?_) | (at_builtin; refine wpl_run2 _ _ rfl (by simp [Act.eval]) (by simp [Act.eval]) HR1.out ?_) | (at_builtin; refine wpl_run2 _ _ rfl (by simp [Act.eval]) (by simp [Act.eval]) HR2.out ?_))
        go_roundw
        case rel => exact .inr ⟨ad1, cap1, ad2, cap2, rfl, rfl, by go_num, HE.out.1, HE.out.2.1, HE.out.2.2⟩
        case measure => simp [intOf]
    · have l8b : wr.cell? ⟨R, 8, none⟩ = some (.slice (some ⟨b, 0, none⟩) 1 1) := cell_on hb l8
      have HE := Lib.hid (And.intro o1 (And.intro o2 hb))
      clear o1 o2 hb l8 l9
      go_wp2
      refine bodyPost_ret (v := .tuple #[.slice aa 1 ac, .slice oa 1 oc]) (by simp [results, Try.results47, go_sem]) rfl ?_
      exact ⟨_, _, _, _, rfl, HE.out.1, HE.out.2.1, HE.out.2.2⟩
def CW.asks (c : CW) (s : CS) : List Ak := if s.ph = 2 then [(c.dl s).cmd c.home 3] else if s.ph = 3 then [(c.dl s).reso ⟨c.sh, .nil, .nil⟩] else []
theorem asks_eq (c : CW) (s : CS) (h : s.ph = 2 ∨ s.ph = 3 ∨ s.ph = 4) : (c.dl s).asks = c.asks s := by
  have e : (c.dl s).phase = s.ph := rfl
  unfold Dl.asks CW.asks
  rw [e]
  rcases h with q | q | q
  · rw [if_neg (by omega), if_pos q, if_pos q]
    rfl
  · rw [if_neg (by omega), if_neg (by omega), if_pos q, if_neg (by omega), if_pos q]
    rfl
  · rw [if_neg (by omega), if_neg (by omega), if_neg (by omega), if_neg (by omega), if_neg (by omega)]
theorem rasks_any (h : Rx w R b c s dn) (hp : s.ph = 2 ∨ s.ph = 3 ∨ s.ph = 4) (hd : s.ph = 3 → dn = false) : Calls Try.prog 47 #[.pointer (some ⟨R, 0, none⟩)] w (RfAns w (c.asks s)) := by
  unfold CW.asks
  rcases hp with q | q | q
  · rw [if_pos q]
    exact rasks_2 h q
  · rw [if_neg (by omega), if_pos q]
    rw [hd q] at h
    exact rasks_3 h q
  · rw [if_neg (by omega), if_neg (by omega)]
    exact rasks_4 h q
end
end Go.Proofs.Ytfokgalgdlajlaa
