/- The walk of the document's Rows. -/
import Derived.Test.YthjnfkgheihgkaaUc
namespace Go.Proofs.Ythjnfkgheihgkaa
open Go.RowKit
section
variable {ρ : Operand → Value} {X : World} {d : Option Tmp} {ty : TypeId} {ps : String} {af : Array Edge} {g : Option (Nat × Bool)}
theorem op_i27 {x y : Operand} {B n m i : Nat} (e : ρ x = .slice (some ⟨B, 0, none⟩) n m) (e2 : ρ y = .int .i64 (i : Int)) (h : i < n) : (execOp ρ ⟨d, .indexAddr 27 x y, ty, ps, af, g⟩).run Try.prog X = .ok (.value (.pointer (some ⟨B, i * 4, none⟩))) X := by
  have k0 : (0 : Int) ≤ (i : Int) := by omega
  have k1 : (i : Int) < (n : Int) := by omega
  simp only [execOp, e, e2]
  go_simp
theorem op_f70_1 {x : Operand} {B o : Nat} (e : ρ x = .pointer (some ⟨B, o, none⟩)) : (execOp ρ ⟨d, .fieldAddr 70 x 1, ty, ps, af, g⟩).run Try.prog X = .ok (.value (.pointer (some ⟨B, o + 1, none⟩))) X := by
  simp only [execOp, e]
  go_simp
end
theorem vsOf_take {D : List On} {j : Nat} (h : j < D.length) (k : ByteArray) : vsOf (D.take (j + 1)) k = vsOf (D.take j) k ++ (if D[j].1 = k then [D[j].2] else []) := by
  have e : D.take (j + 1) = D.take j ++ [(D[j].1, D[j].2)] := by rw [List.take_add_one, List.getElem?_eq_getElem h]; rfl
  rw [e, vsOf_snoc]
theorem vsOf_len (D : List On) (k : ByteArray) : (vsOf D k).length ≤ D.length := by
  unfold vsOf
  rw [List.length_map]
  exact List.length_filter_le _ _
theorem own_ge0 {B : Nat} {e : TypeId} {c n : Nat} {v : Value} {xs : List Value} {w : World} (h : w.ownsRow B e c v n xs) : ∀ k, v.ownBlock = some k → B ≤ k := fun k hk => (h.lt k hk).1
section
variable {w : World} {A : Nat} {S : Nat → Prop} {D : List On} {lv : Value}
set_option maxHeartbeats 8000000 in
set_option maxRecDepth 100000 in
theorem rows_r (h : Rs w A S D lv) (hz : ∀ p ∈ D, p.1.size ≤ maxLen) (hf : D.length < 800000) : Calls Try.prog 19 #[.pointer (some ⟨A, 0, none⟩)] w fun e w' => RowsAns w (rowsOf D) e w' := by
  obtain ⟨lad, lcap, rfl, z1, z2⟩ := h.shape
  have hkeys := keys_r h hz hf
  have hml : (D.length : Int) ≤ 9223372036854775807 := by omega
  obtain ⟨K, hK⟩ : ∃ K, keysOf D = K := ⟨_, rfl⟩
  rw [hK] at hkeys
  have hKl : K.length ≤ D.length := by rw [← hK]; exact keysOf_len D
  have hmk : (K.length : Int) ≤ 9223372036854775807 := by omega
  have HKK := Lib.hid hK
  have HH := Lib.hid h
  clear h hz z1 z2 hK
  go_enter Try.func19, Try.ntmps19
  go_wp2_with fail
  refine hkeys.mono ?_
  rintro e w1 ⟨kad, kcap, rfl, hO1, b1⟩
  have HO1 := Lib.hid hO1
  have HB1 := Lib.hid b1
  clear hkeys hO1 b1
  go_wp2
  go_loopw [4, 5] (fun ov iv wr => ∃ (i : Nat) (P : List (Rw × Value)), i ≤ K.length ∧ iv = .int .i64 (i : Int) ∧ P.map Prod.fst = (rowsOf D).take i ∧ Rm wr w.heap.size P ov ∧ wr.ownsRow w.heap.size 9 1 (.slice kad K.length kcap) K.length (stC K) ∧ Below w.heap.size w wr) (fun _ iv _ => K.length - (intOf iv).toNat)
  case atStart => exact ⟨0, [], Nat.zero_le _, rfl, rfl, Rm.nil _ _, HO1.out, HB1.out⟩
  case round =>
    clear HO1 HB1
    obtain ⟨i, P, hi, rfl, hPR, hRm, hO, hb⟩ := hrel
    obtain ⟨V, rfl⟩ : ∃ V, V = wr := ⟨_, rfl⟩
    have hRl : (rowsOf D).length = K.length := by unfold rowsOf; rw [List.length_map, HKK.out]
    have hPl : P.length = i := by have := congrArg List.length hPR; rw [List.length_map, List.length_take] at this; omega
    obtain ⟨oad, ocap, rfl⟩ := own_shape hRm.own
    have HPL := Lib.hid hPl
    clear hPl
    have HPR := Lib.hid hPR
    have HRM := Lib.hid hRm
    have HO := Lib.hid hO
    have HB := Lib.hid hb
    by_cases hlt : i < K.length
    · obtain ⟨gk, rfl, c0⟩ := st_at hO hlt
      have k0 : (0 : Int) ≤ i := by omega
      have k1 : (i : Int) < K.length := by omega
      obtain ⟨k, hk⟩ : ∃ k, K[i] = k := ⟨_, rfl⟩
      rw [hk] at c0
      have HKE := Lib.hid hk
      have HC0 := Lib.hid c0
      have HRI : Hid ((rowsOf D).take (i + 1) = (rowsOf D).take i ++ [⟨k, vsOf D k⟩]) := by
        show _ = _
        have e : (rowsOf D)[i]? = some ⟨k, vsOf D k⟩ := by
          unfold rowsOf
          rw [List.getElem?_map, HKK.out, List.getElem?_eq_getElem hlt, hk]
          rfl
        rw [List.take_add_one, e]
        rfl
      obtain ⟨V2, hV2⟩ : ∃ V2, V2 = V.alloc (.cells #[.string k, .slice none 0 0] 50) := ⟨_, rfl⟩
      obtain ⟨Y, hY⟩ : ∃ Y, V.heap.size = Y := ⟨_, rfl⟩
      have b2 : Below V.heap.size V V2 := by rw [hV2]; exact (Below.refl _ V).alloc (Nat.le_refl _) _
      have jY : V2.heap[Y]? = some (.cells #[.string k, .slice none 0 0] 50 (0, 0)) := by rw [hV2, ← hY]; exact heap_alloc_new V _
      have HV2 := Lib.hid hV2
      have HYY := Lib.hid hY
      have HB2 := Lib.hid b2
      have HJY := Lib.hid jY
      clear hb hRm hO hPR hk hV2 hY b2 jY hRl
      go_upto_region 7 with fail
      rw [← HV2.out, HYY.out]
      go_wp2
      go_loopw [7] (fun jv wr => ∃ (j : Nat) (l : List Ve) (av : Value), j ≤ D.length ∧ jv = .int .i64 (j : Int) ∧ l = vsOf (D.take j) k ∧ wr.heap[Y]? = some (.cells #[.string k, av] 50 (0, 0)) ∧ wr.ownsRow V2.heap.size 31 3 av l.length (veC l) ∧ Fr V2 wr (fun b => b = Y)) (fun jv _ => D.length - (intOf jv).toNat)
      case atStart => exact ⟨0, [], .slice none 0 0, Nat.zero_le _, rfl, rfl, HJY.out, World.ownsRow_nil _ _ _ _, Fr.refl _ _⟩
      case round =>
        clear HJY c0
        obtain ⟨j, l, av, hj, rfl, hl, jY, hA, hF⟩ := hrel
        obtain ⟨X, rfl⟩ : ∃ X, X = wr := ⟨_, rfl⟩
        have hbX : Below V.heap.size V X := by
          have q := HB2.out
          have q2 := HYY.out
          exact ⟨hF.os.trans q.os, hF.tape.trans q.tape, hF.output.trans q.output, Nat.le_trans q.size hF.size, fun b hb => (hF.block b (Nat.lt_of_lt_of_le hb q.size) (by omega)).trans (q.block b hb)⟩
        have hbw : Below w.heap.size w X := HB.out.trans (hbX.mono HB.out.size)
        have hv := HH.out.on hbw
        have a0 : X.cell? ⟨A, 0, none⟩ = some (.slice lad D.length lcap) := cell_blk hv.ob 0
        have c0 := cell_on hbX HC0.out
        obtain ⟨vad, vcap, rfl⟩ := own_shape hA
        have hll : l.length ≤ j := by rw [hl]; exact Nat.le_trans (vsOf_len _ _) (by rw [List.length_take]; omega)
        have HL := Lib.hid hl
        have HJX := Lib.hid jY
        have HAX := Lib.hid hA
        have HFX := Lib.hid hF
        have HBX := Lib.hid hbX
        have HBW := Lib.hid hbw
        by_cases hltj : j < D.length
        · obtain ⟨g, cap', e, _, _, d0, d1, d2, d3⟩ := hv.at' hltj
          cases e
          have j0 : (0 : Int) ≤ j := by omega
          have j1 : (j : Int) < D.length := by omega
          have HVT := Lib.hid (vsOf_take hltj k)
          by_cases heq : D[j].1 = k
          · have es := same_eq D[j].1 k
            rw [decide_eq_true heq] at es
            have HNL : Hid (vsOf (D.take (j + 1)) k = l ++ [D[j].2]) := by
              show _ = _
              rw [HVT.out, if_pos heq, ← HL.out]
            have HOB := Lib.hid hv.ob
            have HOW := Lib.hid hv.own
            clear hl jY hA hF hbX hbw hv heq HVT
            go_wp2
            go_quiet (fail)
            have bq := below_draw (Below.refl X.heap.size X) nq
            obtain ⟨U, hU⟩ : ∃ U, X.drewN nq = U := ⟨_, rfl⟩
            rw [hU] at bq ⊢
            have jYU := (bq.block Y (blk_lt HJX.out)).trans HJX.out
            have y1 : U.cell? ⟨Y, 1, none⟩ = some (.slice vad l.length vcap) := cell_blk jYU 1
            have a0 : U.cell? ⟨A, 0, none⟩ = some (.slice (some ⟨g, 0, none⟩) D.length lcap) := cell_on bq a0
            have d1 : U.cell? ⟨g, j * 4 + 1, none⟩ = some (.int .i64 D[j].2.ts) := cell_on bq d1
            have d2 : U.cell? ⟨g, j * 4 + 2, none⟩ = some (.string D[j].2.val) := cell_on bq d2
            have d3 : U.cell? ⟨g, j * 4 + 3, none⟩ = some (.bool D[j].2.dead) := cell_on bq d3
            have hAU := own_below HAX.out bq
            have hOBU := (bq.block A (blk_lt HOB.out)).trans HOB.out
            have hOWU := own_below HOW.out bq
            have nY : ¬ (Value.slice vad l.length vcap).ownBlock = some Y := fun e => by
              obtain ⟨cs, t⟩ := own_tag hAU Y e
              exact tag_ne t jYU (by decide) rfl
            have nA : ¬ (Value.slice vad l.length vcap).ownBlock = some A := fun e => by
              obtain ⟨cs, t⟩ := own_tag hAU A e
              exact tag_ne t hOBU (by decide) rfl
            have nG : ¬ (Value.slice vad l.length vcap).ownBlock = some g := fun e => by
              obtain ⟨cs, t⟩ := own_tag hAU g e
              obtain ⟨cs', t'⟩ := own_tag hOWU g rfl
              exact tag_ne t t' (by decide) rfl
            have hFU : Fr V2 U (fun b => b = Y) := HFX.out.below bq
            have HAU := Lib.hid hAU
            have HJU := Lib.hid jYU
            have HFU := Lib.hid hFU
            clear hU bq jYU hAU hOBU hOWU hFU d0 c0 HC0
            go_upto_region 11 with fail
            refine wp_region_once 11 (fun d X9 => Fr U X9 (fun b => (Value.slice vad l.length vcap).ownBlock = some b) ∧ (d = false → Below U.heap.size U X9)) (fun X9 X' => Below X9.heap.size X9 X') (fun X9 X' => Fr X9 X' (fun b => (Value.slice vad l.length vcap).ownBlock = some b)) [
              fun v9 _ => v9 = .pointer (some ⟨Y, 1, none⟩),
              fun v9 _ => v9 = (.slice vad l.length vcap),
              fun v9 _ => v9 = .pointer (some ⟨A, 0, none⟩),
              fun v9 _ => v9 = .pointer (some ⟨A, 0, none⟩),
              fun v9 _ => v9 = .pointer (some ⟨A, 0, none⟩),
              fun v9 _ => v9 = (.slice (some ⟨g, 0, none⟩) D.length lcap),
              fun v9 _ => v9 = .int .i64 (j : Int),
              fun v9 _ => v9 = .pointer (some ⟨g, j * 4, none⟩),
              fun v9 _ => v9 = .pointer (some ⟨g, j * 4 + 1, none⟩),
              fun v9 _ => v9 = .agg #[.int .i64 D[j].2.ts, .string D[j].2.val, .bool D[j].2.dead],
              fun v9 X9 => ∃ Z1, v9 = lv1 Z1 ∧ U.heap.size ≤ Z1 ∧ X9.heap[Z1]? = some (.cells #[.int .i64 D[j].2.ts, .string D[j].2.val, .bool D[j].2.dead] 31 (0, 0)),
              fun v9 X9 => ∃ ad9 cap9, v9 = .slice ad9 (l.length + 1) cap9 ∧ X9.ownsRow V2.heap.size 31 3 v9 (l.length + 1) (veC (l ++ [D[j].2])) ∧ Fr U X9 (fun b => (Value.slice vad l.length vcap).ownBlock = some b),
              fun v9 _ => v9 = .pointer (some ⟨Y, 1, none⟩)]
              (fun _ X8 => ∃ ad9 cap9 X9, X8 = X9.setCell ⟨Y, 1, none⟩ (.slice ad9 (l.length + 1) cap9) ∧ X9.ownsRow V2.heap.size 31 3 (.slice ad9 (l.length + 1) cap9) (l.length + 1) (veC (l ++ [D[j].2])) ∧ Fr U X9 (fun b => (Value.slice vad l.length vcap).ownBlock = some b)) rfl (by kernel_rfl) (by kernel_rfl) (by kernel_rfl) (by kernel_rfl) ?st ?stm ?g0 (by decide) ?os ?la ?en
            case st => exact ⟨fun _ _ _ _ h => h, fun _ _ _ _ h => h, fun _ _ _ _ h => h, fun _ _ _ _ h => h, fun _ _ _ _ h => h, fun _ _ _ _ h => h, fun _ _ _ _ h => h, fun _ _ _ _ h => h, fun _ _ _ _ h => h, fun _ _ _ _ h => h, fun _ _ _ hs ⟨Z1, e, z1, z2⟩ => ⟨Z1, e, z1, (hs.block _ (blk_lt z2)).trans z2⟩, fun _ _ _ hs ⟨x1, x2, e, o1, o3⟩ => ⟨x1, x2, e, own_below o1 hs, o3.below hs⟩, fun _ _ _ _ h => h, trivial⟩
            case stm => exact ⟨fun _ _ _ _ h => h, fun _ _ _ _ h => h, fun _ _ _ _ h => h, fun _ _ _ _ h => h, fun _ _ _ _ h => h, fun _ _ _ _ h => h, fun _ _ _ _ h => h, fun _ _ _ _ h => h, fun _ _ _ _ h => h, fun _ _ _ _ h => h, fun _ _ _ hs ⟨Z1, e, z1, z2⟩ => ⟨Z1, e, z1, (hs.block _ (blk_lt z2) (fun e => by have z9 := (HAU.out.lt _ e).2; omega)).trans z2⟩, fun _ _ _ _ h => h, fun _ _ _ _ h => h, trivial⟩
            case g0 => exact ⟨⟨rfl, rfl, rfl, Nat.le_refl _, fun _ _ _ => rfl⟩, fun _ => ⟨rfl, rfl, rfl, Nat.le_refl _, fun _ _ => rfl⟩⟩
            case os =>
              refine ⟨?_, ?_, ?_, ?_, ?_, ?_, ?_, ?_, ?_, ?_, ?_, ?_, ?_, trivial⟩
              · exact ⟨rfl, fun _ ρ X9 d hg ho hc hf hr => Runs.val _ (op_f50_1 (show ρ (.tmp 6) = .pointer (some ⟨Y, 0, none⟩) from ho 6 rfl)) ⟨hg, Below.refl _ _, rfl⟩, fun e => absurd e (by decide)⟩
              · exact ⟨rfl, fun _ ρ X9 d hg ho hc hf hr => Runs.val _ (op_load48 (show ρ (.tmp 43) = .pointer (some ⟨Y, 1, none⟩) from hr 0 43 rfl rfl) (cell_fr hg.1 nY y1)) ⟨hg, Below.refl _ _, rfl⟩, fun e => absurd e (by decide)⟩
              · exact ⟨rfl, fun _ ρ X9 d hg ho hc hf hr => Runs.val _ (op_move (show ρ (.tmp 0) = .pointer (some ⟨A, 0, none⟩) from ho 0 rfl)) ⟨hg, Below.refl _ _, rfl⟩, fun e => absurd e (by decide)⟩
              · exact ⟨rfl, fun _ ρ X9 d hg ho hc hf hr => Runs.val _ (op_nil (show ρ (.tmp 45) = .pointer (some ⟨A, 0, none⟩) from hr 2 45 rfl rfl)) ⟨hg, Below.refl _ _, rfl⟩, fun e => absurd e (by decide)⟩
              · exact ⟨rfl, fun _ ρ X9 d hg ho hc hf hr => Runs.val _ (op_f29_0 (show ρ (.tmp 46) = .pointer (some ⟨A, 0, none⟩) from hr 3 46 rfl rfl)) ⟨hg, Below.refl _ _, rfl⟩, fun e => absurd e (by decide)⟩
              · exact ⟨rfl, fun _ ρ X9 d hg ho hc hf hr => Runs.val _ (op_load27 (show ρ (.tmp 47) = .pointer (some ⟨A, 0, none⟩) from hr 4 47 rfl rfl) (cell_fr hg.1 nA a0)) ⟨hg, Below.refl _ _, rfl⟩, fun e => absurd e (by decide)⟩
              · exact ⟨rfl, fun _ ρ X9 d hg ho hc hf hr => Runs.val _ (op_move (show ρ (.tmp 7) = .int .i64 (j : Int) from ho 7 rfl)) ⟨hg, Below.refl _ _, rfl⟩, fun e => absurd e (by decide)⟩
              · exact ⟨rfl, fun _ ρ X9 d hg ho hc hf hr => Runs.val _ (op_i27 (show ρ (.tmp 48) = (.slice (some ⟨g, 0, none⟩) D.length lcap) from hr 5 48 rfl rfl) (show ρ (.tmp 49) = .int .i64 (j : Int) from hr 6 49 rfl rfl) hltj) ⟨hg, Below.refl _ _, rfl⟩, fun e => absurd e (by decide)⟩
              · exact ⟨rfl, fun _ ρ X9 d hg ho hc hf hr => Runs.val _ (op_f70_1 (show ρ (.tmp 50) = .pointer (some ⟨g, j * 4, none⟩) from hr 7 50 rfl rfl)) ⟨hg, Below.refl _ _, rfl⟩, fun e => absurd e (by decide)⟩
              · exact ⟨rfl, fun _ ρ X9 d hg ho hc hf hr => Runs.val _ (op_load31 (show ρ (.tmp 51) = .pointer (some ⟨g, j * 4 + 1, none⟩) from hr 8 51 rfl rfl) (cell_fr hg.1 nG d1) (cell_fr hg.1 nG d2) (cell_fr hg.1 nG d3)) ⟨hg, Below.refl _ _, rfl⟩, fun e => absurd e (by decide)⟩
              · refine ⟨rfl, fun _ ρ X9 d hg ho hc hf hr => ?_, fun e => absurd e (by decide)⟩
                have hb7 : Below X9.heap.size X9 (X9.alloc (.cells #[.int .i64 D[j].2.ts, .string D[j].2.val, .bool D[j].2.dead] 31)) := (Below.refl _ X9).alloc (Nat.le_refl _) _
                exact Runs.val _ (op_s48 (show ρ (.tmp 52) = .agg #[.int .i64 D[j].2.ts, .string D[j].2.val, .bool D[j].2.dead] from hr 9 52 rfl rfl)) ⟨⟨hg.1.below hb7, fun z => (hg.2 z).trans (hb7.mono (hg.2 z).size)⟩, hb7, X9.heap.size, rfl, hg.1.size, heap_alloc_new X9 _⟩
              · refine ⟨rfl, fun e => absurd rfl e, fun _ ρ X9 hg ho hc hf hr => ?_⟩
                obtain ⟨Z1, e, z1, z2⟩ : ∃ Z1, (ρ (.tmp 53)) = lv1 Z1 ∧ U.heap.size ≤ Z1 ∧ X9.heap[Z1]? = some (.cells #[.int .i64 D[j].2.ts, .string D[j].2.val, .bool D[j].2.dead] 31 (0, 0)) := hr 10 53 rfl rfl
                have hbX := hg.2 rfl
                obtain ⟨ad9, cap9, w9, hrun, o9, g9, t9⟩ := run_ve (m := 1) (c := 1) (news := veC [D[j].2]) (own_below HAU.out hbX) (Nat.le_trans HFU.out.size hbX.size) (.inr ⟨⟨Z1, 0, none⟩, rfl, rfl, fun j u hu => by
                  rw [add_at, Nat.zero_add, cell_blk z2]
                  simpa [veC] using hu⟩) (veC_one _) (by omega)
                have f9 : Fr X9 w9 (fun b => (Value.slice vad l.length vcap).ownBlock = some b) := Fr.grown (Fr.refl X9 _) g9 (fun j hj => .inl hj)
                exact Runs.val _ (op_append48 (show ρ (.tmp 44) = (.slice vad l.length vcap) from hr 1 44 rfl rfl) e hrun) ⟨⟨hg.1.trans f9, fun z => by cases z⟩, f9, ad9, cap9, rfl, by rw [veC_append]; exact o9, hg.1.trans f9⟩
              · exact ⟨rfl, fun _ ρ X9 d hg ho hc hf hr => Runs.val _ (op_f50_1 (show ρ (.tmp 6) = .pointer (some ⟨Y, 0, none⟩) from ho 6 rfl)) ⟨hg, Below.refl _ _, rfl⟩, fun e => absurd e (by decide)⟩
            case la =>
              refine ⟨rfl, fun ρ X9 hg ho hc hf hr => ?_⟩
              obtain ⟨ad9, cap9, e, o1, o3⟩ : ∃ ad9 cap9, (ρ (.tmp 54)) = .slice ad9 (l.length + 1) cap9 ∧ X9.ownsRow V2.heap.size 31 3 (ρ (.tmp 54)) (l.length + 1) (veC (l ++ [D[j].2])) ∧ Fr U X9 (fun b => (Value.slice vad l.length vcap).ownBlock = some b) := hr 11 54 (by decide) rfl
              rw [e] at o1
              have hY9 := (o3.block Y (blk_lt HJU.out) nY).trans HJU.out
              exact Runs.skips (op_store48 (show ρ (.tmp 55) = .pointer (some ⟨Y, 1, none⟩) from hr 12 55 (by decide) rfl) e (cell_blk hY9 1) (frozen_blk hY9 1)) ⟨ad9, cap9, X9, rfl, o1, o3⟩
            case en =>
              intro a X9 Xb v9 hF hs hd ho hv9 hr
              obtain ⟨x, hx, hxt⟩ := act_put hs hd ho
              change a = putAll _ x [43, 44, 45, 46, 47, 48, 49, 50, 51, 52, 53, 54, 55] at hx
              simp only [putAll, Act.put, List.setIfInBounds_toArray, List.set_cons_zero, List.set_cons_succ] at hx
              obtain ⟨ad9, cap9, X8, rfl, o1, o3⟩ := hF
              have jY8 : X8.heap[Y]? = some (.cells #[.string k, .slice vad l.length vcap] 50 (0, 0)) := (o3.block Y (blk_lt HJU.out) nY).trans HJU.out
              have HJ8 : Hid ((X8.setCell ⟨Y, 1, none⟩ (.slice ad9 (l.length + 1) cap9)).heap[Y]? = some (.cells #[.string k, .slice ad9 (l.length + 1) cap9] 50 (0, 0))) := set_blk jY8 _
              have HA8 : Hid ((X8.setCell ⟨Y, 1, none⟩ (.slice ad9 (l.length + 1) cap9)).ownsRow V2.heap.size 31 3 (.slice ad9 (l.length + 1) cap9) (l ++ [D[j].2]).length (veC (l ++ [D[j].2]))) := by
                rw [List.length_append]
                refine own_like o1 (fun b e => set_other _ (fun q => ?_))
                have q : b = Y := q
                subst q
                obtain ⟨cs, t⟩ := own_tag o1 b e
                exact tag_ne t jY8 (by decide) rfl
              have HF8 : Hid (Fr V2 (X8.setCell ⟨Y, 1, none⟩ (.slice ad9 (l.length + 1) cap9)) (fun b => b = Y)) := by
                refine Fr.set (HFU.out.step o3 (fun b e => .inr (own_ge0 HAU.out b e))) (.inl rfl) _
              clear hs hd ho hr hv9 hxt o1 o3 jY8
              subst hx
              generalize x 43 = z43, x 44 = z44, x 45 = z45, x 46 = z46, x 47 = z47, x 48 = z48, x 49 = z49, x 50 = z50, x 51 = z51, x 52 = z52, x 53 = z53, x 54 = z54, x 55 = z55
              go_wp2
              go_roundw
              case rel => exact ⟨j + 1, l ++ [D[j].2], _, hltj, by go_num, HNL.out.symm, HJ8.out, HA8.out, HF8.out⟩
              case measure => simp [intOf]; omega
          · have es := same_eq D[j].1 k
            rw [decide_eq_false heq] at es
            have HNL : Hid (vsOf (D.take (j + 1)) k = l) := by
              show _ = _
              rw [HVT.out, if_neg heq, ← HL.out, List.append_nil]
            clear hl jY hA hF hbX hbw hv heq HVT
            go_wp2
            go_quiet (fail)
            have bq := below_draw (Below.refl X.heap.size X) nq
            obtain ⟨U, hU⟩ : ∃ U, X.drewN nq = U := ⟨_, rfl⟩
            rw [hU] at bq ⊢
            have jYU := (bq.block Y (blk_lt HJX.out)).trans HJX.out
            have HJU := Lib.hid jYU
            have HAU := Lib.hid (own_below HAX.out bq)
            have HFU := Lib.hid (HFX.out.below bq)
            clear hU bq jYU a0 c0 d0 d1 d2 d3
            go_wp2
            go_roundw
            case rel => exact ⟨j + 1, l, _, hltj, by go_num, HNL.out.symm, HJU.out, HAU.out, HFU.out⟩
            case measure => simp [intOf]; omega
        · have j1 : ¬ ((j : Int) < D.length) := by omega
          have hle : l = vsOf D k := by rw [hl, List.take_of_length_le (by omega)]
          have y0 : X.cell? ⟨Y, 0, none⟩ = some (.string k) := cell_blk jY 0
          have y1 : X.cell? ⟨Y, 1, none⟩ = some (.slice vad l.length vcap) := cell_blk jY 1
          obtain ⟨X2, hX2⟩ : ∃ X2, X2 = X.alloc (.cells #[.string k, .slice vad l.length vcap] 50) := ⟨_, rfl⟩
          obtain ⟨Z, hZ⟩ : ∃ Z, X.heap.size = Z := ⟨_, rfl⟩
          have b3 : Below X.heap.size X X2 := by rw [hX2]; exact (Below.refl _ X).alloc (Nat.le_refl _) _
          have jZ : X2.heap[Z]? = some (.cells #[.string k, .slice vad l.length vcap] 50 (0, 0)) := by rw [hX2, ← hZ]; exact heap_alloc_new X _
          have hbX2 := hbX.trans (b3.mono hbX.size)
          have hbw2 := hbw.trans (b3.mono hbw.size)
          obtain ⟨ad9, cap9, w9, hrun, hR9, hf9⟩ := (HRM.out.on hbX2).snoc (r := ⟨k, l⟩) hbw2.size (own_mono (own_below hA b3) (by have q1 := HB2.out.size; have q2 := HB.out.size; omega)) jZ (by have := HPL.out; omega)
          have hb9 : Below w.heap.size w w9 := fr_below (T := fun b => (Value.slice oad P.length ocap).ownBlock = some b) (fun b e => own_ge0 HRM.out.own b e) hbw2 hf9
          have hO9 : w9.ownsRow w.heap.size 9 1 (.slice (some ⟨gk, 0, none⟩) K.length kcap) K.length (stC K) := by
            refine row_keep (own_below HO.out hbX2) hf9 (fun b e q => ?_)
            obtain ⟨c1, t1⟩ := own_tag (own_below HO.out hbX2) b e
            obtain ⟨c2, t2⟩ := own_tag (HRM.out.on hbX2).own b q
            exact tag_ne t1 t2 (by decide) rfl
          have hnx : (P ++ [((⟨k, l⟩ : Rw), Value.slice vad l.length vcap)]).map Prod.fst = (rowsOf D).take (i + 1) := by
            rw [HRI.out, List.map_append, HPR.out, hle]
            rfl
          have HNX := Lib.hid hnx
          have HR9 := Lib.hid hR9
          have HO9 := Lib.hid hO9
          have HB9 := Lib.hid hb9
          have HX2 := Lib.hid hX2
          have HZZ := Lib.hid hZ
          rw [← hZ] at hrun
          rw [hX2] at hrun
          clear hl jY hA hF hbX hbw hv hle hX2 hZ b3 jZ hbX2 hbw2 hR9 hf9 hb9 hO9 hnx c0 HL HX2 HZZ
          go_wp2_with (at_builtin; refine wpl_run2 _ _ rfl (by simp [Act.eval]) (by simp [Act.eval]) hrun ?_)
          go_roundw
          case rel => exact ⟨i + 1, _, hlt, by go_num, HNX.out, HR9.out, HO9.out, HB9.out⟩
          case measure => simp [intOf]; omega
    · have k1 : ¬ ((i : Int) < K.length) := by omega
      have hfin : P.map Prod.fst = rowsOf D := by rw [hPR, List.take_of_length_le (by omega)]
      have HFN := Lib.hid hfin
      clear hfin hPR hRm hO hb hRl
      go_wp2
      refine bodyPost_ret (v := .slice oad P.length ocap) (by simp [results, Try.results19, go_sem]) rfl ?_
      exact ⟨oad, ocap, P, rfl, HFN.out, HRM.out, HB.out⟩
end
end Go.Proofs.Ythjnfkgheihgkaa
