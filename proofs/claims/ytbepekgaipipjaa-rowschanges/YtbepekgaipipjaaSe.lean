/- The law RowsChanges. -/
import Derived.Test.YtbepekgaipipjaaSd
import Derived.Test.YtbepekgaipipjaaSc
import Derived.Test.YtbepekgaipipjaaRs
namespace Go.Proofs.Ytbepekgaipipjaa
open Go.RowKit
theorem rchanges_any {w : World} {t : Tb} {old new : List Ce} {cv iv kv ov nv' : Value} (h3 : Three w t cv iv kv) (hO : Lr ceE 4 w old ov) (hN : Lr ceE 4 w new nv') (hI : ChgIn t old new) : Calls Try.prog 29 #[tbV t cv iv kv, ov, nv'] w fun e w' => ∃ v, e = .returned v ∧ Lr wrE 3 w' (changesP t old new) v ∧ Below w.heap.size w w' := by
  cases hb : chgB t old new with
  | false => exact rchanges_none h3 hO hN hI.n hI.ln hb
  | true =>
    have h0 := hb
    unfold chgB at h0
    simp only [Bool.and_eq_true, Bool.not_eq_true', List.isEmpty_eq_false_iff, Bool.and_eq_false_iff] at h0
    obtain ⟨h1, h2, h4⟩ := h0
    have hcp : 0 < t.cols.length := List.length_pos_iff.2 h2
    rcases Nat.eq_zero_or_pos old.length with ho | ho
    · rcases Nat.eq_zero_or_pos new.length with hn | hn
      · rcases h4 with h4 | h4
        · exact absurd (List.eq_nil_of_length_eq_zero ho) h4
        · exact absurd (List.eq_nil_of_length_eq_zero hn) h4
      · exact rchanges_ft h3 hO hN hI.o hI.n hI.id hI.ix hI.ln hI.li h1 hcp ho hn
    · rcases Nat.eq_zero_or_pos new.length with hn | hn
      · exact rchanges_tf h3 hO hN hI.o hI.n hI.id hI.ix hI.ln hI.li h1 hcp ho hn
      · exact rchanges_tt h3 hO hN hI.o hI.n hI.id hI.ix hI.ln hI.li h1 hcp ho hn
set_option maxHeartbeats 8000000 in
set_option maxRecDepth 100000 in
theorem chg_law {w : World} {t : Tb} {old new : List Ce} {cv iv kv ov nv' : Value} (id : Int) (h3 : Three w t cv iv kv) (hO : Lr ceE 4 w old ov) (hN : Lr ceE 4 w new nv') (hfO : ∀ c ∈ old, FitC c) (hfN : ∀ c ∈ new, FitC c) (hid : Fit t.id) (hix : ∀ x ∈ t.ixs, Fit x.id) : Calls Try.prog 5 #[tbV t cv iv kv, ov, nv', .int .i64 id] w fun e w' => e = .returned (.bool true) ∧ Below w.heap.size w w' := by
  obtain ⟨ca, cc, hcv, hcx⟩ := h3.c.len0
  obtain ⟨ia, ic, hiv, hixl⟩ := h3.i.len0
  obtain ⟨ka, kc, hkv, _⟩ := h3.k.len0
  subst hcv hiv hkv
  obtain ⟨oa, oc, rfl, hox⟩ := hO.len0
  obtain ⟨na, nc, rfl, hnx⟩ := hN.len0
  obtain ⟨W, hW⟩ : ∃ W, W = w.alloc (.cells #[.int .i64 t.id, .string t.nm, .slice ca t.cols.length cc, .slice ia t.ixs.length ic, .slice ka t.fks.length kc] 55) := ⟨_, rfl⟩
  obtain ⟨Y0, hY0⟩ : ∃ Y, w.heap.size = Y := ⟨_, rfl⟩
  have hbW : Below w.heap.size w W := by rw [hW]; exact bnew _ _
  have j0 : W.heap[Y0]? = some (.cells #[.int .i64 t.id, .string t.nm, .slice ca t.cols.length cc, .slice ia t.ixs.length ic, .slice ka t.fks.length kc] 55 (0, 0)) := by rw [hW, ← hY0]; exact heap_alloc_new w _
  have haw := awake_any W
  have HW := Lib.hid hW
  have HY0 := Lib.hid hY0
  have HB := Lib.hid hbW
  have HJ := Lib.hid j0
  have HO := Lib.hid hO
  have HN := Lib.hid hN
  have H3 := Lib.hid h3
  have HI : Hid (t.ixs.length ≤ 100 → new.length ≤ 100 → ChgIn t old new) := Lib.hid fun a b => ⟨hfO, hfN, hid, hix, by omega, by omega⟩
  clear hW hY0 hbW j0 hO hN h3 hfO hfN hid hix
  go_enter Try.func5, Try.ntmps5
  go_upto_region 1 with fail
  rw [← HW.out, HY0.out]
  go_wp2_with (go_at_call 10; refine haw.mono ?_; rintro e w1 ⟨rfl, b1⟩; refine Hid.out ?_)
  refine Lib.hid ?_
  have HB1 := Lib.hid (HB.out.trans (b1.mono HB.out.size))
  have HJ1 := Lib.hid ((b1.block Y0 (blk_lt HJ.out)).trans HJ.out)
  have y2 : w1.cell? ⟨Y0, 2, none⟩ = some (.slice ca t.cols.length cc) := cell_blk HJ1.out 2
  have y3 : w1.cell? ⟨Y0, 3, none⟩ = some (.slice ia t.ixs.length ic) := cell_blk HJ1.out 3
  clear haw b1
  by_cases g1 : 100 < t.ixs.length
  · have haw := awake_any w1
    go_wp2_with (go_at_call 10; refine haw.mono ?_; rintro e w2 ⟨rfl, b2⟩; refine Hid.out ?_)
    refine Lib.hid ?_
    have HB2 := Lib.hid (bgo HB1.out b2)
    clear haw b2 y2 y3
    go_wp2
    go_ret
    exact ⟨rfl, HB2.out⟩
  · have g1' : ¬ 100 < t.ixs.length := g1
    by_cases g2 : 100 < t.cols.length
    · have haw := awake_any w1
      go_wp2_with (go_at_call 10; refine haw.mono ?_; rintro e w2 ⟨rfl, b2⟩; refine Hid.out ?_)
      refine Lib.hid ?_
      have HB2 := Lib.hid (bgo HB1.out b2)
      clear haw b2 y2 y3
      go_wp2
      go_ret
      exact ⟨rfl, HB2.out⟩
    · have g2' : ¬ 100 < t.cols.length := g2
      by_cases g3 : 100 < old.length
      · have haw := awake_any w1
        go_wp2_with (go_at_call 10; refine haw.mono ?_; rintro e w2 ⟨rfl, b2⟩; refine Hid.out ?_)
        refine Lib.hid ?_
        have HB2 := Lib.hid (bgo HB1.out b2)
        clear haw b2 y2 y3
        go_wp2
        go_ret
        exact ⟨rfl, HB2.out⟩
      · have g3' : ¬ 100 < old.length := g3
        by_cases g4 : 100 < new.length
        · have haw := awake_any w1
          go_wp2_with (go_at_call 10; refine haw.mono ?_; rintro e w2 ⟨rfl, b2⟩; refine Hid.out ?_)
          refine Lib.hid ?_
          have HB2 := Lib.hid (bgo HB1.out b2)
          clear haw b2 y2 y3
          go_wp2
          go_ret
          exact ⟨rfl, HB2.out⟩
        · have g4' : ¬ 100 < new.length := g4
          have HCI := Lib.hid (HI.out (by omega) (by omega))
          go_upto_region 3 with fail
          clear y2 y3
          refine wp_region_fb (fun _ X9 => Below w1.heap.size w1 X9) (fun X9 X8 => Below X9.heap.size X9 X8) [
            fun v9 _ => v9 = .agg #[.int .i64 t.id, .string t.nm, .slice ca t.cols.length cc, .slice ia t.ixs.length ic, .slice ka t.fks.length kc],
            fun v9 _ => v9 = .slice oa old.length oc,
            fun v9 _ => v9 = .slice na new.length nc,
            fun v9 X9 => Lr wrE 3 X9 (changesP t old new) v9,
            fun v9 _ => v9 = .agg #[.int .i64 t.id, .string t.nm, .slice ca t.cols.length cc, .slice ia t.ixs.length ic, .slice ka t.fks.length kc],
            fun v9 _ => v9 = .slice oa old.length oc,
            fun v9 _ => v9 = .slice na new.length nc,
            fun v9 X9 => Lr wrE 3 X9 (changesP t old new) v9,
            fun v9 _ => v9 = .bool true,
            fun v9 _ => v9 = .bool true,
            fun v9 _ => v9 = .slice oa old.length oc,
            fun v9 _ => v9 = .int .i64 id,
            fun v9 _ => v9 = vlV (ofP old id),
            fun v9 _ => v9 = .slice oa old.length oc,
            fun v9 _ => v9 = .int .i64 id,
            fun v9 _ => v9 = vlV (ofP old id),
            fun v9 _ => v9 = .bool true,
            fun v9 _ => v9 = .bool true,
            fun v9 _ => v9 = .bool true]
            (by kernel_rfl) (by kernel_rfl) (by kernel_rfl) ?st ?g0 ?os ?en
          case st => exact ⟨fun _ _ _ _ h => h, fun _ _ _ _ h => h, fun _ _ _ _ h => h, (fun _ _ _ hb h => h.on wrE_held hb), fun _ _ _ _ h => h, fun _ _ _ _ h => h, fun _ _ _ _ h => h, (fun _ _ _ hb h => h.on wrE_held hb), fun _ _ _ _ h => h, fun _ _ _ _ h => h, fun _ _ _ _ h => h, fun _ _ _ _ h => h, fun _ _ _ _ h => h, fun _ _ _ _ h => h, fun _ _ _ _ h => h, fun _ _ _ _ h => h, fun _ _ _ _ h => h, fun _ _ _ _ h => h, fun _ _ _ _ h => h, trivial⟩
          case g0 => exact ⟨rfl, rfl, rfl, Nat.le_refl _, fun _ _ => rfl⟩
          case os =>
            refine ⟨?_, ?_, ?_, ?_, ?_, ?_, ?_, ?_, ?_, ?_, ?_, ?_, ?_, ?_, ?_, ?_, ?_, ?_, ?_, trivial⟩
            · exact fun ρ X9 fl hg hn hl hp ho hc hf hr => .inl ⟨rfl, Runs.val _ (op_loadAt (show ρ (.tmp 4) = .pointer (some ⟨Y0, 0, none⟩) from ho 4 rfl) (load_row ((hg.block Y0 (blk_lt HJ1.out)).trans HJ1.out) Try.underlying55 rfl size55)) ⟨hg, Below.refl _ _, rfl⟩⟩
            · exact fun ρ X9 fl hg hn hl hp ho hc hf hr => .inl ⟨rfl, Runs.val _ (op_move (show ρ (.tmp 1) = .slice oa old.length oc from ho 1 rfl)) ⟨hg, Below.refl _ _, rfl⟩⟩
            · exact fun ρ X9 fl hg hn hl hp ho hc hf hr => .inl ⟨rfl, Runs.val _ (op_move (show ρ (.tmp 2) = .slice na new.length nc from ho 2 rfl)) ⟨hg, Below.refl _ _, rfl⟩⟩
            · intro ρ X9 fl hg hn hl hp ho hc hf hr
              refine .inl ⟨rfl, ?_⟩
              have hbb := HB1.out.trans (hg.mono HB1.out.size)
              refine Runs.goes 28 #[.agg #[.int .i64 t.id, .string t.nm, .slice ca t.cols.length cc, .slice ia t.ixs.length ic, .slice ka t.fks.length kc], .slice oa old.length oc, .slice na new.length nc] (op_call3 hf (by go_simp) (show ρ (.tmp 34) = .agg #[.int .i64 t.id, .string t.nm, .slice ca t.cols.length cc, .slice ia t.ixs.length ic, .slice ka t.fks.length kc] from hr 0 34 rfl rfl) (show ρ (.tmp 35) = .slice oa old.length oc from hr 1 35 rfl rfl) (show ρ (.tmp 36) = .slice na new.length nc from hr 2 36 rfl rfl)) ((changes_any (t := t) (H3.out.on hbb) (HO.out.on ceE_held hbb) (HN.out.on ceE_held hbb) HCI.out).mono ?_)
              rintro e7 w7 ⟨v7, rfl, hl7, b7⟩
              exact ⟨_, rfl, bgo hg b7, b7, hl7⟩
            · exact fun ρ X9 fl hg hn hl hp ho hc hf hr => .inl ⟨rfl, Runs.val _ (op_loadAt (show ρ (.tmp 4) = .pointer (some ⟨Y0, 0, none⟩) from ho 4 rfl) (load_row ((hg.block Y0 (blk_lt HJ1.out)).trans HJ1.out) Try.underlying55 rfl size55)) ⟨hg, Below.refl _ _, rfl⟩⟩
            · exact fun ρ X9 fl hg hn hl hp ho hc hf hr => .inl ⟨rfl, Runs.val _ (op_move (show ρ (.tmp 1) = .slice oa old.length oc from ho 1 rfl)) ⟨hg, Below.refl _ _, rfl⟩⟩
            · exact fun ρ X9 fl hg hn hl hp ho hc hf hr => .inl ⟨rfl, Runs.val _ (op_move (show ρ (.tmp 2) = .slice na new.length nc from ho 2 rfl)) ⟨hg, Below.refl _ _, rfl⟩⟩
            · intro ρ X9 fl hg hn hl hp ho hc hf hr
              refine .inl ⟨rfl, ?_⟩
              have hbb := HB1.out.trans (hg.mono HB1.out.size)
              refine Runs.goes 29 #[.agg #[.int .i64 t.id, .string t.nm, .slice ca t.cols.length cc, .slice ia t.ixs.length ic, .slice ka t.fks.length kc], .slice oa old.length oc, .slice na new.length nc] (op_call3 hf (by go_simp) (show ρ (.tmp 38) = .agg #[.int .i64 t.id, .string t.nm, .slice ca t.cols.length cc, .slice ia t.ixs.length ic, .slice ka t.fks.length kc] from hr 4 38 rfl rfl) (show ρ (.tmp 39) = .slice oa old.length oc from hr 5 39 rfl rfl) (show ρ (.tmp 40) = .slice na new.length nc from hr 6 40 rfl rfl)) ((rchanges_any (t := t) (H3.out.on hbb) (HO.out.on ceE_held hbb) (HN.out.on ceE_held hbb) HCI.out).mono ?_)
              rintro e7 w7 ⟨v7, rfl, hl7, b7⟩
              exact ⟨_, rfl, bgo hg b7, b7, hl7⟩
            · intro ρ X9 fl hg hn hl hp ho hc hf hr
              refine .inl ⟨rfl, ?_⟩
              refine Runs.goes 27 #[ρ (.tmp 37), ρ (.tmp 41)] (op_call2 hf (by go_simp) rfl rfl) ((same_writes (hr 3 37 rfl rfl) (hr 7 41 rfl rfl)).mono ?_)
              rintro e7 w7 ⟨rfl, b7⟩
              exact ⟨_, rfl, bgo hg b7, b7, rfl⟩
            · exact fun ρ X9 fl hg hn hl hp ho hc hf hr => .inl ⟨rfl, Runs.val _ (op_move (show ρ (.tmp 42) = .bool true from hr 8 42 rfl rfl)) ⟨hg, Below.refl _ _, rfl⟩⟩
            · exact fun ρ X9 fl hg hn hl hp ho hc hf hr => .inr (.inl ⟨9, 43, true, fun _ => rfl, rfl, hr 9 43 rfl rfl, Runs.val _ (op_move (show ρ (.tmp 1) = .slice oa old.length oc from ho 1 rfl)) ⟨hg, Below.refl _ _, rfl⟩⟩)
            · exact fun ρ X9 fl hg hn hl hp ho hc hf hr => .inr (.inl ⟨9, 43, true, fun _ => rfl, rfl, hr 9 43 rfl rfl, Runs.val _ (op_move (show ρ (.tmp 3) = .int .i64 id from ho 3 rfl)) ⟨hg, Below.refl _ _, rfl⟩⟩)
            · intro ρ X9 fl hg hn hl hp ho hc hf hr
              refine .inr (.inl ⟨9, 43, true, fun _ => rfl, rfl, hr 9 43 rfl rfl, ?_⟩)
              refine Runs.goes 30 #[.slice oa old.length oc, .int .i64 id] (op_call2 hf (by go_simp) (show ρ (.tmp 44) = .slice oa old.length oc from hr 10 44 rfl rfl) (show ρ (.tmp 45) = .int .i64 id from hr 11 45 rfl rfl)) ((of_any id X9 (HO.out.on ceE_held (HB1.out.trans (hg.mono HB1.out.size)))).mono ?_)
              rintro e7 w7 ⟨rfl, b7⟩
              exact ⟨_, rfl, bgo hg b7, b7, rfl⟩
            · exact fun ρ X9 fl hg hn hl hp ho hc hf hr => .inr (.inl ⟨9, 43, true, fun _ => rfl, rfl, hr 9 43 rfl rfl, Runs.val _ (op_move (show ρ (.tmp 1) = .slice oa old.length oc from ho 1 rfl)) ⟨hg, Below.refl _ _, rfl⟩⟩)
            · exact fun ρ X9 fl hg hn hl hp ho hc hf hr => .inr (.inl ⟨9, 43, true, fun _ => rfl, rfl, hr 9 43 rfl rfl, Runs.val _ (op_move (show ρ (.tmp 3) = .int .i64 id from ho 3 rfl)) ⟨hg, Below.refl _ _, rfl⟩⟩)
            · intro ρ X9 fl hg hn hl hp ho hc hf hr
              refine .inr (.inl ⟨9, 43, true, fun _ => rfl, rfl, hr 9 43 rfl rfl, ?_⟩)
              refine Runs.goes 31 #[.slice oa old.length oc, .int .i64 id] (op_call2 hf (by go_simp) (show ρ (.tmp 47) = .slice oa old.length oc from hr 13 47 rfl rfl) (show ρ (.tmp 48) = .int .i64 id from hr 14 48 rfl rfl)) ((refOf_any id X9 (HO.out.on ceE_held (HB1.out.trans (hg.mono HB1.out.size)))).mono ?_)
              rintro e7 w7 ⟨rfl, b7⟩
              exact ⟨_, rfl, bgo hg b7, b7, rfl⟩
            · exact fun ρ X9 fl hg hn hl hp ho hc hf hr => .inr (.inl ⟨9, 43, true, fun _ => rfl, rfl, hr 9 43 rfl rfl, Runs.val _ (op_eql23 (show ρ (.tmp 46) = vlV (ofP old id) from hr 12 46 rfl rfl) (show ρ (.tmp 49) = vlV (ofP old id) from hr 15 49 rfl rfl) (r := true) (by simp)) ⟨hg, Below.refl _ _, rfl⟩⟩)
            · exact fun ρ X9 fl hg hn hl hp ho hc hf hr => .inl ⟨rfl, Runs.val _ (op_pick (show ρ (.tmp 43) = .bool true from hr 9 43 rfl rfl) (show ρ (.tmp 50) = .bool true from hr 16 50 rfl rfl)) ⟨hg, Below.refl _ _, rfl⟩⟩
            · exact fun ρ X9 fl hg hn hl hp ho hc hf hr => .inl ⟨rfl, Runs.val _ (op_assign (show ρ (.tmp 51) = .bool true from hr 17 51 rfl rfl)) ⟨hg, Below.refl _ _, rfl⟩⟩
          case en =>
            intro a9 w6 fl hfl b6 hs9 hd9 ho9 hr9
            obtain ⟨x9, hx, hxt⟩ := act_put hs9 hd9 ho9
            have x8 : x9 8 = .bool true := (hxt 8).symm.trans (hr9 18 8 rfl)
            change a9 = putAll _ x9 [34, 35, 36, 37, 38, 39, 40, 41, 42, 43, 44, 45, 46, 47, 48, 49, 50, 51, 8] at hx
            simp only [putAll, Act.put, List.setIfInBounds_toArray, List.set_cons_zero, List.set_cons_succ, x8] at hx
            subst hx
            clear hs9 hd9 ho9 hr9 hfl x8
            generalize x9 34 = z34, x9 35 = z35, x9 36 = z36, x9 37 = z37, x9 38 = z38, x9 39 = z39, x9 40 = z40, x9 41 = z41, x9 42 = z42, x9 43 = z43, x9 44 = z44, x9 45 = z45, x9 46 = z46, x9 47 = z47, x9 48 = z48, x9 49 = z49, x9 50 = z50, x9 51 = z51
            have HB6 := Lib.hid (bgo HB1.out b6)
            clear b6
            go_wp2
            go_ret
            exact ⟨rfl, HB6.out⟩
end Go.Proofs.Ytbepekgaipipjaa
