import Derived.Test.YtkfnphhoebknnaaQBk
namespace Go.Proofs.Ytkfnphhoebknnaa
open Go.RowKit
section
variable {w : World}
theorem copyC {X : World} {l : List Col} {ad : Option Addr} {cap : Nat} (hl : Lr colE 7 X l (.slice ad l.length cap)) (hz : l.length ≤ 1000000) : ∃ ad' cap' X', (Builtin.append_ #[42, 42] 42 #[.slice (some ⟨X.heap.size, 0, none⟩) 0 0, .slice ad l.length cap]).run Try.prog (X.alloc (.cells #[] 65)) = .ok (.slice ad' l.length cap') X' ∧ X'.ownsRow X.heap.size 65 7 (.slice ad' l.length cap') l.length (l.flatMap colL) ∧ Below X.heap.size X X' := by
  have hal := bnew X (.cells #[] 65)
  have hj := heap_alloc_new X (.cells #[] 65)
  have ho : (X.alloc (.cells #[] 65)).ownsRow X.heap.size 65 7 (.slice (some ⟨X.heap.size, 0, none⟩) 0 0) 0 [] := ⟨rfl, .inr ⟨X.heap.size, 0, #[], rfl, Nat.le_refl _, hj, Nat.le_refl _, Nat.zero_le _, rfl, rfl⟩⟩
  have hs := Lr.src colL_len (L := l) (ad := ad) (cap := cap) (w := X.alloc (.cells #[] 65)) (hl.on colE_held hal)
  obtain ⟨ad', cap', X', h1, h2, h3, _⟩ := run_col (m := l.length) (c := cap) (news := l.flatMap colL) ho hal.size hs (oneC l) (by omega)
  rw [Nat.zero_add] at h1 h2
  exact ⟨ad', cap', X', h1, by simpa using h2, hal.grown h3 hal.size (fun k hk => by cases hk; exact Nat.le_refl _)⟩
theorem copyI {X : World} {l : List Ix} {ad : Option Addr} {cap : Nat} (hl : Lr ixE 5 X l (.slice ad l.length cap)) (hz : l.length ≤ 1000000) : ∃ ad' cap' X', (Builtin.append_ #[51, 51] 51 #[.slice (some ⟨X.heap.size, 0, none⟩) 0 0, .slice ad l.length cap]).run Try.prog (X.alloc (.cells #[] 70)) = .ok (.slice ad' l.length cap') X' ∧ X'.ownsRow X.heap.size 70 5 (.slice ad' l.length cap') l.length (l.flatMap ixL) ∧ Below X.heap.size X X' := by
  have hal := bnew X (.cells #[] 70)
  have hj := heap_alloc_new X (.cells #[] 70)
  have ho : (X.alloc (.cells #[] 70)).ownsRow X.heap.size 70 5 (.slice (some ⟨X.heap.size, 0, none⟩) 0 0) 0 [] := ⟨rfl, .inr ⟨X.heap.size, 0, #[], rfl, Nat.le_refl _, hj, Nat.le_refl _, Nat.zero_le _, rfl, rfl⟩⟩
  have hs := Lr.src ixL_len (L := l) (ad := ad) (cap := cap) (w := X.alloc (.cells #[] 70)) (hl.on ixE_held hal)
  obtain ⟨ad', cap', X', h1, h2, h3, _⟩ := run_ix (m := l.length) (c := cap) (news := l.flatMap ixL) ho hal.size hs (oneI l) (by omega)
  rw [Nat.zero_add] at h1 h2
  exact ⟨ad', cap', X', h1, by simpa using h2, hal.grown h3 hal.size (fun k hk => by cases hk; exact Nat.le_refl _)⟩
theorem copyK {X : World} {l : List Fk} {ad : Option Addr} {cap : Nat} (hl : Lr fkE 5 X l (.slice ad l.length cap)) (hz : l.length ≤ 1000000) : ∃ ad' cap' X', (Builtin.append_ #[52, 52] 52 #[.slice (some ⟨X.heap.size, 0, none⟩) 0 0, .slice ad l.length cap]).run Try.prog (X.alloc (.cells #[] 73)) = .ok (.slice ad' l.length cap') X' ∧ X'.ownsRow X.heap.size 73 5 (.slice ad' l.length cap') l.length (l.flatMap fkL) ∧ Below X.heap.size X X' := by
  have hal := bnew X (.cells #[] 73)
  have hj := heap_alloc_new X (.cells #[] 73)
  have ho : (X.alloc (.cells #[] 73)).ownsRow X.heap.size 73 5 (.slice (some ⟨X.heap.size, 0, none⟩) 0 0) 0 [] := ⟨rfl, .inr ⟨X.heap.size, 0, #[], rfl, Nat.le_refl _, hj, Nat.le_refl _, Nat.zero_le _, rfl, rfl⟩⟩
  have hs := Lr.src fkL_len (L := l) (ad := ad) (cap := cap) (w := X.alloc (.cells #[] 73)) (hl.on fkE_held hal)
  obtain ⟨ad', cap', X', h1, h2, h3, _⟩ := run_fk (m := l.length) (c := cap) (news := l.flatMap fkL) ho hal.size hs (oneK l) (by omega)
  rw [Nat.zero_add] at h1 h2
  exact ⟨ad', cap', X', h1, by simpa using h2, hal.grown h3 hal.size (fun k hk => by cases hk; exact Nat.le_refl _)⟩
set_option maxHeartbeats 8000000 in
set_option maxRecDepth 100000 in
theorem copy_any {s : Sc} {tv : Value} (hL : Lr tbE 5 w s.tabs tv) (hz : Few s.tabs) : Calls Try.prog 30 #[scV s tv] w fun e w' => ∃ G tv', e = .returned (scV s tv') ∧ G.map Prod.fst = s.tabs ∧ Dr w' w.heap.size G tv' ∧ Below w.heap.size w w' := by
  obtain ⟨ta, tc, rfl, q0, q1, q2, hX⟩ := hL
  have hmx : (s.tabs.length : Int) ≤ 9223372036854775807 := by unfold maxLen at q2; omega
  obtain ⟨W, hW⟩ : ∃ W, W = (w.alloc (.cells #[.int .i64 s.ver, .int .i64 s.last, .slice ta s.tabs.length tc] 24)).alloc (.cells #[.int .i64 0, .int .i64 0, .slice none 0 0] 24) := ⟨_, rfl⟩
  have hbW : Below w.heap.size w W := by rw [hW]; exact ((Below.refl _ w).alloc (Nat.le_refl _) _).alloc (by simp) _
  obtain ⟨Y0, hY0⟩ : ∃ Y0, w.heap.size = Y0 := ⟨_, rfl⟩
  obtain ⟨Y1, hY1⟩ : ∃ Y1, Y0 + 1 = Y1 := ⟨_, rfl⟩
  have jY0 : W.heap[Y0]? = some (.cells #[.int .i64 s.ver, .int .i64 s.last, .slice ta s.tabs.length tc] 24 (0, 0)) := by
    have := heap_alloc_new w (.cells #[.int .i64 s.ver, .int .i64 s.last, .slice ta s.tabs.length tc] 24)
    rw [hW, ← hY0]
    rw [Below.heap_alloc _ _ _ (by simp only [World.size_alloc]; omega)]
    exact this
  have jY1 : W.heap[Y1]? = some (.cells #[.int .i64 0, .int .i64 0, .slice none 0 0] 24 (0, 0)) := by
    have := heap_alloc_new (w.alloc (.cells #[.int .i64 s.ver, .int .i64 s.last, .slice ta s.tabs.length tc] 24)) (.cells #[.int .i64 0, .int .i64 0, .slice none 0 0] 24)
    simp only [World.size_alloc] at this
    rw [hW, ← hY1, ← hY0]
    exact this
  have hge0 : w.heap.size ≤ Y0 := by omega
  have hge1 : w.heap.size ≤ Y1 := by omega
  have J0 := Lib.hid jY0
  have J1 := Lib.hid jY1
  have HX := Lib.hid hX
  have HZ := Lib.hid hz
  have GE := Lib.hid (And.intro hge0 hge1)
  have HW := Lib.hid hW
  have HBW := Lib.hid hbW
  have HY0 := Lib.hid hY0
  have HY1 := Lib.hid hY1
  clear hW hbW hY0 hY1
  clear jY0 jY1 hX hz q0 q1 q2 hge0 hge1
  go_enter Try.func30, Try.ntmps30
  go_upto_region 1 with fail
  rw [← HW.out, HY0.out, HY1.out]
  go_wp2
  go_loopw [3, 4] (fun tv iv wr => ∃ (i : Nat) (G : List Gt), i ≤ s.tabs.length ∧ iv = .int .i64 (i : Int) ∧ G.map Prod.fst = s.tabs.take i ∧ Dr wr W.heap.size G tv ∧ Below W.heap.size W wr) (fun _ iv _ => s.tabs.length - (intOf iv).toNat)
  case atStart => exact ⟨0, [], Nat.zero_le _, rfl, rfl, Dr.nil _ _, Below.refl _ _⟩
  case round =>
    obtain ⟨i, G, hi, rfl, hG, hD, hb⟩ := hrel
    obtain ⟨V, rfl⟩ : ∃ V, V = wr := ⟨_, rfl⟩
    have hGl : G.length = i := by
      have := congrArg List.length hG
      rw [List.length_map, List.length_take] at this
      omega
    obtain ⟨tad, tcap, hsh⟩ := own_shape hD.row
    subst hsh
    have HB := Lib.hid hb
    have HD := Lib.hid hD
    have HG := Lib.hid hG
    have HL := Lib.hid hGl
    have d2 : V.cell? ⟨Y0, 2, none⟩ = some (.slice ta s.tabs.length tc) := cell_blk ((hb.block Y0 (blk_lt J0.out)).trans J0.out) 2
    clear hG hD hGl
    by_cases hlt : i < s.tabs.length
    · have k0 : (0 : Int) ≤ i := by omega
      have k1 : (i : Int) < s.tabs.length := by omega
      obtain ⟨b, p, cs, rfl, hbl, hE, _, hcell⟩ := HX.out i hlt
      obtain ⟨cv, iv, kv, rfl, h3⟩ := hE
      obtain ⟨t, ht⟩ : ∃ t, s.tabs[i] = t := ⟨_, rfl⟩
      have htf : t.few := by rw [← ht]; exact HZ.out.2 _ (List.getElem_mem hlt)
      rw [ht] at hcell h3
      have HT := Lib.hid ht
      have hwV := bgo HBW.out HB.out
      have h3V := h3.on hwV
      obtain ⟨ca, cc, ec, _⟩ := h3.c
      obtain ⟨ia, ic, ei, _⟩ := h3.i
      obtain ⟨ka, kc, ek, _⟩ := h3.k
      subst ec ei ek
      have c0 := cell_on hwV (hcell 0 _ rfl)
      have c1 := cell_on hwV (hcell 1 _ rfl)
      have c2 := cell_on hwV (hcell 2 _ rfl)
      have c3 := cell_on hwV (hcell 3 _ rfl)
      have c4 := cell_on hwV (hcell 4 _ rfl)
      rw [Nat.add_zero] at c0
      obtain ⟨V1, hV1⟩ : ∃ V1, V1 = V.alloc (.cells (tbA t (.slice ca t.cols.length cc) (.slice ia t.ixs.length ic) (.slice ka t.fks.length kc)) 54) := ⟨_, rfl⟩
      obtain ⟨Q, hQ⟩ : ∃ Q, V.heap.size = Q := ⟨_, rfl⟩
      have jQ : V1.heap[Q]? = some (.cells (tbA t (.slice ca t.cols.length cc) (.slice ia t.ixs.length ic) (.slice ka t.fks.length kc)) 54 (0, 0)) := by rw [hV1, ← hQ]; exact heap_alloc_new V _
      have bV : Below V.heap.size V V1 := by rw [hV1]; exact bnew _ _
      have HV1 := Lib.hid hV1
      have HQ := Lib.hid hQ
      have HQV : Hid (V.heap.size ≤ Q) := Lib.hid (by omega)
      -- columns
      obtain ⟨ca', cc', X1, hr1, o1, b1⟩ := copyC (h3V.c.on colE_held bV) htf.1
      have g2 : (V1.alloc (.cells #[] 65)).cell? ⟨Q, 2, none⟩ = some (.slice ca t.cols.length cc) := cell_on (bnew _ _) (cell_blk jQ 2)
      have j1 := (b1.block Q (blk_lt jQ)).trans jQ
      obtain ⟨X2, hX2⟩ : ∃ X2, X2 = X1.setCell ⟨Q, 2, none⟩ (.slice ca' t.cols.length cc') := ⟨_, rfl⟩
      have b2 : Below V.heap.size V X2 := by rw [hX2]; exact (bgo bV b1).setCell HQV.out _
      have j2 : X2.heap[Q]? = some (.cells (tbA t (.slice ca' t.cols.length cc') (.slice ia t.ixs.length ic) (.slice ka t.fks.length kc)) 54 (0, 0)) := by rw [hX2]; exact set_blk j1 _
      have p1 : X2.ownsRow V.heap.size 65 7 (.slice ca' t.cols.length cc') t.cols.length (t.cols.flatMap colL) := by
        rw [hX2]
        exact own_off (by decide) j1 (own_mono o1 bV.size)
      have w1 : X1.cell? ⟨Q, 2, none⟩ = some (.slice ca t.cols.length cc) := cell_blk j1 2
      have f1 : X1.frozen? ⟨Q, 2, none⟩ = false := frozen_blk j1 2
      have HX2 := Lib.hid hX2
      -- indexes
      obtain ⟨ia', ic', X3, hr3, o3, b3⟩ := copyI (h3V.i.on ixE_held b2) htf.2.1
      have g3 : (X2.alloc (.cells #[] 70)).cell? ⟨Q, 3, none⟩ = some (.slice ia t.ixs.length ic) := cell_on (bnew _ _) (cell_blk j2 3)
      have j3 := (b3.block Q (blk_lt j2)).trans j2
      obtain ⟨X4, hX4⟩ : ∃ X4, X4 = X3.setCell ⟨Q, 3, none⟩ (.slice ia' t.ixs.length ic') := ⟨_, rfl⟩
      have b4 : Below V.heap.size V X4 := by rw [hX4]; exact (bgo b2 b3).setCell HQV.out _
      have j4 : X4.heap[Q]? = some (.cells (tbA t (.slice ca' t.cols.length cc') (.slice ia' t.ixs.length ic') (.slice ka t.fks.length kc)) 54 (0, 0)) := by rw [hX4]; exact set_blk j3 _
      have p1' : X4.ownsRow V.heap.size 65 7 (.slice ca' t.cols.length cc') t.cols.length (t.cols.flatMap colL) := by
        rw [hX4]
        exact own_off (by decide) j3 (own_below p1 b3)
      have p2 : X4.ownsRow V.heap.size 70 5 (.slice ia' t.ixs.length ic') t.ixs.length (t.ixs.flatMap ixL) := by
        rw [hX4]
        exact own_off (by decide) j3 (own_mono o3 b2.size)
      have w3 : X3.cell? ⟨Q, 3, none⟩ = some (.slice ia t.ixs.length ic) := cell_blk j3 3
      have f3 : X3.frozen? ⟨Q, 3, none⟩ = false := frozen_blk j3 3
      have HX4 := Lib.hid hX4
      -- keys
      obtain ⟨ka', kc', X5, hr5, o5, b5⟩ := copyK (h3V.k.on fkE_held b4) htf.2.2
      have g4 : (X4.alloc (.cells #[] 73)).cell? ⟨Q, 4, none⟩ = some (.slice ka t.fks.length kc) := cell_on (bnew _ _) (cell_blk j4 4)
      have j5 := (b5.block Q (blk_lt j4)).trans j4
      obtain ⟨X6, hX6⟩ : ∃ X6, X6 = X5.setCell ⟨Q, 4, none⟩ (.slice ka' t.fks.length kc') := ⟨_, rfl⟩
      have b6 : Below V.heap.size V X6 := by rw [hX6]; exact (bgo b4 b5).setCell HQV.out _
      have j6 : X6.heap[Q]? = some (.cells (tbA t (.slice ca' t.cols.length cc') (.slice ia' t.ixs.length ic') (.slice ka' t.fks.length kc')) 54 (0, 0)) := by rw [hX6]; exact set_blk j5 _
      have r1 : X6.ownsRow V.heap.size 65 7 (.slice ca' t.cols.length cc') t.cols.length (t.cols.flatMap colL) := by
        rw [hX6]
        exact own_off (by decide) j5 (own_below p1' b5)
      have r2 : X6.ownsRow V.heap.size 70 5 (.slice ia' t.ixs.length ic') t.ixs.length (t.ixs.flatMap ixL) := by
        rw [hX6]
        exact own_off (by decide) j5 (own_below p2 b5)
      have r3 : X6.ownsRow V.heap.size 73 5 (.slice ka' t.fks.length kc') t.fks.length (t.fks.flatMap fkL) := by
        rw [hX6]
        exact own_off (by decide) j5 (own_mono o5 b4.size)
      have w5 : X5.cell? ⟨Q, 4, none⟩ = some (.slice ka t.fks.length kc) := cell_blk j5 4
      have f5 : X5.frozen? ⟨Q, 4, none⟩ = false := frozen_blk j5 4
      have HX6 := Lib.hid hX6
      -- the table
      have hD1 := HD.out.below b6
      obtain ⟨ad, cap, w', hrun, s1, s2, s3⟩ := pushT (own_mono hD1.row (Nat.zero_le _)) t (ca := ca') (cn := t.cols.length) (cc := cc') (ia := ia') (im := t.ixs.length) (ic := ic') (ka := ka') (kn := t.fks.length) (kc := kc') (by have := HZ.out.1; have := HL.out; omega)
      have hWV : W.heap.size ≤ V.heap.size := HB.out.size
      have hVV : V.heap.size ≤ X6.heap.size := b6.size
      have hnew : Dr w' W.heap.size (G ++ [(t, .slice ca' t.cols.length cc', .slice ia' t.ixs.length ic', .slice ka' t.fks.length kc')]) (.slice ad (G.length + 1) cap) := by
        have up : ∀ {e : TypeId} {c n : Nat} {v : Value} {xs : List Value}, e ≠ 54 → X6.ownsRow V.heap.size e c v n xs → w'.ownsRow V.heap.size e c v n xs := fun he q => keep_rowB q s2 (fun k hk cs tg => by
          obtain ⟨cs2, t2⟩ := own_tag hD1.row k hk
          rw [t2] at tg
          simp only [Option.some.injEq, Obj.cells.injEq] at tg
          exact he tg.2.1.symm)
        have hf : Fr V w' (fun k => (Value.slice tad G.length tcap).ownBlock = some k) := (Fr.ofBelow _ b6).trans s2
        exact Dr.push HD.out hWV hf (fun k hk => .inr (.inl hk)) _ (by simpa using s1) (fun k hk => by
          rcases s3 k hk with z | z
          · exact .inl z
          · exact .inr (by omega)) (up (by decide) r1) (up (by decide) r2) (up (by decide) r3)
      have HN := Lib.hid hnew
      have HB2 : Hid (Below W.heap.size W w') := HB.out.trans ((b6.mono hWV).trans (s2.toBelow (fun k hk q => by
        have := (own_ge hD1.row k q).1
        omega) (by omega)))
      have HG2 : Hid ((G ++ [((t, .slice ca' t.cols.length cc', .slice ia' t.ixs.length ic', .slice ka' t.fks.length kc') : Gt)]).map Prod.fst = s.tabs.take (i + 1)) := by
        rw [List.map_append, HG.out, List.take_add_one, List.getElem?_eq_getElem hlt, HT.out]
        exact Lib.hid rfl
      have y0 : X6.cell? ⟨Q, 0, none⟩ = some (.int .i64 t.id) := cell_blk j6 0
      have y1 : X6.cell? ⟨Q, 1, none⟩ = some (.string t.nm) := cell_blk j6 1
      have y2 : X6.cell? ⟨Q, 2, none⟩ = some (.slice ca' t.cols.length cc') := cell_blk j6 2
      have y3 : X6.cell? ⟨Q, 3, none⟩ = some (.slice ia' t.ixs.length ic') := cell_blk j6 3
      have y4 : X6.cell? ⟨Q, 4, none⟩ = some (.slice ka' t.fks.length kc') := cell_blk j6 4
      clear hcell h3 h3V hwV ht hV1 hQ jQ bV hb htf hbl o1 b1 j1 hX2 b2 j2 p1 o3 b3 j3 hX4 b4 j4 p1' p2 o5 b5 j5 hX6 b6 j6 r1 r2 r3 hD1 s1 s2 s3 hWV hVV hnew
      go_upto_region 6 with fail
      rw [← HV1.out, HQ.out]
      clear c0 c1 c2 c3 c4 d2
      go_upto_region 7 with (at_builtin; refine wpl_run2 _ _ rfl (by simp [Act.eval]) (by simp [Act.eval]) hr1 ?_)
      rw [← HX2.out]
      clear hr1 g2 w1 f1
      go_upto_region 8 with (at_builtin; refine wpl_run2 _ _ rfl (by simp [Act.eval]) (by simp [Act.eval]) hr3 ?_)
      rw [← HX4.out]
      clear hr3 g3 w3 f3
      go_upto_region 9 with (at_builtin; refine wpl_run2 _ _ rfl (by simp [Act.eval]) (by simp [Act.eval]) hr5 ?_)
      rw [← HX6.out]
      clear hr5 g4 w5 f5
      go_wp2_with (at_builtin; refine wpl_run2 _ _ rfl (by simp [Act.eval]) (by simp [Act.eval]) hrun ?_)
      go_roundw
      case rel => exact ⟨i + 1, _, hlt, by go_num, HG2.out, HN.out, HB2.out⟩
      case measure => simp [intOf]; omega
    · have k1 : ¬ (i : Int) < s.tabs.length := by omega
      have hin : i = s.tabs.length := by omega
      have HGE : Hid (G.map Prod.fst = s.tabs) := by rw [HG.out, hin, List.take_length]; exact Lib.hid rfl
      have j0 := (hb.block Y0 (blk_lt J0.out)).trans J0.out
      have j1 := (hb.block Y1 (blk_lt J1.out)).trans J1.out
      have e2 : V.cell? ⟨Y0, 2, none⟩ = some (.slice ta s.tabs.length tc) := cell_blk j0 2
      have f2 : V.frozen? ⟨Y0, 2, none⟩ = false := frozen_blk j0 2
      obtain ⟨X1, hX1⟩ : ∃ X1, X1 = V.setCell ⟨Y0, 2, none⟩ (.slice tad G.length tcap) := ⟨_, rfl⟩
      have jX0 : X1.heap[Y0]? = some (.cells (scA s (.slice tad G.length tcap)) 24 (0, 0)) := by rw [hX1]; exact set_blk j0 _
      have hne : Y1 ≠ Y0 := by have := HY1.out; omega
      have jX1 : X1.heap[Y1]? = some (.cells #[.int .i64 0, .int .i64 0, .slice none 0 0] 24 (0, 0)) := by rw [hX1, set_other _ hne]; exact j1
      have hld := load_row jX0 Try.underlying24 rfl size24
      obtain ⟨X4, e4, j4, f4⟩ := sets_row jX1 (scA s (.slice tad G.length tcap)) rfl
      have hst : (Instr.storeAt 24 (.pointer (some ⟨Y1, 0, none⟩)) (.agg (scA s (.slice tad G.length tcap)))).run Try.prog X1 = .ok () X4 := by
        rw [e4]
        exact store_row jX1 rfl size24 (by simp [Value.oneCell'])
      have fV : Fr V X4 (fun k => k = Y0 ∨ k = Y1) := by
        refine Fr.trans ?_ (f4.mono (fun k hk => .inr hk))
        rw [hX1]
        exact Fr.set (S := fun k => k = Y0 ∨ k = Y1) (a := ⟨Y0, 2, none⟩) (Fr.refl _ _) (.inl (.inl rfl)) _
      have hWs : w.heap.size ≤ W.heap.size := HBW.out.size
      have HE : Hid (Dr X4 w.heap.size G (.slice tad G.length tcap) ∧ Below w.heap.size w X4) := by
        refine ⟨(HD.out.keep fV (fun k hk => ?_)).mono hWs, (bgo HBW.out HB.out).trans (fV.toBelow (fun k hk q => ?_) (bgo HBW.out HB.out).size)⟩
        · rcases hk with rfl | rfl
          · exact .inl (blk_lt J0.out)
          · exact .inl (blk_lt J1.out)
        · have := GE.out
          rcases q with q | q <;> omega
      have J4 := Lib.hid j4
      have HX1 := Lib.hid hX1
      clear j0 j1 hX1 jX0 jX1 e4 f4 fV hWs j4 hb hne hin
      go_upto_region 11 with fail
      rw [← HX1.out]
      go_wp2_with (first | (refine wpl_load _ rfl (by simp [Act.eval]) hld ?_) | (refine wpl_store _ _ rfl (by simp [Act.eval, Act.put]) (by simp [Act.eval, Act.put]) hst ?_))
      refine bodyPost_ret (results_one rfl rfl (load_var J4.out Try.underlying24 rfl size24)) rfl ?_
      exact ⟨G, _, rfl, HGE.out, HE.out.1, HE.out.2⟩
end
end Go.Proofs.Ytkfnphhoebknnaa
