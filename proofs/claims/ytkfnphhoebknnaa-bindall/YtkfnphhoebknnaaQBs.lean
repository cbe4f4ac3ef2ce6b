import Derived.Test.YtkfnphhoebknnaaQBp
namespace Go.Proofs.Ytkfnphhoebknnaa
open Go.RowKit Go.Maps
theorem find_fidx {α : Type} (p : α → Bool) (L : List α) : (fidx p L < 0 ∧ L.find? p = none) ∨ ∃ (i : Nat) (h : i < L.length), fidx p L = (i : Int) ∧ L.find? p = some L[i] := by
  rcases fidx_cases p L with ⟨e, h⟩ | ⟨i, hi, e, hp, hb⟩
  · exact .inl ⟨by omega, List.find?_eq_none.2 fun x hx => by simp [h x hx]⟩
  · refine .inr ⟨i, hi, e, ?_⟩
    rw [List.find?_eq_some_iff_getElem]
    exact ⟨hp, i, hi, rfl, fun j hj => by simp [hb j (by omega) hj]⟩
theorem head_kd : ∀ {t : Tb} (h : 1 ≤ t.cols.length), keyKd t = some (t.cols[0]).kd
  | ⟨_, _, [], _, _⟩, h => by simp at h
  | ⟨_, _, c :: r, _, _⟩, _ => rfl
section
variable {w : World}
theorem goes80 : Goes 80 := fun X a => by go_simp
theorem goes83 : Goes 83 := fun X a => by go_simp
set_option maxHeartbeats 400000 in
set_option maxRecDepth 100000 in
theorem lost_f {t : Tb} {ca ia ka : Option Addr} {cc ic kc : Nat} {x : Ix} {B q Y : Nat} (h : Pt ixE w B q x) (hc : Lr colE 7 w t.cols (.slice ca t.cols.length cc)) (jY : w.heap[Y]? = some (.cells #[.int .i64 t.id, .string t.nm, .slice ca t.cols.length cc, .slice ia t.ixs.length ic, .slice ka t.fks.length kc] 54 (0, 0))) : Calls Try.prog 79 #[.pointer (some ⟨B, q, none⟩), .pointer (some ⟨Y, 0, none⟩)] w fun e w' => e = .returned (.bool (!(t.cols.any (fun c => decide (c.id = x.col))))) ∧ Below w.heap.size w w' := by
  obtain ⟨cs, hE, hcell⟩ := h
  cases hE
  have c2 : w.cell? ⟨B, q + 2, none⟩ = some (.int .i64 x.col) := hcell 2 _ rfl
  have d0 : w.cell? ⟨Y, 0, none⟩ = some (.int .i64 t.id) := cell_blk jY 0
  have d1 : w.cell? ⟨Y, 1, none⟩ = some (.string t.nm) := cell_blk jY 1
  have d2 : w.cell? ⟨Y, 2, none⟩ = some (.slice ca t.cols.length cc) := cell_blk jY 2
  have d3 : w.cell? ⟨Y, 3, none⟩ = some (.slice ia t.ixs.length ic) := cell_blk jY 3
  have d4 : w.cell? ⟨Y, 4, none⟩ = some (.slice ka t.fks.length kc) := cell_blk jY 4
  have HO : Hid (∀ X : World, Below w.heap.size w X → Calls Try.prog 80 #[.agg #[.int .i64 t.id, .string t.nm, .slice ca t.cols.length cc, .slice ia t.ixs.length ic, .slice ka t.fks.length kc], .int .i64 x.col] X fun e w' => e = .returned (.int .i64 (colOf t x.col)) ∧ Below X.heap.size X w') := fun X hX => colOf_any _ (hc.on colE_held hX) ⟨_, _, _, rfl⟩ ⟨_, _, _, rfl⟩
  have hn : decide (colOf t x.col < 0) = !(t.cols.any (fun c => decide (c.id = x.col))) := by
    unfold colOf
    rw [fidx_neg, List.not_any_eq_all_not]
  obtain ⟨r, hr⟩ : ∃ r, (!(t.cols.any (fun c => decide (c.id = x.col)))) = r := ⟨_, rfl⟩
  obtain ⟨i, hi⟩ : ∃ i, colOf t x.col = i := ⟨_, rfl⟩
  rw [hi] at HO
  rw [hr, hi] at hn
  rw [hr]
  clear hr hi hcell jY hc
  have HN := Lib.hid hn
  clear hn
  go_enter Try.func79, Try.ntmps79
  go_wp2
  go_region_with (go_at_call 80; refine (HO.out _ (by first | exact bdrew (Below.refl _ _) | exact bdrewN (Below.refl _ _) _)).mono ?_; rintro e w1 ⟨rfl, b1⟩)
  all_goals
    go_wp2
    go_ret
    exact ⟨by rw [← HN.out]; rfl, ⟨b1.os, b1.tape, b1.output, b1.size, b1.block⟩⟩
set_option maxHeartbeats 400000 in
set_option maxRecDepth 100000 in
theorem wrong_f {L : List Tb} {t : Tb} {ta ca ia ka : Option Addr} {tc cc ic kc : Nat} {x : Fk} {B q Y Z : Nat} (h : Pt fkE w B q x) (hL : Lr tbE 5 w L (.slice ta L.length tc)) (hc : Lr colE 7 w t.cols (.slice ca t.cols.length cc)) (jY : w.heap[Y]? = some (.cells #[.int .i64 t.id, .string t.nm, .slice ca t.cols.length cc, .slice ia t.ixs.length ic, .slice ka t.fks.length kc] 54 (0, 0))) (jZ : w.heap[Z]? = some (.cells #[.slice ta L.length tc] 22 (0, 0))) (hk : ∀ t ∈ L, 1 ≤ t.cols.length) : Calls Try.prog 82 #[.pointer (some ⟨B, q, none⟩), .pointer (some ⟨Y, 0, none⟩), .pointer (some ⟨Z, 0, none⟩)] w fun e w' => e = .returned (.bool (!fkB L t x)) ∧ Below w.heap.size w w' := by
  obtain ⟨cs, hE, hcell⟩ := h
  cases hE
  have c2 : w.cell? ⟨B, q + 2, none⟩ = some (.int .i64 x.col) := hcell 2 _ rfl
  have c3 : w.cell? ⟨B, q + 3, none⟩ = some (.int .i64 x.par) := hcell 3 _ rfl
  have d0 : w.cell? ⟨Y, 0, none⟩ = some (.int .i64 t.id) := cell_blk jY 0
  have d1 : w.cell? ⟨Y, 1, none⟩ = some (.string t.nm) := cell_blk jY 1
  have d2 : w.cell? ⟨Y, 2, none⟩ = some (.slice ca t.cols.length cc) := cell_blk jY 2
  have d3 : w.cell? ⟨Y, 3, none⟩ = some (.slice ia t.ixs.length ic) := cell_blk jY 3
  have d4 : w.cell? ⟨Y, 4, none⟩ = some (.slice ka t.fks.length kc) := cell_blk jY 4
  have z0 : w.cell? ⟨Z, 0, none⟩ = some (.slice ta L.length tc) := cell_blk jZ 0
  have HO1 : Hid (∀ X : World, Below w.heap.size w X → Calls Try.prog 80 #[.agg #[.int .i64 t.id, .string t.nm, .slice ca t.cols.length cc, .slice ia t.ixs.length ic, .slice ka t.fks.length kc], .int .i64 x.col] X fun e w' => e = .returned (.int .i64 (colOf t x.col)) ∧ Below X.heap.size X w') := fun X hX => colOf_any _ (hc.on colE_held hX) ⟨_, _, _, rfl⟩ ⟨_, _, _, rfl⟩
  have HO2 : Hid (∀ X : World, Below w.heap.size w X → Calls Try.prog 83 #[.slice ta L.length tc, .int .i64 x.par] X fun e w' => e = .returned (.int .i64 (tabOf L x.par)) ∧ Below X.heap.size X w') := fun X hX => tabO_any _ (hL.on tbE_held hX)
  have hC := find_fidx (fun c : Col => decide (c.id = x.col)) t.cols
  have hT := find_fidx (fun c : Tb => decide (c.id = x.par)) L
  have HR : Hid (fkB L t x = match t.cols.find? (fun c => decide (c.id = x.col)), L.find? (fun t => decide (t.id = x.par)) with | some c, some p => decide (keyKd p = some c.kd) | _, _ => false) := Lib.hid rfl
  obtain ⟨i, hi⟩ : ∃ i, colOf t x.col = i := ⟨_, rfl⟩
  obtain ⟨j, hj⟩ : ∃ j, tabOf L x.par = j := ⟨_, rfl⟩
  rw [hi] at HO1
  rw [hj] at HO2
  have hi' : fidx (fun c : Col => decide (c.id = x.col)) t.cols = i := hi
  have hj' : fidx (fun c : Tb => decide (c.id = x.par)) L = j := hj
  rw [hi'] at hC
  rw [hj'] at hT
  have HL := Lib.hid hL
  have HC := Lib.hid hc
  have HK := Lib.hid hk
  have HFC := Lib.hid hC
  have HFT := Lib.hid hT
  have J := Lib.hid (And.intro jY jZ)
  have HKP : Hid (∀ X, Below w.heap.size w X → X.cell? ⟨B, q + 2, none⟩ = some (.int .i64 x.col) ∧ X.cell? ⟨B, q + 3, none⟩ = some (.int .i64 x.par) ∧ X.cell? ⟨Y, 0, none⟩ = some (.int .i64 t.id) ∧ X.cell? ⟨Y, 1, none⟩ = some (.string t.nm) ∧ X.cell? ⟨Y, 2, none⟩ = some (.slice ca t.cols.length cc) ∧ X.cell? ⟨Y, 3, none⟩ = some (.slice ia t.ixs.length ic) ∧ X.cell? ⟨Y, 4, none⟩ = some (.slice ka t.fks.length kc) ∧ X.cell? ⟨Z, 0, none⟩ = some (.slice ta L.length tc) ∧ Hid (Below w.heap.size w X)) := fun X hX => ⟨cell_on hX c2, cell_on hX c3, cell_on hX d0, cell_on hX d1, cell_on hX d2, cell_on hX d3, cell_on hX d4, cell_on hX z0, Lib.hid hX⟩
  clear hi hj hi' hj' hcell jY jZ hc hL hk hC hT
  go_enter Try.func82, Try.ntmps82
  go_wp2
  refine wp_region_fl (fun _ X9 => Below w.heap.size w X9) (fun X9 X' => Below X9.heap.size X9 X') [
    fun v9 _ => v9 = .agg #[.int .i64 t.id, .string t.nm, .slice ca t.cols.length cc, .slice ia t.ixs.length ic, .slice ka t.fks.length kc],
    fun v9 _ => v9 = .pointer (some ⟨B, q, none⟩),
    fun v9 _ => v9 = .pointer (some ⟨B, q, none⟩),
    fun v9 _ => v9 = .pointer (some ⟨B, q + 2, none⟩),
    fun v9 _ => v9 = .int .i64 x.col,
    fun v9 _ => v9 = .int .i64 i,
    fun v9 _ => v9 = .slice ta L.length tc,
    fun v9 _ => v9 = .pointer (some ⟨B, q, none⟩),
    fun v9 _ => v9 = .pointer (some ⟨B, q, none⟩),
    fun v9 _ => v9 = .pointer (some ⟨B, q + 3, none⟩),
    fun v9 _ => v9 = .int .i64 x.par,
    fun v9 _ => v9 = .int .i64 j,
    fun v9 _ => v9 = .int .i64 i,
    fun v9 _ => v9 = .int .i64 j]
    (by kernel_rfl) (by kernel_rfl) (by kernel_rfl) ?st ?g0 ?os ?en
  case st => exact ⟨fun _ _ _ _ h => h, fun _ _ _ _ h => h, fun _ _ _ _ h => h, fun _ _ _ _ h => h, fun _ _ _ _ h => h, fun _ _ _ _ h => h, fun _ _ _ _ h => h, fun _ _ _ _ h => h, fun _ _ _ _ h => h, fun _ _ _ _ h => h, fun _ _ _ _ h => h, fun _ _ _ _ h => h, fun _ _ _ _ h => h, fun _ _ _ _ h => h, trivial⟩
  case g0 => exact ⟨rfl, rfl, rfl, Nat.le_refl _, fun _ _ => rfl⟩
  case os =>
    refine ⟨?_, ?_, ?_, ?_, ?_, ?_, ?_, ?_, ?_, ?_, ?_, ?_, ?_, ?_, trivial⟩
    · exact fun ρ X9 fl hg hn hl hp ho hc hf hr => .inl ⟨rfl, Runs.val _ (op_loadAt (show ρ (.tmp 1) = .pointer (some ⟨Y, 0, none⟩) from ho 1 rfl) (load_row ((hg.block Y (blk_lt J.out.1)).trans J.out.1) Try.underlying54 rfl size54)) ⟨hg, Below.refl _ _, rfl⟩⟩
    · exact fun ρ X9 fl hg hn hl hp ho hc hf hr => .inl ⟨rfl, Runs.val _ (op_move (show ρ (.tmp 0) = .pointer (some ⟨B, q, none⟩) from ho 0 rfl)) ⟨hg, Below.refl _ _, rfl⟩⟩
    · exact fun ρ X9 fl hg hn hl hp ho hc hf hr => .inl ⟨rfl, Runs.val _ (op_nil (show ρ (.tmp 8) = .pointer (some ⟨B, q, none⟩) from hr 1 8 rfl rfl)) ⟨hg, Below.refl _ _, rfl⟩⟩
    · exact fun ρ X9 fl hg hn hl hp ho hc hf hr => .inl ⟨rfl, Runs.val _ (op_f73_2 (show ρ (.tmp 9) = .pointer (some ⟨B, q, none⟩) from hr 2 9 rfl rfl)) ⟨hg, Below.refl _ _, rfl⟩⟩
    · exact fun ρ X9 fl hg hn hl hp ho hc hf hr => .inl ⟨rfl, Runs.val _ (op_load3 (show ρ (.tmp 10) = .pointer (some ⟨B, q + 2, none⟩) from hr 3 10 rfl rfl) (cell_on hg c2)) ⟨hg, Below.refl _ _, rfl⟩⟩
    · refine fun ρ X9 fl hg hn hl hp ho hc hf hr => .inl ⟨rfl, ?_⟩
      refine Runs.goes 80 #[.agg #[.int .i64 t.id, .string t.nm, .slice ca t.cols.length cc, .slice ia t.ixs.length ic, .slice ka t.fks.length kc], .int .i64 x.col] (op_call2 hf (goes80 _ _) (show ρ (.tmp 7) = .agg #[.int .i64 t.id, .string t.nm, .slice ca t.cols.length cc, .slice ia t.ixs.length ic, .slice ka t.fks.length kc] from hr 0 7 rfl rfl) (show ρ (.tmp 11) = .int .i64 x.col from hr 4 11 rfl rfl)) ((HO1.out X9 hg).mono ?_)
      rintro e7 w7 ⟨rfl, b7⟩
      exact ⟨_, rfl, bgo hg b7, b7, rfl⟩
    · exact fun ρ X9 fl hg hn hl hp ho hc hf hr => .inl ⟨rfl, Runs.val _ (op_load22 (show ρ (.tmp 2) = .pointer (some ⟨Z, 0, none⟩) from ho 2 rfl) (cell_on hg z0)) ⟨hg, Below.refl _ _, rfl⟩⟩
    · exact fun ρ X9 fl hg hn hl hp ho hc hf hr => .inl ⟨rfl, Runs.val _ (op_move (show ρ (.tmp 0) = .pointer (some ⟨B, q, none⟩) from ho 0 rfl)) ⟨hg, Below.refl _ _, rfl⟩⟩
    · exact fun ρ X9 fl hg hn hl hp ho hc hf hr => .inl ⟨rfl, Runs.val _ (op_nil (show ρ (.tmp 14) = .pointer (some ⟨B, q, none⟩) from hr 7 14 rfl rfl)) ⟨hg, Below.refl _ _, rfl⟩⟩
    · exact fun ρ X9 fl hg hn hl hp ho hc hf hr => .inl ⟨rfl, Runs.val _ (op_f73_3 (show ρ (.tmp 15) = .pointer (some ⟨B, q, none⟩) from hr 8 15 rfl rfl)) ⟨hg, Below.refl _ _, rfl⟩⟩
    · exact fun ρ X9 fl hg hn hl hp ho hc hf hr => .inl ⟨rfl, Runs.val _ (op_load3 (show ρ (.tmp 16) = .pointer (some ⟨B, q + 3, none⟩) from hr 9 16 rfl rfl) (cell_on hg c3)) ⟨hg, Below.refl _ _, rfl⟩⟩
    · refine fun ρ X9 fl hg hn hl hp ho hc hf hr => .inl ⟨rfl, ?_⟩
      refine Runs.goes 83 #[.slice ta L.length tc, .int .i64 x.par] (op_call2 hf (goes83 _ _) (show ρ (.tmp 13) = .slice ta L.length tc from hr 6 13 rfl rfl) (show ρ (.tmp 17) = .int .i64 x.par from hr 10 17 rfl rfl)) ((HO2.out X9 hg).mono ?_)
      rintro e7 w7 ⟨rfl, b7⟩
      exact ⟨_, rfl, bgo hg b7, b7, rfl⟩
    · exact fun ρ X9 fl hg hn hl hp ho hc hf hr => .inl ⟨rfl, Runs.val _ (op_assign (show ρ (.tmp 12) = .int .i64 i from hr 5 12 rfl rfl)) ⟨hg, Below.refl _ _, rfl⟩⟩
    · exact fun ρ X9 fl hg hn hl hp ho hc hf hr => .inl ⟨rfl, Runs.val _ (op_assign (show ρ (.tmp 18) = .int .i64 j from hr 11 18 rfl rfl)) ⟨hg, Below.refl _ _, rfl⟩⟩
  case en =>
    intro a V fl hfl hbc hs hd ho hr
    obtain ⟨x', hx, hxt⟩ := act_put hs hd ho
    have x5 : x' 5 = .int .i64 i := (hxt 5).symm.trans (hr 12 5 rfl)
    have x6 : x' 6 = .int .i64 j := (hxt 6).symm.trans (hr 13 6 rfl)
    change a = putAll _ x' [7, 8, 9, 10, 11, 12, 13, 14, 15, 16, 17, 18, 5, 6] at hx
    simp only [putAll, Act.put, List.setIfInBounds_toArray, List.set_cons_zero, List.set_cons_succ, x5, x6] at hx
    clear hs hd ho hr hxt x5 x6
    subst hx
    obtain ⟨_, _, _, _, e2, _, _, e8, _⟩ := HKP.out V hbc
    have HB := Lib.hid hbc
    clear c2 c3 d0 d1 d2 d3 d4 z0
    rcases HFC.out with ⟨hn, hf⟩ | ⟨ci, hci, rfl, hf⟩
    · have HR2 : Hid (fkB L t x = false) := by rw [HR.out, hf]; exact Lib.hid rfl
      clear hf hbc
      go_wp2
      go_quiet (fail)
      go_wp2
      go_ret
      exact ⟨by rw [HR2.out]; rfl, bdrewN HB.out _⟩
    · have hn : decide ((ci : Int) < 0) = false := decide_eq_false (by omega)
      rcases HFT.out with ⟨hn2, hf2⟩ | ⟨pj, hpj, rfl, hf2⟩
      · have HR2 : Hid (fkB L t x = false) := by rw [HR.out, hf, hf2]; exact Lib.hid rfl
        clear hf hf2 hbc
        go_wp2
        go_quiet (fail)
        go_wp2
        go_ret
        exact ⟨by rw [HR2.out]; rfl, bdrewN HB.out _⟩
      · have hn2 : decide ((pj : Int) < 0) = false := decide_eq_false (by omega)
        have hp1 := HK.out _ (List.getElem_mem hpj)
        have HR2 : Hid (fkB L t x = decide ((L[pj].cols[0]).kd = t.cols[ci].kd)) := Lib.hid (by
          rw [HR.out, hf, hf2]
          show decide (keyKd L[pj] = some t.cols[ci].kd) = _
          rw [head_kd hp1]
          simp)
        obtain ⟨a1, k1, e1, _, _, _, hX1⟩ := HC.out.on colE_held hbc
        cases e1
        obtain ⟨b1, p1, cs1, rfl, _, hE1, _, hcl1⟩ := hX1 ci hci
        cases hE1
        obtain ⟨a2, k2, e2', _, _, _, hX2⟩ := HL.out.on tbE_held hbc
        cases e2'
        obtain ⟨b2, p2, cs2, rfl, _, hE2, _, hcl2⟩ := hX2 pj hpj
        obtain ⟨cv, iv, kv, rfl, h3⟩ := hE2
        obtain ⟨a3, k3, rfl, _, _, _, hX3⟩ := h3.c
        obtain ⟨b3, p3, cs3, rfl, _, hE3, _, hcl3⟩ := hX3 0 (by omega)
        cases hE3
        have f1 : V.cell? ⟨b1, p1 + ci * 7 + 2, none⟩ = some (.int .i64 t.cols[ci].kd) := hcl1 2 _ rfl
        have f2 : V.cell? ⟨b2, p2 + pj * 5 + 2, none⟩ = some (.slice (some ⟨b3, p3, none⟩) (L[pj].cols).length k3) := hcl2 2 _ rfl
        have f3 : V.cell? ⟨b3, p3 + 2, none⟩ = some (.int .i64 (L[pj].cols[0]).kd) := by
          have := hcl3 2 _ rfl
          rw [Nat.zero_mul, Nat.add_zero] at this
          exact this
        have m0 : (0 : Int) ≤ (ci : Int) := by omega
        have m1 : (ci : Int) < (t.cols.length : Int) := by omega
        have m2 : (0 : Int) ≤ (pj : Int) := by omega
        have m3 : (pj : Int) < (L.length : Int) := by omega
        have m4 : (0 : Int) < ((L[pj].cols).length : Int) := by omega
        obtain ⟨u1, hu1⟩ : ∃ u1, (L[pj].cols[0]).kd = u1 := ⟨_, rfl⟩
        obtain ⟨u2, hu2⟩ : ∃ u2, t.cols[ci].kd = u2 := ⟨_, rfl⟩
        obtain ⟨n3, hn3⟩ : ∃ n3, (L[pj].cols).length = n3 := ⟨_, rfl⟩
        rw [hu1] at f3 HR2
        rw [hu2] at f1 HR2
        rw [hn3] at f2 m4
        clear hf hf2 hbc hX1 hX2 hX3 hcl1 hcl2 hcl3 h3 hu1 hu2 hn3
        by_cases hq : u1 = u2
        · subst hq
          go_wp2
          go_quiet (fail)
          go_wp2
          go_ret
          exact ⟨by rw [HR2.out]; simp, bdrewN HB.out _⟩
        · go_wp2
          go_quiet (fail)
          go_wp2
          go_ret
          exact ⟨by rw [HR2.out]; simp [hq], bdrewN HB.out _⟩
end
end Go.Proofs.Ytkfnphhoebknnaa
namespace Go.Proofs.Ytkfnphhoebknnaa
open Go.RowKit Go.Maps
section
variable {w : World}
set_option maxHeartbeats 1000000 in
set_option maxRecDepth 100000 in
theorem links_any {L : List Tb} {t : Tb} {tv cv iv kv : Value} (hL : Lr tbE 5 w L tv) (h : Three w t cv iv kv) (hk : ∀ t ∈ L, 1 ≤ t.cols.length) : Calls Try.prog 54 #[tv, tbV t cv iv kv] w fun e w' => e = .returned (.bool (linkB L t)) ∧ Below w.heap.size w w' := by
  have HT := Lib.hid h
  have HL := Lib.hid hL
  obtain ⟨ta, tc, rfl, _⟩ := hL
  obtain ⟨ca, cc, rfl, _⟩ := h.c
  obtain ⟨ia, ic, rfl, _⟩ := h.i
  obtain ⟨ka, kc, rfl, _⟩ := h.k
  obtain ⟨W, hW⟩ : ∃ W, W = (w.alloc (.cells #[.slice ta L.length tc] 22)).alloc (.cells #[.int .i64 t.id, .string t.nm, .slice ca t.cols.length cc, .slice ia t.ixs.length ic, .slice ka t.fks.length kc] 54) := ⟨_, rfl⟩
  have hbW : Below w.heap.size w W := by rw [hW]; exact ((Below.refl _ w).alloc (Nat.le_refl _) _).alloc (by simp) _
  obtain ⟨Y0, hY0⟩ : ∃ Y0, w.heap.size = Y0 := ⟨_, rfl⟩
  obtain ⟨Y1, hY1⟩ : ∃ Y1, Y0 + 1 = Y1 := ⟨_, rfl⟩
  have jY0 : W.heap[Y0]? = some (.cells #[.slice ta L.length tc] 22 (0, 0)) := by
    have := heap_alloc_new w (.cells #[.slice ta L.length tc] 22)
    rw [hW, ← hY0]
    rw [Below.heap_alloc _ _ _ (by simp only [World.size_alloc]; omega)]
    exact this
  have jY1 : W.heap[Y1]? = some (.cells #[.int .i64 t.id, .string t.nm, .slice ca t.cols.length cc, .slice ia t.ixs.length ic, .slice ka t.fks.length kc] 54 (0, 0)) := by
    have := heap_alloc_new (w.alloc (.cells #[.slice ta L.length tc] 22)) (.cells #[.int .i64 t.id, .string t.nm, .slice ca t.cols.length cc, .slice ia t.ixs.length ic, .slice ka t.fks.length kc] 54)
    simp only [World.size_alloc] at this
    rw [hW, ← hY1, ← hY0]
    exact this
  have d3 : W.cell? ⟨Y1, 3, none⟩ = some (.slice ia t.ixs.length ic) := cell_blk jY1 3
  have hc1 := findI_any (w := W) (f := 79) (cs := #[.pointer (some ⟨Y1, 0, none⟩)]) (p := fun x => !(t.cols.any (fun c => decide (c.id = x.col)))) (HT.out.i.on ixE_held hbW) goes79 (fun X hX B q x _ _ hp => lost_f hp ((HT.out.c.on colE_held hbW).on colE_held hX) ((hX.block Y1 (blk_lt jY1)).trans jY1))
  have HF : Hid (∀ X, Below W.heap.size W X → X.cell? ⟨Y1, 4, none⟩ = some (.slice ka t.fks.length kc) ∧ Calls Try.prog 81 #[.slice ka t.fks.length kc, .func (.func 82) #[] #[.pointer (some ⟨Y1, 0, none⟩), .pointer (some ⟨Y0, 0, none⟩)]] X fun e w' => e = .returned (.int .i64 (fidx (fun x => !fkB L t x) t.fks)) ∧ Below X.heap.size X w') := fun X hX => by
    have hwX := bgo hbW hX
    refine ⟨cell_on hX (cell_blk jY1 4), findK_any (w := X) (f := 82) (p := fun x => !fkB L t x) (HT.out.k.on fkE_held hwX) goes82 (fun X' hX' B q x _ _ hp => wrong_f hp ((HL.out.on tbE_held hwX).on tbE_held hX') ((HT.out.c.on colE_held hwX).on colE_held hX') (((bgo hX hX').block Y1 (blk_lt jY1)).trans jY1) (((bgo hX hX').block Y0 (blk_lt jY0)).trans jY0) hk)⟩
  have n1 := fidx_neg (fun x : Ix => !(t.cols.any (fun c => decide (c.id = x.col)))) t.ixs
  have n2 := fidx_neg (fun x : Fk => !fkB L t x) t.fks
  simp only [Bool.not_not] at n1 n2
  obtain ⟨i1, hi1⟩ : ∃ i1, fidx (fun x : Ix => !(t.cols.any (fun c => decide (c.id = x.col)))) t.ixs = i1 := ⟨_, rfl⟩
  obtain ⟨i2, hi2⟩ : ∃ i2, fidx (fun x : Fk => !fkB L t x) t.fks = i2 := ⟨_, rfl⟩
  obtain ⟨r1, hr1⟩ : ∃ r1, t.ixs.all (fun x => t.cols.any (fun c => decide (c.id = x.col))) = r1 := ⟨_, rfl⟩
  obtain ⟨r2, hr2⟩ : ∃ r2, t.fks.all (fun x => fkB L t x) = r2 := ⟨_, rfl⟩
  have HR : Hid (linkB L t = (r1 && r2)) := by
    unfold linkB
    rw [hr1, show t.fks.all (fkB L t) = r2 from hr2]
    exact Lib.hid rfl
  rw [hi1] at hc1 n1
  rw [hi2] at HF n2
  rw [hr1] at n1
  rw [hr2] at n2
  have HW := Lib.hid hW
  have HBW := Lib.hid hbW
  have HY0 := Lib.hid hY0
  have HY1 := Lib.hid hY1
  clear hW hbW hY0 hY1
  clear jY0 jY1 hi1 hi2 hr1 hr2 h hk
  go_enter Try.func54, Try.ntmps54
  go_upto_region 1 with fail
  rw [← HW.out, HY0.out, HY1.out]
  go_upto_region 2 with (go_at_call 78; refine hc1.mono ?_; rintro e w1 ⟨rfl, b1⟩; refine Hid.out ?_)
  refine Lib.hid ?_
  have HB1 := Lib.hid b1
  obtain ⟨e4, hc2⟩ := HF.out w1 b1
  clear hc1 b1 d3
  go_upto_region 3 with (go_at_call 81; refine hc2.mono ?_; rintro e w2 ⟨rfl, b2⟩; refine Hid.out ?_)
  refine Lib.hid ?_
  have HB2 := Lib.hid b2
  clear hc2 b2 e4
  cases r1 with
  | false =>
    have q1 := of_decide_eq_false n1
    clear n1 n2
    go_wp2
    go_ret
    exact ⟨by rw [HR.out]; simp, bgo HBW.out (bgo HB1.out HB2.out)⟩
  | true =>
    have q1 := of_decide_eq_true n1
    clear n1
    cases r2 with
    | false =>
      have q2 := of_decide_eq_false n2
      clear n2
      go_wp2
      go_ret
      exact ⟨by rw [HR.out]; simp, bgo HBW.out (bgo HB1.out HB2.out)⟩
    | true =>
      have q2 := of_decide_eq_true n2
      clear n2
      go_wp2
      go_ret
      exact ⟨by rw [HR.out]; simp, bgo HBW.out (bgo HB1.out HB2.out)⟩
set_option maxHeartbeats 400000 in
set_option maxRecDepth 100000 in
theorem id_f {x z : Int} {B q Z : Nat} (h : Pt inE w B q x) (cz : w.cell? ⟨Z, 1, none⟩ = some (.int .i64 z)) : Calls Try.prog 49 #[.pointer (some ⟨B, q, none⟩), .pointer (some ⟨Z, 0, none⟩)] w fun e w' => e = .returned (.bool (!(decide (1 ≤ x) && decide (x ≤ z)))) ∧ Below w.heap.size w w' := by
  obtain ⟨cs, hE, hc⟩ := h
  cases hE
  have c0 : w.cell? ⟨B, q, none⟩ = some (.int .i64 x) := hc 0 _ rfl
  clear hc
  by_cases q1 : x < 1
  · have k1 : decide (x < 1) = true := decide_eq_true q1
    have k2 : ¬ 1 ≤ x := by omega
    go_enter Try.func49, Try.ntmps49
    go_wp2
    go_quiet (fail)
    go_wp2
    go_ret
    exact ⟨by simp [k2], bdrewN (Below.refl _ _) _⟩
  · have k1 : decide (x < 1) = false := decide_eq_false q1
    have k2 : 1 ≤ x := by omega
    by_cases q2 : z < x
    · have k4 : ¬ x ≤ z := by omega
      go_enter Try.func49, Try.ntmps49
      go_wp2
      go_quiet (fail)
      go_wp2
      go_ret
      exact ⟨by simp [k4], bdrewN (Below.refl _ _) _⟩
    · have k4 : x ≤ z := by omega
      go_enter Try.func49, Try.ntmps49
      go_wp2
      go_quiet (fail)
      go_wp2
      go_ret
      exact ⟨by simp [k2, k4], bdrewN (Below.refl _ _) _⟩
set_option maxHeartbeats 1000000 in
set_option maxRecDepth 100000 in
theorem link_f {L : List Tb} {x : Tb} {tv : Value} {B q Z : Nat} (h : Pt tbE w B q x) (hL : Lr tbE 5 w L tv) (cz : w.cell? ⟨Z, 2, none⟩ = some tv) (hk : ∀ t ∈ L, 1 ≤ t.cols.length) : Calls Try.prog 53 #[.pointer (some ⟨B, q, none⟩), .pointer (some ⟨Z, 0, none⟩)] w fun e w' => e = .returned (.bool (!linkB L x)) ∧ Below w.heap.size w w' := by
  obtain ⟨cs, ⟨cv, iv, kv, rfl, h3⟩, hc⟩ := h
  have HO : Hid (∀ X : World, Below w.heap.size w X → Calls Try.prog 54 #[tv, tbV x cv iv kv] X fun e w' => e = .returned (.bool (linkB L x)) ∧ Below X.heap.size X w') := fun X hX => links_any (hL.on tbE_held hX) (h3.on hX) hk
  have c0 : w.cell? ⟨B, q, none⟩ = some (.int .i64 x.id) := hc 0 _ rfl
  have c1 : w.cell? ⟨B, q + 1, none⟩ = some (.string x.nm) := hc 1 _ rfl
  have c2 : w.cell? ⟨B, q + 2, none⟩ = some cv := hc 2 _ rfl
  have c3 : w.cell? ⟨B, q + 3, none⟩ = some iv := hc 3 _ rfl
  have c4 : w.cell? ⟨B, q + 4, none⟩ = some kv := hc 4 _ rfl
  obtain ⟨ta, tc, rfl, _⟩ := hL
  obtain ⟨ca, cc, rfl, _⟩ := h3.c
  obtain ⟨ia, ic, rfl, _⟩ := h3.i
  obtain ⟨ka, kc, rfl, _⟩ := h3.k
  obtain ⟨r, hr⟩ : ∃ r, linkB L x = r := ⟨_, rfl⟩
  rw [hr] at HO ⊢
  clear hr hc h3 hk
  go_enter Try.func53, Try.ntmps53
  go_wp2
  go_region_with (go_at_call 54; refine (HO.out _ (by first | exact bdrew (Below.refl _ _) | exact bdrewN (Below.refl _ _) _)).mono ?_; rintro e w1 ⟨rfl, b1⟩)
  all_goals
    go_wp2
    go_ret
    exact ⟨rfl, ⟨b1.os, b1.tape, b1.output, b1.size, b1.block⟩⟩
end
end Go.Proofs.Ytkfnphhoebknnaa
namespace Go.Proofs.Ytkfnphhoebknnaa
open Go.RowKit Go.Maps
section
variable {w : World}
theorem push_name {X : World} {B : Nat} {l : List ByteArray} {v : Value} (ho : X.ownsRow B 9 1 v l.length (l.flatMap stL)) (hB : B ≤ X.heap.size) (x : ByteArray) (hz : l.length ≤ 1000) :
    ∃ ad cap w', (Builtin.append_ #[88, 88] 88 #[v, .slice (some ⟨X.heap.size, 0, none⟩) 1 1]).run Try.prog (X.alloc (.cells #[.string x] 9)) = .ok (.slice ad (l.length + 1) cap) w' ∧ w'.ownsRow B 9 1 (.slice ad (l.length + 1) cap) (l ++ [x]).length ((l ++ [x]).flatMap stL) ∧ Below B X w' ∧ Fr X w' (fun k => v.ownBlock = some k) := by
  have hal := bnew X (.cells #[.string x] 9)
  have hj := heap_alloc_new X (.cells #[.string x] 9)
  obtain ⟨ad, cap, w', h1, h2, h3, h4⟩ := run_st (m := 1) (c := 1) (news := stL x) (own_below ho hal) (Nat.le_trans hB hal.size) (.inr ⟨_, rfl, rfl, fun j u hu => by
    rw [add_at, Nat.zero_add, cell_blk hj]
    simpa using hu⟩) (fun u hu => by
      simp at hu
      subst hu
      rfl) (by omega)
  exact ⟨ad, cap, w', h1, by simpa using h2, (hal.mono hB).grown h3 (Nat.le_trans hB hal.size) (fun k hk => (own_ge ho k hk).1), ((Fr.refl X _).alloc _).grown h3 (fun k hk => .inl hk)⟩
theorem app_ids {X : World} {B C : Nat} {l m : List Int} {v : Value} {ad2 : Option Addr} {c2 n : Nat} (ho : X.ownsRow B 3 1 v l.length (l.flatMap inL)) (hB : B ≤ X.heap.size) (hs : X.ownsRow C 3 1 (.slice ad2 n c2) n (m.flatMap inL)) (hn : n = m.length) (hz : l.length + m.length ≤ 100000) :
    ∃ ad cap w', (Builtin.append_ #[61, 61] 61 #[v, .slice ad2 n c2]).run Try.prog X = .ok (.slice ad (l.length + n) cap) w' ∧ w'.ownsRow B 3 1 (.slice ad (l.length + n) cap) (l ++ m).length ((l ++ m).flatMap inL) ∧ Below B X w' ∧ Fr X w' (fun k => v.ownBlock = some k) := by
  subst hn
  have hsrc := Lr.src inL_len (L := m) (ad := ad2) (cap := c2) (w := X) (Lr.own inL_len hs)
  obtain ⟨ad, cap, w', h1, h2, h3, h4⟩ := run_in (m := m.length) (c := c2) (news := m.flatMap inL) ho hB hsrc (fun u hu => by
      obtain ⟨y, _, hy⟩ := List.mem_flatMap.1 hu
      simp at hy
      subst hy
      rfl) (by omega)
  refine ⟨ad, cap, w', h1, ?_, (Below.refl B X).grown h3 hB (fun k hk => (own_ge ho k hk).1), (Fr.refl X _).grown h3 (fun k hk => .inl hk)⟩
  rw [List.flatMap_append, List.length_append]
  exact h2
theorem tab_few {t : Tb} (h : cntB t = true) : t.few ∧ 1 ≤ t.cols.length ∧ (idsT t).length ≤ 25 := by
  unfold cntB at h
  simp only [Bool.and_eq_true, decide_eq_true_eq] at h
  refine ⟨⟨by omega, by omega, by omega⟩, by omega, ?_⟩
  simp only [idsT, List.length_cons, List.length_append, List.length_map]
  omega
theorem ids_len {L : List Tb} (h : ∀ t ∈ L, cntB t = true) : (idsS L).length ≤ L.length * 25 := by
  unfold idsS
  induction L with
  | nil => simp
  | cons t L ih =>
    rw [List.flatMap_cons, List.length_append, List.length_cons]
    have h1 := (tab_few (h t List.mem_cons_self)).2.2
    have h2 := ih (fun x hx => h x (List.mem_cons_of_mem _ hx))
    omega
set_option maxHeartbeats 4000000 in
set_option maxRecDepth 100000 in
theorem right_sch {s : Sc} {tv : Value} (hL : Lr tbE 5 w s.tabs tv) (hI : ∀ t ∈ s.tabs, ∀ i ∈ idsT t, I64 i) : Calls Try.prog 35 #[scV s tv] w fun e w' => e = .returned (.bool (rightS s)) ∧ Below w.heap.size w w' := by
  have HL := Lib.hid hL
  have HI := Lib.hid hI
  obtain ⟨ta, tc, rfl, _, q1, q2, hX⟩ := hL
  have hmx : (s.tabs.length : Int) ≤ 9223372036854775807 := by unfold maxLen at q2; omega
  obtain ⟨W, hW⟩ : ∃ W, W = w.alloc (.cells #[.int .i64 s.ver, .int .i64 s.last, .slice ta s.tabs.length tc] 24) := ⟨_, rfl⟩
  have hbW : Below w.heap.size w W := by rw [hW]; exact (Below.refl _ w).alloc (Nat.le_refl _) _
  obtain ⟨Y0, hY0⟩ : ∃ Y0, w.heap.size = Y0 := ⟨_, rfl⟩
  have jY0 : W.heap[Y0]? = some (.cells #[.int .i64 s.ver, .int .i64 s.last, .slice ta s.tabs.length tc] 24 (0, 0)) := by
    have := heap_alloc_new w (.cells #[.int .i64 s.ver, .int .i64 s.last, .slice ta s.tabs.length tc] 24)
    rw [hW, ← hY0]
    exact this
  have d0 : W.cell? ⟨Y0, 0, none⟩ = some (.int .i64 s.ver) := cell_blk jY0 0
  have d1 : W.cell? ⟨Y0, 1, none⟩ = some (.int .i64 s.last) := cell_blk jY0 1
  have d2 : W.cell? ⟨Y0, 2, none⟩ = some (.slice ta s.tabs.length tc) := cell_blk jY0 2
  have J0 := Lib.hid jY0
  have HX := Lib.hid hX
  obtain ⟨b1, hb1⟩ : ∃ b, s.tabs.all tabB = b := ⟨_, rfl⟩
  have HR : Hid (rightS s = (farB s.ver && farB s.last && decide (s.tabs.length ≤ 6) && s.tabs.all tabB && (idsS s.tabs).all (fun i => decide (1 ≤ i) && decide (i ≤ s.last)) && decide (idsS s.tabs).Nodup && decide (s.tabs.map Tb.nm).Nodup && s.tabs.all (linkB s.tabs))) := Lib.hid rfl
  have HW := Lib.hid hW
  have HBW := Lib.hid hbW
  have HY0 := Lib.hid hY0
  clear hW hbW hY0
  clear jY0 hI hX q1 q2 hb1
  obtain ⟨a1, ha1⟩ : ∃ a, s.ver = a := ⟨_, rfl⟩
  obtain ⟨a2, ha2⟩ : ∃ a, s.last = a := ⟨_, rfl⟩
  by_cases v1 : s.ver < 0
  · have HE : Hid (rightS s = false) := Lib.hid (by rw [HR.out]; unfold farB; simp; omega)
    clear ha1 ha2
    go_enter Try.func35, Try.ntmps35
    go_upto_region 1 with fail
    rw [← HW.out, HY0.out]
    go_wp2
    go_ret
    exact ⟨by rw [HE.out]; rfl, HBW.out⟩
  by_cases v2 : 1125899906842624 < s.ver
  · have HE : Hid (rightS s = false) := Lib.hid (by rw [HR.out]; unfold farB; simp; omega)
    clear ha1 ha2
    go_enter Try.func35, Try.ntmps35
    go_upto_region 1 with fail
    rw [← HW.out, HY0.out]
    go_wp2
    go_ret
    exact ⟨by rw [HE.out]; rfl, HBW.out⟩
  by_cases v3 : s.last < 0
  · have HE : Hid (rightS s = false) := Lib.hid (by rw [HR.out]; unfold farB; simp; omega)
    clear ha1 ha2
    go_enter Try.func35, Try.ntmps35
    go_upto_region 1 with fail
    rw [← HW.out, HY0.out]
    go_wp2
    go_ret
    exact ⟨by rw [HE.out]; rfl, HBW.out⟩
  by_cases v4 : 1125899906842624 < s.last
  · have HE : Hid (rightS s = false) := Lib.hid (by rw [HR.out]; unfold farB; simp; omega)
    clear ha1 ha2
    go_enter Try.func35, Try.ntmps35
    go_upto_region 1 with fail
    rw [← HW.out, HY0.out]
    go_wp2
    go_ret
    exact ⟨by rw [HE.out]; rfl, HBW.out⟩
  by_cases v5 : 6 < (s.tabs.length : Int)
  · have HE : Hid (rightS s = false) := Lib.hid (by rw [HR.out]; simp; omega)
    clear ha1 ha2
    go_enter Try.func35, Try.ntmps35
    go_upto_region 1 with fail
    rw [← HW.out, HY0.out]
    go_wp2
    go_ret
    exact ⟨by rw [HE.out]; rfl, HBW.out⟩
  have HR2 : Hid (rightS s = (s.tabs.all tabB && (idsS s.tabs).all (fun i => decide (1 ≤ i) && decide (i ≤ s.last)) && decide (idsS s.tabs).Nodup && decide (s.tabs.map Tb.nm).Nodup && s.tabs.all (linkB s.tabs))) := by
    rw [HR.out]
    have e1 : farB s.ver = true := by unfold farB; simp; omega
    have e2 : farB s.last = true := by unfold farB; simp; omega
    have e3 : decide (s.tabs.length ≤ 6) = true := decide_eq_true (by omega)
    rw [e1, e2, e3]
    exact Lib.hid rfl
  have H6 : Hid (s.tabs.length ≤ 6) := Lib.hid (by omega)
  clear ha1 ha2
  go_enter Try.func35, Try.ntmps35
  go_upto_region 1 with fail
  rw [← HW.out, HY0.out]
  go_wp2
  clear v1 v2 v3 v4 v5 d0 d1 d2
  go_loopw [3, 4, 35] (fun nv dv iv wr => ∃ i : Nat, i ≤ s.tabs.length ∧ iv = .int .i64 (i : Int) ∧ (∀ t ∈ s.tabs.take i, tabB t = true) ∧ wr.ownsRow W.heap.size 9 1 nv ((s.tabs.take i).map Tb.nm).length (((s.tabs.take i).map Tb.nm).flatMap stL) ∧ wr.ownsRow W.heap.size 3 1 dv (idsS (s.tabs.take i)).length ((idsS (s.tabs.take i)).flatMap inL) ∧ Below W.heap.size W wr) (fun _ _ iv _ => s.tabs.length - (intOf iv).toNat)
  case atStart => exact ⟨0, Nat.zero_le _, rfl, fun t ht => by simp at ht, World.ownsRow_nil _ _ 9 1, World.ownsRow_nil _ _ 3 1, Below.refl _ _⟩
  case round =>
    obtain ⟨i, hi, rfl, hno, ho, ho2, hb⟩ := hrel
    obtain ⟨V, rfl⟩ : ∃ V, V = wr := ⟨_, rfl⟩
    have HN := Lib.hid hno
    have HB := Lib.hid hb
    obtain ⟨nad, ncap, hsh⟩ := own_shape ho
    have hln : ((s.tabs.take i).map Tb.nm).length = i := by rw [List.length_map, List.length_take]; omega
    rw [hln] at hsh
    subst hsh
    obtain ⟨N, hN⟩ : ∃ N, (idsS (s.tabs.take i)).length = N := ⟨_, rfl⟩
    have hN25 : N ≤ 150 := by
      have q := ids_len (L := s.tabs.take i) (fun t ht => by have := hno t ht; unfold tabB at this; simp only [Bool.and_eq_true] at this; exact this.1.1)
      rw [hN, List.length_take] at q
      have := H6.out
      omega
    obtain ⟨iad, icap, hsh2⟩ := own_shape ho2
    rw [hN] at hsh2
    subst hsh2
    have HO := Lib.hid ho
    have HO2 := Lib.hid ho2
    have HLN := Lib.hid (And.intro hln (And.intro hN hN25))
    clear hno ho ho2 hln hN hN25
    by_cases hlt : i < s.tabs.length
    · have k0 : (0 : Int) ≤ i := by omega
      have k1 : (i : Int) < s.tabs.length := by omega
      obtain ⟨b, p, cs, rfl, hbl, hE, _, hcell⟩ := HX.out i hlt
      obtain ⟨cv, iv, kv, rfl, h3⟩ := hE
      obtain ⟨t, ht⟩ : ∃ t, s.tabs[i] = t := ⟨_, rfl⟩
      rw [ht] at hcell h3
      have HT : Hid (s.tabs.take (i + 1) = s.tabs.take i ++ [t]) := by
        rw [List.take_succ_eq_append_getElem hlt, ht]
        exact Lib.hid rfl
      have hmem : t ∈ s.tabs := by rw [← ht]; exact List.getElem_mem hlt
      have HNO : Hid (tabB t = false → rightS s = false) := fun q => by
        rw [HR2.out]
        have : s.tabs.all tabB = false := List.all_eq_false.2 ⟨t, hmem, by simp [q]⟩
        rw [this]
        rfl
      have hwV := bgo HBW.out hb
      have h3V := h3.on hwV
      obtain ⟨ca, cc, ec, _⟩ := h3.c
      obtain ⟨ia, ic, ei, _⟩ := h3.i
      obtain ⟨ka, kc, ek, _⟩ := h3.k
      subst ec ei ek
      have c0 := cell_on hwV (hcell 0 _ rfl)
      have c1 := cell_on hwV (hcell 1 _ rfl)
      have c2 := cell_on hwV (hcell 2 _ rfl)
      have c3 := cell_on hwV (hcell 3 _ rfl)
      have c4 := cell_on hwV (hcell 4 _ rfl)
      rw [Nat.add_zero] at c0
      obtain ⟨V1, hV1⟩ : ∃ V1, V1 = V.alloc (.cells (tbA t (.slice ca t.cols.length cc) (.slice ia t.ixs.length ic) (.slice ka t.fks.length kc)) 54) := ⟨_, rfl⟩
      obtain ⟨Q, hQ⟩ : ∃ Q, V.heap.size = Q := ⟨_, rfl⟩
      have jQ : V1.heap[Q]? = some (.cells (tbA t (.slice ca t.cols.length cc) (.slice ia t.ixs.length ic) (.slice ka t.fks.length kc)) 54 (0, 0)) := by rw [hV1, ← hQ]; exact heap_alloc_new V _
      have bV : Below V.heap.size V V1 := by rw [hV1]; exact bnew _ _
      have HG : Hid (∀ X, Below V1.heap.size V1 X → X.cell? ⟨Q, 0, none⟩ = some (.int .i64 t.id) ∧ X.cell? ⟨Q, 1, none⟩ = some (.string t.nm) ∧ X.cell? ⟨Q, 2, none⟩ = some (.slice ca t.cols.length cc) ∧ X.cell? ⟨Q, 3, none⟩ = some (.slice ia t.ixs.length ic) ∧ X.cell? ⟨Q, 4, none⟩ = some (.slice ka t.fks.length kc)) := fun X hX => ⟨cell_on hX (cell_blk jQ 0), cell_on hX (cell_blk jQ 1), cell_on hX (cell_blk jQ 2), cell_on hX (cell_blk jQ 3), cell_on hX (cell_blk jQ 4)⟩
      obtain ⟨g0, g1, g2, g3, g4⟩ := HG.out V1 (Below.refl _ _)
      have H3 := Lib.hid (h3V.on bV)
      have BV := Lib.hid bV
      have HV1 := Lib.hid hV1
      have HQ := Lib.hid hQ
      have JQ := Lib.hid jQ
      have HM := Lib.hid hmem
      have H30 := Lib.hid h3
      have hcnt := counts_any (w := V1) (t := t) (ca := ca) (ia := ia) (ka := ka) (cc := cc) (ic := ic) (kc := kc)
      clear hcell h3 h3V hwV ht hV1 hQ jQ bV hb hbl hmem
      go_upto_region 8 with fail
      rw [← HV1.out, HQ.out]
      clear c0 c1 c2 c3 c4
      have HTB : Hid (tabB t = (cntB t && nameB t.nm && elB t)) := Lib.hid rfl
      cases z1 : cntB t with
      | false =>
        rw [z1] at hcnt
        have HE := Lib.hid (HNO.out (by rw [HTB.out, z1]; rfl))
        clear z1
        go_wp2_with (go_at_call 44; refine hcnt.mono ?_; rintro e w1 ⟨rfl, b1⟩; refine Hid.out ?_)
        refine Lib.hid ?_
        have HB1 := Lib.hid b1
        clear hcnt b1
        go_wp2
        go_ret
        exact ⟨by rw [HE.out]; rfl, bgo HBW.out (bgo HB.out (bgo BV.out HB1.out))⟩
      | true =>
        rw [z1] at hcnt
        have HF := Lib.hid (tab_few z1)
        have Z1 := Lib.hid z1
        clear z1
        go_wp2_with (go_at_call 44; refine hcnt.mono ?_; rintro e w1 ⟨rfl, b1⟩; refine Hid.out ?_)
        refine Lib.hid ?_
        have HB1 := Lib.hid b1
        obtain ⟨x0, x1, x2, x3, x4⟩ := HG.out w1 b1
        have hname := name_any (w := w1) t.nm
        have hel := elements_any (H3.out.on b1) HF.out.1 HF.out.2.1
        clear hcnt b1 g0 g1 g2 g3 g4
        cases z2 : nameB t.nm with
        | false =>
          rw [z2] at hname
          have HE := Lib.hid (HNO.out (by rw [HTB.out, z2]; simp))
          clear z2 hel
          go_wp2_with (go_at_call 45; refine hname.mono ?_; rintro e w2 ⟨rfl, rfl⟩; refine Hid.out ?_)
          refine Lib.hid ?_
          clear hname
          go_wp2
          go_ret
          exact ⟨by rw [HE.out]; rfl, bgo HBW.out (bgo HB.out (bgo BV.out HB1.out))⟩
        | true =>
          rw [z2] at hname
          have Z2 := Lib.hid z2
          clear z2
          cases z3 : elB t with
          | false =>
            rw [z3] at hel
            have HE := Lib.hid (HNO.out (by rw [HTB.out, z3]; simp))
            clear z3
            go_wp2_with (first | (go_at_call 45; refine hname.mono ?_; rintro e w2 ⟨rfl, rfl⟩) | (go_at_call 46; refine hel.mono ?_; rintro e w3 ⟨rfl, b3⟩; refine Hid.out ?_))
            refine Lib.hid ?_
            have HB3 := Lib.hid b3
            clear hname hel b3
            go_wp2
            go_ret
            exact ⟨by rw [HE.out]; rfl, bgo HBW.out (bgo HB.out (bgo BV.out (bgo HB1.out HB3.out)))⟩
          | true =>
            rw [z3] at hel
            have HOK : Hid (tabB t = true) := by rw [HTB.out, Z1.out, Z2.out, z3]; exact Lib.hid rfl
            clear z3
            go_wp2_with (first | (go_at_call 45; refine hname.mono ?_; rintro e w2 ⟨rfl, rfl⟩) | (go_at_call 46; refine hel.mono ?_; rintro e w3 ⟨rfl, b3⟩; refine Hid.out ?_))
            refine Lib.hid ?_
            have b13 := bgo HB1.out b3
            have bVw := bgo BV.out b13
            obtain ⟨y0, y1, y2, y3, y4⟩ := HG.out w3 b13
            have hBs : W.heap.size ≤ w3.heap.size := Nat.le_trans HB.out.size bVw.size
            obtain ⟨nad2, ncap2, w4, hrun, r1, r2, r3⟩ := push_name (own_below HO.out bVw) hBs t.nm (by have := H6.out; have := HLN.out.1; omega)
            rw [HLN.out.1] at hrun r1
            have oI : w4.ownsRow W.heap.size 3 1 (.slice iad N icap) (idsS (s.tabs.take i)).length ((idsS (s.tabs.take i)).flatMap inL) := keep_rowB (own_below HO2.out bVw) r3 (fun k hk cs tg => by
              obtain ⟨cs2, t2⟩ := own_tag (own_below HO.out bVw) k hk
              rw [t2] at tg
              simp only [Option.some.injEq, Obj.cells.injEq] at tg
              exact absurd tg.2.1 (by decide))
            have jQ4 : w4.heap[Q]? = some (.cells (tbA t (.slice ca t.cols.length cc) (.slice ia t.ixs.length ic) (.slice ka t.fks.length kc)) 54 (0, 0)) := by
              rw [r3.block Q (Nat.lt_of_lt_of_le (blk_lt JQ.out) b13.size) (fun hk => ?_), b13.block Q (blk_lt JQ.out)]
              · exact JQ.out
              · obtain ⟨cs2, t2⟩ := own_tag (own_below HO.out bVw) Q hk
                rw [b13.block Q (blk_lt JQ.out), JQ.out] at t2
                simp only [Option.some.injEq, Obj.cells.injEq] at t2
                exact absurd t2.2.1 (by decide)
            have h3w : Three w4 t (.slice ca t.cols.length cc) (.slice ia t.ixs.length ic) (.slice ka t.fks.length kc) := by
              have hWw4 : Below w.heap.size w w4 := by
                have q1 := bgo HBW.out HB.out
                have q2 := bgo q1 bVw
                exact q2.trans (r2.mono HBW.out.size)
              exact H30.out.on hWw4
            have hids := idsOf_any h3w HF.out.1
            have u0 : w4.cell? ⟨Q, 0, none⟩ = some (.int .i64 t.id) := cell_blk jQ4 0
            have u1 : w4.cell? ⟨Q, 1, none⟩ = some (.string t.nm) := cell_blk jQ4 1
            have u2 : w4.cell? ⟨Q, 2, none⟩ = some (.slice ca t.cols.length cc) := cell_blk jQ4 2
            have u3 : w4.cell? ⟨Q, 3, none⟩ = some (.slice ia t.ixs.length ic) := cell_blk jQ4 3
            have u4 : w4.cell? ⟨Q, 4, none⟩ = some (.slice ka t.fks.length kc) := cell_blk jQ4 4
            have BW4 := Lib.hid (HB.out.trans ((bVw.mono HB.out.size).trans r2))
            have OI := Lib.hid oI
            have R1 := Lib.hid r1
            clear hname hel b3 b13 bVw hBs r1 r2 r3 oI jQ4 h3w x0 x1 x2 x3 x4
            go_upto_region 11 with (at_builtin; refine wpl_run2 _ _ rfl (by simp [Act.eval]) (by simp [Act.eval]) hrun ?_)
            clear y0 y1 y2 y3 y4
            go_wp2_with (go_at_call 47; refine hids.mono ?_; rintro e w5 ⟨ad5, n5, cap5, rfl, hn5, o5, b5⟩; have HN5 := Lib.hid hn5; clear hn5; refine Hid.out ?_)
            refine Lib.hid ?_
            obtain ⟨ad6, cap6, w6, hrun6, r61, r62, r63⟩ := app_ids (own_below OI.out b5) (Nat.le_trans BW4.out.size b5.size) o5 HN5.out (by
              have := HLN.out.2
              have := HF.out.2.2
              omega)
            rw [HLN.out.2.1] at hrun6 r61
            have oN : w6.ownsRow W.heap.size 9 1 (.slice nad2 (i + 1) ncap2) ((s.tabs.take i).map Tb.nm ++ [t.nm]).length (((s.tabs.take i).map Tb.nm ++ [t.nm]).flatMap stL) := keep_rowB (own_below R1.out b5) r63 (fun k hk cs tg => by
              obtain ⟨cs2, t2⟩ := own_tag (own_below OI.out b5) k hk
              rw [t2] at tg
              simp only [Option.some.injEq, Obj.cells.injEq] at tg
              exact absurd tg.2.1 (by decide))
            have ON := Lib.hid oN
            have R61 := Lib.hid r61
            have B6 := Lib.hid (BW4.out.trans ((b5.mono BW4.out.size).trans r62))
            have HIS : Hid (idsS (s.tabs.take i) ++ idsT t = idsS (s.tabs.take (i + 1))) := by
              rw [HT.out]
              unfold idsS
              rw [List.flatMap_append, List.flatMap_singleton]
              exact Lib.hid rfl
            have HMN : Hid ((s.tabs.take i).map Tb.nm ++ [t.nm] = (s.tabs.take (i + 1)).map Tb.nm) := by
              rw [HT.out, List.map_append]
              exact Lib.hid rfl
            have HNX : Hid (∀ y ∈ s.tabs.take (i + 1), tabB y = true) := fun y hy => by
              rw [HT.out] at hy
              rcases List.mem_append.1 hy with q | q
              · exact HN.out y q
              · rw [List.mem_singleton.1 q]
                exact HOK.out
            clear hids o5 b5 r61 r62 r63 oN
            go_wp2_with (at_builtin; refine wpl_run2 _ _ rfl (by simp [Act.eval]) (by simp [Act.eval]) hrun6 ?_)
            go_roundw
            case rel => exact ⟨i + 1, hlt, by go_num, HNX.out, by rw [← HMN.out]; exact ON.out, by rw [← HIS.out]; exact R61.out, B6.out⟩
            case measure => simp [intOf]; omega
    · have k1 : ¬ (i : Int) < s.tabs.length := by omega
      obtain rfl : i = s.tabs.length := by omega
      have ho := HO.out
      have ho2 := HO2.out
      have hno := HN.out
      have hN2 := HLN.out.2.1
      rw [List.take_length] at ho ho2 hno hN2
      have hall : s.tabs.all tabB = true := List.all_eq_true.2 hno
      have hk1 : ∀ t ∈ s.tabs, 1 ≤ t.cols.length := fun t ht => by
        have := hno t ht
        unfold tabB at this
        simp only [Bool.and_eq_true] at this
        exact (tab_few this.1.1).2.1
      have hcn : ∀ t ∈ s.tabs, nameB t.nm = true := fun t ht => by
        have := hno t ht
        unfold tabB at this
        simp only [Bool.and_eq_true] at this
        exact this.1.2
      have e0 : ∀ X, Below W.heap.size W X → X.cell? ⟨Y0, 1, none⟩ = some (.int .i64 s.last) ∧ X.cell? ⟨Y0, 2, none⟩ = some (.slice ta s.tabs.length tc) := fun X hX => ⟨cell_on hX (cell_blk J0.out 1), cell_on hX (cell_blk J0.out 2)⟩
      have hLI := Lr.own inL_len ho2
      have hLN := Lr.own stL_len ho
      rw [hN2] at ho2
      have hc1 := findN_any (w := V) (f := 49) (cs := #[.pointer (some ⟨Y0, 0, none⟩)]) (p := fun x => !(decide (1 ≤ x) && decide (x ≤ s.last))) hLI goes49 (fun X hX B q x _ _ hp => id_f hp (e0 X (hb.trans (hX.mono hb.size))).1)
      have HC2 : Hid (∀ X, Below V.heap.size V X → Calls Try.prog 50 #[.slice iad N icap] X fun e w' => e = .returned (.bool (decide (idsS s.tabs).Nodup)) ∧ Below X.heap.size X w') := fun X hX => unlikeN_any (hLI.on inE_held hX) (fun x hx => by
        unfold idsS at hx
        obtain ⟨t, ht, hx⟩ := List.mem_flatMap.1 hx
        exact HI.out t ht x hx)
      have HC3 : Hid (∀ X, Below V.heap.size V X → Calls Try.prog 51 #[.slice nad s.tabs.length ncap] X fun e w' => e = .returned (.bool (decide (s.tabs.map Tb.nm).Nodup)) ∧ Below X.heap.size X w') := fun X hX => unlikeS_any (hLN.on stE_held hX) (fun x hx => by
        obtain ⟨t, ht, rfl⟩ := List.mem_map.1 hx
        have := nameB_sz (hcn t ht)
        unfold okS maxLen
        omega)
      have HC4 : Hid (∀ X, Below V.heap.size V X → X.cell? ⟨Y0, 2, none⟩ = some (.slice ta s.tabs.length tc) ∧ Calls Try.prog 52 #[.slice ta s.tabs.length tc, .func (.func 53) #[] #[.pointer (some ⟨Y0, 0, none⟩)]] X fun e w' => e = .returned (.int .i64 (fidx (fun x => !linkB s.tabs x) s.tabs)) ∧ Below X.heap.size X w') := fun X hX => by
        have q1 := hb.trans (hX.mono hb.size)
        have q2 := bgo HBW.out q1
        exact ⟨(e0 X q1).2, findT_any (w := X) (f := 53) (p := fun x => !linkB s.tabs x) (HL.out.on tbE_held q2) goes53 (fun X' hX' B q x _ _ hp => link_f hp ((HL.out.on tbE_held q2).on tbE_held hX') (e0 X' (q1.trans (hX'.mono q1.size))).2 hk1)⟩
      have n1 := fidx_any (fun x : Int => !(decide (1 ≤ x) && decide (x ≤ s.last))) (idsS s.tabs)
      have n4 := fidx_neg (fun x : Tb => !linkB s.tabs x) s.tabs
      simp only [Bool.not_not] at n4
      obtain ⟨i1, hi1⟩ : ∃ i1, fidx (fun x : Int => !(decide (1 ≤ x) && decide (x ≤ s.last))) (idsS s.tabs) = i1 := ⟨_, rfl⟩
      obtain ⟨i4, hi4⟩ : ∃ i4, fidx (fun x : Tb => !linkB s.tabs x) s.tabs = i4 := ⟨_, rfl⟩
      obtain ⟨r1, hr1⟩ : ∃ r1, (idsS s.tabs).any (fun x => !(decide (1 ≤ x) && decide (x ≤ s.last))) = r1 := ⟨_, rfl⟩
      obtain ⟨r2, hr2⟩ : ∃ r2, decide (idsS s.tabs).Nodup = r2 := ⟨_, rfl⟩
      obtain ⟨r3, hr3⟩ : ∃ r3, decide (s.tabs.map Tb.nm).Nodup = r3 := ⟨_, rfl⟩
      obtain ⟨r4, hr4⟩ : ∃ r4, s.tabs.all (fun x => linkB s.tabs x) = r4 := ⟨_, rfl⟩
      have HRR : Hid (rightS s = (!r1 && r2 && r3 && r4)) := Lib.hid (by
        rw [HR2.out, hall, hr2, hr3, show s.tabs.all (linkB s.tabs) = r4 from hr4, ← hr1, List.not_any_eq_all_not]
        simp only [Bool.not_not, Bool.true_and])
      rw [hi1] at hc1 n1
      rw [hi4] at HC4 n4
      rw [hr1] at n1
      rw [hr2] at HC2
      rw [hr3] at HC3
      rw [hr4] at n4
      have BE := Lib.hid (bgo HBW.out hb)
      clear ho ho2 hno hN2 hall hk1 hcn e0 hLI hLN hi1 hi4 hr1 hr2 hr3 hr4 hb
      go_upto_region 14 with (go_at_call 48; refine hc1.mono ?_; rintro e w1 ⟨rfl, b1⟩; refine Hid.out ?_)
      refine Lib.hid ?_
      have hc2 := HC2.out w1 b1
      have HB1 := Lib.hid b1
      clear hc1 b1
      cases r1 with
      | true =>
        have z1 := of_decide_eq_true n1
        clear n1
        go_wp2
        go_ret
        exact ⟨by rw [HRR.out]; simp, bgo BE.out HB1.out⟩
      | false =>
        have z1 := of_decide_eq_false n1
        clear n1
        cases r2 with
        | false =>
          go_wp2_with (go_at_call 50; refine hc2.mono ?_; rintro e w2 ⟨rfl, b2⟩; refine Hid.out ?_)
          refine Lib.hid ?_
          have HB2 := Lib.hid b2
          clear hc2 b2
          go_wp2
          go_ret
          exact ⟨by rw [HRR.out]; simp, bgo BE.out (bgo HB1.out HB2.out)⟩
        | true =>
          go_wp2_with (go_at_call 50; refine hc2.mono ?_; rintro e w2 ⟨rfl, b2⟩; refine Hid.out ?_)
          refine Lib.hid ?_
          have HB2 := Lib.hid (bgo HB1.out b2)
          have hc3 := HC3.out w2 (bgo HB1.out b2)
          clear hc2 b2
          cases r3 with
          | false =>
            go_wp2_with (go_at_call 51; refine hc3.mono ?_; rintro e w3 ⟨rfl, b3⟩; refine Hid.out ?_)
            refine Lib.hid ?_
            have HB3 := Lib.hid b3
            clear hc3 b3
            go_wp2
            go_ret
            exact ⟨by rw [HRR.out]; simp, bgo BE.out (bgo HB2.out HB3.out)⟩
          | true =>
            go_wp2_with (go_at_call 51; refine hc3.mono ?_; rintro e w3 ⟨rfl, b3⟩; refine Hid.out ?_)
            refine Lib.hid ?_
            have HB3 := Lib.hid (bgo HB2.out b3)
            obtain ⟨e4, hc4⟩ := HC4.out w3 (bgo HB2.out b3)
            clear hc3 b3
            have HN4 := Lib.hid n4
            clear n4
            go_wp2_with (go_at_call 52; refine hc4.mono ?_; rintro e w4 ⟨rfl, b4⟩; refine Hid.out ?_)
            refine Lib.hid ?_
            have HB4 := Lib.hid b4
            clear hc4 b4
            go_wp2
            go_ret
            exact ⟨by rw [HRR.out, ← HN4.out]; simp, bgo BE.out (bgo HB3.out HB4.out)⟩
end
end Go.Proofs.Ytkfnphhoebknnaa
