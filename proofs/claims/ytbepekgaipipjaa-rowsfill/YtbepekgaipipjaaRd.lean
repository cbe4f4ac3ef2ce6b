/- Spans: Table, Index, Equal; the document's Under; Key. -/
import Derived.Test.YtbepekgaipipjaaRc
namespace Go.Proofs.Ytbepekgaipipjaa
open Go.RowKit

/-- The span under a key. -/
abbrev spV (l : List UInt8) : Value := .agg #[.string (bs l), .string (bs l ++ ⟨#[255]⟩)]
abbrev spA (l : List UInt8) : Array Value := #[.string (bs l), .string (bs l ++ ⟨#[255]⟩)]
theorem size28 : (Try.prog.info? 28).map (·.size) = some 2 := by kernel_rfl
theorem st_row {X : World} {Y : Nat} {t : TypeId} {cs us : Array Value} (j : X.heap[Y]? = some (.cells cs t (0, 0))) (hl : us.size = cs.size) (hi : (Try.prog.info? t).map (·.size) = some us.size) (h1 : us.all (·.oneCell') = true) : ∃ X', (Instr.storeAt t (.pointer (some ⟨Y, 0, none⟩)) (.agg us)).run Try.prog X = .ok () X' ∧ X'.heap[Y]? = some (.cells us t (0, 0)) ∧ Fr X X' (fun k => k = Y) := by
  obtain ⟨X', e, j', f⟩ := sets_row j us hl
  exact ⟨X', by rw [e]; exact store_row j hl hi h1, j', f⟩
theorem under_bs {L : List V} (hf : Fits L) (w : World) : Calls Try.prog 41 #[.string (bs (encS L))] w fun e w' => e = .returned (spV (encS L)) ∧ Below w.heap.size w w' :=
  under_any (bs (encS L)) w (by rw [bs_size]; have := encS_len hf; omega)
set_option maxHeartbeats 4000000 in
set_option maxRecDepth 100000 in
theorem table_any {id : Int} (hid : Fit id) (w : World) : Calls Try.prog 15 #[.int .i64 id] w fun e w' => e = .returned (spV (encS [nv 0, nv id])) ∧ Below w.heap.size w w' := by
  have hfit : Fits [nv 0, nv id] := fits22 (fit_small (by decide) (by decide)) hid
  obtain ⟨W, hW⟩ : ∃ W, W = w.alloc (.cells #[.string ⟨#[]⟩, .string ⟨#[]⟩] 28) := ⟨_, rfl⟩
  have hbW : Below w.heap.size w W := by rw [hW]; exact bnew _ _
  obtain ⟨Y, hY⟩ : ∃ Y, w.heap.size = Y := ⟨_, rfl⟩
  have j0 : W.heap[Y]? = some (.cells #[.string ⟨#[]⟩, .string ⟨#[]⟩] 28 (0, 0)) := by rw [hW, ← hY]; exact heap_alloc_new w _
  have HB := Lib.hid hbW
  have HJ := Lib.hid j0
  have HW := Lib.hid hW
  have HY := Lib.hid hY
  clear hW hbW j0 hY
  go_enter Try.func15, Try.ntmps15
  go_upto_region 1 with fail
  rw [← HW.out, HY.out]
  go_wp2_with (go_at_call 39; refine (number_any _ _).mono ?_; rintro e w1 ⟨rfl, b1⟩; refine Hid.out ?_)
  refine Lib.hid ?_
  have HB1 := Lib.hid (HB.out.trans (b1.mono HB.out.size))
  have HJ1 := Lib.hid ((b1.block Y (blk_lt HJ.out)).trans HJ.out)
  clear HB HJ b1
  go_wp2_with (go_at_call 39; refine (number_any _ _).mono ?_; rintro e w2 ⟨rfl, b2⟩; refine Hid.out ?_)
  refine Lib.hid ?_
  have HB2 := Lib.hid (HB1.out.trans (b2.mono HB1.out.size))
  have HJ2 := Lib.hid ((b2.block Y (blk_lt HJ1.out)).trans HJ1.out)
  clear HB1 HJ1 b2
  go_wp2_with (go_at_call 38; refine (key_any [nv 0, nv id] _ 2 _ (li_new _ _) hfit).mono ?_; rintro e w3 ⟨rfl, b3⟩; refine Hid.out ?_)
  refine Lib.hid ?_
  have HB3 := Lib.hid ((HB2.out.alloc HB2.out.size _).trans (b3.mono (HB2.out.alloc HB2.out.size _).size))
  have HJ3 := Lib.hid ((b3.block Y (Nat.lt_of_lt_of_le (blk_lt HJ2.out) (bnew w2 _).size)).trans (((bnew w2 _).block Y (blk_lt HJ2.out)).trans HJ2.out))
  clear HB2 HJ2 b3
  go_wp2_with (go_at_call 41; refine (under_bs hfit _).mono ?_; rintro e w4 ⟨rfl, b4⟩; refine Hid.out ?_)
  refine Lib.hid ?_
  have HB4 := Lib.hid (HB3.out.trans (b4.mono HB3.out.size))
  obtain ⟨X', hst, j', f'⟩ := st_row ((b4.block Y (blk_lt HJ3.out)).trans HJ3.out) (us := spA (encS [nv 0, nv id])) rfl size28 (by simp [Value.oneCell'])
  have HE := Lib.hid (And.intro j' f')
  clear HB3 HJ3 b4 j' f'
  go_wp2_with (refine wpl_store _ _ rfl (by simp [Act.eval]) (by simp [Act.eval]) hst ?_)
  refine bodyPost_ret (results_one rfl rfl (load_var HE.out.1 Try.underlying28 rfl size28)) rfl ?_
  exact ⟨rfl, HB4.out.trans (HE.out.2.toBelow (fun k hk q => by have := HY.out; omega) HB4.out.size)⟩
set_option maxHeartbeats 4000000 in
set_option maxRecDepth 100000 in
theorem index_any {id : Int} (hid : Fit id) (w : World) : Calls Try.prog 18 #[.int .i64 id] w fun e w' => e = .returned (spV (encS [nv 1, nv id])) ∧ Below w.heap.size w w' := by
  have hfit : Fits [nv 1, nv id] := fits22 (fit_small (by decide) (by decide)) hid
  obtain ⟨W, hW⟩ : ∃ W, W = w.alloc (.cells #[.string ⟨#[]⟩, .string ⟨#[]⟩] 28) := ⟨_, rfl⟩
  have hbW : Below w.heap.size w W := by rw [hW]; exact bnew _ _
  obtain ⟨Y, hY⟩ : ∃ Y, w.heap.size = Y := ⟨_, rfl⟩
  have j0 : W.heap[Y]? = some (.cells #[.string ⟨#[]⟩, .string ⟨#[]⟩] 28 (0, 0)) := by rw [hW, ← hY]; exact heap_alloc_new w _
  have HB := Lib.hid hbW
  have HJ := Lib.hid j0
  have HW := Lib.hid hW
  have HY := Lib.hid hY
  clear hW hbW j0 hY
  go_enter Try.func18, Try.ntmps18
  go_upto_region 1 with fail
  rw [← HW.out, HY.out]
  go_wp2_with (go_at_call 39; refine (number_any _ _).mono ?_; rintro e w1 ⟨rfl, b1⟩; refine Hid.out ?_)
  refine Lib.hid ?_
  have HB1 := Lib.hid (HB.out.trans (b1.mono HB.out.size))
  have HJ1 := Lib.hid ((b1.block Y (blk_lt HJ.out)).trans HJ.out)
  clear HB HJ b1
  go_wp2_with (go_at_call 39; refine (number_any _ _).mono ?_; rintro e w2 ⟨rfl, b2⟩; refine Hid.out ?_)
  refine Lib.hid ?_
  have HB2 := Lib.hid (HB1.out.trans (b2.mono HB1.out.size))
  have HJ2 := Lib.hid ((b2.block Y (blk_lt HJ1.out)).trans HJ1.out)
  clear HB1 HJ1 b2
  go_wp2_with (go_at_call 38; refine (key_any [nv 1, nv id] _ 2 _ (li_new _ _) hfit).mono ?_; rintro e w3 ⟨rfl, b3⟩; refine Hid.out ?_)
  refine Lib.hid ?_
  have HB3 := Lib.hid ((HB2.out.alloc HB2.out.size _).trans (b3.mono (HB2.out.alloc HB2.out.size _).size))
  have HJ3 := Lib.hid ((b3.block Y (Nat.lt_of_lt_of_le (blk_lt HJ2.out) (bnew w2 _).size)).trans (((bnew w2 _).block Y (blk_lt HJ2.out)).trans HJ2.out))
  clear HB2 HJ2 b3
  go_wp2_with (go_at_call 41; refine (under_bs hfit _).mono ?_; rintro e w4 ⟨rfl, b4⟩; refine Hid.out ?_)
  refine Lib.hid ?_
  have HB4 := Lib.hid (HB3.out.trans (b4.mono HB3.out.size))
  obtain ⟨X', hst, j', f'⟩ := st_row ((b4.block Y (blk_lt HJ3.out)).trans HJ3.out) (us := spA (encS [nv 1, nv id])) rfl size28 (by simp [Value.oneCell'])
  have HE := Lib.hid (And.intro j' f')
  clear HB3 HJ3 b4 j' f'
  go_wp2_with (refine wpl_store _ _ rfl (by simp [Act.eval]) (by simp [Act.eval]) hst ?_)
  refine bodyPost_ret (results_one rfl rfl (load_var HE.out.1 Try.underlying28 rfl size28)) rfl ?_
  exact ⟨rfl, HB4.out.trans (HE.out.2.toBelow (fun k hk q => by have := HY.out; omega) HB4.out.size)⟩
set_option maxHeartbeats 4000000 in
set_option maxRecDepth 100000 in
theorem equal_any {id : Int} {v : V} (hid : Fit id) (hv : Fit v.n) (w : World) : Calls Try.prog 19 #[.int .i64 id, vlV v] w fun e w' => e = .returned (spV (encS [nv 1, nv id, v])) ∧ Below w.heap.size w w' := by
  have hfit : Fits [nv 1, nv id, v] := fits3 (fit_small (by decide) (by decide)) hid hv
  obtain ⟨W, hW⟩ : ∃ W, W = (w.alloc (.cells #[.int .i64 v.k, .int .i64 v.n, .string v.s] 23)).alloc (.cells #[.string ⟨#[]⟩, .string ⟨#[]⟩] 28) := ⟨_, rfl⟩
  have hbW : Below w.heap.size w W := by rw [hW]; exact ((Below.refl _ w).alloc (Nat.le_refl _) _).alloc (by simp) _
  obtain ⟨Y0, hY0⟩ : ∃ Y, w.heap.size = Y := ⟨_, rfl⟩
  obtain ⟨Y1, hY1⟩ : ∃ Y, Y0 + 1 = Y := ⟨_, rfl⟩
  have c00 : W.cell? ⟨Y0, 0, none⟩ = some (.int .i64 v.k) := by rw [hW, ← hY0]; simp
  have c01 : W.cell? ⟨Y0, 1, none⟩ = some (.int .i64 v.n) := by rw [hW, ← hY0]; simp
  have c02 : W.cell? ⟨Y0, 2, none⟩ = some (.string v.s) := by rw [hW, ← hY0]; simp
  have j0 : W.heap[Y1]? = some (.cells #[.string ⟨#[]⟩, .string ⟨#[]⟩] 28 (0, 0)) := by
    have := heap_alloc_new (w.alloc (.cells #[.int .i64 v.k, .int .i64 v.n, .string v.s] 23)) (.cells #[.string ⟨#[]⟩, .string ⟨#[]⟩] 28)
    simp only [World.size_alloc] at this
    rw [hW, ← hY1, ← hY0]
    exact this
  have HYY : Hid (w.heap.size ≤ Y1) := Lib.hid (by omega)
  have HB := Lib.hid hbW
  have HJ := Lib.hid j0
  have HW := Lib.hid hW
  have HY0 := Lib.hid hY0
  have HY1 := Lib.hid hY1
  clear hW hbW j0 hY0 hY1
  go_enter Try.func19, Try.ntmps19
  go_upto_region 1 with fail
  rw [← HW.out, HY0.out, HY1.out]
  refine wp_region_last (fun X9 => Below W.heap.size W X9) (fun X9 X8 => Below X9.heap.size X9 X8) [
    fun v9 _ => v9 = vlV (nv 1),
    fun v9 _ => v9 = .int .i64 id,
    fun v9 _ => v9 = vlV (nv id),
    fun v9 _ => v9 = vlV v,
    fun v9 X9 => ∃ F9, v9 = .slice (some ⟨F9, 0, none⟩) 3 3 ∧ Li [nv 1, nv id, v] (some ⟨F9, 0, none⟩) X9,
    fun v9 _ => v9 = .string (bs (encS [nv 1, nv id, v])),
    fun v9 _ => v9 = spV (encS [nv 1, nv id, v])]
    (fun _ X9 => X9.heap[Y1]? = some (.cells (spA (encS [nv 1, nv id, v])) 28 (0, 0)) ∧ Below w.heap.size w X9) rfl (by kernel_rfl) (by kernel_rfl) (by kernel_rfl) (by kernel_rfl) ?st ?g0 ?os ?la ?en
  case st => exact ⟨fun _ _ _ _ h => h, fun _ _ _ _ h => h, fun _ _ _ _ h => h, fun _ _ _ _ h => h, (fun _ _ _ hb h => by obtain ⟨F9, e9, h9⟩ := h; exact ⟨F9, e9, h9.on hb⟩), fun _ _ _ _ h => h, fun _ _ _ _ h => h, trivial⟩
  case g0 => exact ⟨rfl, rfl, rfl, Nat.le_refl _, fun _ _ => rfl⟩
  case os =>
    refine ⟨?_, ?_, ?_, ?_, ?_, ?_, ?_, trivial⟩
    · refine ⟨rfl, fun ρ X9 hg ho hc hf hr => ?_⟩
      refine Runs.goes 39 #[.int .i64 1] (op_call1 hf (by go_simp) (hc _)) ((number_any _ X9).mono ?_)
      rintro e7 w7 ⟨rfl, b7⟩
      exact ⟨_, rfl, bgo hg b7, b7, rfl⟩
    · exact ⟨rfl, fun ρ X9 hg ho hc hf hr => Runs.val _ (op_move (show ρ (.tmp 0) = .int .i64 id from ho 0 rfl)) ⟨hg, Below.refl _ _, rfl⟩⟩
    · refine ⟨rfl, fun ρ X9 hg ho hc hf hr => ?_⟩
      refine Runs.goes 39 #[.int .i64 id] (op_call1 hf (by go_simp) (show ρ (.tmp 6) = .int .i64 id from hr 1 6 rfl rfl)) ((number_any _ X9).mono ?_)
      rintro e7 w7 ⟨rfl, b7⟩
      exact ⟨_, rfl, bgo hg b7, b7, rfl⟩
    · exact ⟨rfl, fun ρ X9 hg ho hc hf hr => Runs.val _ (op_load23 (show ρ (.tmp 3) = .pointer (some ⟨Y0, 0, none⟩) from ho 3 rfl) (cell_on hg c00) (cell_on hg c01) (cell_on hg c02)) ⟨hg, Below.refl _ _, rfl⟩⟩
    · refine ⟨rfl, fun ρ X9 hg ho hc hf hr => ?_⟩
      exact Runs.val _ (op_s32_3 (show ρ (.tmp 5) = vlV (nv 1) from hr 0 5 rfl rfl) (show ρ (.tmp 7) = vlV (nv id) from hr 2 7 rfl rfl) (show ρ (.tmp 8) = vlV v from hr 3 8 rfl rfl)) ⟨bgo hg (bnew _ _), bnew _ _, _, rfl, li_new _ _⟩
    · refine ⟨rfl, fun ρ X9 hg ho hc hf hr => ?_⟩
      obtain ⟨F9, e9, h9⟩ : ∃ F9, ρ (.tmp 9) = .slice (some ⟨F9, 0, none⟩) 3 3 ∧ Li [nv 1, nv id, v] (some ⟨F9, 0, none⟩) X9 := hr 4 9 rfl rfl
      refine Runs.goes 38 #[.slice (some ⟨F9, 0, none⟩) 3 3] (op_call1 hf (by go_simp) e9) ((key_any [nv 1, nv id, v] _ 3 X9 h9 hfit).mono ?_)
      rintro e7 w7 ⟨rfl, b7⟩
      exact ⟨_, rfl, bgo hg b7, b7, rfl⟩
    · refine ⟨rfl, fun ρ X9 hg ho hc hf hr => ?_⟩
      refine Runs.goes 41 #[.string (bs (encS [nv 1, nv id, v]))] (op_call1 hf (by go_simp) (show ρ (.tmp 10) = .string (bs (encS [nv 1, nv id, v])) from hr 5 10 rfl rfl)) ((under_bs hfit X9).mono ?_)
      rintro e7 w7 ⟨rfl, b7⟩
      exact ⟨_, rfl, bgo hg b7, b7, rfl⟩
  case la =>
    refine ⟨rfl, fun ρ X9 hg ho hc hf hr => ?_⟩
    obtain ⟨X', hst, j', f'⟩ := st_row ((hg.block Y1 (blk_lt HJ.out)).trans HJ.out) (us := spA (encS [nv 1, nv id, v])) rfl size28 (by simp [Value.oneCell'])
    exact Runs.skips (op_storeAt (show ρ (.tmp 4) = .pointer (some ⟨Y1, 0, none⟩) from ho 4 rfl) (show ρ (.tmp 11) = spV (encS [nv 1, nv id, v]) from hr 6 11 (by decide) rfl) hst) ⟨j', (HB.out.trans (hg.mono HB.out.size)).trans (f'.toBelow (fun k hk q => by have := HYY.out; omega) (HB.out.trans (hg.mono HB.out.size)).size)⟩
  case en =>
    intro a9 w6 wb v9 hF hs9 hd9 ho9 hv9 hr9
    obtain ⟨x9, hx, hxt⟩ := act_put hs9 hd9 ho9
    change a9 = putAll _ x9 [5, 6, 7, 8, 9, 10, 11] at hx
    simp only [putAll, Act.put, List.setIfInBounds_toArray, List.set_cons_zero, List.set_cons_succ] at hx
    subst hx
    clear hs9 hd9 ho9 hv9 hr9 hxt
    generalize x9 5 = z5, x9 6 = z6, x9 7 = z7, x9 8 = z8, x9 9 = z9, x9 10 = z10, x9 11 = z11
    have HF := Lib.hid hF
    clear hF
    go_wp2
    refine bodyPost_ret (results_one rfl rfl (load_var HF.out.1 Try.underlying28 rfl size28)) rfl ?_
    exact ⟨rfl, HF.out.2⟩
set_option maxHeartbeats 4000000 in
set_option maxRecDepth 100000 in
theorem refUnder_any (L : List V) (ad : Option Addr) (cap : Nat) (w : World) (hL : Li L ad w) (hf : Fits L) : Calls Try.prog 16 #[.slice ad L.length cap] w fun e w' => e = .returned (spV (encS L)) ∧ Below w.heap.size w w' := by
  have henc : ∀ X, Below w.heap.size w X → Calls Try.prog 40 #[.slice ad L.length cap] X fun e w' => e = .returned (.tuple #[.string (bs (encS L)), .int .i64 (encE L)]) ∧ Below X.heap.size X w' := fun X hX => refEnc_any L ad cap X (hL.on hX) hf
  have hz : (bs (encS L)).size ≤ 1100 := by rw [bs_size]; exact encS_len hf
  obtain ⟨S, hS⟩ : ∃ S, bs (encS L) = S := ⟨_, rfl⟩
  obtain ⟨E, hE⟩ : ∃ E, encE L = E := ⟨_, rfl⟩
  obtain ⟨n, hn⟩ : ∃ n, L.length = n := ⟨_, rfl⟩
  unfold spV
  rw [hS] at hz ⊢
  rw [hn] at henc ⊢
  simp only [hS, hE] at henc
  have HE := Lib.hid henc
  clear henc hS hE hn hL
  obtain ⟨W, hW⟩ : ∃ W, W = w.alloc (.cells #[.string ⟨#[]⟩, .string ⟨#[]⟩] 28) := ⟨_, rfl⟩
  have hbW : Below w.heap.size w W := by rw [hW]; exact bnew _ _
  obtain ⟨Y, hY⟩ : ∃ Y, w.heap.size = Y := ⟨_, rfl⟩
  have j0 : W.heap[Y]? = some (.cells #[.string ⟨#[]⟩, .string ⟨#[]⟩] 28 (0, 0)) := by rw [hW, ← hY]; exact heap_alloc_new w _
  have HB := Lib.hid hbW
  have HJ := Lib.hid j0
  have HW := Lib.hid hW
  have HY := Lib.hid hY
  clear hW hbW j0 hY
  go_enter Try.func16, Try.ntmps16
  go_upto_region 1 with fail
  rw [← HW.out, HY.out]
  have hcall := HE.out W HB.out
  go_wp2_with (go_at_call 40; refine hcall.mono ?_; rintro e w4 ⟨rfl, b4⟩; refine Hid.out ?_)
  refine Lib.hid ?_
  have HB4 := Lib.hid (HB.out.trans (b4.mono HB.out.size))
  obtain ⟨X', hst, j', f'⟩ := st_row ((b4.block Y (blk_lt HJ.out)).trans HJ.out) (us := #[.string S, .string (S ++ ⟨#[255]⟩)]) rfl size28 (by simp [Value.oneCell'])
  have HR := Lib.hid (And.intro j' f')
  clear hcall HJ b4 j' f'
  go_wp2_with (refine wpl_store _ _ rfl (by simp [Act.eval]) (by simp [Act.eval]) hst ?_)
  refine bodyPost_ret (results_one rfl rfl (load_var HR.out.1 Try.underlying28 rfl size28)) rfl ?_
  exact ⟨rfl, HB4.out.trans (HR.out.2.toBelow (fun k hk q => by have := HY.out; omega) HB4.out.size)⟩
end Go.Proofs.Ytbepekgaipipjaa
