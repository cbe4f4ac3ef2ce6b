/- Changes: where nothing is written. -/
import Derived.Test.YtbepekgaipipjaaRm
namespace Go.Proofs.Ytbepekgaipipjaa
open Go.RowKit
theorem chg_none {t : Tb} {old new : List Ce} (h : chgB t old new = false) : changesP t old new = [] := by unfold changesP; rw [h]; rfl
theorem chgB_some {t : Tb} {old new : List Ce} (h1 : okC 0 new = true) (h2 : 0 < t.cols.length) (h3 : 0 < old.length ∨ 0 < new.length) : chgB t old new = true := by
  unfold chgB
  rw [h1]
  have e1 : t.cols.isEmpty = false := by cases h : t.cols with | nil => rw [h] at h2; simp at h2 | cons c r => rfl
  rw [e1]
  rcases h3 with h3 | h3
  · have : old.isEmpty = false := by cases h : old with | nil => rw [h] at h3; simp at h3 | cons c r => rfl
    rw [this]; rfl
  · have : new.isEmpty = false := by cases h : new with | nil => rw [h] at h3; simp at h3 | cons c r => rfl
    rw [this]; simp
set_option maxHeartbeats 8000000 in
set_option maxRecDepth 100000 in
theorem changes_none {w : World} {t : Tb} {old new : List Ce} {cv iv kv ov nv' : Value} (h3 : Three w t cv iv kv) (hO : Lr ceE 4 w old ov) (hN : Lr ceE 4 w new nv') (hfN : ∀ c ∈ new, FitC c) (hln : new.length ≤ 1000) (hno : chgB t old new = false) : Calls Try.prog 28 #[tbV t cv iv kv, ov, nv'] w fun e w' => ∃ v, e = .returned v ∧ Lr wrE 3 w' (changesP t old new) v ∧ Below w.heap.size w w' := by
  have HP := Lib.hid (chg_none hno)
  have htb : (t.cols.length : Int) ≤ 9223372036854775807 := by obtain ⟨_, _, _, q⟩ := h3.c.len0; exact q
  obtain ⟨ca, cc, hcv, _⟩ := h3.c.len0
  obtain ⟨ia, ic, hiv, _⟩ := h3.i.len0
  obtain ⟨ka, kc, hkv, _⟩ := h3.k.len0
  subst hcv hiv hkv
  obtain ⟨oa, oc, rfl, hox⟩ := hO.len0
  obtain ⟨na, nc, rfl, hnx⟩ := hN.len0
  obtain ⟨W, hW⟩ : ∃ W, W = w.alloc (.cells #[.int .i64 t.id, .string t.nm, .slice ca t.cols.length cc, .slice ia t.ixs.length ic, .slice ka t.fks.length kc] 55) := ⟨_, rfl⟩
  obtain ⟨Y0, hY0⟩ : ∃ Y, w.heap.size = Y := ⟨_, rfl⟩
  have hbW : Below w.heap.size w W := by rw [hW]; exact bnew _ _
  have j0 : W.heap[Y0]? = some (.cells #[.int .i64 t.id, .string t.nm, .slice ca t.cols.length cc, .slice ia t.ixs.length ic, .slice ka t.fks.length kc] 55 (0, 0)) := by rw [hW, ← hY0]; exact heap_alloc_new w _
  have hput := put_any W (hN.on ceE_held hbW) hfN hln
  have HW := Lib.hid hW
  have HY0 := Lib.hid hY0
  have HB := Lib.hid hbW
  have HJ := Lib.hid j0
  have HO := Lib.hid hO
  have HN := Lib.hid hN
  have H3 := Lib.hid h3
  have hcase : okC 0 new = false ∨ (okC 0 new = true ∧ t.cols.length = 0) ∨ (okC 0 new = true ∧ 0 < t.cols.length ∧ old.length = 0 ∧ new.length = 0) := by
    cases h1 : okC 0 new with
    | false => exact .inl rfl
    | true =>
      rcases Nat.eq_zero_or_pos t.cols.length with h2 | h2
      · exact .inr (.inl ⟨rfl, h2⟩)
      · refine .inr (.inr ⟨rfl, h2, ?_⟩)
        rcases Nat.eq_zero_or_pos old.length with h3 | h3
        · rcases Nat.eq_zero_or_pos new.length with h4 | h4
          · exact ⟨h3, h4⟩
          · rw [chgB_some h1 h2 (.inr h4)] at hno; cases hno
        · rw [chgB_some h1 h2 (.inl h3)] at hno; cases hno
  obtain ⟨on, hon⟩ : ∃ on, old.length = on := ⟨_, rfl⟩
  obtain ⟨nn, hnn⟩ : ∃ nn, new.length = nn := ⟨_, rfl⟩
  rw [hon] at hcase hox ⊢
  rw [hnn] at hcase hput hnx ⊢
  clear hW hY0 hbW j0 hO hN h3 hno hon hnn hfN hln
  rcases hcase with h1 | ⟨h1, h2⟩ | ⟨h1, h2, h4, h5⟩
  · rw [(putS_no h1).1, (putS_no h1).2] at hput
    clear h1
    go_enter Try.func28, Try.ntmps28
    go_upto_region 1 with fail
    rw [← HW.out, HY0.out]
    go_wp2_with (go_at_call 22; refine hput.mono ?_; rintro e w4 ⟨rfl, b4⟩; refine Hid.out ?_)
    refine Lib.hid ?_
    have HB4 := Lib.hid (HB.out.trans (b4.mono HB.out.size))
    have j4 := (b4.block Y0 (blk_lt HJ.out)).trans HJ.out
    have d2 : w4.cell? ⟨Y0, 2, none⟩ = some (.slice ca t.cols.length cc) := cell_blk j4 2
    clear hput b4 j4
    go_wp2
    go_ret
    exact ⟨_, rfl, by rw [HP.out]; exact lr_nil, HB4.out⟩
  · rw [(putS_ok h1).2] at hput
    have hc0 : (t.cols.length : Int) = 0 := by omega
    clear h1 h2
    go_enter Try.func28, Try.ntmps28
    go_upto_region 1 with fail
    rw [← HW.out, HY0.out]
    go_wp2_with (go_at_call 22; refine hput.mono ?_; rintro e w4 ⟨rfl, b4⟩; refine Hid.out ?_)
    refine Lib.hid ?_
    have HB4 := Lib.hid (HB.out.trans (b4.mono HB.out.size))
    have j4 := (b4.block Y0 (blk_lt HJ.out)).trans HJ.out
    have d2 : w4.cell? ⟨Y0, 2, none⟩ = some (.slice ca t.cols.length cc) := cell_blk j4 2
    clear hput b4 j4
    go_wp2
    go_ret
    exact ⟨_, rfl, by rw [HP.out]; exact lr_nil, HB4.out⟩
  · rw [(putS_ok h1).2] at hput
    have hc0 : ((t.cols.length : Int) == 0) = false := by rw [beq_eq_false_iff_ne]; omega
    subst h4 h5
    clear h1 h2
    go_enter Try.func28, Try.ntmps28
    go_upto_region 1 with fail
    rw [← HW.out, HY0.out]
    go_wp2_with (go_at_call 22; refine hput.mono ?_; rintro e w4 ⟨rfl, b4⟩; refine Hid.out ?_)
    refine Lib.hid ?_
    have HB4 := Lib.hid (HB.out.trans (b4.mono HB.out.size))
    have j4 := (b4.block Y0 (blk_lt HJ.out)).trans HJ.out
    have d2 : w4.cell? ⟨Y0, 2, none⟩ = some (.slice ca t.cols.length cc) := cell_blk j4 2
    clear hput b4 j4
    go_wp2
    go_ret
    exact ⟨_, rfl, by rw [HP.out]; exact lr_nil, HB4.out⟩
end Go.Proofs.Ytbepekgaipipjaa
