/- The document's Changes: where nothing is written. -/
import Derived.Test.YtbepekgaipipjaaRr
import Derived.Test.YtbepekgaipipjaaRi
namespace Go.Proofs.Ytbepekgaipipjaa
open Go.RowKit
set_option maxHeartbeats 8000000 in
set_option maxRecDepth 100000 in
theorem rchanges_none {w : World} {t : Tb} {old new : List Ce} {cv iv kv ov nv' : Value} (h3 : Three w t cv iv kv) (hO : Lr ceE 4 w old ov) (hN : Lr ceE 4 w new nv') (hfN : ∀ c ∈ new, FitC c) (hln : new.length ≤ 1000) (hno : chgB t old new = false) : Calls Try.prog 29 #[tbV t cv iv kv, ov, nv'] w fun e w' => ∃ v, e = .returned v ∧ Lr wrE 3 w' (changesP t old new) v ∧ Below w.heap.size w w' := by
  have HP := Lib.hid (chg_none hno)
  have htb : (t.cols.length : Int) ≤ 9223372036854775807 := by obtain ⟨_, _, _, q⟩ := h3.c.len0; exact q
  obtain ⟨ca, cc, hcv, _⟩ := h3.c.len0
  obtain ⟨ia, ic, hiv, _⟩ := h3.i.len0
  obtain ⟨ka, kc, hkv, _⟩ := h3.k.len0
  subst hcv hiv hkv
  obtain ⟨oa, oc, rfl, hox⟩ := hO.len0
  obtain ⟨na, nc, rfl, hnx⟩ := hN.len0
  obtain ⟨W, hW⟩ : ∃ W, W = w.alloc (.cells #[.int .i64 t.id, .string t.nm, .slice ca t.cols.length cc, .slice ia t.ixs.length ic, .slice ka t.fks.length kc] 55) := ⟨_, rfl⟩
  obtain ⟨Y0, hY0⟩ : ∃ Y, w.heap.size = Y := ⟨_, rfl⟩
  have hbW : Below w.heap.size w W := by rw [hW]; exact bnew _ _
  have j0 : W.heap[Y0]? = some (.cells #[.int .i64 t.id, .string t.nm, .slice ca t.cols.length cc, .slice ia t.ixs.length ic, .slice ka t.fks.length kc] 55 (0, 0)) := by rw [hW, ← hY0]; exact heap_alloc_new w _
  have hput := refPut_any W (hN.on ceE_held hbW) hfN hln
  have HW := Lib.hid hW
  have HY0 := Lib.hid hY0
  have HB := Lib.hid hbW
  have HJ := Lib.hid j0
  have HO := Lib.hid hO
  have HN := Lib.hid hN
  have H3 := Lib.hid h3
  have hcase : t.cols.length = 0 ∨ (0 < t.cols.length ∧ old.length = 0 ∧ new.length = 0) ∨ (0 < t.cols.length ∧ 0 < old.length ∧ okC 0 new = false) ∨ (0 < t.cols.length ∧ old.length = 0 ∧ 0 < new.length ∧ okC 0 new = false) := by
    rcases Nat.eq_zero_or_pos t.cols.length with h2 | h2
    · exact .inl h2
    · cases h1 : okC 0 new with
      | false =>
        rcases Nat.eq_zero_or_pos old.length with h3 | h3
        · rcases Nat.eq_zero_or_pos new.length with h4 | h4
          · exact .inr (.inl ⟨h2, h3, h4⟩)
          · exact .inr (.inr (.inr ⟨h2, h3, h4, rfl⟩))
        · exact .inr (.inr (.inl ⟨h2, h3, rfl⟩))
      | true =>
        rcases Nat.eq_zero_or_pos old.length with h3 | h3
        · rcases Nat.eq_zero_or_pos new.length with h4 | h4
          · exact .inr (.inl ⟨h2, h3, h4⟩)
          · rw [chgB_some h1 h2 (.inr h4)] at hno; cases hno
        · rw [chgB_some h1 h2 (.inl h3)] at hno; cases hno
  obtain ⟨on, hon⟩ : ∃ on, old.length = on := ⟨_, rfl⟩
  obtain ⟨nn, hnn⟩ : ∃ nn, new.length = nn := ⟨_, rfl⟩
  rw [hon] at hcase hox ⊢
  rw [hnn] at hcase hput hnx ⊢
  have d2 : W.cell? ⟨Y0, 2, none⟩ = some (.slice ca t.cols.length cc) := cell_blk HJ.out 2
  clear hW hY0 hbW j0 hO hN h3 hno hon hnn hfN hln
  rcases hcase with h2 | ⟨h2, h4, h5⟩ | ⟨h2, h4, h1⟩ | ⟨h2, h4, h5, h1⟩
  · have hc0 : (t.cols.length : Int) = 0 := by omega
    clear h2 hput
    go_enter Try.func29, Try.ntmps29
    go_upto_region 1 with fail
    rw [← HW.out, HY0.out]
    go_wp2
    go_ret
    exact ⟨_, rfl, by rw [HP.out]; exact lr_nil, HB.out⟩
  · have hc0 : ((t.cols.length : Int) == 0) = false := by rw [beq_eq_false_iff_ne]; omega
    subst h4 h5
    clear h2 hput
    go_enter Try.func29, Try.ntmps29
    go_upto_region 1 with fail
    rw [← HW.out, HY0.out]
    go_wp2
    go_ret
    exact ⟨_, rfl, by rw [HP.out]; exact lr_nil, HB.out⟩
  · have hc0 : ((t.cols.length : Int) == 0) = false := by rw [beq_eq_false_iff_ne]; omega
    rw [(putS_no h1).1, (putS_no h1).2] at hput
    have ho0 : ((on : Int) == 0) = false := by rw [beq_eq_false_iff_ne]; omega
    clear h1 h2 h4
    go_enter Try.func29, Try.ntmps29
    go_upto_region 1 with fail
    rw [← HW.out, HY0.out]
    go_wp2_with (go_at_call 23; refine hput.mono ?_; rintro e w4 ⟨rfl, b4⟩; refine Hid.out ?_)
    refine Lib.hid ?_
    have HB4 := Lib.hid (HB.out.trans (b4.mono HB.out.size))
    clear hput b4 d2
    go_wp2
    go_ret
    exact ⟨_, rfl, by rw [HP.out]; exact lr_nil, HB4.out⟩
  · have hc0 : ((t.cols.length : Int) == 0) = false := by rw [beq_eq_false_iff_ne]; omega
    rw [(putS_no h1).1, (putS_no h1).2] at hput
    subst h4
    have hn0 : ((nn : Int) == 0) = false := by rw [beq_eq_false_iff_ne]; omega
    clear h1 h2 h5
    go_enter Try.func29, Try.ntmps29
    go_upto_region 1 with fail
    rw [← HW.out, HY0.out]
    go_wp2_with (go_at_call 23; refine hput.mono ?_; rintro e w4 ⟨rfl, b4⟩; refine Hid.out ?_)
    refine Lib.hid ?_
    have HB4 := Lib.hid (HB.out.trans (b4.mono HB.out.size))
    clear hput b4 d2
    go_wp2
    go_ret
    exact ⟨_, rfl, by rw [HP.out]; exact lr_nil, HB4.out⟩
end Go.Proofs.Ytbepekgaipipjaa
