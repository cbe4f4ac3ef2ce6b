/- Changes, whole; the law's table and cells. -/
import Derived.Test.YtbepekgaipipjaaRq
import Derived.Test.YtbepekgaipipjaaRp
namespace Go.Proofs.Ytbepekgaipipjaa
open Go.RowKit
structure ChgIn (t : Tb) (old new : List Ce) : Prop where
  o : ∀ c ∈ old, FitC c
  n : ∀ c ∈ new, FitC c
  id : Fit t.id
  ix : ∀ x ∈ t.ixs, Fit x.id
  ln : new.length ≤ 1000
  li : t.ixs.length ≤ 400
theorem changes_any {w : World} {t : Tb} {old new : List Ce} {cv iv kv ov nv' : Value} (h3 : Three w t cv iv kv) (hO : Lr ceE 4 w old ov) (hN : Lr ceE 4 w new nv') (hI : ChgIn t old new) : Calls Try.prog 28 #[tbV t cv iv kv, ov, nv'] w fun e w' => ∃ v, e = .returned v ∧ Lr wrE 3 w' (changesP t old new) v ∧ Below w.heap.size w w' := by
  cases hb : chgB t old new with
  | false => exact changes_none h3 hO hN hI.n hI.ln hb
  | true =>
    have h0 := hb
    unfold chgB at h0
    simp only [Bool.and_eq_true, Bool.not_eq_true', List.isEmpty_eq_false_iff, Bool.and_eq_false_iff] at h0
    obtain ⟨h1, h2, h4⟩ := h0
    have hcp : 0 < t.cols.length := List.length_pos_iff.2 h2
    rcases Nat.eq_zero_or_pos old.length with ho | ho
    · rcases Nat.eq_zero_or_pos new.length with hn | hn
      · rcases h4 with h4 | h4
        · exact absurd (List.eq_nil_of_length_eq_zero ho) h4
        · exact absurd (List.eq_nil_of_length_eq_zero hn) h4
      · exact changes_ft h3 hO hN hI.o hI.n hI.id hI.ix hI.ln hI.li h1 hcp ho hn
    · rcases Nat.eq_zero_or_pos new.length with hn | hn
      · exact changes_tf h3 hO hN hI.o hI.n hI.id hI.ix hI.ln hI.li h1 hcp ho hn
      · exact changes_tt h3 hO hN hI.o hI.n hI.id hI.ix hI.ln hI.li h1 hcp ho hn
/-- The law's table and row. -/
def colA' : Col := ⟨2, ⟨#[97]⟩, 1, 3, nullV0⟩
def colB' : Col := ⟨3, ⟨#[98]⟩, 1, 3, nullV0⟩
def tab (st : Int) : Tb := ⟨1, ⟨#[116]⟩, [colA', colB'], if st = 0 then [] else [⟨4, ⟨#[105]⟩, 3, false, st⟩], []⟩
def rowC (k v : Int) : List Ce := [⟨2, nv k⟩, ⟨3, nv v⟩]
theorem tab_in (st : Int) {old new : List Ce} (ho : ∀ c ∈ old, FitC c) (hn : ∀ c ∈ new, FitC c) (hl : new.length ≤ 1000) : ChgIn (tab st) old new := by
  refine ⟨ho, hn, (fit_small (by decide) (by decide) : Fit 1), ?_, hl, ?_⟩
  · intro x hx
    unfold tab at hx
    simp only at hx
    split at hx
    · cases hx
    · obtain rfl := List.mem_singleton.1 hx
      exact (fit_small (by decide) (by decide) : Fit 4)
  · unfold tab
    simp only
    split <;> simp
theorem rowC_fit {k v : Int} (hk : Fit k) (hv : Fit v) : ∀ c ∈ rowC k v, FitC c := by
  intro c hc
  simp [rowC] at hc
  rcases hc with rfl | rfl
  · exact ⟨(fit_small (by decide) (by decide) : Fit 2), hk⟩
  · exact ⟨(fit_small (by decide) (by decide) : Fit 3), hv⟩
theorem own_fresh (w : World) (cs : Array Value) (t : TypeId) (c n : Nat) (hs : cs.size = n * c) (hn : n ≤ maxLen) : (w.alloc (.cells cs t)).ownsRow w.heap.size t c (.slice (some ⟨w.heap.size, 0, none⟩) n n) n cs.toList :=
  ⟨by simpa using hs, .inr ⟨w.heap.size, n, cs, rfl, Nat.le_refl _, heap_alloc_new w _, Nat.le_refl _, hn, hs, by rw [← hs]; exact List.take_of_length_le (by simp)⟩⟩
set_option maxHeartbeats 2000000 in
set_option maxRecDepth 100000 in
theorem cells_any (k v : Int) (w : World) : Calls Try.prog 37 #[.int .i64 k, .int .i64 v] w fun e w' => ∃ u, e = .returned u ∧ Lr ceE 4 w' (rowC k v) u ∧ Below w.heap.size w w' := by
  have ho := own_fresh w #[.int .i64 2, .int .i64 1, .int .i64 k, .string ⟨#[]⟩, .int .i64 3, .int .i64 1, .int .i64 v, .string ⟨#[]⟩] 89 4 2 rfl (by unfold maxLen; decide)
  have hl : Lr ceE 4 (w.alloc (.cells #[.int .i64 2, .int .i64 1, .int .i64 k, .string ⟨#[]⟩, .int .i64 3, .int .i64 1, .int .i64 v, .string ⟨#[]⟩] 89)) (rowC k v) (.slice (some ⟨w.heap.size, 0, none⟩) 2 2) := Lr.own (f := ceL) (L := rowC k v) ceL_len ho
  have HL := Lib.hid hl
  clear ho hl
  go_enter Try.func37, Try.ntmps37
  go_wp2
  go_ret
  exact ⟨_, rfl, HL.out, bnew _ _⟩
/-- A list of elements of another type stays where one block is written. -/
theorem lr_fr {α : Type} {f : α → List Value} {c : Nat} {Y : Nat} {w w' : World} {L : List α} {ad : Option Addr} {n m : Nat} (h : Lr (fun _ x cs => cs = f x) c w L (.slice ad n m)) (hf : Fr w w' (fun k => k = Y)) (hne : ad.map (·.block) ≠ some Y) : Lr (fun _ x cs => cs = f x) c w' L (.slice ad n m) := by
  obtain ⟨ad', cap', e, h0, h1, h2, h3⟩ := h
  cases e
  refine ⟨ad, m, rfl, h0, h1, h2, fun i hi => ?_⟩
  obtain ⟨b, o, cs, rfl, hb, hE, hc, hh⟩ := h3 i hi
  refine ⟨b, o, cs, rfl, Nat.lt_of_lt_of_le hb hf.size, hE, hc, fun j' u hu => ?_⟩
  have := hf.block b hb (fun q => hne (by simp [q]))
  have h4 := hh j' u hu
  unfold World.cell? at h4 ⊢
  rw [this]
  exact h4
abbrev tbZ : Array Value := #[.int .i64 0, .string ⟨#[]⟩, .slice none 0 0, .slice none 0 0, .slice none 0 0]
set_option maxHeartbeats 4000000 in
set_option maxRecDepth 100000 in
theorem tab_no (w : World) : Calls Try.prog 36 #[.int .i64 0] w fun e w' => ∃ cv iv kv, e = .returned (tbV (tab 0) cv iv kv) ∧ Three w' (tab 0) cv iv kv ∧ Below w.heap.size w w' := by
  obtain ⟨W, hW⟩ : ∃ W, W = w.alloc (.cells tbZ 55) := ⟨_, rfl⟩
  obtain ⟨W1, hW1⟩ : ∃ W1, W1 = W.alloc (.cells #[.int .i64 2, .string ⟨#[97]⟩, .int .i64 1, .int .i64 3, .int .i64 0, .int .i64 0, .string ⟨#[]⟩, .int .i64 3, .string ⟨#[98]⟩, .int .i64 1, .int .i64 3, .int .i64 0, .int .i64 0, .string ⟨#[]⟩] 99) := ⟨_, rfl⟩
  obtain ⟨Y0, hY0⟩ : ∃ Y, w.heap.size = Y := ⟨_, rfl⟩
  obtain ⟨Y1, hY1⟩ : ∃ Y, Y0 + 1 = Y := ⟨_, rfl⟩
  obtain ⟨Y2, hY2⟩ : ∃ Y, Y1 + 1 = Y := ⟨_, rfl⟩
  obtain ⟨Y3, hY3⟩ : ∃ Y, Y2 + 1 = Y := ⟨_, rfl⟩
  have sW : W.heap.size = Y1 := by rw [hW]; simp; omega
  have sW1 : W1.heap.size = Y2 := by rw [hW1]; simp; omega
  have hown : W1.ownsRow W.heap.size 99 7 (.slice (some ⟨W.heap.size, 0, none⟩) 2 2) 2 #[.int .i64 2, .string ⟨#[97]⟩, .int .i64 1, .int .i64 3, .int .i64 0, .int .i64 0, .string ⟨#[]⟩, .int .i64 3, .string ⟨#[98]⟩, .int .i64 1, .int .i64 3, .int .i64 0, .int .i64 0, .string ⟨#[]⟩].toList := by rw [hW1]; exact own_fresh W _ 99 7 2 rfl (by unfold maxLen; decide)
  rw [sW] at hown
  have lc : Lr colE 7 W1 (tab 0).cols (.slice (some ⟨Y1, 0, none⟩) 2 2) := Lr.own (f := colL) (L := (tab 0).cols) colL_len hown
  obtain ⟨W2, hW2⟩ : ∃ W2, W2 = W1.alloc (.cells #[.int .i64 1, .string ⟨#[116]⟩, .slice (some ⟨Y1, 0, none⟩) 2 2, .slice none 0 0, .slice none 0 0] 55) := ⟨_, rfl⟩
  have b0 : Below w.heap.size w W := by rw [hW]; exact bnew _ _
  have b1 : Below W.heap.size W W1 := by rw [hW1]; exact bnew _ _
  have b2 : Below W1.heap.size W1 W2 := by rw [hW2]; exact bnew _ _
  have j0 : W2.heap[Y0]? = some (.cells tbZ 55 (0, 0)) := by
    have : W.heap[Y0]? = some (.cells tbZ 55 (0, 0)) := by rw [hW, ← hY0]; exact heap_alloc_new w _
    have := (b1.block Y0 (blk_lt this)).trans this
    exact (b2.block Y0 (blk_lt this)).trans this
  have j2 : W2.heap[Y2]? = some (.cells #[.int .i64 1, .string ⟨#[116]⟩, .slice (some ⟨Y1, 0, none⟩) 2 2, .slice none 0 0, .slice none 0 0] 55 (0, 0)) := by rw [hW2, ← sW1]; exact heap_alloc_new W1 _
  have HB := Lib.hid (bgo (bgo b0 b1) b2)
  have HL := Lib.hid (lc.on colE_held b2)
  have HJ0 := Lib.hid j0
  have HJ2 := Lib.hid j2
  have HW := Lib.hid hW
  have HW1 := Lib.hid hW1
  have HW2 := Lib.hid hW2
  have HS := Lib.hid (And.intro sW hY2)
  have HY3N : Hid (Y3 ≠ Y2 ∧ Y3 ≠ Y0) := Lib.hid ⟨by omega, by omega⟩
  have HYS : Hid (w.heap.size ≤ Y0 ∧ Y0 ≠ Y2 ∧ w.heap.size ≤ Y2 ∧ Y1 ≠ Y2 ∧ Y0 ≠ Y1) := Lib.hid ⟨by omega, by omega, by omega, by omega, by omega⟩
  have HY0 := Lib.hid hY0
  have sW2 : W2.heap.size = Y3 := by rw [hW2]; simp; omega
  have HS2 := Lib.hid sW2
  clear hW hW1 hW2 hY0 hY1 hY2 hY3 sW sW1 hown lc b0 b1 b2 j0 j2 sW2
  go_enter Try.func36, Try.ntmps36
  go_upto_region 1 with fail
  rw [← HW.out, HY0.out]
  go_upto_region 2 with fail
  rw [← HW1.out, HS.out.1, HS.out.2, ← HW2.out]
  have d0 : W2.cell? ⟨Y2, 0, none⟩ = some (.int .i64 1) := cell_blk HJ2.out 0
  have d1 : W2.cell? ⟨Y2, 1, none⟩ = some (.string ⟨#[116]⟩) := cell_blk HJ2.out 1
  have d2 : W2.cell? ⟨Y2, 2, none⟩ = some (.slice (some ⟨Y1, 0, none⟩) 2 2) := cell_blk HJ2.out 2
  have d3 : W2.cell? ⟨Y2, 3, none⟩ = some (.slice none 0 0) := cell_blk HJ2.out 3
  have d4 : W2.cell? ⟨Y2, 4, none⟩ = some (.slice none 0 0) := cell_blk HJ2.out 4
  obtain ⟨X', hst, j', f'⟩ := st_row HJ0.out (us := #[.int .i64 1, .string ⟨#[116]⟩, .slice (some ⟨Y1, 0, none⟩) 2 2, .slice none 0 0, .slice none 0 0]) rfl size55 (by simp [Value.oneCell'])
  have HR := Lib.hid (And.intro j' f')
  clear j' f'
  go_wp2_with (refine wpl_store _ _ rfl (by simp [Act.eval]) (by simp [Act.eval]) hst ?_)
  refine bodyPost_ret (results_one rfl rfl (load_var HR.out.1 Try.underlying55 rfl size55)) rfl ?_
  exact ⟨_, _, _, rfl, ⟨lr_fr HL.out HR.out.2 (by have := HYS.out; simp; omega), lr_nil, lr_nil⟩, HB.out.trans (HR.out.2.toBelow (fun k hk q => by have := HYS.out; omega) HB.out.size)⟩
set_option maxHeartbeats 4000000 in
set_option maxRecDepth 100000 in
theorem tab_yes (st : Int) (h : st ≠ 0) (w : World) : Calls Try.prog 36 #[.int .i64 st] w fun e w' => ∃ cv iv kv, e = .returned (tbV (tab st) cv iv kv) ∧ Three w' (tab st) cv iv kv ∧ Below w.heap.size w w' := by
  obtain ⟨W, hW⟩ : ∃ W, W = w.alloc (.cells tbZ 55) := ⟨_, rfl⟩
  obtain ⟨W1, hW1⟩ : ∃ W1, W1 = W.alloc (.cells #[.int .i64 2, .string ⟨#[97]⟩, .int .i64 1, .int .i64 3, .int .i64 0, .int .i64 0, .string ⟨#[]⟩, .int .i64 3, .string ⟨#[98]⟩, .int .i64 1, .int .i64 3, .int .i64 0, .int .i64 0, .string ⟨#[]⟩] 99) := ⟨_, rfl⟩
  obtain ⟨Y0, hY0⟩ : ∃ Y, w.heap.size = Y := ⟨_, rfl⟩
  obtain ⟨Y1, hY1⟩ : ∃ Y, Y0 + 1 = Y := ⟨_, rfl⟩
  obtain ⟨Y2, hY2⟩ : ∃ Y, Y1 + 1 = Y := ⟨_, rfl⟩
  obtain ⟨Y3, hY3⟩ : ∃ Y, Y2 + 1 = Y := ⟨_, rfl⟩
  have sW : W.heap.size = Y1 := by rw [hW]; simp; omega
  have sW1 : W1.heap.size = Y2 := by rw [hW1]; simp; omega
  have hown : W1.ownsRow W.heap.size 99 7 (.slice (some ⟨W.heap.size, 0, none⟩) 2 2) 2 #[.int .i64 2, .string ⟨#[97]⟩, .int .i64 1, .int .i64 3, .int .i64 0, .int .i64 0, .string ⟨#[]⟩, .int .i64 3, .string ⟨#[98]⟩, .int .i64 1, .int .i64 3, .int .i64 0, .int .i64 0, .string ⟨#[]⟩].toList := by rw [hW1]; exact own_fresh W _ 99 7 2 rfl (by unfold maxLen; decide)
  rw [sW] at hown
  have lc : Lr colE 7 W1 (tab st).cols (.slice (some ⟨Y1, 0, none⟩) 2 2) := Lr.own (f := colL) (L := (tab st).cols) colL_len hown
  obtain ⟨W2, hW2⟩ : ∃ W2, W2 = W1.alloc (.cells #[.int .i64 1, .string ⟨#[116]⟩, .slice (some ⟨Y1, 0, none⟩) 2 2, .slice none 0 0, .slice none 0 0] 55) := ⟨_, rfl⟩
  have b0 : Below w.heap.size w W := by rw [hW]; exact bnew _ _
  have b1 : Below W.heap.size W W1 := by rw [hW1]; exact bnew _ _
  have b2 : Below W1.heap.size W1 W2 := by rw [hW2]; exact bnew _ _
  have j0 : W2.heap[Y0]? = some (.cells tbZ 55 (0, 0)) := by
    have : W.heap[Y0]? = some (.cells tbZ 55 (0, 0)) := by rw [hW, ← hY0]; exact heap_alloc_new w _
    have := (b1.block Y0 (blk_lt this)).trans this
    exact (b2.block Y0 (blk_lt this)).trans this
  have j2 : W2.heap[Y2]? = some (.cells #[.int .i64 1, .string ⟨#[116]⟩, .slice (some ⟨Y1, 0, none⟩) 2 2, .slice none 0 0, .slice none 0 0] 55 (0, 0)) := by rw [hW2, ← sW1]; exact heap_alloc_new W1 _
  have HB := Lib.hid (bgo (bgo b0 b1) b2)
  have HL := Lib.hid (lc.on colE_held b2)
  have HJ0 := Lib.hid j0
  have HJ2 := Lib.hid j2
  have HW := Lib.hid hW
  have HW1 := Lib.hid hW1
  have HW2 := Lib.hid hW2
  have HS := Lib.hid (And.intro sW hY2)
  have HY3N : Hid (Y3 ≠ Y2 ∧ Y3 ≠ Y0) := Lib.hid ⟨by omega, by omega⟩
  have HYS : Hid (w.heap.size ≤ Y0 ∧ Y0 ≠ Y2 ∧ w.heap.size ≤ Y2 ∧ Y1 ≠ Y2 ∧ Y0 ≠ Y1) := Lib.hid ⟨by omega, by omega, by omega, by omega, by omega⟩
  have HY0 := Lib.hid hY0
  have sW2 : W2.heap.size = Y3 := by rw [hW2]; simp; omega
  have HS2 := Lib.hid sW2
  clear hW hW1 hW2 hY0 hY1 hY2 hY3 sW sW1 hown lc b0 b1 b2 j0 j2 sW2
  go_enter Try.func36, Try.ntmps36
  go_upto_region 1 with fail
  rw [← HW.out, HY0.out]
  go_upto_region 2 with fail
  rw [← HW1.out, HS.out.1, HS.out.2, ← HW2.out]
  have hne : (st == 0) = false := by rw [beq_eq_false_iff_ne]; exact h
  have HTAB : Hid ((tab st).ixs = [⟨4, ⟨#[105]⟩, 3, false, st⟩]) := Lib.hid (by unfold tab; simp only; rw [if_neg h])
  obtain ⟨W3, hW3⟩ : ∃ W3, W3 = W2.alloc (.cells #[.int .i64 4, .string ⟨#[105]⟩, .int .i64 3, .bool false, .int .i64 st] 96) := ⟨_, rfl⟩
  have b3 : Below W2.heap.size W2 W3 := by rw [hW3]; exact bnew _ _
  have ho3 : W3.ownsRow W2.heap.size 96 5 (.slice (some ⟨W2.heap.size, 0, none⟩) 1 1) 1 #[.int .i64 4, .string ⟨#[105]⟩, .int .i64 3, .bool false, .int .i64 st].toList := by rw [hW3]; exact own_fresh W2 _ 96 5 1 rfl (by unfold maxLen; decide)
  rw [HS2.out] at ho3
  have li : Lr ixE 5 W3 (tab st).ixs (.slice (some ⟨Y3, 0, none⟩) 1 1) := by
    rw [HTAB.out]
    exact Lr.own (f := ixL) (L := [⟨4, ⟨#[105]⟩, 3, false, st⟩]) ixL_len ho3
  have j02 := (b3.block Y2 (blk_lt HJ2.out)).trans HJ2.out
  have j00 := (b3.block Y0 (blk_lt HJ0.out)).trans HJ0.out
  obtain ⟨W4, hW4⟩ : ∃ W4, W4 = W3.setCell ⟨Y2, 3, none⟩ (.slice (some ⟨Y3, 0, none⟩) 1 1) := ⟨_, rfl⟩
  have f4 : Fr W3 W4 (fun k => k = Y2) := by rw [hW4]; exact (Fr.refl W3 (fun k => k = Y2)).set (a := ⟨Y2, 3, none⟩) (.inl rfl) _
  have j4 : W4.heap[Y2]? = some (.cells #[.int .i64 1, .string ⟨#[116]⟩, .slice (some ⟨Y1, 0, none⟩) 2 2, .slice (some ⟨Y3, 0, none⟩) 1 1, .slice none 0 0] 55 (0, 0)) := by rw [hW4]; simpa using set_blk j02 (.slice (some ⟨Y3, 0, none⟩) 1 1) (i := 3)
  have j40 : W4.heap[Y0]? = some (.cells tbZ 55 (0, 0)) := (f4.block Y0 (blk_lt j00) (fun q => HYS.out.2.1 q)).trans j00
  have c3 : (W2.alloc (.cells #[.int .i64 4, .string ⟨#[105]⟩, .int .i64 3, .bool false, .int .i64 st] 96)).cell? ⟨Y2, 3, none⟩ = some (.slice none 0 0) := by rw [← hW3]; exact cell_blk j02 3
  have fz : (W2.alloc (.cells #[.int .i64 4, .string ⟨#[105]⟩, .int .i64 3, .bool false, .int .i64 st] 96)).frozen? ⟨Y2, 3, none⟩ = false := by rw [← hW3]; exact frozen_blk j02 3
  have d0 : W4.cell? ⟨Y2, 0, none⟩ = some (.int .i64 1) := cell_blk j4 0
  have d1 : W4.cell? ⟨Y2, 1, none⟩ = some (.string ⟨#[116]⟩) := cell_blk j4 1
  have d2 : W4.cell? ⟨Y2, 2, none⟩ = some (.slice (some ⟨Y1, 0, none⟩) 2 2) := cell_blk j4 2
  have d3 : W4.cell? ⟨Y2, 3, none⟩ = some (.slice (some ⟨Y3, 0, none⟩) 1 1) := cell_blk j4 3
  have d4 : W4.cell? ⟨Y2, 4, none⟩ = some (.slice none 0 0) := cell_blk j4 4
  obtain ⟨X', hst, j', f'⟩ := st_row j40 (us := #[.int .i64 1, .string ⟨#[116]⟩, .slice (some ⟨Y1, 0, none⟩) 2 2, .slice (some ⟨Y3, 0, none⟩) 1 1, .slice none 0 0]) rfl size55 (by simp [Value.oneCell'])
  have HR := Lib.hid (And.intro j' f')
  have HC : Hid (Lr colE 7 X' (tab st).cols (.slice (some ⟨Y1, 0, none⟩) 2 2)) := Lib.hid (lr_fr (lr_fr (HL.out.on colE_held b3) f4 (by have := HYS.out; have := HY3N.out; simp; omega)) f' (by have := HYS.out; have := HY3N.out; simp; omega))
  have HI : Hid (Lr ixE 5 X' (tab st).ixs (.slice (some ⟨Y3, 0, none⟩) 1 1)) := Lib.hid (lr_fr (lr_fr li f4 (by have := HYS.out; have := HY3N.out; simp; omega)) f' (by have := HYS.out; have := HY3N.out; simp; omega))
  have hb3 := bgo HB.out b3
  have HB4 : Hid (Below w.heap.size w X') := Lib.hid ((hb3.trans (f4.toBelow (fun k hk q => by have := HYS.out; omega) hb3.size)).trans (f'.toBelow (fun k hk q => by have := HYS.out; omega) (Nat.le_trans hb3.size f4.size)))
  have HW3 := Lib.hid hW3
  have HW4 := Lib.hid hW4
  clear j' f' hW3 b3 ho3 li j02 j00 hW4 f4 j4 j40 hb3 h
  go_upto_region 4 with fail
  rw [← HW3.out, HS2.out, ← HW4.out]
  clear c3 fz
  go_wp2_with (refine wpl_store _ _ rfl (by simp [Act.eval]) (by simp [Act.eval]) hst ?_)
  refine bodyPost_ret (results_one rfl rfl (load_var HR.out.1 Try.underlying55 rfl size55)) rfl ?_
  exact ⟨_, _, _, rfl, ⟨HC.out, HI.out, lr_nil⟩, HB4.out⟩
end Go.Proofs.Ytbepekgaipipjaa
