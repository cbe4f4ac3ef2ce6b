/- The walks of at, of Newest, of slices.Clone at versions. -/
import Derived.Test.YtcoaahlakkghhaaVf
namespace Go.Proofs.Ytcoaahlakkghhaa
open Go.RowKit

abbrev noT : ByteArray := ⟨#[]⟩
abbrev veV (v : Ve) : Value := .agg #[.int .i64 v.ts, .string v.val, .bool v.dead]
def tF (l : List Ve) (t : Int) (i : Nat) : Bool := match l[i]? with
  | some v => decide (t < v.ts)
  | none => true
def atV : Option Ve → Value
  | some v => .tuple #[veV v, .bool true]
  | none => .tuple #[.agg #[.int .i64 0, .string noT, .bool false], .bool false]
theorem tF_mono {l : List Ve} (h : l.Pairwise (fun a b => a.ts < b.ts)) (t : Int) : ∀ a b, a ≤ b → b < l.length → tF l t a = true → tF l t b = true := by
  intro a b hab hb ha
  unfold tF at *
  rw [List.getElem?_eq_getElem (by omega)] at ha ⊢
  simp only [decide_eq_true_eq] at ha ⊢
  by_cases e : a = b
  · subst e
    exact ha
  · have := List.pairwise_iff_getElem.1 h a b (by omega) hb (by omega)
    omega
theorem tF_tops {l : List Ve} {t : Int} {s : Nat} (hs : s ≤ l.length) (h1 : ∀ i, i < s → tF l t i = false) (h2 : ∀ i, s ≤ i → i < l.length → tF l t i = true) : tops l t = if s = 0 then none else l[s - 1]? := by
  unfold tops
  have e : l.filter (fun v => decide (v.ts ≤ t)) = l.take s := by
    have e0 : l = l.take s ++ l.drop s := (List.take_append_drop s l).symm
    rw [e0, List.filter_append, ← e0]
    have a1 : (l.take s).filter (fun v => decide (v.ts ≤ t)) = l.take s := by
      refine List.filter_eq_self.2 (fun v hv => ?_)
      obtain ⟨i, hi, e⟩ := List.getElem_of_mem hv
      rw [List.length_take] at hi
      rw [List.getElem_take] at e
      have := h1 i (by omega)
      unfold tF at this
      rw [List.getElem?_eq_getElem (by omega), e] at this
      simp only [decide_eq_false_iff_not] at this
      simp only [decide_eq_true_eq]
      omega
    have a2 : (l.drop s).filter (fun v => decide (v.ts ≤ t)) = [] := by
      refine List.filter_eq_nil_iff.2 (fun v hv => ?_)
      obtain ⟨i, hi, e⟩ := List.getElem_of_mem hv
      rw [List.length_drop] at hi
      rw [List.getElem_drop] at e
      have := h2 (s + i) (by omega) (by omega)
      unfold tF at this
      rw [List.getElem?_eq_getElem (by omega), e] at this
      simp only [decide_eq_true_eq] at this ⊢
      omega
    rw [a1, a2, List.append_nil]
  rw [e]
  by_cases z : s = 0
  · subst z
    simp
  · rw [if_neg z, List.getLast?_eq_getElem?, List.length_take, List.getElem?_take, if_pos (by omega)]
    congr 1
    omega
section
variable {w w' W V : World} {A : Nat} {S T : Nat → Prop} {G : List Gw} {rv : Value} {R : List Rw}
theorem at_f {l : List Ve} {v : Value} (hl : w.ownsRow 0 125 3 v l.length (veC l)) {Y Z : Nat} {t : Int} (hY : w.cell? ⟨Y, 0, none⟩ = some v) (hZ : w.cell? ⟨Z, 0, none⟩ = some (.int .i64 t)) {i : Nat} (hi : i < l.length) :
    Calls Try.prog 98 #[.int .i64 (i : Int), .pointer (some ⟨Y, 0, none⟩), .pointer (some ⟨Z, 0, none⟩)] w fun e w' => e = .returned (.bool (tF l t i)) ∧ ∃ m, w' = w.drewN m := by
  obtain ⟨g, cap, rfl, hc1, hc2, c0, c1, c2⟩ := ve_cells hl hi
  have hpf : tF l t i = decide (t < l[i].ts) := by unfold tF; rw [List.getElem?_eq_getElem hi]
  rw [hpf]
  obtain ⟨x, hx⟩ : ∃ x, l[i].ts = x := ⟨_, rfl⟩
  rw [hx] at c0 ⊢
  have hm : (cap : Int) ≤ 9223372036854775807 := by unfold maxLen at hc2; omega
  have i0 : (0 : Int) ≤ (i : Int) := by omega
  have i1 : (i : Int) < (l.length : Int) := by omega
  clear hl hpf hx c1 c2
  go_enter Try.func98, Try.ntmps98
  go_wp2
  go_quiet (fail)
  go_wp2
  go_ret
  exact ⟨by simp, _, rfl⟩
theorem below3 (w : World) (a b c : Obj) : Below w.heap.size w (((w.alloc a).alloc b).alloc c) := by
  have h := below2 w a b
  exact h.trans (((Below.refl _ ((w.alloc a).alloc b)).alloc (Nat.le_refl _) c).mono h.size)
set_option maxHeartbeats 2000000 in
set_option maxRecDepth 100000 in
theorem at_any {l : List Ve} {v : Value} (hl : w.ownsRow 0 125 3 v l.length (veC l)) (hr : l.Pairwise (fun a b => a.ts < b.ts)) (hz : l.length ≤ 900000) (t : Int) : Calls Try.prog 81 #[v, .int .i64 t] w fun e w' => e = .returned (atV (tops l t)) ∧ Below w.heap.size w w' := by
  obtain ⟨ad, cap, rfl⟩ := own_shape hl
  obtain ⟨W, hW⟩ : ∃ W, W = ((w.alloc (.cells #[.slice ad l.length cap] 127)).alloc (.cells #[.int .i64 t] 3)).alloc (.cells #[.int .i64 0, .string noT, .bool false] 125) := ⟨_, rfl⟩
  have hb : Below w.heap.size w W := by rw [hW]; exact below3 w _ _ _
  have jy : W.heap[w.heap.size]? = some (.cells #[.slice ad l.length cap] 127 (0, 0)) := by
    rw [hW, Below.heap_alloc _ _ _ (by simp; omega), Below.heap_alloc _ _ _ (by simp)]
    exact heap_alloc_new w _
  have jz : W.heap[w.heap.size + 1]? = some (.cells #[.int .i64 t] 3 (0, 0)) := by
    rw [hW, Below.heap_alloc _ _ _ (by simp)]
    have := heap_alloc_new (w.alloc (.cells #[.slice ad l.length cap] 127)) (.cells #[.int .i64 t] 3)
    simpa using this
  have jx : W.heap[w.heap.size + 1 + 1]? = some (.cells #[.int .i64 0, .string noT, .bool false] 125 (0, 0)) := by
    rw [hW]
    have := heap_alloc_new ((w.alloc (.cells #[.slice ad l.length cap] 127)).alloc (.cells #[.int .i64 t] 3)) (.cells #[.int .i64 0, .string noT, .bool false] 125)
    simpa using this
  have hl1 := own_below hl hb
  have hs := search_36 (w := W) (n := l.length) (p := tF l t) (c1 := .pointer (some ⟨w.heap.size, 0, none⟩)) (c2 := .pointer (some ⟨w.heap.size + 1, 0, none⟩)) hz (fun m i hi => by
    refine (at_f (own_below hl1 (below_draw (Below.refl _ W) m)) (cell_blk jy 0) (cell_blk jz 0) hi).mono ?_
    rintro e w' ⟨rfl, m', rfl⟩
    exact ⟨rfl, _, World.drewN_drewN ..⟩) (tF_mono hr t)
  obtain ⟨n, hn⟩ : ∃ n, w.heap.size = n := ⟨_, rfl⟩
  rw [hn] at jy jz jx hs
  have y0 : W.cell? ⟨n, 0, none⟩ = some (.slice ad l.length cap) := cell_blk jy 0
  have HW := Lib.hid hW
  have HB := Lib.hid hb
  have HN := Lib.hid hn
  have HL := Lib.hid hl1
  have HJX := Lib.hid jx
  have HJY := Lib.hid jy
  clear hW hb hn hl1 hl jy jz jx
  go_enter Try.func81, Try.ntmps81
  go_upto_region 1 with fail
  rw [← HW.out, HN.out]
  go_wp2_with fail
  refine hs.mono ?_
  rintro e w' ⟨s, rfl, h1, h2, h3, m, rfl⟩
  have htp := tF_tops h1 h2 h3
  have bm := below_draw (Below.refl W.heap.size W) m
  have jx1 : (W.drewN m).heap[n + 1 + 1]? = _ := (bm.block _ (blk_lt HJX.out)).trans HJX.out
  have jy1 : (W.drewN m).heap[n]? = _ := (bm.block _ (blk_lt HJY.out)).trans HJY.out
  have x0 : (W.drewN m).cell? ⟨n + 1 + 1, 0, none⟩ = some (.int .i64 0) := cell_blk jx1 0
  have x1 : (W.drewN m).cell? ⟨n + 1 + 1, 1, none⟩ = some (.string noT) := cell_blk jx1 1
  have x2 : (W.drewN m).cell? ⟨n + 1 + 1, 2, none⟩ = some (.bool false) := cell_blk jx1 2
  have z0 : (W.drewN m).frozen? ⟨n + 1 + 1, 0, none⟩ = false := frozen_blk jx1 0
  have z1 : (W.drewN m).frozen? ⟨n + 1 + 1, 1, none⟩ = false := frozen_blk jx1 1
  have z2 : (W.drewN m).frozen? ⟨n + 1 + 1, 2, none⟩ = false := frozen_blk jx1 2
  have y1 : (W.drewN m).cell? ⟨n, 0, none⟩ = some (.slice ad l.length cap) := cell_blk jy1 0
  have hbm : Below w.heap.size w (W.drewN m) := below_draw HB.out m
  have HBM := Lib.hid hbm
  have HL1 := Lib.hid (own_below HL.out bm)
  clear y0 h2 h3 hs HW HB jy1
  obtain ⟨V, hV⟩ : ∃ V, W.drewN m = V := ⟨_, rfl⟩
  rw [hV] at x0 x1 x2 z0 z1 z2 y1 HBM HL1 jx1 ⊢
  by_cases hs0 : s = 0
  · rw [if_pos hs0] at htp
    have HT := Lib.hid htp
    subst hs0
    clear htp bm hV hbm HJX HJY HL jx1
    go_wp2
    refine bodyPost_ret (v := .tuple #[.agg #[.int .i64 0, .string noT, .bool false], .bool false]) (by simp [results, Try.results81, go_sem, *]) rfl ?_
    rw [HT.out]
    refine ⟨rfl, ?_⟩
    have hf : Fr V (((V.setCell ⟨n + 1 + 1, 0, none⟩ (.int .i64 0)).setCell ⟨n + 1 + 1, 1, none⟩ (.string noT)).setCell ⟨n + 1 + 1, 2, none⟩ (.bool false)) (fun k => k = n + 1 + 1) := Fr.set (a := ⟨n + 1 + 1, 2, none⟩) (Fr.set (a := ⟨n + 1 + 1, 1, none⟩) (Fr.set (a := ⟨n + 1 + 1, 0, none⟩) (Fr.refl V (fun k => k = n + 1 + 1)) (Or.inl rfl) _) (Or.inl rfl) _) (Or.inl rfl) _
    exact HBM.out.trans (hf.toBelow (fun k hk e => by have e' : k = n + 1 + 1 := e; have := HN.out; omega) HBM.out.size)
  · rw [if_neg hs0, List.getElem?_eq_getElem (by omega)] at htp
    obtain ⟨g, cap', e, hc1, hc2, c0, c1, c2⟩ := ve_cells HL1.out (k := s - 1) (by omega)
    cases e
    obtain ⟨u, hu⟩ : ∃ u, (l[s - 1]'(by omega)) = u := ⟨_, rfl⟩
    rw [hu] at c0 c1 c2 htp
    obtain ⟨s', hs'⟩ : ∃ s', s = s' + 1 := ⟨s - 1, by omega⟩
    subst hs'
    rw [show s' + 1 - 1 = s' by omega] at c0 c1 c2
    have HT := Lib.hid htp
    have hm : (cap : Int) ≤ 9223372036854775807 := by unfold maxLen at hc2; omega
    have n0 : (0 : Int) ≤ (s' : Int) := by omega
    have n1 : (s' : Int) < (l.length : Int) := by omega
    have e1 : (((s' + 1 : Nat) : Int) - 1) = (s' : Int) := by omega
    clear htp bm hV hbm HJX HJY HL hu HL1
    go_wp2
    refine bodyPost_ret (v := .tuple #[veV u, .bool true]) (by simp [results, Try.results81, go_sem, *]) rfl ?_
    rw [HT.out]
    refine ⟨rfl, ?_⟩
    have hf : Fr V (((V.setCell ⟨n + 1 + 1, 0, none⟩ (.int .i64 u.ts)).setCell ⟨n + 1 + 1, 1, none⟩ (.string u.val)).setCell ⟨n + 1 + 1, 2, none⟩ (.bool u.dead)) (fun k => k = n + 1 + 1) := Fr.set (a := ⟨n + 1 + 1, 2, none⟩) (Fr.set (a := ⟨n + 1 + 1, 1, none⟩) (Fr.set (a := ⟨n + 1 + 1, 0, none⟩) (Fr.refl V (fun k => k = n + 1 + 1)) (Or.inl rfl) _) (Or.inl rfl) _) (Or.inl rfl) _
    exact HBM.out.trans (hf.toBelow (fun k hk e => by have e' : k = n + 1 + 1 := e; have := HN.out; omega) HBM.out.size)
end
end Go.Proofs.Ytcoaahlakkghhaa
