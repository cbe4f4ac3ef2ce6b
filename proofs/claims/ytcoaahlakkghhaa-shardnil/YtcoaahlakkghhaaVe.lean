/- The walks of place, find, newest and at. -/
import Derived.Test.YtcoaahlakkghhaaVd
import Derived.Deep.DeepCutAuto
namespace Go.Proofs.Ytcoaahlakkghhaa
open Go.RowKit

section
variable {w w' W V : World} {A : Nat} {S T : Nat → Prop} {G : List Gw} {rv : Value} {R : List Rw}
theorem pF_mono (h : Sv w A S G rv) (k : ByteArray) : ∀ a b, a ≤ b → b < G.length → pF G k a = true → pF G k b = true := by
  intro a b hab hb ha
  unfold pF at *
  rw [List.getElem?_eq_getElem (by omega)] at ha ⊢
  simp only at ha ⊢
  by_cases e : a = b
  · subst e
    exact ha
  · have hs := List.pairwise_iff_getElem.1 h.ok.sorted a b (by rw [List.length_map]; omega) (by rw [List.length_map]; omega) (by omega)
    simp only [List.getElem_map] at hs
    simp only [Bool.not_eq_true', decide_eq_false_iff_not] at ha ⊢
    intro q
    have := cb_lt hs (by omega : cb G[b].r.key k ≤ 0)
    exact ha this
theorem pF_place {k : ByteArray} {s : Nat} (hs : s ≤ G.length) (h1 : ∀ i, i < s → pF G k i = false) (h2 : ∀ i, s ≤ i → i < G.length → pF G k i = true) : place (G.map Gw.r) k = s := by
  refine place_is (by rw [List.length_map]; exact hs) (fun i hi q => ?_) (fun hi => ?_)
  · have := h1 i q
    unfold pF at this
    rw [List.length_map] at hi
    rw [List.getElem?_eq_getElem hi] at this
    simpa using this
  · rw [List.length_map] at hi
    have := h2 s (Nat.le_refl _) hi
    unfold pF at this
    rw [List.getElem?_eq_getElem hi] at this
    simpa using this
theorem below2 (w : World) (a b : Obj) : Below w.heap.size w ((w.alloc a).alloc b) := by
  have h := (Below.refl _ w).alloc (Nat.le_refl _) a
  exact h.trans (((Below.refl _ (w.alloc a)).alloc (Nat.le_refl _) b).mono h.size)
set_option maxHeartbeats 2000000 in
set_option maxRecDepth 100000 in
theorem place_any (h : Sv w A S G rv) (k : ByteArray) : Calls Try.prog 80 #[.pointer (some ⟨A, 0, none⟩), .string k] w fun e w' => e = .returned (.int .i64 (place (G.map Gw.r) k : Int)) ∧ Below w.heap.size w w' := by
  obtain ⟨ad, cap, rfl, hc1, hc2, _⟩ := h.shape
  obtain ⟨W, hW⟩ : ∃ W, W = (w.alloc (.cells #[.pointer (some ⟨A, 0, none⟩)] 87)).alloc (.cells #[.string k] 9) := ⟨_, rfl⟩
  have hb : Below w.heap.size w W := by rw [hW]; exact below2 w _ _
  have hy : W.cell? ⟨w.heap.size, 0, none⟩ = some (.pointer (some ⟨A, 0, none⟩)) := by
    rw [hW]
    refine cell_blk (cs := #[.pointer (some ⟨A, 0, none⟩)]) (t := 87) (fr := (0, 0)) ?_ 0
    rw [Below.heap_alloc _ _ _ (by simp)]
    exact heap_alloc_new w _
  have hz : W.cell? ⟨w.heap.size + 1, 0, none⟩ = some (.string k) := by
    rw [hW]
    refine cell_blk (cs := #[.string k]) (t := 9) (fr := (0, 0)) ?_ 0
    have := heap_alloc_new (w.alloc (.cells #[.pointer (some ⟨A, 0, none⟩)] 87)) (.cells #[.string k] 9)
    simpa using this
  have hv := h.on hb
  have a0 : W.cell? ⟨A, 0, none⟩ = some (.slice ad G.length cap) := cell_blk hv.ob 0
  have hs := search_35 (w := W) (n := G.length) (p := pF G k) (c1 := .pointer (some ⟨w.heap.size, 0, none⟩)) (c2 := .pointer (some ⟨w.heap.size + 1, 0, none⟩)) (by have := h.few; omega) (fun m i hi => by
    refine (place_f (hv.on (below_draw (Below.refl _ W) m)) hy hz hi).mono ?_
    rintro e w' ⟨rfl, m', rfl⟩
    exact ⟨rfl, _, World.drewN_drewN ..⟩) (pF_mono hv k)
  have HW := Lib.hid hW
  have HB := Lib.hid hb
  clear hv hW hb h
  go_enter Try.func80, Try.ntmps80
  go_upto_region 1 with fail
  rw [← HW.out]
  go_wp2_with fail
  refine hs.mono ?_
  rintro e w' ⟨s, rfl, h1, h2, h3, m, rfl⟩
  have HP := Lib.hid (pF_place h1 h2 h3)
  clear h1 h2 h3 hs
  go_wp2
  go_ret
  rw [HP.out]
  exact ⟨rfl, below_draw HB.out m⟩
end
end Go.Proofs.Ytcoaahlakkghhaa
