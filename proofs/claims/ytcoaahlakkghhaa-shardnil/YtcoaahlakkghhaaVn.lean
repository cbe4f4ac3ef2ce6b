/- What a Put leaves of the store in memory. -/
import Derived.Test.YtcoaahlakkghhaaVm
namespace Go.Proofs.Ytcoaahlakkghhaa
open Go.RowKit

theorem inn_map {α β : Type} (f : α → β) (l : List α) (i : Nat) (x : α) : (inn l i x).map f = inn (l.map f) i (f x) := by
  unfold inn
  simp
theorem inn_mem {α : Type} {l : List α} {i : Nat} {x y : α} (h : y ∈ inn l i x) : y = x ∨ y ∈ l := by
  unfold inn at h
  rcases List.mem_append.1 h with q | q
  · exact .inr (List.mem_of_mem_take q)
  · rcases List.mem_cons.1 q with q | q
    · exact .inl q
    · exact .inr (List.mem_of_mem_drop q)
theorem inn_pair {α : Type} {r : α → α → Prop} {l : List α} {i : Nat} {x : α} (h : l.Pairwise r) (h1 : ∀ y ∈ l, r y x) (h2 : ∀ y ∈ l, r x y) : (inn l i x).Pairwise r := by
  unfold inn
  have e := List.take_append_drop i l
  rw [← e] at h
  obtain ⟨a, b, c⟩ := List.pairwise_append.1 h
  refine List.pairwise_append.2 ⟨a, List.pairwise_cons.2 ⟨fun y hy => h2 y (List.mem_of_mem_drop hy), b⟩, fun y hy z hz => ?_⟩
  rcases List.mem_cons.1 hz with rfl | hz
  · exact h1 y (List.mem_of_mem_take hy)
  · exact c y hy z hz
section
variable {w w' W V X : World} {A : Nat} {S T : Nat → Prop} {G : List Gw} {rv rv' : Value} {R : List Rw} {s Y1 Y2 : Nat} {k : ByteArray} {v : Ve}
abbrev lv1 (Y : Nat) : Value := .slice (some ⟨Y, 0, none⟩) 1 1
theorem own_one {t : TypeId} {c : Nat} {cs : Array Value} {Y : Nat} (h : X.heap[Y]? = some (.cells cs t (0, 0))) (hc : cs.size = c) : X.ownsRow 0 t c (lv1 Y) 1 cs.toList :=
  ⟨by simp [hc], .inr ⟨Y, 1, cs, rfl, Nat.zero_le _, h, Nat.le_refl _, by unfold maxLen; omega, by omega, by rw [Nat.one_mul]; exact List.take_of_length_le (by simp [hc])⟩⟩
theorem Sv.add (h : Sv w A S G rv) (hf : Fr w X (fun j => rv.ownBlock = some j)) (ho : X.ownsRow 0 126 1 rv' (G.length + 1) (inn (G.map gP) s (.pointer (some ⟨Y2, 0, none⟩)))) (hb : ∀ j, rv'.ownBlock = some j → rv.ownBlock = some j ∨ w.heap.size ≤ j)
    (j1 : X.heap[Y1]? = some (.cells #[.int .i64 v.ts, .string v.val, .bool v.dead] 125 (0, 0))) (j2 : X.heap[Y2]? = some (.cells #[.string k, lv1 Y1] 129 (0, 0))) (y1 : w.heap.size ≤ Y1) (y2 : w.heap.size ≤ Y2) (hs : s ≤ G.length) (hok : Okr (inn (G.map Gw.r) s ⟨k, [v]⟩)) (hfew : G.length < 800000) :
    Sv (X.setCell ⟨A, 0, none⟩ rv') A (Gro S w (X.setCell ⟨A, 0, none⟩ rv')) (inn G s ⟨⟨k, [v]⟩, Y2, lv1 Y1⟩) rv' ∧ Fr w (X.setCell ⟨A, 0, none⟩ rv') S := by
  have hz := hf.size
  have hsz : (X.setCell ⟨A, 0, none⟩ rv').heap.size = X.heap.size := by simp [World.setCell]
  have hlt := h.lt
  have hA := hlt A h.covA
  have hfA : Fr X (X.setCell ⟨A, 0, none⟩ rv') (fun j => j = A) := Fr.set (a := ⟨A, 0, none⟩) (Fr.refl X (fun j => j = A)) (Or.inl rfl) _
  have hrA : ¬ rv.ownBlock = some A := fun e => by
    obtain ⟨cs, t⟩ := own_tag h.rows A e
    exact tag_ne t h.ob (by decide) rfl
  have hobA : X.heap[A]? = some (.cells #[rv] 116 (0, 0)) := (hf.block A hA hrA).trans h.ob
  have hF : Fr w (X.setCell ⟨A, 0, none⟩ rv') S := (hf.mono (fun j e => h.cov j e)).trans (hfA.mono (fun j e => by have e' : j = A := e; rw [e']; exact h.covA))
  have hin : ∀ j, rv'.ownBlock = some j → Gro S w (X.setCell ⟨A, 0, none⟩ rv') j := fun j e => by
    rcases hb j e with q | q
    · exact .inl (h.cov j q)
    · exact .inr ⟨q, by rw [hsz]; exact (ho.lt j e).2⟩
  have hpb : ∀ g ∈ G, X.heap[g.ptr]? = some (.cells #[.string g.r.key, g.lv] 129 (0, 0)) := fun g hg => (hf.block _ (hlt _ (h.covp g hg)) (fun e => by
    obtain ⟨cs, t⟩ := own_tag h.rows _ e
    exact tag_ne t (h.at' g hg) (by decide) rfl)).trans (h.at' g hg)
  have hlb : ∀ g ∈ G, X.ownsRow 0 125 3 g.lv g.r.list.length (veC g.r.list) := fun g hg => row_keep (h.ls g hg) hf (fun j e1 e2 => by
    obtain ⟨c1, t1⟩ := own_tag (h.ls g hg) j e1
    obtain ⟨c2, t2⟩ := own_tag h.rows j e2
    exact tag_ne t1 t2 (by decide) rfl)
  have hY2A : Y2 ≠ A := by omega
  have hY1A : Y1 ≠ A := by omega
  refine ⟨⟨?_, ?_, fun g hg => ?_, fun g hg => ?_, ?_, .inl h.covA, hin, fun g hg => ?_, fun g hg j e => ?_, fun j q => ?_, ?_, fun g hg => ?_, ?_⟩, hF⟩
  · exact set_blk (i := 0) hobA rv'
  · rw [inn_len G s _ hs, inn_map]
    exact row_keep ho hfA (fun j e e2 => by
      obtain ⟨cs, t⟩ := own_tag ho j e
      have e2' : j = A := e2
      subst e2'
      exact tag_ne t hobA (by decide) rfl)
  · rcases inn_mem hg with rfl | hg
    · exact (set_other rv' hY2A).trans j2
    · exact (set_other rv' (tag_ne (hpb g hg) hobA (by decide))).trans (hpb g hg)
  · rcases inn_mem hg with rfl | hg
    · have o1 := own_one (c := 3) j1 rfl
      have e1 : veC [v] = (#[.int .i64 v.ts, .string v.val, .bool v.dead] : Array Value).toList := by simp [veC]
      show World.ownsRow _ 0 125 3 (lv1 Y1) 1 (veC [v])
      rw [e1]
      exact row_keep o1 hfA (fun j e e2 => by
        have e3 : Y1 = j := by simpa [Value.ownBlock] using e
        have e2' : j = A := e2
        omega)
    · exact row_keep (hlb g hg) hfA (fun j e e2 => by
        obtain ⟨cs, t⟩ := own_tag (hlb g hg) j e
        have e2' : j = A := e2
        subst e2'
        exact tag_ne t hobA (by decide) rfl)
  · refine inn_pair h.apart (fun g hg => ⟨?_, fun j e1 e2 => ?_⟩) (fun g hg => ⟨?_, fun j e1 e2 => ?_⟩)
    · have := hlt _ (h.covp g hg)
      show g.ptr ≠ Y2
      omega
    · have := hlt _ (h.covl g hg j e1)
      have e3 : Y1 = j := by simpa [Value.ownBlock] using e2
      omega
    · have := hlt _ (h.covp g hg)
      show Y2 ≠ g.ptr
      omega
    · have := hlt _ (h.covl g hg j e2)
      have e3 : Y1 = j := by simpa [Value.ownBlock] using e1
      omega
  · rcases inn_mem hg with rfl | hg
    · exact .inr ⟨y2, by rw [hsz]; exact blk_lt j2⟩
    · exact .inl (h.covp g hg)
  · rcases inn_mem hg with rfl | hg
    · have e3 : Y1 = j := by simpa [Value.ownBlock] using e
      exact .inr ⟨by omega, by rw [hsz, ← e3]; exact blk_lt j1⟩
    · exact .inl (h.covl g hg j e)
  · rcases q with q | q
    · have := hlt j q
      omega
    · exact q.2
  · rw [inn_len G s _ hs]
    omega
  · rcases inn_mem hg with rfl | hg
    · show 1 ≤ 800000
      omega
    · exact h.less g hg
  · rw [inn_map]
    exact hok
theorem pair_set {α : Type} {r : α → α → Prop} {l : List α} {i : Nat} {x : α} (h : l.Pairwise r) (h1 : ∀ j (hj : j < l.length), j < i → r l[j] x) (h2 : ∀ j (hj : j < l.length), i < j → r x l[j]) : (l.set i x).Pairwise r := by
  refine List.pairwise_iff_getElem.2 (fun a b ha hb hab => ?_)
  rw [List.length_set] at ha hb
  rw [List.getElem_set, List.getElem_set]
  by_cases ea : i = a
  · rw [if_pos ea, if_neg (by omega)]
    exact h2 b hb (by omega)
  · rw [if_neg ea]
    by_cases eb : i = b
    · rw [if_pos eb]
      exact h1 a ha (by omega)
    · rw [if_neg eb]
      exact List.pairwise_iff_getElem.1 h a b ha hb hab
theorem Sv.more (h : Sv w A S G rv) (hs : s < G.length) {lv : Value} (hf : Fr w X (fun j => G[s].lv.ownBlock = some j)) (ho : X.ownsRow 0 125 3 lv (G[s].r.list.length + 1) (veC (G[s].r.list ++ [v]))) (hb : ∀ j, lv.ownBlock = some j → G[s].lv.ownBlock = some j ∨ w.heap.size ≤ j)
    (hok : Okr ((G.map Gw.r).set s ⟨G[s].r.key, G[s].r.list ++ [v]⟩)) (hless : G[s].r.list.length < 800000) :
    Sv (X.setCell ⟨G[s].ptr, 1, none⟩ lv) A (Gro S w (X.setCell ⟨G[s].ptr, 1, none⟩ lv)) (G.set s ⟨⟨G[s].r.key, G[s].r.list ++ [v]⟩, G[s].ptr, lv⟩) rv ∧ Fr w (X.setCell ⟨G[s].ptr, 1, none⟩ lv) S := by
  have hms := List.getElem_mem hs
  obtain ⟨x, hx⟩ : ∃ x, G[s] = x := ⟨_, rfl⟩
  rw [hx] at hf ho hb hok hless hms ⊢
  have hz := hf.size
  have hsz : (X.setCell ⟨x.ptr, 1, none⟩ lv).heap.size = X.heap.size := by simp [World.setCell]
  have hlt := h.lt
  have hfq : Fr X (X.setCell ⟨x.ptr, 1, none⟩ lv) (fun j => j = x.ptr) := Fr.set (a := ⟨x.ptr, 1, none⟩) (Fr.refl X (fun j => j = x.ptr)) (Or.inl rfl) _
  have no31 : ∀ {b : Nat} {cs : Array Value} {t : TypeId}, w.heap[b]? = some (.cells cs t (0, 0)) → t ≠ 125 → ¬ x.lv.ownBlock = some b := fun hb0 ht e => by
    obtain ⟨c1, t1⟩ := own_tag (h.ls x hms) _ e
    exact tag_ne hb0 t1 ht rfl
  have hobA : X.heap[A]? = some (.cells #[rv] 116 (0, 0)) := (hf.block A (hlt A h.covA) (no31 h.ob (by decide))).trans h.ob
  have hpb : ∀ g ∈ G, X.heap[g.ptr]? = some (.cells #[.string g.r.key, g.lv] 129 (0, 0)) := fun g hg => (hf.block _ (hlt _ (h.covp g hg)) (no31 (h.at' g hg) (by decide))).trans (h.at' g hg)
  have hrows : X.ownsRow 0 126 1 rv G.length (G.map gP) := row_keep h.rows hf (fun j e => by
    obtain ⟨cs, t⟩ := own_tag h.rows j e
    exact no31 t (by decide))
  have hF : Fr w (X.setCell ⟨x.ptr, 1, none⟩ lv) S := (hf.mono (fun j e => h.covl x hms j e)).trans (hfq.mono (fun j e => by have e' : j = x.ptr := e; rw [e']; exact h.covp x hms))
  have oth : ∀ j (hj : j < G.length), j ≠ s → G[j].ptr ≠ x.ptr ∧ Off G[j].lv x.lv := fun j hj hne => by
    rcases Nat.lt_or_gt_of_ne hne with q | q
    · have := List.pairwise_iff_getElem.1 h.apart j s hj hs q
      rw [hx] at this
      exact this
    · have := List.pairwise_iff_getElem.1 h.apart s j hs hj q
      rw [hx] at this
      exact ⟨this.1.symm, fun k e1 e2 => this.2 k e2 e1⟩
  have mem : ∀ g ∈ G.set s ⟨⟨x.r.key, x.r.list ++ [v]⟩, x.ptr, lv⟩, g = ⟨⟨x.r.key, x.r.list ++ [v]⟩, x.ptr, lv⟩ ∨ ∃ j, ∃ hj : j < G.length, j ≠ s ∧ g = G[j] := fun g hg => by
    obtain ⟨j, hj, e⟩ := List.getElem_of_mem hg
    rw [List.length_set] at hj
    rw [List.getElem_set] at e
    by_cases q : s = j
    · rw [if_pos q] at e
      exact .inl e.symm
    · rw [if_neg q] at e
      exact .inr ⟨j, hj, fun z => q z.symm, e.symm⟩
  have hmap : (G.set s ⟨⟨x.r.key, x.r.list ++ [v]⟩, x.ptr, lv⟩).map gP = G.map gP := by
    refine List.ext_getElem (by simp) (fun j h1 h2 => ?_)
    simp only [List.length_map, List.length_set] at h1
    rw [List.getElem_map, List.getElem_map, List.getElem_set]
    split
    · rename_i q
      subst q
      rw [hx]
    · rfl
  refine ⟨⟨?_, ?_, fun g hg => ?_, fun g hg => ?_, ?_, .inl h.covA, fun j e => .inl (h.cov j e), fun g hg => ?_, fun g hg j e => ?_, fun j q => ?_, ?_, fun g hg => ?_, ?_⟩, hF⟩
  · exact (set_other lv (tag_ne hobA (hpb x hms) (by decide))).trans hobA
  · rw [List.length_set, hmap]
    exact row_keep hrows hfq (fun j e e2 => by
      obtain ⟨cs, t⟩ := own_tag hrows j e
      have e2' : j = x.ptr := e2
      subst e2'
      exact tag_ne t (hpb x hms) (by decide) rfl)
  · rcases mem g hg with rfl | ⟨j, hj, hne, rfl⟩
    · exact set_blk (i := 1) (hpb x hms) lv
    · exact (set_other lv (oth j hj hne).1).trans (hpb _ (List.getElem_mem hj))
  · rcases mem g hg with rfl | ⟨j, hj, hne, rfl⟩
    · show World.ownsRow _ 0 125 3 lv (x.r.list ++ [v]).length (veC (x.r.list ++ [v]))
      rw [List.length_append]
      exact row_keep ho hfq (fun j e e2 => by
        obtain ⟨cs, t⟩ := own_tag ho j e
        have e2' : j = x.ptr := e2
        subst e2'
        exact tag_ne t (hpb x hms) (by decide) rfl)
    · have o1 := row_keep (h.ls _ (List.getElem_mem hj)) hf (fun k e => (oth j hj hne).2 k e)
      exact row_keep o1 hfq (fun k e e2 => by
        obtain ⟨cs, t⟩ := own_tag o1 k e
        have e2' : k = x.ptr := e2
        subst e2'
        exact tag_ne t (hpb x hms) (by decide) rfl)
  · have off : ∀ j (hj : j < G.length), j ≠ s → ∀ k, G[j].lv.ownBlock = some k → lv.ownBlock ≠ some k := fun j hj hne k e1 e2 => by
      rcases hb k e2 with q | q
      · exact (oth j hj hne).2 k e1 q
      · have := hlt _ (h.covl _ (List.getElem_mem hj) k e1)
        omega
    refine pair_set h.apart (fun j hj hjs => ⟨(oth j hj (by omega)).1, off j hj (by omega)⟩) (fun j hj hjs => ⟨(oth j hj (by omega)).1.symm, fun k e1 e2 => off j hj (by omega) k e2 e1⟩)
  · rcases mem g hg with rfl | ⟨j, hj, hne, rfl⟩
    · exact .inl (h.covp x hms)
    · exact .inl (h.covp _ (List.getElem_mem hj))
  · rcases mem g hg with rfl | ⟨j', hj, hne, rfl⟩
    · rcases hb j e with q | q
      · exact .inl (h.covl x hms j q)
      · exact .inr ⟨q, by rw [hsz]; exact (ho.lt j e).2⟩
    · exact .inl (h.covl _ (List.getElem_mem hj) j e)
  · rcases q with q | q
    · have := hlt j q
      omega
    · exact q.2
  · rw [List.length_set]
    exact h.few
  · rcases mem g hg with rfl | ⟨j, hj, hne, rfl⟩
    · show (x.r.list ++ [v]).length ≤ 800000
      rw [List.length_append]
      simp
      omega
    · exact h.less _ (List.getElem_mem hj)
  · rw [List.map_set]
    exact hok
end
end Go.Proofs.Ytcoaahlakkghhaa
