/- The document's store, plain: versions in the order in which they were put. -/
import Derived.Test.YthjnfkgheihgkaaVt
namespace Go.Proofs.Ythjnfkgheihgkaa

abbrev On := ByteArray × Ve
def vsOf (D : List On) (k : ByteArray) : List Ve := (D.filter (fun p => decide (p.1 = k))).map Prod.snd
def insK (K : List ByteArray) (k : ByteArray) : List ByteArray := if K[pk K k]? = some k then K else inn K (pk K k) k
def keysOf (D : List On) : List ByteArray := D.foldl (fun K p => insK K p.1) []
def rowsOf (D : List On) : List Rw := (keysOf D).map (fun k => ⟨k, vsOf D k⟩)
def newD (D : List On) (k : ByteArray) : Int := newest (vsOf D k)
def putDE (D : List On) (k : ByteArray) (v : Ve) : Int := if v.ts < 1 then 1 else if v.ts ≤ newD D k then 120 else 0
def putD (D : List On) (k : ByteArray) (v : Ve) : List On := if v.ts < 1 then D else if v.ts ≤ newD D k then D else D ++ [(k, v)]
abbrev SortK (K : List ByteArray) : Prop := K.Pairwise (fun a b => cb a b < 0)

theorem keysOf_snoc (D : List On) (p : On) : keysOf (D ++ [p]) = insK (keysOf D) p.1 := by
  unfold keysOf
  rw [List.foldl_append]
  rfl
theorem vsOf_snoc (D : List On) (k : ByteArray) (v : Ve) (q : ByteArray) : vsOf (D ++ [(k, v)]) q = vsOf D q ++ (if k = q then [v] else []) := by
  unfold vsOf
  rw [List.filter_append, List.map_append]
  congr 1
  by_cases h : k = q
  · rw [if_pos h]
    simp [h]
  · rw [if_neg h]
    simp [h]
theorem pk_hit {K : List ByteArray} (hs : SortK K) {k : ByteArray} (h : k ∈ K) : K[pk K k]? = some k := by
  obtain ⟨i, hi, e⟩ := List.getElem_of_mem h
  have : pk K k = i := by
    refine pk_is (by omega) (fun j hj hji => ?_) (fun _ => ?_)
    · have := List.pairwise_iff_getElem.1 hs j i hj hi hji
      rw [e] at this
      exact this
    · rw [e, cb_self]
      omega
  rw [this, List.getElem?_eq_getElem hi, e]
theorem insK_sort {K : List ByteArray} (hs : SortK K) (k : ByteArray) : SortK (insK K k) := by
  unfold insK
  split
  · exact hs
  · rename_i hn
    have h1 : ∀ a ∈ K.take (pk K k), cb a k < 0 := by
      intro a ha
      obtain ⟨i, hi, e⟩ := List.getElem_of_mem ha
      rw [List.getElem_take] at e
      rw [List.length_take] at hi
      rw [← e]
      exact pk_lt (by omega) (by omega)
    have h2 : ∀ b ∈ K.drop (pk K k), cb k b < 0 := by
      intro b hb
      obtain ⟨i, hi, e⟩ := List.getElem_of_mem hb
      rw [List.getElem_drop] at e
      rw [List.length_drop] at hi
      have h0 := pk_ge hs (k := k) (i := pk K k + i) (by omega) (by omega)
      rw [e] at h0
      have h3 : cb b k ≠ 0 := fun z => by
        have := cb_is.1 z
        subst this
        exact hn (pk_hit hs (List.mem_of_mem_drop hb))
      have := cb_turn b k
      omega
    unfold inn
    refine List.pairwise_append.2 ⟨hs.sublist (List.take_sublist _ _), List.pairwise_cons.2 ⟨h2, hs.sublist (List.drop_sublist _ _)⟩, fun a ha b hb => ?_⟩
    rcases List.mem_cons.1 hb with rfl | hb
    · exact h1 a ha
    · exact cb_lt (h1 a ha) (by have := h2 b hb; omega)
theorem keysOf_sort (D : List On) : SortK (keysOf D) := by
  unfold keysOf
  suffices h : ∀ (D : List On) (K : List ByteArray), SortK K → SortK (D.foldl (fun K p => insK K p.1) K) from h D [] List.Pairwise.nil
  intro D
  induction D with
  | nil => exact fun K h => h
  | cons p D ih => exact fun K h => ih _ (insK_sort h p.1)
theorem insK_mem {K : List ByteArray} {k q : ByteArray} : q ∈ insK K k ↔ q = k ∨ q ∈ K := by
  unfold insK
  split
  · rename_i h
    exact ⟨.inr, fun e => e.elim (fun e => by rw [e]; exact List.mem_of_getElem? h) id⟩
  · unfold inn
    constructor
    · intro h
      rcases List.mem_append.1 h with h | h
      · exact .inr (List.mem_of_mem_take h)
      · rcases List.mem_cons.1 h with h | h
        · exact .inl h
        · exact .inr (List.mem_of_mem_drop h)
    · rintro (rfl | h)
      · exact List.mem_append_right _ (.head _)
      · rw [← List.take_append_drop (pk K k) K] at h
        rcases List.mem_append.1 h with h | h
        · exact List.mem_append_left _ h
        · exact List.mem_append_right _ (.tail _ h)
theorem keysOf_mem (D : List On) (q : ByteArray) : q ∈ keysOf D ↔ vsOf D q ≠ [] := by
  have key : q ∈ keysOf D ↔ ∃ p ∈ D, p.1 = q := by
    unfold keysOf
    suffices h : ∀ (D : List On) (K : List ByteArray), q ∈ D.foldl (fun K p => insK K p.1) K ↔ (∃ p ∈ D, p.1 = q) ∨ q ∈ K by
      rw [h D []]
      simp
    intro D
    induction D with
    | nil => simp
    | cons p D ih =>
      intro K
      rw [List.foldl_cons, ih, insK_mem]
      constructor
      · rintro (⟨x, hx, e⟩ | e | h)
        · exact .inl ⟨x, .tail _ hx, e⟩
        · exact .inl ⟨p, .head _, e.symm⟩
        · exact .inr h
      · rintro (⟨x, hx, e⟩ | h)
        · rcases List.mem_cons.1 hx with rfl | hx
          · exact .inr (.inl e.symm)
          · exact .inl ⟨x, hx, e⟩
        · exact .inr (.inr h)
  rw [key]
  unfold vsOf
  rw [ne_eq, List.map_eq_nil_iff, List.filter_eq_nil_iff]
  simp only [decide_eq_true_eq, Classical.not_forall, Classical.not_not]
  exact ⟨fun ⟨p, h, e⟩ => ⟨p, h, e⟩, fun ⟨p, h, e⟩ => ⟨p, h, e⟩⟩
theorem rowsOf_keys (D : List On) : (rowsOf D).map Rw.key = keysOf D := by
  unfold rowsOf
  rw [List.map_map]
  exact List.map_id _
theorem rowsOf_place (D : List On) (k : ByteArray) : place (rowsOf D) k = pk (keysOf D) k := by
  unfold place
  rw [rowsOf_keys]
theorem newD_is (D : List On) (k : ByteArray) : newR (rowsOf D) k = newD D k := by
  unfold newR
  rw [rowsOf_place]
  unfold rowsOf newD
  rw [List.getElem?_map]
  by_cases h : k ∈ keysOf D
  · rw [pk_hit (keysOf_sort D) h]
    simp
  · have hv : vsOf D k = [] := Classical.byContradiction fun q => h ((keysOf_mem D k).2 q)
    rw [hv]
    cases hq : (keysOf D)[pk (keysOf D) k]? with
    | none => rfl
    | some q =>
      have : q ≠ k := fun e => h (by rw [← e]; exact List.mem_of_getElem? hq)
      simp [this, newest]
theorem putDE_is (D : List On) (k : ByteArray) (v : Ve) : putE (rowsOf D) k v = putDE D k v := by
  unfold putE putDE
  rw [newD_is]
theorem putD_is (D : List On) (k : ByteArray) (v : Ve) : rowsOf (putD D k v) = putR (rowsOf D) k v := by
  have hn := newD_is D k
  unfold putD putR
  by_cases h1 : v.ts < 1
  · rw [if_pos h1, if_pos h1]
  rw [if_neg h1, if_neg h1, rowsOf_place]
  have hsort := keysOf_sort D
  by_cases h : k ∈ keysOf D
  · have hp := pk_hit hsort h
    have hr : (rowsOf D)[pk (keysOf D) k]? = some ⟨k, vsOf D k⟩ := by
      unfold rowsOf
      rw [List.getElem?_map, hp]
      rfl
    rw [hr]
    simp only [if_true]
    by_cases h2 : v.ts ≤ newD D k
    · rw [if_pos h2, if_pos (show v.ts ≤ newest (vsOf D k) from h2)]
    · rw [if_neg h2, if_neg (show ¬ v.ts ≤ newest (vsOf D k) from h2)]
      obtain ⟨hl, he⟩ := List.getElem?_eq_some_iff.1 hp
      have hk : keysOf (D ++ [(k, v)]) = keysOf D := by
        rw [keysOf_snoc]
        unfold insK
        rw [if_pos hp]
      unfold rowsOf
      rw [hk]
      refine List.ext_getElem (by simp) (fun i hi hi' => ?_)
      simp only [List.length_map] at hi
      rw [List.getElem_set]
      simp only [List.getElem_map]
      rw [vsOf_snoc]
      by_cases e : pk (keysOf D) k = i
      · subst e
        rw [if_pos rfl, he, if_pos rfl]
      · rw [if_neg e, if_neg, List.append_nil]
        intro q
        rcases Nat.lt_or_gt_of_ne e with z | z
        · have := List.pairwise_iff_getElem.1 hsort _ i hl hi z
          rw [he, ← q, cb_self] at this
          omega
        · have := List.pairwise_iff_getElem.1 hsort i _ hi hl z
          rw [he, ← q, cb_self] at this
          omega
  · have hv : vsOf D k = [] := Classical.byContradiction fun q => h ((keysOf_mem D k).2 q)
    have hne : ¬ (keysOf D)[pk (keysOf D) k]? = some k := fun q => h (List.mem_of_getElem? q)
    have h2 : ¬ v.ts ≤ newD D k := by
      unfold newD
      rw [hv]
      show ¬ v.ts ≤ 0
      omega
    rw [if_neg h2]
    have hput : rowsOf (D ++ [(k, v)]) = inn (rowsOf D) (pk (keysOf D) k) ⟨k, [v]⟩ := by
      unfold rowsOf
      rw [keysOf_snoc]
      unfold insK
      rw [if_neg hne, inn_map]
      rw [vsOf_snoc, hv, if_pos rfl, List.nil_append]
      congr 1
      refine List.map_congr_left (fun q hq => ?_)
      rw [vsOf_snoc, if_neg, List.append_nil]
      intro e
      exact h (by rw [e]; exact hq)
    rw [hput]
    cases hq : (rowsOf D)[pk (keysOf D) k]? with
    | none => rfl
    | some r =>
      have : r.key ≠ k := fun e => h (by
        have : r.key ∈ (rowsOf D).map Rw.key := List.mem_map_of_mem (List.mem_of_getElem? hq)
        rw [rowsOf_keys] at this
        rw [← e]
        exact this)
      simp only [if_neg this]
end Go.Proofs.Ythjnfkgheihgkaa
