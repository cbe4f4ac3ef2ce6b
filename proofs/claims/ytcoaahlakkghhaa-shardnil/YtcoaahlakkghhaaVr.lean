/- Two rows of hits held against each other; a put of a later time leaves what was told. -/
import Derived.Test.YtcoaahlakkghhaaVq
namespace Go.Proofs.Ytcoaahlakkghhaa
open Go.RowKit

theorem tops_more {l : List Ve} {v : Ve} {t : Int} (h : t < v.ts) : tops (l ++ [v]) t = tops l t := by
  unfold tops
  rw [List.filter_append]
  have : [v].filter (fun v => decide (v.ts ≤ t)) = [] := List.filter_eq_nil_iff.2 (fun u hu => by rw [List.mem_singleton.1 hu, decide_eq_true_eq]; omega)
  rw [this, List.append_nil]
theorem span_fm (R : List Rw) (x y : ByteArray) (t : Int) : span R x y t = R.filterMap (fun r => if inSpan x y r.key then hit t r else none) := by
  unfold span
  induction R with
  | nil => rfl
  | cons r R ih =>
    rw [List.filter_cons, List.filterMap_cons]
    by_cases h : inSpan x y r.key = true
    · rw [if_pos h, if_pos h, List.filterMap_cons, ih]
    · rw [if_neg h, if_neg h, ih]
theorem span_inn {R : List Rw} {x y k : ByteArray} {v : Ve} {t : Int} {i : Nat} (h : t < v.ts) : span (inn R i ⟨k, [v]⟩) x y t = span R x y t := by
  rw [span_fm, span_fm]
  unfold inn
  have e : hit t ⟨k, [v]⟩ = none := by
    rw [hit_is]
    have : tops [v] t = none := by
      have := tops_more (l := []) h
      simp only [List.nil_append] at this
      rw [this]
      rfl
    simp only [this]
    rfl
  rw [List.filterMap_append, List.filterMap_cons]
  simp only [e, ite_self]
  rw [← List.filterMap_append, List.take_append_drop]
theorem span_set {R : List Rw} {x y k : ByteArray} {v : Ve} {t : Int} {i : Nat} {r : Rw} (hr : R[i]? = some r) (hk : r.key = k) (h : t < v.ts) : span (R.set i ⟨k, r.list ++ [v]⟩) x y t = span R x y t := by
  obtain ⟨hi, e⟩ := List.getElem?_eq_some_iff.1 hr
  rw [span_fm, span_fm, List.set_eq_take_append_cons_drop, if_pos hi]
  have e0 : R = R.take i ++ r :: R.drop (i + 1) := by
    rw [← e, List.getElem_cons_drop, List.take_append_drop]
  have e1 : hit t ⟨k, r.list ++ [v]⟩ = hit t r := by
    rw [hit_is, hit_is]
    simp only [tops_more h, hk]
  rw [List.filterMap_append, List.filterMap_cons]
  simp only [e1]
  rw [← hk]
  rw [show R.filterMap (fun r => if inSpan x y r.key then hit t r else none) = (R.take i ++ r :: R.drop (i + 1)).filterMap (fun r => if inSpan x y r.key then hit t r else none) from by rw [← e0], List.filterMap_append, List.filterMap_cons]
theorem span_put {R : List Rw} {k : ByteArray} {v : Ve} {t : Int} (h : t < v.ts) (x y : ByteArray) : span (putR R k v) x y t = span R x y t := by
  unfold putR
  split
  · rfl
  · split
    · rename_i r hr
      split
      · rename_i hk
        split
        · rfl
        · exact span_set hr hk h
      · exact span_inn h
    · exact span_inn h
theorem put_less {R : List Rw} {n : Nat} (h : ∀ r ∈ R, r.list.length ≤ n) (k : ByteArray) (v : Ve) : ∀ r ∈ putR R k v, r.list.length ≤ n + 1 := by
  have hinn : ∀ i, ∀ r ∈ inn R i ⟨k, [v]⟩, r.list.length ≤ n + 1 := fun i r hr => by
    rcases inn_mem hr with rfl | hr
    · show 1 ≤ n + 1
      omega
    · have := h r hr
      omega
  unfold putR
  split
  · exact fun r hr => Nat.le_succ_of_le (h r hr)
  · split
    · rename_i r0 hr0
      split
      · split
        · exact fun r hr => Nat.le_succ_of_le (h r hr)
        · intro r hr
          obtain ⟨hi, e⟩ := List.getElem?_eq_some_iff.1 hr0
          rcases List.mem_or_eq_of_mem_set hr with q | q
          · exact Nat.le_succ_of_le (h r q)
          · rw [q]
            have := h r0 (by rw [← e]; exact List.getElem_mem hi)
            simp only [List.length_append, List.length_cons, List.length_nil]
            omega
      · exact hinn _
    · exact hinn _
section
variable {w w' : World} {X Y : List Hi} {u v : Value}
/-- Hits that a slice reads. -/
def Hm (w : World) (X : List Hi) (v : Value) : Prop := ∃ ad cap, v = .slice ad X.length cap ∧ X.length ≤ cap ∧ cap ≤ maxLen ∧ ∀ i (h : i < X.length), ∃ b, ad = some ⟨b, 0, none⟩ ∧ w.cell? ⟨b, i * 3, none⟩ = some (.string X[i].key) ∧ w.cell? ⟨b, i * 3 + 1, none⟩ = some (.int .i64 X[i].ts) ∧ w.cell? ⟨b, i * 3 + 2, none⟩ = some (.string X[i].val)
theorem hi_own {B : Nat} (h : w.ownsRow B 80 3 v X.length (hiC X)) : Hm w X v := by
  rcases h.2 with ⟨hv, h0⟩ | ⟨g, cap, cur, hv, _, _, z1, z2, _⟩
  · refine ⟨none, 0, by rw [hv, h0], by omega, Nat.zero_le _, fun i hi => by omega⟩
  · subst hv
    refine ⟨_, cap, rfl, z1, z2, fun i hi => ⟨g, rfl, ?_⟩⟩
    obtain ⟨q0, q1, q2⟩ := hiC_get X i hi
    exact ⟨(h.cellAt _ (by omega)).trans q0, (h.cellAt _ (by omega)).trans q1, (h.cellAt _ (by omega)).trans q2⟩
theorem Hm.on (h : Hm w X v) (hb : Below w.heap.size w w') : Hm w' X v := by
  obtain ⟨ad, cap, e, z1, z2, hc⟩ := h
  refine ⟨ad, cap, e, z1, z2, fun i hi => ?_⟩
  obtain ⟨b, e, c0, c1, c2⟩ := hc i hi
  exact ⟨b, e, cell_on hb c0, cell_on hb c1, cell_on hb c2⟩
end
end Go.Proofs.Ytcoaahlakkghhaa
