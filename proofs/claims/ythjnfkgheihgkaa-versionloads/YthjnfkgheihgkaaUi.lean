/- Rows that may be loaded, plain; what a row more leaves of the store in memory. -/
import Derived.Test.YthjnfkgheihgkaaUh
import Derived.Test.YthjnfkgheihgkaaVx
namespace Go.Proofs.Ythjnfkgheihgkaa
open Go.RowKit

/-- Does the row's key not stand behind the one ahead of it? -/
def lowR (L : List Rw) : Nat → Bool
  | 0 => false
  | j + 1 => match L[j]?, L[j + 1]? with
    | some q, some r => !decide (cb q.key r.key < 0)
    | _, _ => false
/-- What is wrong with the i-th row. -/
def badR (L : List Rw) (i : Nat) : Bool := lowR L i || match L[i]? with
  | some r => !mayB r.list
  | none => false
def GoodTo (L : List Rw) (n : Nat) : Prop := ∀ i, i < n → badR L i = false
theorem lowR_at {L : List Rw} {j : Nat} (h : j + 1 < L.length) : lowR L (j + 1) = !decide (cb L[j].key L[j + 1].key < 0) := by
  show (match L[j]?, L[j + 1]? with
    | some q, some r => !decide (cb q.key r.key < 0)
    | _, _ => false) = _
  rw [List.getElem?_eq_getElem h, List.getElem?_eq_getElem (by omega : j < L.length)]
theorem badR_at {L : List Rw} {i : Nat} (h : i < L.length) : badR L i = (lowR L i || !mayB L[i].list) := by
  unfold badR
  rw [List.getElem?_eq_getElem h]
theorem good_ok {L : List Rw} (h : GoodTo L L.length) : Okr L := by
  have adj : ∀ j (hj : j + 1 < L.length), cb L[j].key L[j + 1].key < 0 := fun j hj => by
    have := h (j + 1) hj
    rw [badR_at hj, lowR_at hj] at this
    simp only [Bool.or_eq_false_iff, Bool.not_eq_false', decide_eq_true_eq] at this
    exact this.1
  refine ⟨List.pairwise_iff_getElem.2 fun i j hi hj hij => ?_, fun r hr => ?_⟩
  · obtain ⟨d, rfl⟩ : ∃ d, j = i + 1 + d := ⟨j - i - 1, by omega⟩
    clear hij
    induction d with
    | zero => exact adj i hj
    | succ d ih =>
      have h1 := ih (by omega)
      have h2 := adj (i + 1 + d) hj
      exact cb_lt h1 (Int.le_of_lt h2)
  · obtain ⟨i, hi, e⟩ := List.getElem_of_mem hr
    have := h i hi
    rw [badR_at hi, e] at this
    simp only [Bool.or_eq_false_iff, Bool.not_eq_false'] at this
    exact (mayB_rise _).1 this.2
theorem ok_good {L : List Rw} (h : Okr L) : GoodTo L L.length := by
  intro i hi
  rw [badR_at hi, (mayB_rise _).2 (h.rise _ (List.getElem_mem hi))]
  simp only [Bool.not_true, Bool.or_false]
  cases i with
  | zero => rfl
  | succ j =>
    rw [lowR_at hi, decide_eq_true (List.pairwise_iff_getElem.1 h.sorted j (j + 1) (by omega) hi (by omega))]
    rfl
theorem bad_not {L : List Rw} {i : Nat} (hi : i < L.length) (h : badR L i = true) : ¬ Okr L := fun q => by
  have := ok_good q i hi
  rw [h] at this
  cases this
theorem ok_take {L : List Rw} (h : Okr L) (n : Nat) : Okr (L.take n) := ⟨h.sorted.sublist (List.take_sublist _ _), fun r hr => h.rise r (List.mem_of_mem_take hr)⟩

/-! ### The versions, one behind the other -/
def flatOf (L : List Rw) : List On := L.flatMap fun r => r.list.map fun v => (r.key, v)
theorem flatOf_append (a b : List Rw) : flatOf (a ++ b) = flatOf a ++ flatOf b := by unfold flatOf; rw [List.flatMap_append]
theorem vsOf_append (a b : List On) (k : ByteArray) : vsOf (a ++ b) k = vsOf a k ++ vsOf b k := by unfold vsOf; rw [List.filter_append, List.map_append]
theorem vsOf_one (x k : ByteArray) (l : List Ve) : vsOf (l.map fun v => (x, v)) k = if x = k then l else [] := by
  unfold vsOf
  induction l with
  | nil => split <;> rfl
  | cons v l ih =>
    rw [List.map_cons, List.filter_cons]
    by_cases e : x = k
    · rw [if_pos e] at ih ⊢
      simp only [e, decide_true, if_true, List.map_cons]
      rw [e] at ih
      rw [ih]
    · rw [if_neg e] at ih ⊢
      simp only [e, decide_false, Bool.false_eq_true, if_false]
      exact ih
theorem vsOf_none {L : List Rw} {k : ByteArray} (h : ∀ r ∈ L, r.key ≠ k) : vsOf (flatOf L) k = [] := by
  induction L with
  | nil => rfl
  | cons r L ih =>
    have e : flatOf (r :: L) = (r.list.map fun v => (r.key, v)) ++ flatOf L := rfl
    rw [e, vsOf_append, vsOf_one, if_neg (h r (.head _)), ih (fun q hq => h q (.tail _ hq))]
    rfl
theorem vsOf_flat {L : List Rw} (h : Sorted L) : ∀ r ∈ L, vsOf (flatOf L) r.key = r.list := by
  induction L with
  | nil => intro r hr; cases hr
  | cons q L ih =>
    obtain ⟨h1, h2⟩ := List.pairwise_cons.1 h
    have e : flatOf (q :: L) = (q.list.map fun v => (q.key, v)) ++ flatOf L := rfl
    intro r hr
    rw [e, vsOf_append, vsOf_one]
    rcases List.mem_cons.1 hr with rfl | hr
    · rw [if_pos rfl, vsOf_none (fun x hx z => by
        have := h1 x hx
        rw [z, cb_self] at this
        omega), List.append_nil]
    · rw [if_neg (fun z => by
        have := h1 r hr
        rw [z, cb_self] at this
        omega), List.nil_append]
      exact ih h2 r hr
theorem sortK_one : ∀ {A B : List ByteArray}, SortK A → SortK B → (∀ q, q ∈ A ↔ q ∈ B) → A = B
  | [], [], _, _, _ => rfl
  | [], b :: B, _, _, h => absurd ((h b).2 (.head _)) (by simp)
  | a :: A, [], _, _, h => absurd ((h a).1 (.head _)) (by simp)
  | a :: A, b :: B, hA, hB, h => by
    obtain ⟨a1, a2⟩ := List.pairwise_cons.1 hA
    obtain ⟨b1, b2⟩ := List.pairwise_cons.1 hB
    have e : a = b := by
      rcases List.mem_cons.1 ((h a).1 (.head _)) with q | q
      · exact q
      · rcases List.mem_cons.1 ((h b).2 (.head _)) with p | p
        · exact p.symm
        · have x1 := b1 a q
          have x2 := a1 b p
          have := cb_turn a b
          omega
    subst e
    rw [sortK_one a2 b2 (fun q => ?_)]
    constructor
    · intro hq
      rcases List.mem_cons.1 ((h q).1 (.tail _ hq)) with z | z
      · subst z
        have := a1 q hq
        rw [cb_self] at this
        omega
      · exact z
    · intro hq
      rcases List.mem_cons.1 ((h q).2 (.tail _ hq)) with z | z
      · subst z
        have := b1 q hq
        rw [cb_self] at this
        omega
      · exact z
theorem rowsOf_flat {L : List Rw} (h : Okr L) : rowsOf (flatOf L) = L := by
  have hk : keysOf (flatOf L) = L.map Rw.key := by
    refine sortK_one (keysOf_sort _) (sorted_keys h.sorted) (fun q => ?_)
    rw [keysOf_mem]
    constructor
    · intro hq
      refine Classical.byContradiction fun z => hq (vsOf_none fun r hr e => z ?_)
      rw [← e]
      exact List.mem_map_of_mem hr
    · intro hq
      obtain ⟨r, hr, rfl⟩ := List.mem_map.1 hq
      rw [vsOf_flat h.sorted r hr]
      exact (h.rise r hr).ne
  unfold rowsOf
  rw [hk, List.map_map]
  have : ∀ r ∈ L, ((fun k => (⟨k, vsOf (flatOf L) k⟩ : Rw)) ∘ Rw.key) r = r := fun r hr => by
    show (⟨r.key, vsOf (flatOf L) r.key⟩ : Rw) = r
    rw [vsOf_flat h.sorted r hr]
  rw [List.map_congr_left this, List.map_id']

/-! ### A version that may not be -/
def badV (l : List Ve) (k : Nat) : Bool := match l[k]? with
  | none => false
  | some v => decide (v.ts < 1) || (match k with
    | 0 => false
    | j + 1 => match l[j]? with
      | some u => decide (v.ts ≤ u.ts)
      | none => false)
theorem badV_not {l : List Ve} {k : Nat} (hb : badV l k = true) : mayB l = false := by
  cases hm : mayB l with
  | false => rfl
  | true =>
    have hr := (mayB_rise l).1 hm
    unfold badV at hb
    cases hv : l[k]? with
    | none => rw [hv] at hb; cases hb
    | some v =>
      rw [hv] at hb
      have hm := List.mem_of_getElem? hv
      have h1 := hr.lo v hm
      simp only [Bool.or_eq_true, decide_eq_true_eq] at hb
      rcases hb with hb | hb
      · omega
      · cases k with
        | zero => cases hb
        | succ j =>
          obtain ⟨hl, e⟩ := List.getElem?_eq_some_iff.1 hv
          simp only [List.getElem?_eq_getElem (by omega : j < l.length), decide_eq_true_eq] at hb
          have := List.pairwise_iff_getElem.1 hr.up j (j + 1) (by omega) hl (by omega)
          rw [e] at this
          omega
theorem badV_all {l : List Ve} (h0 : l ≠ []) (h : ∀ k, k < l.length → badV l k = false) : mayB l = true := by
  have adj : ∀ j (hj : j + 1 < l.length), l[j].ts < l[j + 1].ts := fun j hj => by
    have := h (j + 1) hj
    unfold badV at this
    rw [List.getElem?_eq_getElem hj] at this
    simp only [List.getElem?_eq_getElem (by omega : j < l.length), Bool.or_eq_false_iff, decide_eq_false_iff_not] at this
    omega
  refine (mayB_rise l).2 ⟨h0, List.pairwise_iff_getElem.2 fun i j hi hj hij => ?_, fun v hv => ?_⟩
  · obtain ⟨d, rfl⟩ : ∃ d, j = i + 1 + d := ⟨j - i - 1, by omega⟩
    clear hij
    induction d with
    | zero => exact adj i hj
    | succ d ih =>
      have h1 := ih (by omega)
      have h2 := adj (i + 1 + d) hj
      have h3 : l[i].ts < l[i + 1 + d].ts := h1
      show l[i].ts < l[i + 1 + d + 1].ts
      omega
  · obtain ⟨i, hi, e⟩ := List.getElem_of_mem hv
    have := h i hi
    unfold badV at this
    rw [List.getElem?_eq_getElem hi, e] at this
    simp only [Bool.or_eq_false_iff, decide_eq_false_iff_not] at this
    omega

/-! ### A row more -/
section
variable {w X : World} {A : Nat} {S : Nat → Prop} {G : List Gw} {rv rv' lv : Value} {r : Rw} {Y2 : Nat}
theorem Sv.snoc (h : Sv w A S G rv) (hf : Fr w X (fun j => rv.ownBlock = some j)) (ho : X.ownsRow 0 67 1 rv' (G.length + 1) (G.map gP ++ [.pointer (some ⟨Y2, 0, none⟩)])) (hb : ∀ j, rv'.ownBlock = some j → rv.ownBlock = some j ∨ w.heap.size ≤ j)
    (j1 : X.ownsRow w.heap.size 31 3 lv r.list.length (veC r.list)) (j2 : X.heap[Y2]? = some (.cells #[.string r.key, lv] 50 (0, 0))) (y2 : w.heap.size ≤ Y2) (hok : Okr (G.map Gw.r ++ [r])) (hfew : G.length < 800000) (hless : r.list.length ≤ 800000) :
    Sv (X.setCell ⟨A, 0, none⟩ rv') A (Gro S w (X.setCell ⟨A, 0, none⟩ rv')) (G ++ [⟨r, Y2, lv⟩]) rv' ∧ Fr w (X.setCell ⟨A, 0, none⟩ rv') S := by
  have hz := hf.size
  have hsz : (X.setCell ⟨A, 0, none⟩ rv').heap.size = X.heap.size := by simp [World.setCell]
  have hlt := h.lt
  have hA := hlt A h.covA
  have hfA : Fr X (X.setCell ⟨A, 0, none⟩ rv') (fun j => j = A) := Fr.set (a := ⟨A, 0, none⟩) (Fr.refl X (fun j => j = A)) (Or.inl rfl) _
  have hrA : ¬ rv.ownBlock = some A := fun e => by
    obtain ⟨cs, t⟩ := own_tag h.rows A e
    exact tag_ne t h.ob (by decide) rfl
  have hobA : X.heap[A]? = some (.cells #[rv] 63 (0, 0)) := (hf.block A hA hrA).trans h.ob
  have hF : Fr w (X.setCell ⟨A, 0, none⟩ rv') S := (hf.mono (fun j e => h.cov j e)).trans (hfA.mono (fun j e => by have e' : j = A := e; rw [e']; exact h.covA))
  have hin : ∀ j, rv'.ownBlock = some j → Gro S w (X.setCell ⟨A, 0, none⟩ rv') j := fun j e => by
    rcases hb j e with q | q
    · exact .inl (h.cov j q)
    · exact .inr ⟨q, by rw [hsz]; exact (ho.lt j e).2⟩
  have hpb : ∀ g ∈ G, X.heap[g.ptr]? = some (.cells #[.string g.r.key, g.lv] 50 (0, 0)) := fun g hg => (hf.block _ (hlt _ (h.covp g hg)) (fun e => by
    obtain ⟨cs, t⟩ := own_tag h.rows _ e
    exact tag_ne t (h.at' g hg) (by decide) rfl)).trans (h.at' g hg)
  have hlb : ∀ g ∈ G, X.ownsRow 0 31 3 g.lv g.r.list.length (veC g.r.list) := fun g hg => row_keep (h.ls g hg) hf (fun j e1 e2 => by
    obtain ⟨c1, t1⟩ := own_tag (h.ls g hg) j e1
    obtain ⟨c2, t2⟩ := own_tag h.rows j e2
    exact tag_ne t1 t2 (by decide) rfl)
  have hY2A : Y2 ≠ A := by omega
  have hmem : ∀ {g : Gw}, g ∈ G ++ [⟨r, Y2, lv⟩] → g = ⟨r, Y2, lv⟩ ∨ g ∈ G := fun hg => by
    rcases List.mem_append.1 hg with q | q
    · exact .inr q
    · exact .inl (List.mem_singleton.1 q)
  refine ⟨⟨?_, ?_, fun g hg => ?_, fun g hg => ?_, ?_, .inl h.covA, hin, fun g hg => ?_, fun g hg j e => ?_, fun j q => ?_, ?_, fun g hg => ?_, ?_⟩, hF⟩
  · exact set_blk (i := 0) hobA rv'
  · rw [List.length_append, List.map_append]
    exact row_keep ho hfA (fun j e e2 => by
      obtain ⟨cs, t⟩ := own_tag ho j e
      have e2' : j = A := e2
      subst e2'
      exact tag_ne t hobA (by decide) rfl)
  · rcases hmem hg with rfl | hg
    · exact (set_other rv' hY2A).trans j2
    · exact (set_other rv' (tag_ne (hpb g hg) hobA (by decide))).trans (hpb g hg)
  · rcases hmem hg with rfl | hg
    · exact own_mono (row_keep j1 hfA (fun j e e2 => by
        have e3 := (j1.lt j e).1
        have e2' : j = A := e2
        omega)) (Nat.zero_le _)
    · exact row_keep (hlb g hg) hfA (fun j e e2 => by
        obtain ⟨cs, t⟩ := own_tag (hlb g hg) j e
        have e2' : j = A := e2
        subst e2'
        exact tag_ne t hobA (by decide) rfl)
  · refine List.pairwise_append.2 ⟨h.apart, List.pairwise_singleton _ _, fun g hg x hx => ?_⟩
    rw [List.mem_singleton.1 hx]
    refine ⟨?_, fun j e1 e2 => ?_⟩
    · have := hlt _ (h.covp g hg)
      show g.ptr ≠ Y2
      omega
    · have := hlt _ (h.covl g hg j e1)
      have e3 := (j1.lt j e2).1
      omega
  · rcases hmem hg with rfl | hg
    · exact .inr ⟨y2, by rw [hsz]; exact blk_lt j2⟩
    · exact .inl (h.covp g hg)
  · rcases hmem hg with rfl | hg
    · have e3 := j1.lt j e
      exact .inr ⟨e3.1, by rw [hsz]; exact e3.2⟩
    · exact .inl (h.covl g hg j e)
  · rcases q with q | q
    · have := hlt j q
      omega
    · exact q.2
  · rw [List.length_append]
    show G.length + 1 ≤ 800000
    omega
  · rcases hmem hg with rfl | hg
    · exact hless
    · exact h.less g hg
  · rw [List.map_append]
    exact hok
end
end Go.Proofs.Ythjnfkgheihgkaa
