/- Rows that a slice reads; the walk of SameRows. -/
import Derived.Test.YtcoaahlakkghhaaGe
import Derived.BigQuiet
import Derived.Deep.QuietTactic
namespace Go.Proofs.Ytcoaahlakkghhaa
open Go.RowKit
section
variable {w w' : World} {R : List Rw} {v : Value}
/-- Rows that a slice reads. -/
def Rd (w : World) (R : List Rw) (v : Value) : Prop := ∃ ad cap, v = .slice ad R.length cap ∧ (ad = none → cap = 0) ∧ R.length ≤ cap ∧ cap ≤ maxLen ∧
  ∀ i (h : i < R.length), ∃ b o lv, ad = some ⟨b, o, none⟩ ∧ b < w.heap.size ∧ w.cell? ⟨b, o + i * 2, none⟩ = some (.string R[i].key) ∧ w.cell? ⟨b, o + i * 2 + 1, none⟩ = some lv ∧ Vs w R[i].list lv
theorem Rd.on (h : Rd w R v) (hb : Below w.heap.size w w') : Rd w' R v := by
  obtain ⟨ad, cap, e, h0, h1, h2, h3⟩ := h
  refine ⟨ad, cap, e, h0, h1, h2, fun i hi => ?_⟩
  obtain ⟨b, o, lv, ha, hl, c0, c1, hv⟩ := h3 i hi
  exact ⟨b, o, lv, ha, Nat.lt_of_lt_of_le hl hb.size, cell_on hb c0, cell_on hb c1, hv.on hb⟩
theorem Rm.rd {B : Nat} {P : List (Rw × Value)} (h : Rm w B P v) (e : P.map Prod.fst = R) : Rd w R v := by
  subst e
  rcases h.own.2 with ⟨hv, h0⟩ | ⟨g, cap, cur, hv, hg, hc, h1, h2, hr⟩
  · exact ⟨none, 0, by rw [hv, List.length_map, h0], fun _ => rfl, by rw [List.length_map]; omega, Nat.zero_le _, fun i hi => by rw [List.length_map] at hi; omega⟩
  · subst hv
    refine ⟨_, cap, by rw [List.length_map], fun q => (by cases q), by rw [List.length_map]; exact h1, h2, fun i hi => ?_⟩
    rw [List.length_map] at hi
    obtain ⟨q0, q1⟩ := rwC_get P i hi
    have ho := h.own
    refine ⟨g, 0, P[i].2, rfl, blk_lt hc, ?_, ?_, ?_⟩
    · rw [Nat.zero_add, List.getElem_map]
      exact (ho.cellAt _ (by omega)).trans q0
    · rw [Nat.zero_add]
      exact (ho.cellAt _ (by omega)).trans q1
    · rw [List.getElem_map]
      exact Vs.own (h.ls _ (List.getElem_mem hi))
end
end Go.Proofs.Ytcoaahlakkghhaa
/- The walk of mayBe. -/
namespace Go.Proofs.Ytcoaahlakkghhaa
open Go.RowKit
/-- Times rise, from later than t on. -/
def risesB (t : Int) : List Ve → Bool
  | [] => true
  | v :: l => decide (t < v.ts) && risesB v.ts l
def mayB (l : List Ve) : Bool := risesB 0 l && decide (0 < l.length)
theorem risesB_iff (t : Int) (l : List Ve) : risesB t l = true ↔ l.Pairwise (fun a b => a.ts < b.ts) ∧ ∀ v ∈ l, t < v.ts := by
  induction l generalizing t with
  | nil => simp [risesB]
  | cons v l ih =>
    simp only [risesB, Bool.and_eq_true, decide_eq_true_eq, ih, List.pairwise_cons, List.mem_cons]
    constructor
    · rintro ⟨h1, h2, h3⟩
      refine ⟨⟨h3, h2⟩, fun u hu => ?_⟩
      rcases hu with rfl | hu
      · exact h1
      · have := h3 u hu
        omega
    · rintro ⟨⟨h3, h2⟩, h4⟩
      exact ⟨h4 v (.inl rfl), h2, h3⟩
theorem mayB_rise (l : List Ve) : mayB l = true ↔ Rise l := by
  unfold mayB
  rw [Bool.and_eq_true, risesB_iff, decide_eq_true_eq]
  constructor
  · rintro ⟨⟨h1, h2⟩, h3⟩
    exact ⟨List.length_pos_iff.1 h3, h1, fun v hv => by have := h2 v hv; omega⟩
  · rintro ⟨h1, h2, h3⟩
    exact ⟨⟨h2, fun v hv => by have := h3 v hv; omega⟩, List.length_pos_iff.2 h1⟩
theorem risesB_drop {l : List Ve} {i : Nat} (h : i < l.length) (t : Int) : risesB t (l.drop i) = (decide (t < l[i].ts) && risesB l[i].ts (l.drop (i + 1))) := by
  rw [List.drop_eq_getElem_cons h]
  rfl
section
variable {w : World} {l : List Ve} {v : Value}
set_option maxHeartbeats 4000000 in
set_option maxRecDepth 100000 in
theorem mayBe_any (hl : Vs w l v) : Calls Try.prog 70 #[v] w fun e w' => e = .returned (.bool (mayB l)) ∧ Below w.heap.size w w' := by
  obtain ⟨ad, cap, rfl, _, z1, z2, hX⟩ := hl
  have hmx : (l.length : Int) ≤ 9223372036854775807 := by unfold maxLen at z2; omega
  have HX := Lib.hid hX
  obtain ⟨f, hf⟩ : ∃ f, risesB 0 l = f := ⟨_, rfl⟩
  have HF := Lib.hid hf
  clear hX z1 z2 hf
  go_enter Try.func70, Try.ntmps70
  go_wp2
  go_loopw [3, 8] (fun tv iv wr => ∃ (i : Nat) (t : Int), i ≤ l.length ∧ iv = .int .i64 (i : Int) ∧ tv = .int .i64 t ∧ risesB t (l.drop i) = f ∧ Below w.heap.size w wr) (fun _ iv _ => l.length - (intOf iv).toNat)
  case atStart => exact ⟨0, 0, Nat.zero_le _, rfl, rfl, HF.out, Below.refl _ _⟩
  case round =>
    obtain ⟨i, t, hi, rfl, rfl, ht, hb⟩ := hrel
    obtain ⟨V, rfl⟩ : ∃ V, V = wr := ⟨_, rfl⟩
    have HT := Lib.hid ht
    have HB := Lib.hid hb
    by_cases hlt : i < l.length
    · obtain ⟨b, o, rfl, _, c0, c1, c2⟩ := HX.out i hlt
      have c0 := cell_on hb c0
      have c1 := cell_on hb c1
      have c2 := cell_on hb c2
      have k1 : (i : Int) < l.length := by omega
      have k0 : (0 : Int) ≤ i := by omega
      have HD := Lib.hid (risesB_drop hlt t)
      have HBA : Hid (∀ o : Obj, Below w.heap.size w (V.alloc o)) := fun o => hb.alloc hb.size _
      clear hb ht
      by_cases hts : l[i].ts ≤ t
      · have HR : Hid (mayB l = false) := by
          show _ = _
          unfold mayB
          have h1 := HF.out
          have h2 := HT.out
          rw [HD.out, decide_eq_false (by omega), Bool.false_and] at h2
          rw [h1, ← h2, Bool.false_and]
        go_wp2
        go_ret
        exact ⟨by rw [HR.out]; rfl, HBA.out _⟩
      · have HR : Hid (risesB l[i].ts (l.drop (i + 1)) = f) := by
          show _ = _
          have h2 := HT.out
          rw [HD.out, decide_eq_true (by omega), Bool.true_and] at h2
          exact h2
        go_wp2
        go_roundw
        case rel => exact ⟨i + 1, l[i].ts, hlt, by go_num, rfl, HR.out, HBA.out _⟩
        case measure => simp [intOf]; omega
    · have k1 : ¬ ((i : Int) < l.length) := by omega
      have HR : Hid (mayB l = decide (0 < l.length)) := by
        show _ = _
        unfold mayB
        have h1 := HF.out
        have h2 := HT.out
        rw [List.drop_of_length_le (by omega)] at h2
        have h3 : f = true := h2.symm
        rw [h1, h3, Bool.true_and]
      clear hb ht
      by_cases hz : 0 < l.length
      · have hz' : (0 : Int) < l.length := by omega
        go_wp2
        go_ret
        exact ⟨by rw [HR.out, decide_eq_true hz]; rfl, HB.out⟩
      · have hz' : ¬ (0 : Int) < l.length := by omega
        go_wp2
        go_ret
        exact ⟨by rw [HR.out, decide_eq_false hz]; rfl, HB.out⟩
end
end Go.Proofs.Ytcoaahlakkghhaa
/- The document's store, plain: versions in the order in which they were put. -/
namespace Go.Proofs.Ytcoaahlakkghhaa

abbrev On := ByteArray × Ve
def vsOf (D : List On) (k : ByteArray) : List Ve := (D.filter (fun p => decide (p.1 = k))).map Prod.snd
def insK (K : List ByteArray) (k : ByteArray) : List ByteArray := if K[pk K k]? = some k then K else inn K (pk K k) k
def keysOf (D : List On) : List ByteArray := D.foldl (fun K p => insK K p.1) []
def rowsOf (D : List On) : List Rw := (keysOf D).map (fun k => ⟨k, vsOf D k⟩)
def newD (D : List On) (k : ByteArray) : Int := newest (vsOf D k)
def putDE (D : List On) (k : ByteArray) (v : Ve) : Int := if v.ts < 1 then 1 else if v.ts ≤ newD D k then 120 else 0
def putD (D : List On) (k : ByteArray) (v : Ve) : List On := if v.ts < 1 then D else if v.ts ≤ newD D k then D else D ++ [(k, v)]
abbrev SortK (K : List ByteArray) : Prop := K.Pairwise (fun a b => cb a b < 0)

theorem keysOf_snoc (D : List On) (p : On) : keysOf (D ++ [p]) = insK (keysOf D) p.1 := by
  unfold keysOf
  rw [List.foldl_append]
  rfl
theorem vsOf_snoc (D : List On) (k : ByteArray) (v : Ve) (q : ByteArray) : vsOf (D ++ [(k, v)]) q = vsOf D q ++ (if k = q then [v] else []) := by
  unfold vsOf
  rw [List.filter_append, List.map_append]
  congr 1
  by_cases h : k = q
  · rw [if_pos h]
    simp [h]
  · rw [if_neg h]
    simp [h]
theorem pk_hit {K : List ByteArray} (hs : SortK K) {k : ByteArray} (h : k ∈ K) : K[pk K k]? = some k := by
  obtain ⟨i, hi, e⟩ := List.getElem_of_mem h
  have : pk K k = i := by
    refine pk_is (by omega) (fun j hj hji => ?_) (fun _ => ?_)
    · have := List.pairwise_iff_getElem.1 hs j i hj hi hji
      rw [e] at this
      exact this
    · rw [e, cb_self]
      omega
  rw [this, List.getElem?_eq_getElem hi, e]
theorem insK_sort {K : List ByteArray} (hs : SortK K) (k : ByteArray) : SortK (insK K k) := by
  unfold insK
  split
  · exact hs
  · rename_i hn
    have h1 : ∀ a ∈ K.take (pk K k), cb a k < 0 := by
      intro a ha
      obtain ⟨i, hi, e⟩ := List.getElem_of_mem ha
      rw [List.getElem_take] at e
      rw [List.length_take] at hi
      rw [← e]
      exact pk_lt (by omega) (by omega)
    have h2 : ∀ b ∈ K.drop (pk K k), cb k b < 0 := by
      intro b hb
      obtain ⟨i, hi, e⟩ := List.getElem_of_mem hb
      rw [List.getElem_drop] at e
      rw [List.length_drop] at hi
      have h0 := pk_ge hs (k := k) (i := pk K k + i) (by omega) (by omega)
      rw [e] at h0
      have h3 : cb b k ≠ 0 := fun z => by
        have := cb_is.1 z
        subst this
        exact hn (pk_hit hs (List.mem_of_mem_drop hb))
      have := cb_turn b k
      omega
    unfold inn
    refine List.pairwise_append.2 ⟨hs.sublist (List.take_sublist _ _), List.pairwise_cons.2 ⟨h2, hs.sublist (List.drop_sublist _ _)⟩, fun a ha b hb => ?_⟩
    rcases List.mem_cons.1 hb with rfl | hb
    · exact h1 a ha
    · exact cb_lt (h1 a ha) (by have := h2 b hb; omega)
theorem keysOf_sort (D : List On) : SortK (keysOf D) := by
  unfold keysOf
  suffices h : ∀ (D : List On) (K : List ByteArray), SortK K → SortK (D.foldl (fun K p => insK K p.1) K) from h D [] List.Pairwise.nil
  intro D
  induction D with
  | nil => exact fun K h => h
  | cons p D ih => exact fun K h => ih _ (insK_sort h p.1)
theorem insK_mem {K : List ByteArray} {k q : ByteArray} : q ∈ insK K k ↔ q = k ∨ q ∈ K := by
  unfold insK
  split
  · rename_i h
    exact ⟨.inr, fun e => e.elim (fun e => by rw [e]; exact List.mem_of_getElem? h) id⟩
  · unfold inn
    constructor
    · intro h
      rcases List.mem_append.1 h with h | h
      · exact .inr (List.mem_of_mem_take h)
      · rcases List.mem_cons.1 h with h | h
        · exact .inl h
        · exact .inr (List.mem_of_mem_drop h)
    · rintro (rfl | h)
      · exact List.mem_append_right _ (.head _)
      · rw [← List.take_append_drop (pk K k) K] at h
        rcases List.mem_append.1 h with h | h
        · exact List.mem_append_left _ h
        · exact List.mem_append_right _ (.tail _ h)
theorem keysOf_mem (D : List On) (q : ByteArray) : q ∈ keysOf D ↔ vsOf D q ≠ [] := by
  have key : q ∈ keysOf D ↔ ∃ p ∈ D, p.1 = q := by
    unfold keysOf
    suffices h : ∀ (D : List On) (K : List ByteArray), q ∈ D.foldl (fun K p => insK K p.1) K ↔ (∃ p ∈ D, p.1 = q) ∨ q ∈ K by
      rw [h D []]
      simp
    intro D
    induction D with
    | nil => simp
    | cons p D ih =>
      intro K
      rw [List.foldl_cons, ih, insK_mem]
      constructor
      · rintro (⟨x, hx, e⟩ | e | h)
        · exact .inl ⟨x, .tail _ hx, e⟩
        · exact .inl ⟨p, .head _, e.symm⟩
        · exact .inr h
      · rintro (⟨x, hx, e⟩ | h)
        · rcases List.mem_cons.1 hx with rfl | hx
          · exact .inr (.inl e.symm)
          · exact .inl ⟨x, hx, e⟩
        · exact .inr (.inr h)
  rw [key]
  unfold vsOf
  rw [ne_eq, List.map_eq_nil_iff, List.filter_eq_nil_iff]
  simp only [decide_eq_true_eq, Classical.not_forall, Classical.not_not]
  exact ⟨fun ⟨p, h, e⟩ => ⟨p, h, e⟩, fun ⟨p, h, e⟩ => ⟨p, h, e⟩⟩
theorem rowsOf_keys (D : List On) : (rowsOf D).map Rw.key = keysOf D := by
  unfold rowsOf
  rw [List.map_map]
  exact List.map_id _
theorem rowsOf_place (D : List On) (k : ByteArray) : place (rowsOf D) k = pk (keysOf D) k := by
  unfold place
  rw [rowsOf_keys]
theorem newD_is (D : List On) (k : ByteArray) : newR (rowsOf D) k = newD D k := by
  unfold newR
  rw [rowsOf_place]
  unfold rowsOf newD
  rw [List.getElem?_map]
  by_cases h : k ∈ keysOf D
  · rw [pk_hit (keysOf_sort D) h]
    simp
  · have hv : vsOf D k = [] := Classical.byContradiction fun q => h ((keysOf_mem D k).2 q)
    rw [hv]
    cases hq : (keysOf D)[pk (keysOf D) k]? with
    | none => rfl
    | some q =>
      have : q ≠ k := fun e => h (by rw [← e]; exact List.mem_of_getElem? hq)
      simp [this, newest]
theorem putDE_is (D : List On) (k : ByteArray) (v : Ve) : putE (rowsOf D) k v = putDE D k v := by
  unfold putE putDE
  rw [newD_is]
theorem putD_is (D : List On) (k : ByteArray) (v : Ve) : rowsOf (putD D k v) = putR (rowsOf D) k v := by
  have hn := newD_is D k
  unfold putD putR
  by_cases h1 : v.ts < 1
  · rw [if_pos h1, if_pos h1]
  rw [if_neg h1, if_neg h1, rowsOf_place]
  have hsort := keysOf_sort D
  by_cases h : k ∈ keysOf D
  · have hp := pk_hit hsort h
    have hr : (rowsOf D)[pk (keysOf D) k]? = some ⟨k, vsOf D k⟩ := by
      unfold rowsOf
      rw [List.getElem?_map, hp]
      rfl
    rw [hr]
    simp only [if_true]
    by_cases h2 : v.ts ≤ newD D k
    · rw [if_pos h2, if_pos (show v.ts ≤ newest (vsOf D k) from h2)]
    · rw [if_neg h2, if_neg (show ¬ v.ts ≤ newest (vsOf D k) from h2)]
      obtain ⟨hl, he⟩ := List.getElem?_eq_some_iff.1 hp
      have hk : keysOf (D ++ [(k, v)]) = keysOf D := by
        rw [keysOf_snoc]
        unfold insK
        rw [if_pos hp]
      unfold rowsOf
      rw [hk]
      refine List.ext_getElem (by simp) (fun i hi hi' => ?_)
      simp only [List.length_map] at hi
      rw [List.getElem_set]
      simp only [List.getElem_map]
      rw [vsOf_snoc]
      by_cases e : pk (keysOf D) k = i
      · subst e
        rw [if_pos rfl, he, if_pos rfl]
      · rw [if_neg e, if_neg, List.append_nil]
        intro q
        rcases Nat.lt_or_gt_of_ne e with z | z
        · have := List.pairwise_iff_getElem.1 hsort _ i hl hi z
          rw [he, ← q, cb_self] at this
          omega
        · have := List.pairwise_iff_getElem.1 hsort i _ hi hl z
          rw [he, ← q, cb_self] at this
          omega
  · have hv : vsOf D k = [] := Classical.byContradiction fun q => h ((keysOf_mem D k).2 q)
    have hne : ¬ (keysOf D)[pk (keysOf D) k]? = some k := fun q => h (List.mem_of_getElem? q)
    have h2 : ¬ v.ts ≤ newD D k := by
      unfold newD
      rw [hv]
      show ¬ v.ts ≤ 0
      omega
    rw [if_neg h2]
    have hput : rowsOf (D ++ [(k, v)]) = inn (rowsOf D) (pk (keysOf D) k) ⟨k, [v]⟩ := by
      unfold rowsOf
      rw [keysOf_snoc]
      unfold insK
      rw [if_neg hne, inn_map]
      rw [vsOf_snoc, hv, if_pos rfl, List.nil_append]
      congr 1
      refine List.map_congr_left (fun q hq => ?_)
      rw [vsOf_snoc, if_neg, List.append_nil]
      intro e
      exact h (by rw [e]; exact hq)
    rw [hput]
    cases hq : (rowsOf D)[pk (keysOf D) k]? with
    | none => rfl
    | some r =>
      have : r.key ≠ k := fun e => h (by
        have : r.key ∈ (rowsOf D).map Rw.key := List.mem_map_of_mem (List.mem_of_getElem? hq)
        rw [rowsOf_keys] at this
        rw [← e]
        exact this)
      simp only [if_neg this]
end Go.Proofs.Ytcoaahlakkghhaa
/- Rows that may be loaded, plain; what a row more leaves of the store in memory. -/
namespace Go.Proofs.Ytcoaahlakkghhaa
open Go.RowKit

/-- Does the row's key not stand behind the one ahead of it? -/
def lowR (L : List Rw) : Nat → Bool
  | 0 => false
  | j + 1 => match L[j]?, L[j + 1]? with
    | some q, some r => !decide (cb q.key r.key < 0)
    | _, _ => false
/-- What is wrong with the i-th row. -/
def badR (L : List Rw) (i : Nat) : Bool := lowR L i || match L[i]? with
  | some r => !mayB r.list
  | none => false
def GoodTo (L : List Rw) (n : Nat) : Prop := ∀ i, i < n → badR L i = false
theorem lowR_at {L : List Rw} {j : Nat} (h : j + 1 < L.length) : lowR L (j + 1) = !decide (cb L[j].key L[j + 1].key < 0) := by
  show (match L[j]?, L[j + 1]? with
    | some q, some r => !decide (cb q.key r.key < 0)
    | _, _ => false) = _
  rw [List.getElem?_eq_getElem h, List.getElem?_eq_getElem (by omega : j < L.length)]
theorem badR_at {L : List Rw} {i : Nat} (h : i < L.length) : badR L i = (lowR L i || !mayB L[i].list) := by
  unfold badR
  rw [List.getElem?_eq_getElem h]
theorem good_ok {L : List Rw} (h : GoodTo L L.length) : Okr L := by
  have adj : ∀ j (hj : j + 1 < L.length), cb L[j].key L[j + 1].key < 0 := fun j hj => by
    have := h (j + 1) hj
    rw [badR_at hj, lowR_at hj] at this
    simp only [Bool.or_eq_false_iff, Bool.not_eq_false', decide_eq_true_eq] at this
    exact this.1
  refine ⟨List.pairwise_iff_getElem.2 fun i j hi hj hij => ?_, fun r hr => ?_⟩
  · obtain ⟨d, rfl⟩ : ∃ d, j = i + 1 + d := ⟨j - i - 1, by omega⟩
    clear hij
    induction d with
    | zero => exact adj i hj
    | succ d ih =>
      have h1 := ih (by omega)
      have h2 := adj (i + 1 + d) hj
      exact cb_lt h1 (Int.le_of_lt h2)
  · obtain ⟨i, hi, e⟩ := List.getElem_of_mem hr
    have := h i hi
    rw [badR_at hi, e] at this
    simp only [Bool.or_eq_false_iff, Bool.not_eq_false'] at this
    exact (mayB_rise _).1 this.2
theorem ok_good {L : List Rw} (h : Okr L) : GoodTo L L.length := by
  intro i hi
  rw [badR_at hi, (mayB_rise _).2 (h.rise _ (List.getElem_mem hi))]
  simp only [Bool.not_true, Bool.or_false]
  cases i with
  | zero => rfl
  | succ j =>
    rw [lowR_at hi, decide_eq_true (List.pairwise_iff_getElem.1 h.sorted j (j + 1) (by omega) hi (by omega))]
    rfl
theorem bad_not {L : List Rw} {i : Nat} (hi : i < L.length) (h : badR L i = true) : ¬ Okr L := fun q => by
  have := ok_good q i hi
  rw [h] at this
  cases this
theorem ok_take {L : List Rw} (h : Okr L) (n : Nat) : Okr (L.take n) := ⟨h.sorted.sublist (List.take_sublist _ _), fun r hr => h.rise r (List.mem_of_mem_take hr)⟩

/-! ### The versions, one behind the other -/
def flatOf (L : List Rw) : List On := L.flatMap fun r => r.list.map fun v => (r.key, v)
theorem flatOf_append (a b : List Rw) : flatOf (a ++ b) = flatOf a ++ flatOf b := by unfold flatOf; rw [List.flatMap_append]
theorem vsOf_append (a b : List On) (k : ByteArray) : vsOf (a ++ b) k = vsOf a k ++ vsOf b k := by unfold vsOf; rw [List.filter_append, List.map_append]
theorem vsOf_one (x k : ByteArray) (l : List Ve) : vsOf (l.map fun v => (x, v)) k = if x = k then l else [] := by
  unfold vsOf
  induction l with
  | nil => split <;> rfl
  | cons v l ih =>
    rw [List.map_cons, List.filter_cons]
    by_cases e : x = k
    · rw [if_pos e] at ih ⊢
      simp only [e, decide_true, if_true, List.map_cons]
      rw [e] at ih
      rw [ih]
    · rw [if_neg e] at ih ⊢
      simp only [e, decide_false, Bool.false_eq_true, if_false]
      exact ih
theorem vsOf_none {L : List Rw} {k : ByteArray} (h : ∀ r ∈ L, r.key ≠ k) : vsOf (flatOf L) k = [] := by
  induction L with
  | nil => rfl
  | cons r L ih =>
    have e : flatOf (r :: L) = (r.list.map fun v => (r.key, v)) ++ flatOf L := rfl
    rw [e, vsOf_append, vsOf_one, if_neg (h r (.head _)), ih (fun q hq => h q (.tail _ hq))]
    rfl
theorem vsOf_flat {L : List Rw} (h : Sorted L) : ∀ r ∈ L, vsOf (flatOf L) r.key = r.list := by
  induction L with
  | nil => intro r hr; cases hr
  | cons q L ih =>
    obtain ⟨h1, h2⟩ := List.pairwise_cons.1 h
    have e : flatOf (q :: L) = (q.list.map fun v => (q.key, v)) ++ flatOf L := rfl
    intro r hr
    rw [e, vsOf_append, vsOf_one]
    rcases List.mem_cons.1 hr with rfl | hr
    · rw [if_pos rfl, vsOf_none (fun x hx z => by
        have := h1 x hx
        rw [z, cb_self] at this
        omega), List.append_nil]
    · rw [if_neg (fun z => by
        have := h1 r hr
        rw [z, cb_self] at this
        omega), List.nil_append]
      exact ih h2 r hr
theorem sortK_one : ∀ {A B : List ByteArray}, SortK A → SortK B → (∀ q, q ∈ A ↔ q ∈ B) → A = B
  | [], [], _, _, _ => rfl
  | [], b :: B, _, _, h => absurd ((h b).2 (.head _)) (by simp)
  | a :: A, [], _, _, h => absurd ((h a).1 (.head _)) (by simp)
  | a :: A, b :: B, hA, hB, h => by
    obtain ⟨a1, a2⟩ := List.pairwise_cons.1 hA
    obtain ⟨b1, b2⟩ := List.pairwise_cons.1 hB
    have e : a = b := by
      rcases List.mem_cons.1 ((h a).1 (.head _)) with q | q
      · exact q
      · rcases List.mem_cons.1 ((h b).2 (.head _)) with p | p
        · exact p.symm
        · have x1 := b1 a q
          have x2 := a1 b p
          have := cb_turn a b
          omega
    subst e
    rw [sortK_one a2 b2 (fun q => ?_)]
    constructor
    · intro hq
      rcases List.mem_cons.1 ((h q).1 (.tail _ hq)) with z | z
      · subst z
        have := a1 q hq
        rw [cb_self] at this
        omega
      · exact z
    · intro hq
      rcases List.mem_cons.1 ((h q).2 (.tail _ hq)) with z | z
      · subst z
        have := b1 q hq
        rw [cb_self] at this
        omega
      · exact z
theorem rowsOf_flat {L : List Rw} (h : Okr L) : rowsOf (flatOf L) = L := by
  have hk : keysOf (flatOf L) = L.map Rw.key := by
    refine sortK_one (keysOf_sort _) (sorted_keys h.sorted) (fun q => ?_)
    rw [keysOf_mem]
    constructor
    · intro hq
      refine Classical.byContradiction fun z => hq (vsOf_none fun r hr e => z ?_)
      rw [← e]
      exact List.mem_map_of_mem hr
    · intro hq
      obtain ⟨r, hr, rfl⟩ := List.mem_map.1 hq
      rw [vsOf_flat h.sorted r hr]
      exact (h.rise r hr).ne
  unfold rowsOf
  rw [hk, List.map_map]
  have : ∀ r ∈ L, ((fun k => (⟨k, vsOf (flatOf L) k⟩ : Rw)) ∘ Rw.key) r = r := fun r hr => by
    show (⟨r.key, vsOf (flatOf L) r.key⟩ : Rw) = r
    rw [vsOf_flat h.sorted r hr]
  rw [List.map_congr_left this, List.map_id']

/-! ### A version that may not be -/
def badV (l : List Ve) (k : Nat) : Bool := match l[k]? with
  | none => false
  | some v => decide (v.ts < 1) || (match k with
    | 0 => false
    | j + 1 => match l[j]? with
      | some u => decide (v.ts ≤ u.ts)
      | none => false)
theorem badV_not {l : List Ve} {k : Nat} (hb : badV l k = true) : mayB l = false := by
  cases hm : mayB l with
  | false => rfl
  | true =>
    have hr := (mayB_rise l).1 hm
    unfold badV at hb
    cases hv : l[k]? with
    | none => rw [hv] at hb; cases hb
    | some v =>
      rw [hv] at hb
      have hm := List.mem_of_getElem? hv
      have h1 := hr.lo v hm
      simp only [Bool.or_eq_true, decide_eq_true_eq] at hb
      rcases hb with hb | hb
      · omega
      · cases k with
        | zero => cases hb
        | succ j =>
          obtain ⟨hl, e⟩ := List.getElem?_eq_some_iff.1 hv
          simp only [List.getElem?_eq_getElem (by omega : j < l.length), decide_eq_true_eq] at hb
          have := List.pairwise_iff_getElem.1 hr.up j (j + 1) (by omega) hl (by omega)
          rw [e] at this
          omega
theorem badV_all {l : List Ve} (h0 : l ≠ []) (h : ∀ k, k < l.length → badV l k = false) : mayB l = true := by
  have adj : ∀ j (hj : j + 1 < l.length), l[j].ts < l[j + 1].ts := fun j hj => by
    have := h (j + 1) hj
    unfold badV at this
    rw [List.getElem?_eq_getElem hj] at this
    simp only [List.getElem?_eq_getElem (by omega : j < l.length), Bool.or_eq_false_iff, decide_eq_false_iff_not] at this
    omega
  refine (mayB_rise l).2 ⟨h0, List.pairwise_iff_getElem.2 fun i j hi hj hij => ?_, fun v hv => ?_⟩
  · obtain ⟨d, rfl⟩ : ∃ d, j = i + 1 + d := ⟨j - i - 1, by omega⟩
    clear hij
    induction d with
    | zero => exact adj i hj
    | succ d ih =>
      have h1 := ih (by omega)
      have h2 := adj (i + 1 + d) hj
      have h3 : l[i].ts < l[i + 1 + d].ts := h1
      show l[i].ts < l[i + 1 + d + 1].ts
      omega
  · obtain ⟨i, hi, e⟩ := List.getElem_of_mem hv
    have := h i hi
    unfold badV at this
    rw [List.getElem?_eq_getElem hi, e] at this
    simp only [Bool.or_eq_false_iff, decide_eq_false_iff_not] at this
    omega

/-! ### A row more -/
section
variable {w X : World} {A : Nat} {S : Nat → Prop} {G : List Gw} {rv rv' lv : Value} {r : Rw} {Y2 : Nat}
theorem Sv.snoc (h : Sv w A S G rv) (hf : Fr w X (fun j => rv.ownBlock = some j)) (ho : X.ownsRow 0 126 1 rv' (G.length + 1) (G.map gP ++ [.pointer (some ⟨Y2, 0, none⟩)])) (hb : ∀ j, rv'.ownBlock = some j → rv.ownBlock = some j ∨ w.heap.size ≤ j)
    (j1 : X.ownsRow w.heap.size 125 3 lv r.list.length (veC r.list)) (j2 : X.heap[Y2]? = some (.cells #[.string r.key, lv] 129 (0, 0))) (y2 : w.heap.size ≤ Y2) (hok : Okr (G.map Gw.r ++ [r])) (hfew : G.length < 800000) (hless : r.list.length ≤ 800000) :
    Sv (X.setCell ⟨A, 0, none⟩ rv') A (Gro S w (X.setCell ⟨A, 0, none⟩ rv')) (G ++ [⟨r, Y2, lv⟩]) rv' ∧ Fr w (X.setCell ⟨A, 0, none⟩ rv') S := by
  have hz := hf.size
  have hsz : (X.setCell ⟨A, 0, none⟩ rv').heap.size = X.heap.size := by simp [World.setCell]
  have hlt := h.lt
  have hA := hlt A h.covA
  have hfA : Fr X (X.setCell ⟨A, 0, none⟩ rv') (fun j => j = A) := Fr.set (a := ⟨A, 0, none⟩) (Fr.refl X (fun j => j = A)) (Or.inl rfl) _
  have hrA : ¬ rv.ownBlock = some A := fun e => by
    obtain ⟨cs, t⟩ := own_tag h.rows A e
    exact tag_ne t h.ob (by decide) rfl
  have hobA : X.heap[A]? = some (.cells #[rv] 116 (0, 0)) := (hf.block A hA hrA).trans h.ob
  have hF : Fr w (X.setCell ⟨A, 0, none⟩ rv') S := (hf.mono (fun j e => h.cov j e)).trans (hfA.mono (fun j e => by have e' : j = A := e; rw [e']; exact h.covA))
  have hin : ∀ j, rv'.ownBlock = some j → Gro S w (X.setCell ⟨A, 0, none⟩ rv') j := fun j e => by
    rcases hb j e with q | q
    · exact .inl (h.cov j q)
    · exact .inr ⟨q, by rw [hsz]; exact (ho.lt j e).2⟩
  have hpb : ∀ g ∈ G, X.heap[g.ptr]? = some (.cells #[.string g.r.key, g.lv] 129 (0, 0)) := fun g hg => (hf.block _ (hlt _ (h.covp g hg)) (fun e => by
    obtain ⟨cs, t⟩ := own_tag h.rows _ e
    exact tag_ne t (h.at' g hg) (by decide) rfl)).trans (h.at' g hg)
  have hlb : ∀ g ∈ G, X.ownsRow 0 125 3 g.lv g.r.list.length (veC g.r.list) := fun g hg => row_keep (h.ls g hg) hf (fun j e1 e2 => by
    obtain ⟨c1, t1⟩ := own_tag (h.ls g hg) j e1
    obtain ⟨c2, t2⟩ := own_tag h.rows j e2
    exact tag_ne t1 t2 (by decide) rfl)
  have hY2A : Y2 ≠ A := by omega
  have hmem : ∀ {g : Gw}, g ∈ G ++ [⟨r, Y2, lv⟩] → g = ⟨r, Y2, lv⟩ ∨ g ∈ G := fun hg => by
    rcases List.mem_append.1 hg with q | q
    · exact .inr q
    · exact .inl (List.mem_singleton.1 q)
  refine ⟨⟨?_, ?_, fun g hg => ?_, fun g hg => ?_, ?_, .inl h.covA, hin, fun g hg => ?_, fun g hg j e => ?_, fun j q => ?_, ?_, fun g hg => ?_, ?_⟩, hF⟩
  · exact set_blk (i := 0) hobA rv'
  · rw [List.length_append, List.map_append]
    exact row_keep ho hfA (fun j e e2 => by
      obtain ⟨cs, t⟩ := own_tag ho j e
      have e2' : j = A := e2
      subst e2'
      exact tag_ne t hobA (by decide) rfl)
  · rcases hmem hg with rfl | hg
    · exact (set_other rv' hY2A).trans j2
    · exact (set_other rv' (tag_ne (hpb g hg) hobA (by decide))).trans (hpb g hg)
  · rcases hmem hg with rfl | hg
    · exact own_mono (row_keep j1 hfA (fun j e e2 => by
        have e3 := (j1.lt j e).1
        have e2' : j = A := e2
        omega)) (Nat.zero_le _)
    · exact row_keep (hlb g hg) hfA (fun j e e2 => by
        obtain ⟨cs, t⟩ := own_tag (hlb g hg) j e
        have e2' : j = A := e2
        subst e2'
        exact tag_ne t hobA (by decide) rfl)
  · refine List.pairwise_append.2 ⟨h.apart, List.pairwise_singleton _ _, fun g hg x hx => ?_⟩
    rw [List.mem_singleton.1 hx]
    refine ⟨?_, fun j e1 e2 => ?_⟩
    · have := hlt _ (h.covp g hg)
      show g.ptr ≠ Y2
      omega
    · have := hlt _ (h.covl g hg j e1)
      have e3 := (j1.lt j e2).1
      omega
  · rcases hmem hg with rfl | hg
    · exact .inr ⟨y2, by rw [hsz]; exact blk_lt j2⟩
    · exact .inl (h.covp g hg)
  · rcases hmem hg with rfl | hg
    · have e3 := j1.lt j e
      exact .inr ⟨e3.1, by rw [hsz]; exact e3.2⟩
    · exact .inl (h.covl g hg j e)
  · rcases q with q | q
    · have := hlt j q
      omega
    · exact q.2
  · rw [List.length_append]
    show G.length + 1 ≤ 800000
    omega
  · rcases hmem hg with rfl | hg
    · exact hless
    · exact h.less g hg
  · rw [List.map_append]
    exact hok
end
end Go.Proofs.Ytcoaahlakkghhaa
