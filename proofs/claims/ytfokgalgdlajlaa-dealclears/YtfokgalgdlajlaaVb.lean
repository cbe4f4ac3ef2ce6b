/- Keys, bounds and parts, plain. -/
import Derived.Test.YtfokgalgdlajlaaVa
import Derived.Lib.Bytealg
namespace Go.Proofs.Ytfokgalgdlajlaa

theorem cb_anti : ∀ a b : List UInt8, Lib.compareBytes b a = - Lib.compareBytes a b
  | [], [] => rfl
  | [], _ :: _ => rfl
  | _ :: _, [] => rfl
  | x :: a, y :: b => by
    have ih := cb_anti a b
    simp only [Lib.compareBytes]
    by_cases h1 : x < y
    · have h2 : ¬ y < x := UInt8.lt_asymm h1
      simp [h1, h2]
    · by_cases h2 : y < x
      · simp [h1, h2]
      · simp [h1, h2, ih]

theorem cb_zero : ∀ a b : List UInt8, Lib.compareBytes a b = 0 ↔ a = b
  | [], [] => by simp [Lib.compareBytes]
  | [], _ :: _ => by simp [Lib.compareBytes]
  | _ :: _, [] => by simp [Lib.compareBytes]
  | x :: a, y :: b => by
    have ih := cb_zero a b
    simp only [Lib.compareBytes]
    by_cases h1 : x < y
    · have : x ≠ y := fun e => UInt8.lt_irrefl y (e ▸ h1)
      simp [h1, this]
    · by_cases h2 : y < x
      · have : x ≠ y := fun e => UInt8.lt_irrefl x (e ▸ h2)
        simp [h1, h2, this]
      · have : x = y := UInt8.le_antisymm (UInt8.not_lt.1 h2) (UInt8.not_lt.1 h1)
        subst this
        simp [ih]

theorem cb_rng : ∀ a b : List UInt8, -1 ≤ Lib.compareBytes a b ∧ Lib.compareBytes a b ≤ 1
  | [], [] => by simp [Lib.compareBytes]
  | [], _ :: _ => by simp [Lib.compareBytes]
  | _ :: _, [] => by simp [Lib.compareBytes]
  | x :: a, y :: b => by
    have ih := cb_rng a b
    simp only [Lib.compareBytes]
    split
    · omega
    · split
      · omega
      · exact ih

theorem cb_tr : ∀ a b d : List UInt8, Lib.compareBytes a b ≤ 0 → Lib.compareBytes b d ≤ 0 → Lib.compareBytes a d ≤ 0
  | [], _, [] => by simp [Lib.compareBytes]
  | [], _, _ :: _ => by simp [Lib.compareBytes]
  | _ :: _, [], _ => by simp [Lib.compareBytes]
  | _ :: _, _ :: _, [] => by simp [Lib.compareBytes]
  | x :: a, y :: b, z :: d => by
    have ih := cb_tr a b d
    simp only [Lib.compareBytes]
    intro h1 h2
    by_cases hxy : x < y
    · by_cases hyz : y < z
      · have : x < z := UInt8.lt_trans hxy hyz
        simp [this]
      · by_cases hzy : z < y
        · simp [hyz, hzy] at h2
        · have : y = z := UInt8.le_antisymm (UInt8.not_lt.1 hzy) (UInt8.not_lt.1 hyz)
          subst this
          simp [hxy]
    · by_cases hyx : y < x
      · simp [hxy, hyx] at h1
      · have : x = y := UInt8.le_antisymm (UInt8.not_lt.1 hyx) (UInt8.not_lt.1 hxy)
        subst this
        simp only [UInt8.lt_irrefl, if_false] at h1
        by_cases hyz : x < z
        · simp [hyz]
        · by_cases hzy : z < x
          · simp [hyz, hzy] at h2
          · simp only [hyz, hzy, if_false] at h2 ⊢
            exact ih h1 h2


theorem cb_less : ∀ x y : List UInt8, Op.bytesLess x y = decide (Lib.compareBytes x y < 0)
  | [], [] => rfl
  | _ :: _, [] => rfl
  | [], _ :: _ => rfl
  | x :: a, y :: b => by
    have ih := cb_less a b
    simp only [Op.bytesLess, Lib.compareBytes, ih]
    by_cases h1 : x < y
    · simp [h1]
    · by_cases h2 : y < x
      · have h3 : ¬ x = y := fun e => UInt8.lt_irrefl x (e ▸ h2)
        simp [h1, h2, h3]
      · have : x = y := UInt8.le_antisymm (UInt8.not_lt.1 h2) (UInt8.not_lt.1 h1)
        subst this
        simp [UInt8.lt_irrefl]
/-- How two keys stand. -/
def cb (a b : ByteArray) : Int := Lib.compareBytes a.data.toList b.data.toList
theorem less_eq (a b : ByteArray) : Op.bytesLess a.toList b.toList = decide (cb a b < 0) := by
  rw [cb_less, ByteArray.toList_eq, ByteArray.toList_eq]
  rfl
theorem key_inj {a b : ByteArray} (h : a.data.toList = b.data.toList) : a = b := by
  cases a; cases b
  simpa [Array.toList_inj] using h
theorem same_eq (a b : ByteArray) : (a.toList == b.toList) = decide (a = b) := by
  rw [ByteArray.toList_eq, ByteArray.toList_eq]
  by_cases h : a = b
  · subst h
    simp
  · simp only [h, decide_false]
    rw [beq_eq_false_iff_ne]
    exact fun e => h (key_inj e)
theorem cb_self (a : ByteArray) : cb a a = 0 := (cb_zero _ _).2 rfl
theorem cb_is {a b : ByteArray} : cb a b = 0 ↔ a = b := ⟨fun h => key_inj ((cb_zero _ _).1 h), fun h => by subst h; exact cb_self a⟩
theorem cb_turn (a b : ByteArray) : cb b a = - cb a b := cb_anti _ _
theorem cb_le {a b c : ByteArray} (h1 : cb a b ≤ 0) (h2 : cb b c ≤ 0) : cb a c ≤ 0 := cb_tr _ _ _ h1 h2
theorem cb_lt {a b c : ByteArray} (h1 : cb a b < 0) (h2 : cb b c ≤ 0) : cb a c < 0 := by
  have h := cb_le (by omega : cb a b ≤ 0) h2
  by_cases z : cb a c = 0
  · have e := cb_is.1 z
    subst e
    have := cb_turn a b
    omega
  · omega
theorem cb_lt' {a b c : ByteArray} (h1 : cb a b ≤ 0) (h2 : cb b c < 0) : cb a c < 0 := by
  have h := cb_le h1 (by omega : cb b c ≤ 0)
  by_cases z : cb a c = 0
  · have e := cb_is.1 z
    subst e
    have := cb_turn a b
    omega
  · omega

def inSpan (a b k : ByteArray) : Bool := decide (cb a k ≤ 0) && decide (cb k b < 0)
/-- Bounds rise from last on. -/
def riseB : ByteArray → List ByteArray → Bool
  | _, [] => true
  | last, b :: r => decide (cb last b < 0) && riseB b r
def okB (L : List ByteArray) : Bool := decide (L.length < 4) && riseB ⟨#[]⟩ L
def findB (L : List ByteArray) (k : ByteArray) : Nat := L.findIdx (fun b => decide (cb k b < 0))
def maxB (a b : ByteArray) : ByteArray := if cb a b < 0 then b else a
def minB (a b : ByteArray) : ByteArray := if 0 < cb a b then b else a
def atB (L : List ByteArray) (i : Nat) : ByteArray := L.getD i ⟨#[]⟩
def loB (L : List ByteArray) (lo : ByteArray) (i : Nat) : ByteArray := if 0 < i then maxB lo (atB L (i - 1)) else lo
def hiB (L : List ByteArray) (hi : ByteArray) (i : Nat) : ByteArray := if i < L.length then minB hi (atB L i) else hi
structure Pt where
  sh : Nat
  lo : ByteArray
  hi : ByteArray
def partB (L : List ByteArray) (lo hi : ByteArray) (i : Nat) : Option Pt := if cb (loB L lo i) (hiB L hi i) < 0 then some ⟨i, loB L lo i, hiB L hi i⟩ else none
def partsB (L : List ByteArray) (lo hi : ByteArray) (n : Nat) : List Pt := (List.range n).filterMap (partB L lo hi)
def hasB (L : List ByteArray) (i : Nat) (k : ByteArray) : Bool := !(decide (0 < i) && decide (cb k (atB L (i - 1)) < 0)) && (decide (L.length ≤ i) || decide (cb k (atB L i) < 0))
theorem atB_get {L : List ByteArray} {i : Nat} (h : i < L.length) : atB L i = L[i] := by
  unfold atB
  rw [List.getD_eq_getElem?_getD, List.getElem?_eq_getElem h]
  rfl
theorem riseB_all : ∀ (L : List ByteArray) (last : ByteArray), riseB last L = true → L.Pairwise (fun a b => cb a b < 0) ∧ ∀ b ∈ L, cb last b < 0
  | [], _, _ => ⟨List.Pairwise.nil, fun b hb => by cases hb⟩
  | x :: r, last, h => by
    simp only [riseB, Bool.and_eq_true, decide_eq_true_eq] at h
    obtain ⟨h1, h2⟩ := riseB_all r x h.2
    refine ⟨List.Pairwise.cons h2 h1, fun b hb => ?_⟩
    rcases List.mem_cons.1 hb with rfl | hb
    · exact h.1
    · have := h2 b hb
      exact cb_lt h.1 (by omega)
theorem rise_at {L : List ByteArray} (h : L.Pairwise (fun a b => cb a b < 0)) {i j : Nat} (hij : i < j) (hj : j < L.length) : cb (atB L i) (atB L j) < 0 := by
  rw [atB_get hj, atB_get (by omega : i < L.length)]
  exact List.pairwise_iff_getElem.1 h i j (by omega) hj hij
theorem find_below {L : List ByteArray} {k : ByteArray} {j : Nat} (h : j < findB L k) : ¬ cb k (atB L j) < 0 := by
  have hl : j < L.length := Nat.lt_of_lt_of_le h (by unfold findB; exact List.findIdx_le_length)
  rw [atB_get hl]
  have := List.not_of_lt_findIdx (p := fun b => decide (cb k b < 0)) (xs := L) h
  simpa using this
theorem find_at {L : List ByteArray} {k : ByteArray} (h : findB L k < L.length) : cb k (atB L (findB L k)) < 0 := by
  rw [atB_get h]
  have := List.findIdx_getElem (p := fun b => decide (cb k b < 0)) (xs := L) (w := h)
  exact of_decide_eq_true this
theorem find_le (L : List ByteArray) (k : ByteArray) : findB L k ≤ L.length := by unfold findB; exact List.findIdx_le_length
theorem find_of {L : List ByteArray} {k : ByteArray} {i : Nat} (h1 : ∀ j, j < i → ¬ cb k (atB L j) < 0) (hi : i < L.length) (h2 : cb k (atB L i) < 0) : findB L k = i := by
  rcases Nat.lt_trichotomy (findB L k) i with q | q | q
  · exact absurd (find_at (by omega)) (h1 _ q)
  · exact q
  · exact absurd h2 (find_below q)
theorem find_end {L : List ByteArray} {k : ByteArray} (h1 : ∀ j, j < L.length → ¬ cb k (atB L j) < 0) : findB L k = L.length := by
  rcases Nat.lt_or_ge (findB L k) L.length with q | q
  · exact absurd (find_at q) (h1 _ q)
  · exact Nat.le_antisymm (find_le L k) q
theorem has_find {L : List ByteArray} (h : L.Pairwise (fun a b => cb a b < 0)) (k : ByteArray) {i : Nat} (hi : i ≤ L.length) : hasB L i k = decide (i = findB L k) := by
  have hle := find_le L k
  unfold hasB
  by_cases e : i = findB L k
  · rw [decide_eq_true e]
    subst e
    have a1 : (decide (0 < findB L k) && decide (cb k (atB L (findB L k - 1)) < 0)) = false := by
      by_cases q : 0 < findB L k
      · rw [decide_eq_false (find_below (j := findB L k - 1) (by omega)), Bool.and_false]
      · rw [decide_eq_false q, Bool.false_and]
    have a2 : (decide (L.length ≤ findB L k) || decide (cb k (atB L (findB L k)) < 0)) = true := by
      by_cases q : L.length ≤ findB L k
      · rw [decide_eq_true q, Bool.true_or]
      · rw [decide_eq_true (find_at (by omega)), Bool.or_true]
    rw [a1, a2]
    rfl
  · rw [decide_eq_false e]
    rcases Nat.lt_or_ge i (findB L k) with q | q
    · have a2 : (decide (L.length ≤ i) || decide (cb k (atB L i) < 0)) = false := by
        rw [decide_eq_false (by omega : ¬ L.length ≤ i), decide_eq_false (find_below q)]
        rfl
      rw [a2, Bool.and_false]
    · have a1 : (decide (0 < i) && decide (cb k (atB L (i - 1)) < 0)) = true := by
        rw [decide_eq_true (by omega : 0 < i), Bool.true_and]
        refine decide_eq_true ?_
        have hf : findB L k < L.length := by omega
        have := find_at hf
        by_cases z : findB L k = i - 1
        · rw [← z]
          exact this
        · have h2 := rise_at h (i := findB L k) (j := i - 1) (by omega) (by omega)
          exact cb_lt this (by omega)
      rw [a1]
      rfl
theorem max_in {a b k : ByteArray} : cb (maxB a b) k ≤ 0 ↔ cb a k ≤ 0 ∧ ¬ cb k b < 0 := by
  have t1 := cb_turn k b
  unfold maxB
  split
  · rename_i h
    constructor
    · intro q
      exact ⟨cb_le (by omega) q, by omega⟩
    · intro q
      omega
  · rename_i h
    have t2 := cb_turn a b
    constructor
    · intro q
      refine ⟨q, ?_⟩
      have := cb_le (a := b) (b := a) (c := k) (by omega) q
      omega
    · intro q
      exact q.1
theorem min_in {a b k : ByteArray} : cb k (minB a b) < 0 ↔ cb k a < 0 ∧ cb k b < 0 := by
  have t2 := cb_turn a b
  unfold minB
  split
  · rename_i h
    constructor
    · intro q
      exact ⟨cb_lt q (by omega), q⟩
    · intro q
      exact q.2
  · rename_i h
    constructor
    · intro q
      exact ⟨q, cb_lt q (by omega)⟩
    · intro q
      exact q.1
theorem in_part (L : List ByteArray) (lo hi k : ByteArray) (i : Nat) : inSpan (loB L lo i) (hiB L hi i) k = (inSpan lo hi k && hasB L i k) := by
  rw [Bool.eq_iff_iff]
  unfold inSpan hasB loB hiB
  simp only [Bool.and_eq_true, decide_eq_true_eq, Bool.not_eq_true', Bool.and_eq_false_iff, decide_eq_false_iff_not, Bool.or_eq_true]
  by_cases h0 : 0 < i
  · by_cases h1 : i < L.length
    · rw [if_pos h0, if_pos h1, max_in, min_in]
      constructor
      · rintro ⟨⟨a, b⟩, c, d⟩
        exact ⟨⟨a, c⟩, .inr b, .inr d⟩
      · rintro ⟨⟨a, c⟩, b, d⟩
        refine ⟨⟨a, ?_⟩, c, ?_⟩
        · rcases b with b | b
          · exact absurd h0 b
          · exact b
        · rcases d with d | d
          · omega
          · exact d
    · rw [if_pos h0, if_neg h1, max_in]
      constructor
      · rintro ⟨⟨a, b⟩, c⟩
        exact ⟨⟨a, c⟩, .inr b, .inl (by omega)⟩
      · rintro ⟨⟨a, c⟩, b, d⟩
        refine ⟨⟨a, ?_⟩, c⟩
        rcases b with b | b
        · exact absurd h0 b
        · exact b
  · by_cases h1 : i < L.length
    · rw [if_neg h0, if_pos h1, min_in]
      constructor
      · rintro ⟨a, c, d⟩
        exact ⟨⟨a, c⟩, .inl h0, .inr d⟩
      · rintro ⟨⟨a, c⟩, b, d⟩
        refine ⟨a, c, ?_⟩
        rcases d with d | d
        · omega
        · exact d
    · rw [if_neg h0, if_neg h1]
      constructor
      · rintro ⟨a, c⟩
        exact ⟨⟨a, c⟩, .inl h0, .inl (by omega)⟩
      · rintro ⟨q, _⟩
        exact q
theorem part_some {L : List ByteArray} {lo hi k : ByteArray} {i : Nat} (h : inSpan (loB L lo i) (hiB L hi i) k = true) : partB L lo hi i = some ⟨i, loB L lo i, hiB L hi i⟩ := by
  unfold inSpan at h
  simp only [Bool.and_eq_true, decide_eq_true_eq] at h
  unfold partB
  rw [if_pos (cb_lt' h.1 h.2)]
theorem parts_next (L : List ByteArray) (lo hi : ByteArray) (n : Nat) : partsB L lo hi (n + 1) = partsB L lo hi n ++ (partB L lo hi n).toList := by
  unfold partsB
  rw [List.range_succ, List.filterMap_append]
  rfl
theorem parts_few (L : List ByteArray) (lo hi : ByteArray) (n : Nat) : (partsB L lo hi n).length ≤ n := by
  have := List.length_filterMap_le (partB L lo hi) (List.range n)
  rw [List.length_range] at this
  exact this
def inPt (k : ByteArray) (x : Pt) : Bool := inSpan x.lo x.hi k
def cnt (P : List Pt) (k : ByteArray) : Nat := (P.filter (inPt k)).length
theorem parts_mem {L : List ByteArray} {lo hi : ByteArray} {n : Nat} {x : Pt} (h : x ∈ partsB L lo hi n) : ∃ i, i < n ∧ x = ⟨i, loB L lo i, hiB L hi i⟩ := by
  obtain ⟨i, hi', e⟩ := List.mem_filterMap.1 h
  unfold partB at e
  split at e
  · cases e
    exact ⟨i, List.mem_range.1 hi', rfl⟩
  · cases e
theorem parts_shard {L : List ByteArray} (hr : L.Pairwise (fun a b => cb a b < 0)) {lo hi k : ByteArray} {x : Pt} (h : x ∈ partsB L lo hi (L.length + 1)) (hk : inPt k x = true) : x.sh = findB L k := by
  obtain ⟨i, hi', rfl⟩ := parts_mem h
  have h2 : inSpan (loB L lo i) (hiB L hi i) k = true := hk
  rw [in_part, has_find hr k (by omega), Bool.and_eq_true, decide_eq_true_eq] at h2
  exact h2.2
theorem cnt_parts {L : List ByteArray} (hr : L.Pairwise (fun a b => cb a b < 0)) (lo hi k : ByteArray) : ∀ n, n ≤ L.length + 1 → cnt (partsB L lo hi n) k = if inSpan lo hi k = true ∧ findB L k < n then 1 else 0
  | 0, _ => by simp [partsB, cnt]
  | n + 1, h => by
    have ih := cnt_parts hr lo hi k n (by omega)
    have hp := in_part L lo hi k n
    rw [has_find hr k (by omega : n ≤ L.length)] at hp
    have e : cnt (partsB L lo hi (n + 1)) k = cnt (partsB L lo hi n) k + (if inSpan (loB L lo n) (hiB L hi n) k = true then 1 else 0) := by
      unfold cnt
      rw [parts_next, List.filter_append, List.length_append]
      congr 1
      split
      · rename_i q
        rw [part_some q]
        simp [inPt, q]
      · rename_i q
        unfold partB
        split
        · simp [inPt, q]
        · rfl
    rw [e, ih, hp]
    by_cases h1 : inSpan lo hi k = true
    · simp only [h1, Bool.true_and, decide_eq_true_eq, true_and]
      by_cases h2 : n = findB L k
      · rw [if_neg (by omega), if_pos h2, if_pos (by omega)]
      · by_cases h3 : findB L k < n
        · rw [if_pos h3, if_neg h2, if_pos (by omega)]
        · rw [if_neg h3, if_neg h2, if_neg (by omega)]
    · simp [h1]
theorem cnt_all {L : List ByteArray} (hr : L.Pairwise (fun a b => cb a b < 0)) (lo hi k : ByteArray) : cnt (partsB L lo hi (L.length + 1)) k = if inSpan lo hi k = true then 1 else 0 := by
  rw [cnt_parts hr lo hi k _ (Nat.le_refl _)]
  have := find_le L k
  by_cases h1 : inSpan lo hi k = true
  · rw [if_pos ⟨h1, by omega⟩, if_pos h1]
  · rw [if_neg (fun q => h1 q.1), if_neg h1]
theorem cnt_take {P : List Pt} {k : ByteArray} {i : Nat} (h : i < P.length) : cnt (P.take (i + 1)) k = cnt (P.take i) k + (if inPt k P[i] = true then 1 else 0) := by
  unfold cnt
  rw [List.take_succ_eq_append_getElem h, List.filter_append, List.length_append]
  congr 1
  split
  · rename_i q; simp [q]
  · rename_i q; simp [q]
theorem cnt_le (P : List Pt) (k : ByteArray) (i : Nat) : cnt (P.take i) k ≤ P.length := by
  unfold cnt
  exact Nat.le_trans (List.length_filter_le _ _) (by rw [List.length_take]; omega)
/-- The document's Right. -/
def rightB (L : List ByteArray) : Bool := decide (L.length < 4) && decide (∀ i, i < L.length → ¬ (atB L i = ⟨#[]⟩ ∨ 0 < i ∧ 0 ≤ cb (atB L (i - 1)) (atB L i)))
theorem cb_none (b : ByteArray) : cb ⟨#[]⟩ b < 0 ↔ b ≠ ⟨#[]⟩ := by
  have h1 : cb ⟨#[]⟩ b ≤ 0 := by
    unfold cb
    cases h : b.data.toList with
    | nil => exact (by decide : Lib.compareBytes [] [] ≤ 0)
    | cons x y => exact (by decide : (-1 : Int) ≤ 0)
  constructor
  · rintro h rfl
    rw [cb_self] at h
    omega
  · intro h
    have : cb ⟨#[]⟩ b ≠ 0 := fun e => h (cb_is.1 e).symm
    omega
theorem rise_of : ∀ (L : List ByteArray) (last : ByteArray), (∀ i, i < L.length → cb (if i = 0 then last else atB L (i - 1)) (atB L i) < 0) → riseB last L = true
  | [], _, _ => rfl
  | x :: r, last, h => by
    simp only [riseB, Bool.and_eq_true, decide_eq_true_eq]
    refine ⟨by simpa [atB] using h 0 (by simp), rise_of r x fun i hi => ?_⟩
    have := h (i + 1) (by simp; omega)
    rw [if_neg (by omega), Nat.add_sub_cancel] at this
    cases i with
    | zero => simpa [atB] using this
    | succ j => rw [if_neg (by omega)]; simpa [atB] using this
theorem right_ok (L : List ByteArray) : rightB L = okB L := by
  unfold rightB okB
  congr 1
  rw [Bool.eq_iff_iff]
  simp only [decide_eq_true_eq]
  constructor
  · intro h
    refine rise_of L _ fun i hi => ?_
    have := h i hi
    split
    · exact (cb_none _).2 fun q => this (.inl q)
    · refine Classical.byContradiction fun q => this (.inr ⟨by omega, by omega⟩)
  · intro h i hi
    obtain ⟨h1, h2⟩ := riseB_all L _ h
    rintro (q | ⟨q1, q2⟩)
    · have := h2 (atB L i) (by rw [atB_get hi]; exact List.getElem_mem hi)
      exact (cb_none _).1 this q
    · have := rise_at h1 (i := i - 1) (j := i) (by omega) hi
      omega
end Go.Proofs.Ytfokgalgdlajlaa
