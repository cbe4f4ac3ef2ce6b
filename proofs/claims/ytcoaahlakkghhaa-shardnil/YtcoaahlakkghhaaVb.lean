/- Keys and their versions, plain. -/
import Derived.Test.YtcoaahlakkghhaaVa
import Derived.Lib.Bytealg
namespace Go.Proofs.Ytcoaahlakkghhaa

theorem cb_anti : ∀ a b : List UInt8, Lib.compareBytes b a = - Lib.compareBytes a b
  | [], [] => rfl
  | [], _ :: _ => rfl
  | _ :: _, [] => rfl
  | x :: a, y :: b => by
    have ih := cb_anti a b
    simp only [Lib.compareBytes]
    by_cases h1 : x < y
    · have h2 : ¬ y < x := UInt8.lt_asymm h1
      simp [h1, h2]
    · by_cases h2 : y < x
      · simp [h1, h2]
      · simp [h1, h2, ih]

theorem cb_zero : ∀ a b : List UInt8, Lib.compareBytes a b = 0 ↔ a = b
  | [], [] => by simp [Lib.compareBytes]
  | [], _ :: _ => by simp [Lib.compareBytes]
  | _ :: _, [] => by simp [Lib.compareBytes]
  | x :: a, y :: b => by
    have ih := cb_zero a b
    simp only [Lib.compareBytes]
    by_cases h1 : x < y
    · have : x ≠ y := fun e => UInt8.lt_irrefl y (e ▸ h1)
      simp [h1, this]
    · by_cases h2 : y < x
      · have : x ≠ y := fun e => UInt8.lt_irrefl x (e ▸ h2)
        simp [h1, h2, this]
      · have : x = y := UInt8.le_antisymm (UInt8.not_lt.1 h2) (UInt8.not_lt.1 h1)
        subst this
        simp [ih]

theorem cb_rng : ∀ a b : List UInt8, -1 ≤ Lib.compareBytes a b ∧ Lib.compareBytes a b ≤ 1
  | [], [] => by simp [Lib.compareBytes]
  | [], _ :: _ => by simp [Lib.compareBytes]
  | _ :: _, [] => by simp [Lib.compareBytes]
  | x :: a, y :: b => by
    have ih := cb_rng a b
    simp only [Lib.compareBytes]
    split
    · omega
    · split
      · omega
      · exact ih

theorem cb_tr : ∀ a b d : List UInt8, Lib.compareBytes a b ≤ 0 → Lib.compareBytes b d ≤ 0 → Lib.compareBytes a d ≤ 0
  | [], _, [] => by simp [Lib.compareBytes]
  | [], _, _ :: _ => by simp [Lib.compareBytes]
  | _ :: _, [], _ => by simp [Lib.compareBytes]
  | _ :: _, _ :: _, [] => by simp [Lib.compareBytes]
  | x :: a, y :: b, z :: d => by
    have ih := cb_tr a b d
    simp only [Lib.compareBytes]
    intro h1 h2
    by_cases hxy : x < y
    · by_cases hyz : y < z
      · have : x < z := UInt8.lt_trans hxy hyz
        simp [this]
      · by_cases hzy : z < y
        · simp [hyz, hzy] at h2
        · have : y = z := UInt8.le_antisymm (UInt8.not_lt.1 hzy) (UInt8.not_lt.1 hyz)
          subst this
          simp [hxy]
    · by_cases hyx : y < x
      · simp [hxy, hyx] at h1
      · have : x = y := UInt8.le_antisymm (UInt8.not_lt.1 hyx) (UInt8.not_lt.1 hxy)
        subst this
        simp only [UInt8.lt_irrefl, if_false] at h1
        by_cases hyz : x < z
        · simp [hyz]
        · by_cases hzy : z < x
          · simp [hyz, hzy] at h2
          · simp only [hyz, hzy, if_false] at h2 ⊢
            exact ih h1 h2


theorem cb_less : ∀ x y : List UInt8, Op.bytesLess x y = decide (Lib.compareBytes x y < 0)
  | [], [] => rfl
  | _ :: _, [] => rfl
  | [], _ :: _ => rfl
  | x :: a, y :: b => by
    have ih := cb_less a b
    simp only [Op.bytesLess, Lib.compareBytes, ih]
    by_cases h1 : x < y
    · simp [h1]
    · by_cases h2 : y < x
      · have h3 : ¬ x = y := fun e => UInt8.lt_irrefl x (e ▸ h2)
        simp [h1, h2, h3]
      · have : x = y := UInt8.le_antisymm (UInt8.not_lt.1 h2) (UInt8.not_lt.1 h1)
        subst this
        simp [UInt8.lt_irrefl]
/-- How two keys stand. -/
def cb (a b : ByteArray) : Int := Lib.compareBytes a.data.toList b.data.toList
theorem less_eq (a b : ByteArray) : Op.bytesLess a.toList b.toList = decide (cb a b < 0) := by
  rw [cb_less, ByteArray.toList_eq, ByteArray.toList_eq]
  rfl
theorem key_inj {a b : ByteArray} (h : a.data.toList = b.data.toList) : a = b := by
  cases a; cases b
  simpa [Array.toList_inj] using h
theorem same_eq (a b : ByteArray) : (a.toList == b.toList) = decide (a = b) := by
  rw [ByteArray.toList_eq, ByteArray.toList_eq]
  by_cases h : a = b
  · subst h
    simp
  · simp only [h, decide_false]
    rw [beq_eq_false_iff_ne]
    exact fun e => h (key_inj e)
theorem cb_self (a : ByteArray) : cb a a = 0 := (cb_zero _ _).2 rfl
theorem cb_is {a b : ByteArray} : cb a b = 0 ↔ a = b := ⟨fun h => key_inj ((cb_zero _ _).1 h), fun h => by subst h; exact cb_self a⟩
theorem cb_turn (a b : ByteArray) : cb b a = - cb a b := cb_anti _ _
theorem cb_le {a b c : ByteArray} (h1 : cb a b ≤ 0) (h2 : cb b c ≤ 0) : cb a c ≤ 0 := cb_tr _ _ _ h1 h2
theorem cb_lt {a b c : ByteArray} (h1 : cb a b < 0) (h2 : cb b c ≤ 0) : cb a c < 0 := by
  have h := cb_le (by omega : cb a b ≤ 0) h2
  by_cases z : cb a c = 0
  · have e := cb_is.1 z
    subst e
    have := cb_turn a b
    omega
  · omega
theorem cb_lt' {a b c : ByteArray} (h1 : cb a b ≤ 0) (h2 : cb b c < 0) : cb a c < 0 := by
  have h := cb_le h1 (by omega : cb b c ≤ 0)
  by_cases z : cb a c = 0
  · have e := cb_is.1 z
    subst e
    have := cb_turn a b
    omega
  · omega

/-- A version. -/
structure Ve where
  ts : Int
  val : ByteArray
  dead : Bool
/-- A key's versions. -/
structure Rw where
  key : ByteArray
  list : List Ve
/-- A hit. -/
structure Hi where
  key : ByteArray
  ts : Int
  val : ByteArray
abbrev Sorted (R : List Rw) : Prop := R.Pairwise (fun a b => cb a.key b.key < 0)
structure Rise (l : List Ve) : Prop where
  ne : l ≠ []
  up : l.Pairwise (fun a b => a.ts < b.ts)
  lo : ∀ v ∈ l, 1 ≤ v.ts
structure Okr (R : List Rw) : Prop where
  sorted : Sorted R
  rise : ∀ r ∈ R, Rise r.list
/-- Where a key stands. -/
def pk (K : List ByteArray) (k : ByteArray) : Nat := K.findIdx (fun x => decide (¬ cb x k < 0))
def place (R : List Rw) (k : ByteArray) : Nat := pk (R.map Rw.key) k
def inn {α : Type} (l : List α) (i : Nat) (x : α) : List α := l.take i ++ x :: l.drop i
def newest (l : List Ve) : Int := match l.getLast? with
  | some v => v.ts
  | none => 0
def newR (R : List Rw) (k : ByteArray) : Int := match R[place R k]? with
  | some r => if r.key = k then newest r.list else 0
  | none => 0
def putE (R : List Rw) (k : ByteArray) (v : Ve) : Int := if v.ts < 1 then 1 else if v.ts ≤ newR R k then 120 else 0
def putR (R : List Rw) (k : ByteArray) (v : Ve) : List Rw := if v.ts < 1 then R else match R[place R k]? with
  | some r => if r.key = k then (if v.ts ≤ newest r.list then R else R.set (place R k) ⟨k, r.list ++ [v]⟩) else inn R (place R k) ⟨k, [v]⟩
  | none => inn R (place R k) ⟨k, [v]⟩
def tops (l : List Ve) (t : Int) : Option Ve := (l.filter (fun v => decide (v.ts ≤ t))).getLast?
def hit (t : Int) (r : Rw) : Option Hi := match tops r.list t with
  | some v => if v.dead then none else some ⟨r.key, v.ts, v.val⟩
  | none => none
def inSpan (a b k : ByteArray) : Bool := decide (cb a k ≤ 0) && decide (cb k b < 0)
def span (R : List Rw) (a b : ByteArray) (t : Int) : List Hi := (R.filter (fun r => inSpan a b r.key)).filterMap (hit t)

/-! ### Where a key stands -/
theorem pk_le (K : List ByteArray) (k : ByteArray) : pk K k ≤ K.length := List.findIdx_le_length
theorem pk_lt {K : List ByteArray} {k : ByteArray} {i : Nat} (h : i < pk K k) (hi : i < K.length) : cb K[i] k < 0 := by
  have := List.not_of_lt_findIdx h
  simpa using this
theorem pk_at {K : List ByteArray} {k : ByteArray} (h : pk K k < K.length) : ¬ cb K[pk K k] k < 0 := by
  have := List.findIdx_getElem (xs := K) (p := fun x => decide (¬ cb x k < 0)) (w := h)
  exact of_decide_eq_true this
theorem pk_ge {K : List ByteArray} {k : ByteArray} (hs : K.Pairwise (fun a b => cb a b < 0)) {i : Nat} (h : pk K k ≤ i) (hi : i < K.length) : ¬ cb K[i] k < 0 := by
  have h0 := pk_at (K := K) (k := k) (by omega)
  by_cases e : pk K k = i
  · simpa [e] using h0
  · have h1 := List.pairwise_iff_getElem.1 hs (pk K k) i (by omega) hi (by omega)
    intro h2
    have := cb_lt h1 (by omega : cb K[i] k ≤ 0)
    omega
theorem pk_is {K : List ByteArray} {k : ByteArray} {s : Nat} (hs : s ≤ K.length) (h1 : ∀ i (h : i < K.length), i < s → cb K[i] k < 0) (h2 : ∀ h : s < K.length, ¬ cb K[s] k < 0) : pk K k = s := by
  rcases Nat.lt_trichotomy (pk K k) s with q | q | q
  · exact absurd (h1 _ (by omega) q) (pk_at (by omega))
  · exact q
  · have hl : s < K.length := by have := pk_le K k; omega
    exact absurd (pk_lt q hl) (h2 hl)
theorem place_le (R : List Rw) (k : ByteArray) : place R k ≤ R.length := by
  have := pk_le (R.map Rw.key) k
  rwa [List.length_map] at this
theorem place_lt {R : List Rw} {k : ByteArray} {i : Nat} (h : i < place R k) (hi : i < R.length) : cb R[i].key k < 0 := by
  have := pk_lt (K := R.map Rw.key) h (by rw [List.length_map]; exact hi)
  simpa using this
theorem sorted_keys {R : List Rw} (h : Sorted R) : (R.map Rw.key).Pairwise (fun a b => cb a b < 0) := by
  rw [List.pairwise_map]
  exact h
theorem place_ge {R : List Rw} {k : ByteArray} (hs : Sorted R) {i : Nat} (h : place R k ≤ i) (hi : i < R.length) : ¬ cb R[i].key k < 0 := by
  have := pk_ge (sorted_keys hs) (k := k) h (by rw [List.length_map]; exact hi)
  simpa using this
theorem place_is {R : List Rw} {k : ByteArray} {s : Nat} (hs : s ≤ R.length) (h1 : ∀ i (h : i < R.length), i < s → cb R[i].key k < 0) (h2 : ∀ h : s < R.length, ¬ cb R[s].key k < 0) : place R k = s :=
  pk_is (by rw [List.length_map]; exact hs) (fun i h q => by simpa using h1 i (by simpa using h) q) (fun h => by simpa using h2 (by simpa using h))

/-! ### What a put leaves -/
theorem inn_sorted {R : List Rw} {k : ByteArray} (hs : Sorted R) (hn : ∀ r, R[place R k]? = some r → r.key ≠ k) (l : List Ve) : Sorted (inn R (place R k) ⟨k, l⟩) := by
  unfold inn
  have h1 : Sorted (R.take (place R k)) := hs.sublist (List.take_sublist _ _)
  have h2 : Sorted (R.drop (place R k)) := hs.sublist (List.drop_sublist _ _)
  have a1 : ∀ a ∈ R.take (place R k), cb a.key k < 0 := by
    intro a ha
    obtain ⟨i, hi, e⟩ := List.getElem_of_mem ha
    rw [List.getElem_take] at e
    rw [← e]
    rw [List.length_take] at hi
    exact place_lt (by omega) (by omega)
  have a2 : ∀ b ∈ R.drop (place R k), cb k b.key < 0 := by
    intro b hb
    obtain ⟨i, hi, e⟩ := List.getElem_of_mem hb
    rw [List.getElem_drop] at e
    rw [List.length_drop] at hi
    have h0 : ¬ cb R[place R k].key k < 0 := place_ge hs (Nat.le_refl _) (by omega)
    have hne : R[place R k].key ≠ k := hn _ (List.getElem?_eq_getElem (by omega))
    have h3 : cb k R[place R k].key < 0 := by
      have := cb_turn R[place R k].key k
      have : cb R[place R k].key k ≠ 0 := fun z => hne (cb_is.1 z)
      omega
    rw [← e]
    by_cases z : i = 0
    · subst z
      exact h3
    · have h4 := List.pairwise_iff_getElem.1 hs (place R k) (place R k + i) (by omega) (by omega) (by omega)
      exact cb_lt h3 (by omega)
  refine List.pairwise_append.2 ⟨h1, List.pairwise_cons.2 ⟨a2, h2⟩, fun a ha b hb => ?_⟩
  rcases List.mem_cons.1 hb with rfl | hb
  · exact a1 a ha
  · exact cb_lt (a1 a ha) (by have := a2 b hb; omega)
theorem rise_snoc {l : List Ve} {v : Ve} (h : Rise l) (hv : newest l < v.ts) : Rise (l ++ [v]) := by
  have hl : ∀ u ∈ l, u.ts ≤ newest l := by
    intro u hu
    unfold newest
    rw [List.getLast?_eq_some_getLast h.ne]
    obtain ⟨i, hi, e⟩ := List.getElem_of_mem hu
    rw [← e, List.getLast_eq_getElem]
    by_cases q : i = l.length - 1
    · subst q
      exact Int.le_refl _
    · have := List.pairwise_iff_getElem.1 h.up i (l.length - 1) hi (by omega) (by omega)
      show _ ≤ (l[l.length - 1]).ts
      omega
  refine ⟨by simp, List.pairwise_append.2 ⟨h.up, List.pairwise_singleton _ _, fun a ha b hb => ?_⟩, fun u hu => ?_⟩
  · rw [List.mem_singleton.1 hb]
    have := hl a ha
    omega
  · rcases List.mem_append.1 hu with q | q
    · exact h.lo u q
    · rw [List.mem_singleton.1 q]
      have h0 := h.lo _ (List.getLast_mem h.ne)
      have h1 := hl _ (List.getLast_mem h.ne)
      omega
theorem rise_one {v : Ve} (h : 1 ≤ v.ts) : Rise [v] := ⟨by simp, List.pairwise_singleton _ _, fun u hu => by rw [List.mem_singleton.1 hu]; exact h⟩
theorem put_ok {R : List Rw} (h : Okr R) (k : ByteArray) (v : Ve) : Okr (putR R k v) := by
  unfold putR
  split
  · exact h
  · rename_i hv
    have hnew : ∀ (hn : ∀ r, R[place R k]? = some r → r.key ≠ k), Okr (inn R (place R k) ⟨k, [v]⟩) := fun hn => by
      refine ⟨inn_sorted h.sorted hn [v], fun r hr => ?_⟩
      unfold inn at hr
      rcases List.mem_append.1 hr with q | q
      · exact h.rise r (List.mem_of_mem_take q)
      · rcases List.mem_cons.1 q with rfl | q
        · exact rise_one (by show 1 ≤ v.ts; omega)
        · exact h.rise r (List.mem_of_mem_drop q)
    cases hr : R[place R k]? with
    | none => exact hnew (fun r q => by rw [hr] at q; cases q)
    | some r =>
      simp only
      by_cases hk : r.key = k
      · rw [if_pos hk]
        split
        · exact h
        · rename_i ht
          obtain ⟨hl, e⟩ := List.getElem?_eq_some_iff.1 hr
          have hrr := h.rise r (by rw [← e]; exact List.getElem_mem hl)
          refine ⟨?_, fun q hq => ?_⟩
          · refine List.pairwise_iff_getElem.2 (fun i j hi hj hij => ?_)
            have h0 := List.pairwise_iff_getElem.1 h.sorted i j (by simpa using hi) (by simpa using hj) hij
            have key : ∀ m (hm : m < (R.set (place R k) ⟨k, r.list ++ [v]⟩).length), ((R.set (place R k) ⟨k, r.list ++ [v]⟩)[m]).key = (R[m]'(by simpa using hm)).key := by
              intro m hm
              rw [List.getElem_set]
              split
              · rename_i z
                subst z
                rw [e]
                exact hk.symm
              · rfl
            rw [key, key]
            exact h0
          · rcases List.mem_or_eq_of_mem_set hq with q1 | q1
            · exact h.rise q q1
            · rw [q1]
              exact rise_snoc hrr (by omega)
      · rw [if_neg hk]
        exact hnew (fun r' q => by rw [hr] at q; cases q; exact hk)
theorem put_len (R : List Rw) (k : ByteArray) (v : Ve) : (putR R k v).length ≤ R.length + 1 := by
  have hi : ∀ x : Rw, (inn R (place R k) x).length ≤ R.length + 1 := fun x => by
    unfold inn
    simp only [List.length_append, List.length_cons, List.length_take, List.length_drop]
    omega
  unfold putR
  split
  · omega
  · split
    · split
      · split
        · omega
        · simp
      · exact hi _
    · exact hi _
end Go.Proofs.Ytcoaahlakkghhaa
