/- Plain facts on heaps: things in a row, the least at the front; one that moves up, one that moves down; what is first in the order in which things were set. -/
import Derived.WalkKit
namespace Go.Proofs.Ytmehdhjelggkpaa

/-- A thing: what it is, when it is due, its place in the order of setting, and where it lies. -/
structure Th where
  what : Int
  due : Int
  seq : Int
  blk : Nat

/-- It comes ahead of the other. -/
def ahead (a b : Th) : Prop := a.due < b.due ∨ (a.due = b.due ∧ a.seq < b.seq)
theorem ahead_not {a b : Th} (h : ahead a b) : ¬ ahead b a := by unfold ahead at *; omega
theorem ahead_no_trans {a b c : Th} (h : ¬ ahead b a) (h' : ¬ ahead c b) : ¬ ahead c a := by unfold ahead at *; omega
theorem ahead_le {a b c : Th} (h : ahead a b) (h' : ¬ ahead c b) : ¬ ahead c a := by unfold ahead at *; omega
theorem ahead_self (a : Th) : ¬ ahead a a := by unfold ahead; omega

abbrev par (k : Nat) : Nat := (k - 1) / 2
/-- Two change places. -/
def swp (f : Nat → Th) (i j : Nat) : Nat → Th := fun k => if k = i then f j else if k = j then f i else f k
theorem swp_l (f : Nat → Th) (i j : Nat) : swp f i j i = f j := by simp [swp]
theorem swp_r (f : Nat → Th) (i j : Nat) : swp f i j j = f i := by
  unfold swp
  split
  · rename_i h; rw [h]
  · simp
theorem swp_o (f : Nat → Th) (i j k : Nat) (h : k ≠ i) (h' : k ≠ j) : swp f i j k = f k := by simp [swp, h, h']
theorem swp_comm (f : Nat → Th) (i j : Nat) : swp f i j = swp f j i := by
  funext k
  unfold swp
  by_cases h : k = i <;> by_cases h' : k = j
  · subst h; simp
    intro e; rw [e]
  · simp [h]
    intro e; subst e; exact absurd h h'
  · simp [h']
    intro e; subst e; exact absurd h' h
  · simp [h, h']

/-- None comes ahead of the one above it. -/
def Heap (f : Nat → Th) (n : Nat) : Prop := ∀ k, 0 < k → k < n → ¬ ahead (f k) (f (par k))
theorem heap_least {f : Nat → Th} {n : Nat} (h : Heap f n) : ∀ k, k < n → ¬ ahead (f k) (f 0) := by
  intro k
  induction k using Nat.strongRecOn with
  | ind k ih =>
    intro hk
    by_cases h0 : k = 0
    · subst h0; exact ahead_self _
    · exact ahead_no_trans (ih (par k) (by unfold par; omega) (by unfold par; omega)) (h k (by omega) hk)

/-- All is well but for the one at j and the one above it. -/
def Up (f : Nat → Th) (n j : Nat) : Prop := (∀ k, 0 < k → k < n → k ≠ j → ¬ ahead (f k) (f (par k))) ∧ (∀ k, 0 < k → k < n → par k = j → 0 < j → ¬ ahead (f k) (f (par j)))
theorem up_done {f : Nat → Th} {n j : Nat} (h : Up f n j) (hd : j = 0 ∨ ¬ ahead (f j) (f (par j))) : Heap f n := by
  intro k h0 hk
  by_cases e : k = j
  · subst e
    rcases hd with hd | hd
    · omega
    · exact hd
  · exact h.1 k h0 hk e
theorem up_step {f : Nat → Th} {n j : Nat} (h : Up f n j) (h0 : 0 < j) (hj : j < n) (hd : ahead (f j) (f (par j))) : Up (swp f (par j) j) n (par j) := by
  have hpj : par j < j := by unfold par; omega
  refine ⟨?_, ?_⟩
  · intro k k0 kn kp
    by_cases e : k = j
    · subst e
      rw [swp_r, swp_l]
      exact ahead_not hd
    · rw [swp_o _ _ _ k kp e]
      by_cases e2 : par k = j
      · rw [e2, swp_r]
        exact h.2 k k0 kn e2 h0
      · by_cases e3 : par k = par j
        · rw [e3, swp_l]
          have := h.1 k k0 kn e
          rw [e3] at this
          exact ahead_le hd this
        · rw [swp_o _ _ _ (par k) e3 e2]
          exact h.1 k k0 kn e
  · intro k k0 kn kp p0
    have hpp : par (par j) < par j := by unfold par; unfold par at p0; omega
    rw [swp_o _ _ _ (par (par j)) (by omega) (by omega)]
    have hq := h.1 (par j) p0 (by omega) (by omega)
    by_cases e : k = j
    · subst e
      rw [swp_r]
      exact hq
    · have hkp : k ≠ par j := by
        intro e2
        rw [e2] at kp
        omega
      rw [swp_o _ _ _ k hkp e]
      have hk := h.1 k k0 kn e
      rw [kp] at hk
      exact ahead_no_trans hq hk

/-- All is well but for the one at i and those below it; and, as long as it stands where it began, the one above it. -/
def Down (f : Nat → Th) (n s i : Nat) : Prop := (∀ k, 0 < k → k < n → par k ≠ i → (i = s → k ≠ s) → ¬ ahead (f k) (f (par k))) ∧ (∀ k, 0 < k → k < n → par k = i → 0 < i → ¬ ahead (f k) (f (par i)))
theorem down_step {f : Nat → Th} {n s i j : Nat} (h : Down f n s i) (hs : s ≤ i) (hj : j < n) (j0 : 0 < j) (hp : par j = i) (hd : ahead (f j) (f i)) (hl : ∀ k, 0 < k → k < n → par k = i → ¬ ahead (f k) (f j)) : Down (swp f i j) n s j ∧ s < j := by
  have hij : i < j := by unfold par at hp; omega
  refine ⟨⟨?_, ?_⟩, by omega⟩
  · intro k k0 kn kp _
    by_cases e : k = i
    · subst e
      rw [swp_l]
      have hpi : par k < k := by unfold par; omega
      rw [swp_o _ _ _ (par k) (by omega) (by omega)]
      exact h.2 j j0 hj hp k0
    · by_cases e2 : k = j
      · subst e2
        rw [swp_r, hp, swp_l]
        exact ahead_not hd
      · rw [swp_o _ _ _ k e e2]
        by_cases e3 : par k = i
        · rw [e3, swp_l]
          exact hl k k0 kn e3
        · rw [swp_o _ _ _ (par k) e3 kp]
          exact h.1 k k0 kn e3 (fun q => by omega)
  · intro k k0 kn kp _
    rw [hp, swp_l]
    have hk : k ≠ i := by intro e; subst e; unfold par at kp hp; omega
    have hk2 : k ≠ j := by intro e; subst e; unfold par at kp; omega
    rw [swp_o _ _ _ k hk hk2]
    have := h.1 k k0 kn (by omega) (fun q => by omega)
    rw [kp] at this
    exact this
/-- It moved: all is well. -/
theorem down_moved {f : Nat → Th} {n s i : Nat} (h : Down f n s i) (hm : s < i) (hd : ∀ k, 0 < k → k < n → par k = i → ¬ ahead (f k) (f i)) : Heap f n := by
  intro k k0 kn
  by_cases e : par k = i
  · rw [e]; exact hd k k0 kn e
  · exact h.1 k k0 kn e (fun q => by omega)
/-- It did not move: it may still have to move up. -/
theorem down_stays {f : Nat → Th} {n s : Nat} (h : Down f n s s) (hd : ∀ k, 0 < k → k < n → par k = s → ¬ ahead (f k) (f s)) : Up f n s := by
  refine ⟨?_, h.2⟩
  intro k k0 kn ks
  by_cases e : par k = s
  · rw [e]; exact hd k k0 kn e
  · exact h.1 k k0 kn e (fun _ => ks)
theorem down_root {f : Nat → Th} {n : Nat} (h : Down f n 0 0) (hd : ∀ k, 0 < k → k < n → par k = 0 → ¬ ahead (f k) (f 0)) : Heap f n := up_done (down_stays h hd) (.inl rfl)
/-- One of a heap is another now. -/
def put (f : Nat → Th) (i : Nat) (x : Th) : Nat → Th := fun k => if k = i then x else f k
theorem put_at (f : Nat → Th) (i : Nat) (x : Th) : put f i x i = x := by simp [put]
theorem put_o (f : Nat → Th) (i k : Nat) (x : Th) (h : k ≠ i) : put f i x k = f k := by simp [put, h]
theorem down_put {f : Nat → Th} {n : Nat} (h : Heap f n) (i : Nat) (x : Th) : Down (put f i x) n i i := by
  refine ⟨?_, ?_⟩
  · intro k k0 kn kp ks
    rw [put_o _ _ _ _ (ks rfl), put_o _ _ _ _ kp]
    exact h k k0 kn
  · intro k k0 kn kp i0
    have hk : k ≠ i := by intro e; subst e; unfold par at kp; omega
    have hp : par i ≠ i := by unfold par; omega
    rw [put_o _ _ _ _ hk, put_o _ _ _ _ hp]
    have a := h k k0 kn
    rw [kp] at a
    exact ahead_no_trans (h i i0 (by unfold par at kp; omega)) a
theorem up_push {f : Nat → Th} {n : Nat} (h : Heap f n) (x : Th) : Up (put f n x) (n + 1) n := by
  refine ⟨?_, ?_⟩
  · intro k k0 kn ks
    have hp : par k ≠ n := by unfold par; omega
    rw [put_o _ _ _ _ ks, put_o _ _ _ _ hp]
    exact h k k0 (by omega)
  · intro k k0 kn kp _
    unfold par at kp
    omega
theorem heap_less {f : Nat → Th} {n m : Nat} (h : Heap f n) (hm : m ≤ n) : Heap f m := fun k k0 kn => h k k0 (by omega)
/-- The last one goes to another's place: what is left is a heap but there. -/
theorem down_swap_last {f : Nat → Th} {n i : Nat} (h : Heap f (n + 1)) (hi : i < n) : Down (swp f i n) n i i := by
  have e : ∀ k, k < n → swp f i n k = put f i (f n) k := by
    intro k hk
    unfold swp put
    by_cases q : k = i
    · simp [q]
    · simp [q]
      intro q2; omega
  have d := down_put (heap_less h (Nat.le_succ n)) i (f n)
  refine ⟨?_, ?_⟩
  · intro k k0 kn kp ks
    rw [e k kn, e (par k) (by unfold par; omega)]
    exact d.1 k k0 kn kp ks
  · intro k k0 kn kp i0
    rw [e k kn, e (par i) (by unfold par; omega)]
    exact d.2 k k0 kn kp i0

/- The things that there are -/
def row (f : Nat → Th) (n : Nat) : List Th := (List.range n).map f
theorem row_len (f : Nat → Th) (n : Nat) : (row f n).length = n := by simp [row]
theorem row_get (f : Nat → Th) (n i : Nat) (h : i < n) : (row f n)[i]'(by rw [row_len]; exact h) = f i := by simp [row]
theorem row_succ (f : Nat → Th) (n : Nat) : row f (n + 1) = row f n ++ [f n] := by simp [row, List.range_succ]
theorem row_congr {f g : Nat → Th} {n : Nat} (h : ∀ k, k < n → f k = g k) : row f n = row g n := by
  unfold row
  apply List.map_congr_left
  intro k hk
  exact h k (List.mem_range.1 hk)
theorem mem_row {f : Nat → Th} {n : Nat} {x : Th} : x ∈ row f n ↔ ∃ k, k < n ∧ f k = x := by
  unfold row
  simp
theorem row_put (f : Nat → Th) (n : Nat) (x : Th) : ∀ i, i < n → (f i :: row (put f i x) n).Perm (x :: row f n) := by
  induction n with
  | zero => intro i h; omega
  | succ n ih =>
    intro i hi
    rw [row_succ, row_succ]
    by_cases e : i = n
    · subst e
      rw [put_at, row_congr (g := f) (fun k hk => put_o _ _ _ _ (by omega))]
      refine (List.Perm.cons _ (List.perm_append_comm)).trans ?_
      refine List.Perm.trans ?_ (List.Perm.cons _ (List.perm_append_comm))
      exact List.Perm.swap x (f i) (row f i)
    · rw [put_o _ _ _ _ (Ne.symm e)]
      exact (ih i (by omega)).append_right [f n]
theorem row_swp (f : Nat → Th) (n : Nat) (i j : Nat) (hi : i < n) (hj : j < n) : (row (swp f i j) n).Perm (row f n) := by
  by_cases e : i = j
  · subst e
    rw [row_congr (g := f) (fun k _ => by unfold swp; by_cases q : k = i <;> simp [q])]
  · have h1 := row_put f n (f j) i hi
    have h2 := row_put (put f i (f j)) n (f i) j hj
    rw [put_o _ _ _ _ (Ne.symm e)] at h2
    have h3 : swp f i j = put (put f i (f j)) j (f i) := by
      funext k
      unfold swp put
      by_cases q : k = i <;> by_cases q2 : k = j
      · subst q; exact absurd q2 e
      · simp [q]
        intro q3; exact absurd q3 e
      · simp [q2]
        intro q3; exact absurd q3.symm e
      · simp [q, q2]
    rw [h3]
    exact List.Perm.cons_inv (h2.trans h1)
theorem row_swap_last (f : Nat → Th) (n i : Nat) (hi : i < n + 1) : (f i :: row (swp f i n) n).Perm (row f (n + 1)) := by
  have h := row_swp f (n + 1) i n hi (by omega)
  rw [row_succ (swp f i n), swp_r] at h
  exact (List.perm_append_comm (l₁ := [f i])).trans h
end Go.Proofs.Ytmehdhjelggkpaa
