/- Plain facts on keys: a value's bytes, how they are read again, and how they stand. -/
import Derived.Lib.Bytealg
namespace Go.Proofs.Ytbepekgaipipjaa

/-- A value: its kind, its number, its text. -/
structure V where
  k : Int
  n : Int
  s : ByteArray

def esc : List UInt8 → List UInt8
  | [] => []
  | c :: r => if c.toNat = 0 then c :: 255 :: esc r else c :: esc r

def be : Nat → Nat → List UInt8
  | 0, _ => []
  | j + 1, m => UInt8.ofNat (m / 256 ^ j) :: be j m

def bias (n : Int) : Nat := (n + 9223372036854775808).toNat

def enc1 (v : V) : List UInt8 := if v.k = 1 then 2 :: be 8 (bias v.n) else if v.k = 2 then 3 :: (esc v.s.data.toList ++ [0, 1]) else [1]

def encL : List V → List UInt8
  | [] => []
  | v :: r => enc1 v ++ encL r

theorem encL_append (a b : List V) : encL (a ++ b) = encL a ++ encL b := by
  induction a with
  | nil => rfl
  | cons v r ih => show enc1 v ++ encL (r ++ b) = enc1 v ++ encL r ++ encL b; rw [ih, List.append_assoc]

/-- May it be? -/
structure Right (v : V) : Prop where
  lo : -9223372036854775808 ≤ v.n
  hi : v.n ≤ 9223372036854775807
  kinds : (v.k = 0 ∧ v.n = 0 ∧ v.s.data.toList = []) ∨ (v.k = 1 ∧ v.s.data.toList = []) ∨ (v.k = 2 ∧ v.n = 0 ∧ v.s.data.toList.length ≤ 64)

theorem V.ext' {x y : V} (h1 : x.k = y.k) (h2 : x.n = y.n) (h3 : x.s.data.toList = y.s.data.toList) : x = y := by
  obtain ⟨a, b, ⟨⟨c⟩⟩⟩ := x
  obtain ⟨a', b', ⟨⟨c'⟩⟩⟩ := y
  simp at h1 h2 h3
  subst h1 h2 h3
  rfl

/-! ### Bytes of a number -/

theorem be_len (j m : Nat) : (be j m).length = j := by
  induction j with
  | zero => rfl
  | succ j ih => simp [be, ih]

theorem ofNat_congr {a b : Nat} (h : a % 256 = b % 256) : UInt8.ofNat a = UInt8.ofNat b := by
  apply UInt8.toNat_inj.1
  rw [UInt8.toNat_ofNat', UInt8.toNat_ofNat']
  exact h

theorem be_mod (m J : Nat) : ∀ j, j ≤ J → be j (m % 256 ^ J) = be j m
  | 0, _ => rfl
  | j + 1, h => by
    show _ :: _ = _ :: _
    rw [be_mod m J j (by omega)]
    congr 1
    apply ofNat_congr
    have e : 256 ^ J = 256 ^ j * 256 ^ (J - j) := by rw [← Nat.pow_add]; congr 1; omega
    rw [e, Nat.mod_mul_right_div_self, Nat.mod_mod_of_dvd]
    exact ⟨256 ^ (J - j - 1), by rw [← Nat.pow_succ']; congr 1; omega⟩

theorem cb_same (x : UInt8) (p q : List UInt8) : Lib.compareBytes (x :: p) (x :: q) = Lib.compareBytes p q := by
  simp [Lib.compareBytes, UInt8.lt_irrefl]

theorem cb_ofNat (h h' : Nat) (l : h < 256) (l' : h' < 256) (p q : List UInt8) :
    Lib.compareBytes (UInt8.ofNat h :: p) (UInt8.ofNat h' :: q) = if h = h' then Lib.compareBytes p q else if h < h' then -1 else 1 := by
  have e : (UInt8.ofNat h).toNat = h := by rw [UInt8.toNat_ofNat']; exact Nat.mod_eq_of_lt l
  have e' : (UInt8.ofNat h').toNat = h' := by rw [UInt8.toNat_ofNat']; exact Nat.mod_eq_of_lt l'
  have hc : ∀ x y : UInt8, Lib.compareBytes (x :: p) (y :: q) = if x < y then -1 else if y < x then 1 else Lib.compareBytes p q := fun _ _ => rfl
  rw [hc]
  simp only [UInt8.lt_iff_toNat_lt, e, e']
  rcases Nat.lt_trichotomy h h' with a | a | a
  · rw [if_pos a, if_neg (by omega), if_pos a]
  · rw [if_neg (by omega), if_neg (by omega), if_pos a]
  · rw [if_neg (by omega), if_pos a, if_neg (by omega), if_neg (by omega)]

theorem cb_be (p q : List UInt8) : ∀ (j m m' : Nat), m < 256 ^ j → m' < 256 ^ j → Lib.compareBytes (be j m ++ p) (be j m' ++ q) = if m = m' then Lib.compareBytes p q else if m < m' then -1 else 1
  | 0, m, m', h, h' => by simp at h h'; subst h h'; simp [be]
  | j + 1, m, m', h, h' => by
    have hp : 0 < 256 ^ j := Nat.pow_pos (by omega)
    have d : m / 256 ^ j < 256 := by rw [Nat.div_lt_iff_lt_mul hp, ← Nat.pow_succ']; exact h
    have d' : m' / 256 ^ j < 256 := by rw [Nat.div_lt_iff_lt_mul hp, ← Nat.pow_succ']; exact h'
    show Lib.compareBytes (UInt8.ofNat (m / 256 ^ j) :: (be j m ++ p)) (UInt8.ofNat (m' / 256 ^ j) :: (be j m' ++ q)) = _
    rw [cb_ofNat _ _ d d', ← be_mod m j j (Nat.le_refl _), ← be_mod m' j j (Nat.le_refl _), cb_be p q j _ _ (Nat.mod_lt _ hp) (Nat.mod_lt _ hp)]
    have a := Nat.div_add_mod m (256 ^ j)
    have a' := Nat.div_add_mod m' (256 ^ j)
    have b := Nat.mod_lt m hp
    have b' := Nat.mod_lt m' hp
    generalize m / 256 ^ j = x at *
    generalize m' / 256 ^ j = x' at *
    generalize m % 256 ^ j = y at *
    generalize m' % 256 ^ j = y' at *
    generalize 256 ^ j = z at *
    subst a a'
    rcases Nat.lt_trichotomy x x' with c | c | c
    · have : z * x + z ≤ z * x' := by rw [← Nat.mul_succ]; exact Nat.mul_le_mul_left _ c
      rw [if_neg (by omega), if_pos c, if_neg (by omega), if_pos (by omega)]
    · subst c
      rw [if_pos rfl]
      rcases Nat.lt_trichotomy y y' with e | e | e
      · rw [if_neg (by omega), if_pos e, if_neg (by omega), if_pos (by omega)]
      · subst e; rw [if_pos rfl, if_pos rfl]
      · rw [if_neg (by omega), if_neg (by omega), if_neg (by omega), if_neg (by omega)]
    · have : z * x' + z ≤ z * x := by rw [← Nat.mul_succ]; exact Nat.mul_le_mul_left _ c
      rw [if_neg (by omega), if_neg (by omega), if_neg (by omega), if_neg (by omega)]

/-- The number that bytes are, the highest first, on from another one. -/
def num (a : Nat) (l : List UInt8) : Nat := l.foldl (fun a c => a * 256 + c.toNat) a
theorem num_nil (a : Nat) : num a [] = a := rfl
theorem num_cons (a : Nat) (c : UInt8) (l : List UInt8) : num a (c :: l) = num (a * 256 + c.toNat) l := rfl
theorem num_snoc (a : Nat) (l : List UInt8) (c : UInt8) : num a (l ++ [c]) = num a l * 256 + c.toNat := by simp [num]
theorem num_eq : ∀ (l : List UInt8) (a : Nat), num a l = a * 256 ^ l.length + num 0 l
  | [], a => by simp [num]
  | c :: l, a => by
    rw [num_cons, num_cons, num_eq l, num_eq l (0 * 256 + c.toNat), List.length_cons, Nat.pow_succ, Nat.add_mul, Nat.add_mul, Nat.mul_assoc, Nat.mul_comm 256, Nat.zero_mul, Nat.zero_add, Nat.add_assoc]
theorem num_lt : ∀ (l : List UInt8), num 0 l < 256 ^ l.length
  | [] => by simp [num]
  | c :: l => by
    have h := num_lt l
    have hc := c.toNat_lt
    rw [num_cons, num_eq, List.length_cons, Nat.pow_succ, Nat.zero_mul, Nat.zero_add]
    have : c.toNat * 256 ^ l.length + 256 ^ l.length ≤ 256 ^ l.length * 256 := by rw [Nat.mul_comm c.toNat, ← Nat.mul_succ]; exact Nat.mul_le_mul_left _ (by omega)
    omega
theorem num_be : ∀ (j m a : Nat), num a (be j m) = a * 256 ^ j + m % 256 ^ j
  | 0, m, a => by rw [be, num_nil, Nat.pow_zero, Nat.mul_one, Nat.mod_one, Nat.add_zero]
  | j + 1, m, a => by
    have e : (UInt8.ofNat (m / 256 ^ j)).toNat = m / 256 ^ j % 256 := UInt8.toNat_ofNat'
    rw [be, num_cons, num_be j m, e]
    have h : m % 256 ^ (j + 1) = 256 ^ j * (m / 256 ^ j % 256) + m % 256 ^ j := by rw [Nat.pow_succ, Nat.mod_mul, Nat.add_comm]
    rw [h, Nat.add_mul, Nat.pow_succ, Nat.mul_assoc, Nat.mul_comm 256, Nat.mul_comm (m / 256 ^ j % 256), Nat.add_assoc]
theorem be_num : ∀ (l : List UInt8), be l.length (num 0 l) = l
  | [] => rfl
  | c :: l => by
    have ih := be_num l
    have hl := num_lt l
    have hp : 0 < 256 ^ l.length := Nat.pow_pos (by omega)
    have hc := c.toNat_lt
    rw [List.length_cons, be, num_cons, Nat.zero_mul, Nat.zero_add, num_eq, ← be_mod _ l.length l.length (Nat.le_refl _), Nat.mul_comm, Nat.mul_add_mod, Nat.mod_eq_of_lt hl, ih, Nat.mul_add_div hp, Nat.div_eq_of_lt hl, Nat.add_zero]
    congr 1
    apply UInt8.toNat_inj.1
    rw [UInt8.toNat_ofNat']
    exact Nat.mod_eq_of_lt hc

/-! ### Bytes of a text -/

def unesc : List UInt8 → Option (List UInt8 × List UInt8)
  | [] => none
  | [_] => none
  | c :: d :: r => if c.toNat = 0 then (if d.toNat = 255 then (unesc r).map (fun p => (c :: p.1, p.2)) else if d.toNat = 1 then some ([], r) else none) else (unesc (d :: r)).map (fun p => (c :: p.1, p.2))

theorem unesc_zero (c d : UInt8) (r : List UInt8) (h : c.toNat = 0) (hd : d.toNat = 255) : unesc (c :: d :: r) = (unesc r).map (fun p => (c :: p.1, p.2)) := by
  rw [unesc, if_pos h, if_pos hd]
theorem unesc_end (c d : UInt8) (r : List UInt8) (h : c.toNat = 0) (hd : d.toNat = 1) : unesc (c :: d :: r) = some ([], r) := by
  rw [unesc, if_pos h, if_neg (by omega), if_pos hd]
theorem unesc_bad (c d : UInt8) (r : List UInt8) (h : c.toNat = 0) (hd : d.toNat ≠ 255) (hd' : d.toNat ≠ 1) : unesc (c :: d :: r) = none := by
  rw [unesc, if_pos h, if_neg hd, if_neg hd']
theorem unesc_one (c d : UInt8) (r : List UInt8) (h : c.toNat ≠ 0) : unesc (c :: d :: r) = (unesc (d :: r)).map (fun p => (c :: p.1, p.2)) := by
  rw [unesc, if_neg h]
theorem unesc_short (l : List UInt8) (h : l.length < 2) : unesc l = none := by
  match l, h with
  | [], _ => rw [unesc]
  | [_], _ => rw [unesc]

theorem unesc_esc (r : List UInt8) : ∀ t, unesc (esc t ++ 0 :: 1 :: r) = some (t, r)
  | [] => unesc_end 0 1 r rfl rfl
  | c :: t => by
    have ih := unesc_esc r t
    unfold esc
    split
    · rename_i h
      show unesc (c :: 255 :: (esc t ++ 0 :: 1 :: r)) = _
      rw [unesc_zero _ _ _ h rfl, ih]
      rfl
    · rename_i h
      show unesc (c :: (esc t ++ 0 :: 1 :: r)) = _
      cases hx : esc t ++ 0 :: 1 :: r with
      | nil => simp at hx
      | cons d x => rw [unesc_one _ _ _ h, ← hx, ih]; rfl

theorem esc_unesc : ∀ (m : Nat) (l t r : List UInt8), l.length ≤ m → unesc l = some (t, r) → l = esc t ++ 0 :: 1 :: r
  | m, [], t, r, _, h => by simp [unesc] at h
  | m, [_], t, r, _, h => by simp [unesc] at h
  | 0, _ :: _ :: _, _, _, hl, _ => by simp at hl
  | m + 1, c :: d :: x, t, r, hl, h => by
    simp at hl
    by_cases hc : c.toNat = 0
    · by_cases hd : d.toNat = 255
      · rw [unesc_zero _ _ _ hc hd] at h
        cases hu : unesc x with
        | none => rw [hu] at h; simp at h
        | some p =>
          obtain ⟨t', r'⟩ := p
          rw [hu] at h
          simp at h
          obtain ⟨rfl, rfl⟩ := h
          have ih := esc_unesc m x t' r' (by omega) hu
          unfold esc
          rw [if_pos hc, ← (UInt8.toNat_inj.1 hd : d = 255), ih]
          rfl
      · by_cases hd' : d.toNat = 1
        · rw [unesc_end _ _ _ hc hd'] at h
          simp at h
          obtain ⟨rfl, rfl⟩ := h
          rw [(UInt8.toNat_inj.1 hc : c = 0), (UInt8.toNat_inj.1 hd' : d = 1)]
          rfl
        · rw [unesc_bad _ _ _ hc hd hd'] at h
          simp at h
    · rw [unesc_one _ _ _ hc] at h
      cases hu : unesc (d :: x) with
      | none => rw [hu] at h; simp at h
      | some p =>
        obtain ⟨t', r'⟩ := p
        rw [hu] at h
        simp at h
        obtain ⟨rfl, rfl⟩ := h
        have ih := esc_unesc m (d :: x) t' r' (by simp; omega) hu
        unfold esc
        rw [if_neg hc, ih]
        rfl

theorem cb_esc (p q : List UInt8) : ∀ (a b : List UInt8), Lib.compareBytes (esc a ++ 0 :: 1 :: p) (esc b ++ 0 :: 1 :: q) = if a = b then Lib.compareBytes p q else Lib.compareBytes a b
  | [], [] => by simp [esc, cb_same]
  | [], d :: b => by
    rw [if_neg (by simp)]
    unfold esc
    split
    · rename_i h
      have hd : d = 0 := UInt8.toNat_inj.1 h
      subst hd
      show Lib.compareBytes (0 :: 1 :: p) (0 :: 255 :: _) = -1
      rw [cb_same]
      rfl
    · rename_i h
      show Lib.compareBytes (0 :: 1 :: p) (d :: _) = -1
      rw [Lib.compareBytes, if_pos (UInt8.lt_iff_toNat_lt.2 (by show 0 < _; omega))]
  | c :: a, [] => by
    rw [if_neg (by simp)]
    unfold esc
    split
    · rename_i h
      have hd : c = 0 := UInt8.toNat_inj.1 h
      subst hd
      show Lib.compareBytes (0 :: 255 :: _) (0 :: 1 :: q) = 1
      rw [cb_same]
      rfl
    · rename_i h
      show Lib.compareBytes (c :: _) (0 :: 1 :: q) = 1
      rw [Lib.compareBytes, if_neg (by rw [UInt8.lt_iff_toNat_lt]; show ¬ _ < 0; omega), if_pos (UInt8.lt_iff_toNat_lt.2 (by show 0 < _; omega))]
  | c :: a, d :: b => by
    have ih := cb_esc p q a b
    have hE : ∀ (x : UInt8) (l m : List UInt8), ∃ t, esc (x :: l) ++ m = x :: t := by
      intro x l m
      unfold esc
      split
      · exact ⟨_, rfl⟩
      · exact ⟨_, rfl⟩
    by_cases hcd : c = d
    · subst hcd
      have e : (esc (c :: a) ++ 0 :: 1 :: p) = (if c.toNat = 0 then [c, 255] else [c]) ++ (esc a ++ 0 :: 1 :: p) := by rw [esc]; split <;> rfl
      have e' : (esc (c :: b) ++ 0 :: 1 :: q) = (if c.toNat = 0 then [c, 255] else [c]) ++ (esc b ++ 0 :: 1 :: q) := by rw [esc]; split <;> rfl
      have hx : ∀ x y, Lib.compareBytes ((if c.toNat = 0 then [c, 255] else [c]) ++ x) ((if c.toNat = 0 then [c, 255] else [c]) ++ y) = Lib.compareBytes x y := by
        intro x y
        split
        · show Lib.compareBytes (c :: 255 :: x) (c :: 255 :: y) = _
          rw [cb_same, cb_same]
        · show Lib.compareBytes (c :: x) (c :: y) = _
          rw [cb_same]
      rw [e, e', hx, ih, cb_same]
      by_cases hab : a = b
      · rw [if_pos hab, if_pos (by rw [hab])]
      · rw [if_neg hab, if_neg (by simp [hab])]
    · obtain ⟨t, ht⟩ := hE c a (0 :: 1 :: p)
      obtain ⟨t', ht'⟩ := hE d b (0 :: 1 :: q)
      rw [ht, ht', if_neg (by simp [hcd])]
      have hne : c.toNat ≠ d.toNat := fun e => hcd (UInt8.toNat_inj.1 e)
      unfold Lib.compareBytes
      simp only [UInt8.lt_iff_toNat_lt]
      by_cases h : c.toNat < d.toNat
      · rw [if_pos h, if_pos h]
      · rw [if_neg h, if_neg h, if_pos (by omega), if_pos (by omega)]
end Go.Proofs.Ytbepekgaipipjaa
