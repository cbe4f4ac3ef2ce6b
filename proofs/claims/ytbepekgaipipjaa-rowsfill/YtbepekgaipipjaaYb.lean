/- Plain facts on keys: lists of values, read again from their bytes, and as they stand. -/
import Derived.Test.YtbepekgaipipjaaYa
import Derived.Test.YtbepekgaipipjaaZa
namespace Go.Proofs.Ytbepekgaipipjaa

def valCmp (x y : V) : Int := orI (cmpI x.k y.k) (cmpI x.n y.n) (Lib.compareBytes x.s.data.toList y.s.data.toList)

theorem valCmp_zero (x y : V) : valCmp x y = 0 ↔ x = y := by
  have h := val3_good.zero (x.k, x.n, x.s.data.toList) (y.k, y.n, y.s.data.toList)
  have e : val3 (x.k, x.n, x.s.data.toList) (y.k, y.n, y.s.data.toList) = valCmp x y := rfl
  rw [e] at h
  rw [h]
  refine ⟨fun h => ?_, fun h => by rw [h]⟩
  simp only [Prod.mk.injEq] at h
  exact V.ext' h.1 h.2.1 h.2.2
theorem valCmp_anti (x y : V) : valCmp y x = - valCmp x y := val3_good.anti (x.k, x.n, x.s.data.toList) (y.k, y.n, y.s.data.toList)
theorem valCmp_rng (x y : V) : -1 ≤ valCmp x y ∧ valCmp x y ≤ 1 := val3_good.rng (x.k, x.n, x.s.data.toList) (y.k, y.n, y.s.data.toList)

theorem enc_null {v : V} (h : v.k = 0) : enc1 v = [1] := by unfold enc1; rw [if_neg (by omega), if_neg (by omega)]
theorem enc_num {v : V} (h : v.k = 1) : enc1 v = 2 :: be 8 (bias v.n) := by unfold enc1; rw [if_pos h]
theorem enc_text {v : V} (h : v.k = 2) : enc1 v = 3 :: (esc v.s.data.toList ++ [0, 1]) := by unfold enc1; rw [if_neg (by omega), if_pos h]

theorem enc1_head (v : V) : ∃ c r, enc1 v = c :: r ∧ 1 ≤ c.toNat ∧ c.toNat ≤ 3 := by
  unfold enc1
  split
  · exact ⟨_, _, rfl, by decide, by decide⟩
  · split
    · exact ⟨_, _, rfl, by decide, by decide⟩
    · exact ⟨_, _, rfl, by decide, by decide⟩

theorem cmpI_lt {a b : Int} (h : a < b) : cmpI a b = -1 := if_pos h
theorem cmpI_gt {a b : Int} (h : b < a) : cmpI a b = 1 := by unfold cmpI; rw [if_neg (by omega), if_pos h]
theorem cmpI_eq {a b : Int} (h : a = b) : cmpI a b = 0 := by unfold cmpI; rw [if_neg (by omega), if_neg (by omega)]

theorem kinds_lt {x y : V} (h : x.k < y.k) : valCmp x y = -1 := by unfold valCmp; rw [cmpI_lt h]; rfl
theorem kinds_gt {x y : V} (h : y.k < x.k) : valCmp x y = 1 := by unfold valCmp; rw [cmpI_gt h]; rfl
theorem cb_lt {a b : UInt8} {p q : List UInt8} (h : a < b) : Lib.compareBytes (a :: p) (b :: q) = -1 := by rw [Lib.compareBytes, if_pos h]
theorem cb_gt {a b : UInt8} {p q : List UInt8} (h : b < a) : Lib.compareBytes (a :: p) (b :: q) = 1 := by rw [Lib.compareBytes, if_neg (UInt8.lt_asymm h), if_pos h]

theorem cb_enc1 {x y : V} (hx : Right x) (hy : Right y) (p q : List UInt8) : Lib.compareBytes (enc1 x ++ p) (enc1 y ++ q) = if valCmp x y = 0 then Lib.compareBytes p q else valCmp x y := by
  rcases hx.kinds with ⟨k, n, s⟩ | ⟨k, s⟩ | ⟨k, n, s⟩ <;> rcases hy.kinds with ⟨k', n', s'⟩ | ⟨k', s'⟩ | ⟨k', n', s'⟩
  · have e : valCmp x y = 0 := by rw [valCmp_zero]; exact V.ext' (by omega) (by omega) (by rw [s, s'])
    rw [e, if_pos rfl, enc_null k, enc_null k']
    exact cb_same _ _ _
  · rw [kinds_lt (by omega), if_neg (by omega), enc_null k, enc_num k']
    exact cb_lt (by decide)
  · rw [kinds_lt (by omega), if_neg (by omega), enc_null k, enc_text k']
    exact cb_lt (by decide)
  · rw [kinds_gt (by omega), if_neg (by omega), enc_num k, enc_null k']
    exact cb_gt (by decide)
  · rw [enc_num k, enc_num k', List.cons_append, List.cons_append, cb_same, cb_be]
    · have l1 := hx.lo
      have l2 := hy.lo
      unfold valCmp
      rw [s, s', cmpI_eq (show x.k = y.k by omega)]
      show _ = if (if cmpI x.n y.n = 0 then (0 : Int) else cmpI x.n y.n) = 0 then _ else (if cmpI x.n y.n = 0 then (0 : Int) else cmpI x.n y.n)
      unfold bias
      rcases Int.lt_trichotomy x.n y.n with h | h | h
      · rw [cmpI_lt h, if_neg (by omega), if_pos (by omega), if_neg (by decide), if_neg (by decide)]
      · rw [cmpI_eq h, if_pos (by omega), if_pos (by decide)]
      · rw [cmpI_gt h, if_neg (by omega), if_neg (by omega), if_neg (by decide), if_neg (by decide)]
    · have := hx.hi
      have := hx.lo
      unfold bias
      omega
    · have := hy.hi
      have := hy.lo
      unfold bias
      omega
  · rw [kinds_lt (by omega), if_neg (by omega), enc_num k, enc_text k']
    exact cb_lt (by decide)
  · rw [kinds_gt (by omega), if_neg (by omega), enc_text k, enc_null k']
    exact cb_gt (by decide)
  · rw [kinds_gt (by omega), if_neg (by omega), enc_text k, enc_num k']
    exact cb_gt (by decide)
  · rw [enc_text k, enc_text k', List.cons_append, List.cons_append, cb_same, List.append_assoc, List.append_assoc]
    show Lib.compareBytes (esc _ ++ 0 :: 1 :: p) (esc _ ++ 0 :: 1 :: q) = _
    rw [cb_esc]
    unfold valCmp
    rw [cmpI_eq (show x.k = y.k by omega), cmpI_eq (show x.n = y.n by omega)]
    show _ = if Lib.compareBytes x.s.data.toList y.s.data.toList = 0 then _ else Lib.compareBytes x.s.data.toList y.s.data.toList
    by_cases h : x.s.data.toList = y.s.data.toList
    · rw [if_pos h, if_pos ((cb_zero _ _).2 h)]
    · rw [if_neg h, if_neg (fun e => h ((cb_zero _ _).1 e))]

def standsL : List V → List V → Int
  | [], [] => 0
  | [], _ :: _ => -1
  | _ :: _, [] => 1
  | x :: a, y :: b => if valCmp x y = 0 then standsL a b else valCmp x y

theorem encL_cons (v : V) (r : List V) : encL (v :: r) = enc1 v ++ encL r := rfl

theorem cb_encL : ∀ a b : List V, (∀ v ∈ a, Right v) → (∀ v ∈ b, Right v) → Lib.compareBytes (encL a) (encL b) = standsL a b
  | [], [], _, _ => rfl
  | [], y :: b, _, _ => by
    obtain ⟨c, r, h, _⟩ := enc1_head y
    rw [encL_cons, h]
    rfl
  | x :: a, [], _, _ => by
    obtain ⟨c, r, h, _⟩ := enc1_head x
    rw [encL_cons, h]
    rfl
  | x :: a, y :: b, ha, hb => by
    rw [encL_cons, encL_cons, cb_enc1 (ha x (by simp)) (hb y (by simp)), cb_encL a b (fun v hv => ha v (by simp [hv])) (fun v hv => hb v (by simp [hv]))]
    rfl

/-- The keys under a key are those of the lists that begin with its list. -/
theorem under_iff : ∀ a b : List V, (∀ v ∈ a, Right v) → (∀ v ∈ b, Right v) → ((Lib.compareBytes (encL a) (encL b) ≤ 0 ∧ Lib.compareBytes (encL b) (encL a ++ [255]) < 0) ↔ a = b.take a.length)
  | [], [], _, _ => by decide
  | [], y :: b, _, _ => by
    obtain ⟨c, r, h, _, hc⟩ := enc1_head y
    rw [encL_cons, h]
    refine ⟨fun _ => rfl, fun _ => ⟨by show (-1 : Int) ≤ 0; decide, ?_⟩⟩
    show Lib.compareBytes (c :: (r ++ encL b)) [255] < 0
    rw [cb_lt (UInt8.lt_iff_toNat_lt.2 (by show _ < 255; omega))]
    decide
  | x :: a, [], _, _ => by
    obtain ⟨c, r, h, _⟩ := enc1_head x
    rw [encL_cons, h]
    refine ⟨fun h => ?_, fun h => by simp at h⟩
    have := h.1
    exact absurd this (by show ¬ (1 : Int) ≤ 0; decide)
  | x :: a, y :: b, ha, hb => by
    have hx := ha x (by simp)
    have hy := hb y (by simp)
    rw [encL_cons, encL_cons, List.append_assoc, cb_enc1 hx hy, cb_enc1 hy hx, valCmp_anti x y]
    have ih := under_iff a b (fun v hv => ha v (by simp [hv])) (fun v hv => hb v (by simp [hv]))
    have hr := valCmp_rng x y
    by_cases h : valCmp x y = 0
    · have e := (valCmp_zero x y).1 h
      rw [if_pos h, if_pos (by omega), ih, e]
      simp
    · rw [if_neg h, if_neg (by omega)]
      refine ⟨fun h => by omega, fun e => ?_⟩
      simp at e
      exact absurd ((valCmp_zero x y).2 e.1) h

theorem no_begin {x y : V} (hx : Right x) (hy : Right y) (hne : x ≠ y) (r : List UInt8) : enc1 y ≠ enc1 x ++ r := by
  intro h
  have e := cb_enc1 hx hy r []
  have hv : valCmp x y ≠ 0 := fun z => hne ((valCmp_zero x y).1 z)
  rw [if_neg hv, List.append_nil, h, (cb_zero _ _).2 rfl] at e
  exact hv e.symm

/-! ### Read again -/

def nullV : V := ⟨0, 0, ⟨#[]⟩⟩
def numV (l : List UInt8) : V := ⟨1, (num 0 l : Int) - 9223372036854775808, ⟨#[]⟩⟩
def textV (t : List UInt8) : V := ⟨2, 0, ⟨t.toArray⟩⟩

def decText (r : List UInt8) : Option (V × List UInt8) :=
  match unesc r with
  | some (t, r') => if t.length ≤ 64 then some (textV t, r') else none
  | none => none
def dec1 (c : UInt8) (r : List UInt8) : Option (V × List UInt8) :=
  if c.toNat = 1 then some (nullV, r) else if c.toNat = 2 then (if r.length < 8 then none else some (numV (r.take 8), r.drop 8)) else if c.toNat = 3 then decText r else none

def decL : Nat → List UInt8 → Option (List V)
  | _, [] => some []
  | 0, _ :: _ => none
  | m + 1, c :: r => match dec1 c r with
    | none => none
    | some (v, r') => (decL m r').map (v :: ·)

theorem right_null : Right nullV := ⟨by decide, by decide, .inl ⟨rfl, rfl, rfl⟩⟩
theorem right_num (l : List UInt8) (h : l.length = 8) : Right (numV l) := by
  have hl := num_lt l
  rw [h] at hl
  refine ⟨?_, ?_, .inr (.inl ⟨rfl, rfl⟩)⟩
  · show _ ≤ (num 0 l : Int) - 9223372036854775808
    omega
  · show (num 0 l : Int) - 9223372036854775808 ≤ _
    have : num 0 l < 18446744073709551616 := hl
    omega
theorem right_text (t : List UInt8) (h : t.length ≤ 64) : Right (textV t) := ⟨by show (-9223372036854775808 : Int) ≤ 0; decide, by show (0 : Int) ≤ 9223372036854775807; decide, .inr (.inr ⟨rfl, rfl, h⟩)⟩
theorem bias_num (l : List UInt8) : bias (numV l).n = num 0 l := by
  show ((num 0 l : Int) - 9223372036854775808 + 9223372036854775808).toNat = _
  omega

theorem dec1_enc1 {v : V} (h : Right v) (x : List UInt8) : ∃ c r, enc1 v ++ x = c :: r ∧ dec1 c r = some (v, x) := by
  rcases h.kinds with ⟨k, n, s⟩ | ⟨k, s⟩ | ⟨k, n, s⟩
  · refine ⟨1, x, by rw [enc_null k]; rfl, ?_⟩
    have e : nullV = v := V.ext' k.symm n.symm s.symm
    rw [← e]
    rfl
  · refine ⟨2, be 8 (bias v.n) ++ x, by rw [enc_num k]; rfl, ?_⟩
    have hl := be_len 8 (bias v.n)
    unfold dec1
    rw [if_neg (by decide), if_pos (by decide), if_neg (by rw [List.length_append, hl]; omega), List.take_left' hl, List.drop_left' hl]
    have hm : bias v.n < 256 ^ 8 := by have := h.hi; have := h.lo; unfold bias; omega
    have e : numV (be 8 (bias v.n)) = v := by
      refine V.ext' k.symm ?_ s.symm
      show (num 0 (be 8 (bias v.n)) : Int) - 9223372036854775808 = v.n
      rw [num_be, Nat.mod_eq_of_lt hm, Nat.zero_mul, Nat.zero_add]
      have := h.lo
      unfold bias
      omega
    rw [e]
  · refine ⟨3, esc v.s.data.toList ++ 0 :: 1 :: x, by rw [enc_text k, List.cons_append, List.append_assoc]; rfl, ?_⟩
    unfold dec1 decText
    rw [if_neg (by decide), if_neg (by decide), if_pos (by decide), unesc_esc]
    show (if v.s.data.toList.length ≤ 64 then _ else _) = _
    rw [if_pos s]
    have e : textV v.s.data.toList = v := V.ext' k.symm n.symm rfl
    rw [e]

theorem enc1_dec1 {c : UInt8} {r : List UInt8} {v : V} {x : List UInt8} (h : dec1 c r = some (v, x)) : Right v ∧ c :: r = enc1 v ++ x := by
  unfold dec1 at h
  split at h
  · rename_i hc
    simp at h
    obtain ⟨rfl, rfl⟩ := h
    exact ⟨right_null, by rw [enc_null rfl, (UInt8.toNat_inj.1 hc : c = 1)]; rfl⟩
  · split at h
    · rename_i hc
      split at h
      · simp at h
      · rename_i hl
        simp at h
        obtain ⟨rfl, rfl⟩ := h
        have h8 : (r.take 8).length = 8 := by rw [List.length_take]; omega
        refine ⟨right_num _ h8, ?_⟩
        rw [enc_num rfl, bias_num, (UInt8.toNat_inj.1 hc : c = 2)]
        have e := be_num (r.take 8)
        rw [h8] at e
        rw [e, List.cons_append, List.take_append_drop]
    · split at h
      · rename_i hc
        unfold decText at h
        split at h
        · rename_i t r' hu
          split at h
          · rename_i ht
            simp at h
            obtain ⟨rfl, rfl⟩ := h
            refine ⟨right_text t ht, ?_⟩
            rw [enc_text rfl, (UInt8.toNat_inj.1 hc : c = 3), esc_unesc _ _ _ _ (Nat.le_refl _) hu]
            show _ = 3 :: (esc t ++ [0, 1]) ++ r'
            rw [List.cons_append, List.append_assoc]
            rfl
          · simp at h
        · simp at h
      · simp at h

theorem decL_encL : ∀ (m : Nat) (L : List V), L.length ≤ m → (∀ v ∈ L, Right v) → decL m (encL L) = some L
  | m, [], _, _ => by show decL m [] = _; cases m <;> rfl
  | 0, _ :: _, h, _ => by simp at h
  | m + 1, v :: L, h, hr => by
    obtain ⟨c, r, e, d⟩ := dec1_enc1 (hr v (by simp)) (encL L)
    rw [encL_cons, e]
    show (match dec1 c r with | none => none | some (v, r') => (decL m r').map (v :: ·)) = _
    rw [d]
    show (decL m (encL L)).map (v :: ·) = _
    rw [decL_encL m L (by simp at h; omega) (fun v hv => hr v (by simp [hv]))]
    rfl

theorem encL_decL : ∀ (m : Nat) (l : List UInt8) (L : List V), decL m l = some L → L.length ≤ m ∧ (∀ v ∈ L, Right v) ∧ encL L = l
  | m, [], L, h => by
    have : decL m [] = some [] := by cases m <;> rfl
    rw [this] at h
    simp at h
    subst h
    exact ⟨Nat.zero_le _, by simp, rfl⟩
  | 0, c :: r, L, h => by simp [decL] at h
  | m + 1, c :: r, L, h => by
    have e : decL (m + 1) (c :: r) = (match dec1 c r with | none => none | some (v, r') => (decL m r').map (v :: ·)) := rfl
    rw [e] at h
    cases hd : dec1 c r with
    | none => rw [hd] at h; simp at h
    | some p =>
      obtain ⟨v, x⟩ := p
      rw [hd] at h
      have h' : (decL m x).map (v :: ·) = some L := h
      cases hx : decL m x with
      | none => rw [hx] at h'; simp at h'
      | some M =>
        rw [hx] at h'
        simp at h'
        subst h'
        obtain ⟨i1, i2, i3⟩ := encL_decL m x M hx
        obtain ⟨r1, r2⟩ := enc1_dec1 hd
        refine ⟨by simp; omega, ?_, by rw [encL_cons, i3, ← r2]⟩
        intro u hu
        simp at hu
        rcases hu with rfl | hu
        · exact r1
        · exact i2 u hu

theorem encL_inj {a b : List V} (ha : ∀ v ∈ a, Right v) (hb : ∀ v ∈ b, Right v) (la : a.length ≤ 8) (lb : b.length ≤ 8) (h : encL a = encL b) : a = b := by
  have h1 := decL_encL 8 a la ha
  rw [h, decL_encL 8 b lb hb] at h1
  exact (Option.some.inj h1).symm
end Go.Proofs.Ytbepekgaipipjaa
