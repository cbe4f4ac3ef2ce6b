/- The words of a text, plain. -/
import Derived.Lib.ParseIntB
import Derived.Lib.ParseIntBTie
namespace Go.Proofs.YtcmdpahchbbicaaDoor

def nv (acc : Nat) (l : List UInt8) : Nat := l.foldl (fun a c => a * 10 + (c.toNat - 48)) acc
def isD (c : UInt8) : Bool := decide (48 ≤ c.toNat) && decide (c.toNat ≤ 57)
def isL (c : UInt8) : Bool := decide (97 ≤ c.toNat) && decide (c.toNat ≤ 122)
def isN (c : UInt8) : Bool := isL c || isD c || decide (c.toNat = 95)
def isB (c : UInt8) : Bool := decide (c.toNat = 32) || decide (c.toNat = 9) || decide (c.toNat = 10)
def isS (c : UInt8) : Bool := decide (c.toNat = 40) || decide (c.toNat = 41) || decide (c.toNat = 44) || decide (c.toNat = 59) || decide (c.toNat = 61) || decide (c.toNat = 42)
theorem isD_iff (c : UInt8) : isD c = true ↔ 48 ≤ c.toNat ∧ c.toNat ≤ 57 := by simp [isD]
theorem isL_iff (c : UInt8) : isL c = true ↔ 97 ≤ c.toNat ∧ c.toNat ≤ 122 := by simp [isL]
theorem isN_iff (c : UInt8) : isN c = true ↔ (97 ≤ c.toNat ∧ c.toNat ≤ 122) ∨ (48 ≤ c.toNat ∧ c.toNat ≤ 57) ∨ c.toNat = 95 := by simp [isN, isL, isD, or_assoc]
theorem isB_iff (c : UInt8) : isB c = true ↔ c.toNat = 32 ∨ c.toNat = 9 ∨ c.toNat = 10 := by simp [isB, or_assoc]
theorem isS_iff (c : UInt8) : isS c = true ↔ c.toNat = 40 ∨ c.toNat = 41 ∨ c.toNat = 44 ∨ c.toNat = 59 ∨ c.toNat = 61 ∨ c.toNat = 42 := by simp [isS, or_assoc]
theorem nv_cons (a : Nat) (c : UInt8) (r : List UInt8) : nv a (c :: r) = nv (a * 10 + (c.toNat - 48)) r := by unfold nv; rw [List.foldl_cons]
theorem nv_snoc (a : Nat) (l : List UInt8) (c : UInt8) : nv a (l ++ [c]) = nv a l * 10 + (c.toNat - 48) := by simp [nv]
theorem nv_app (a : Nat) (l m : List UInt8) : nv a (l ++ m) = nv (nv a l) m := by simp [nv]
theorem nv_ge : ∀ (l : List UInt8) (a : Nat), a ≤ nv a l
  | [], a => Nat.le_refl _
  | c :: r, a => by rw [nv_cons]; exact Nat.le_trans (by omega) (nv_ge r _)

/-- What a text of digits says, with a minus or without; none: it is none of 64 bits. -/
def numP : List UInt8 → Option Int
  | [] => none
  | c :: r => if c.toNat = 45 then (if nv 0 r ≤ 9223372036854775808 then some (-(nv 0 r : Int)) else none) else if nv 0 (c :: r) < 9223372036854775808 then some (nv 0 (c :: r) : Int) else none
/-- Behind a quote: the bytes up to the closing one, and how many are used up. -/
def quoteL : List UInt8 → Option (List UInt8 × Nat)
  | [] => none
  | [c] => if c.toNat = 39 then some ([], 1) else none
  | c :: d :: r => if c.toNat = 39 then (if d.toNat = 39 then (quoteL r).map fun x => (d :: x.1, x.2 + 2) else some ([], 1)) else (quoteL (d :: r)).map fun x => (c :: x.1, x.2 + 1)
def cnt (p : UInt8 → Bool) (l : List UInt8) : Nat := (l.takeWhile p).length
abbrev Wr := Int × List UInt8 × Int × Nat
def wordL (c : UInt8) (r : List UInt8) : Int ⊕ Wr :=
  if isL c = true then (if 16 < 1 + cnt isN r then .inl 21 else .inr (1, (c :: r).take (1 + cnt isN r), 0, 1 + cnt isN r))
  else if isD c = true ∨ c.toNat = 45 then
    (if c.toNat = 45 ∧ cnt isD r = 0 then .inl 170 else match numP ((c :: r).take (1 + cnt isD r)) with
      | none => .inl 172
      | some v => .inr (2, (c :: r).take (1 + cnt isD r), v, 1 + cnt isD r))
  else if c.toNat = 39 then (match quoteL r with
      | none => .inl 171
      | some (o, k) => if 64 < o.length then .inl 21 else .inr (3, o, 0, 1 + k))
  else if isS c = true then .inr (4, [c], 0, 1)
  else .inl 170

structure Wd where
  kind : Int
  pl : Nat
  text : List UInt8
  n : Int
/-- A fault and its place, or words. -/
abbrev Out := (Nat × Int) ⊕ List Wd
def Out.cons (w : Wd) : Out → Out
  | .inl (p, e) => .inl (p, e)
  | .inr l => .inr (w :: l)
def Out.pre (a : List Wd) : Out → Out
  | .inl (p, e) => .inl (p, e)
  | .inr l => .inr (a ++ l)
def lexF : Nat → Nat → List UInt8 → Out
  | _, p, [] => .inr [⟨5, p, [], 0⟩]
  | 0, _, _ :: _ => .inr []
  | f + 1, p, c :: r => if isB c = true then lexF f (p + 1) r else
      match wordL c r with
      | .inl e => .inl (p, e)
      | .inr (k, t, v, m) => (lexF f (p + m) ((c :: r).drop m)).cons ⟨k, p, t, v⟩
def lexL (p : Nat) (l : List UInt8) : Out := lexF l.length p l

theorem cnt_le (p : UInt8 → Bool) (l : List UInt8) : cnt p l ≤ l.length := by
  unfold cnt
  exact (List.takeWhile_prefix p).length_le
theorem quote_len : ∀ (l : List UInt8) (o : List UInt8) (k : Nat), quoteL l = some (o, k) → 1 ≤ k ∧ k ≤ l.length ∧ o.length < k
  | [], o, k, h => by cases h
  | [c], o, k, h => by
    unfold quoteL at h
    split at h
    · simp at h
      obtain ⟨rfl, rfl⟩ := h
      simp
    · cases h
  | c :: d :: r, o, k, h => by
    unfold quoteL at h
    split at h
    · split at h
      · cases hq : quoteL r with
        | none => rw [hq] at h; cases h
        | some x =>
          rw [hq] at h
          simp at h
          obtain ⟨rfl, rfl⟩ := h
          have := quote_len r x.1 x.2 hq
          simp
          omega
      · simp at h
        obtain ⟨rfl, rfl⟩ := h
        simp
    · cases hq : quoteL (d :: r) with
      | none => rw [hq] at h; cases h
      | some x =>
        rw [hq] at h
        simp at h
        obtain ⟨rfl, rfl⟩ := h
        have := quote_len (d :: r) x.1 x.2 hq
        simp at this ⊢
        omega
theorem quote_q {c d : UInt8} {r : List UInt8} (h : c.toNat = 39) (h2 : d.toNat = 39) : quoteL (c :: d :: r) = (quoteL r).map fun x => (d :: x.1, x.2 + 2) := by rw [quoteL, if_pos h, if_pos h2]
theorem quote_end {c d : UInt8} {r : List UInt8} (h : c.toNat = 39) (h2 : d.toNat ≠ 39) : quoteL (c :: d :: r) = some ([], 1) := by rw [quoteL, if_pos h, if_neg h2]
theorem quote_one {c : UInt8} (h : c.toNat = 39) : quoteL [c] = some ([], 1) := by rw [quoteL, if_pos h]
theorem quote_other {c : UInt8} {r : List UInt8} (h : c.toNat ≠ 39) : quoteL (c :: r) = (quoteL r).map fun x => (c :: x.1, x.2 + 1) := by
  cases r with
  | nil => simp [quoteL, h]
  | cons d r => rw [quoteL, if_neg h]
theorem word_len {c : UInt8} {r : List UInt8} {k : Int} {t : List UInt8} {v : Int} {m : Nat} (h : wordL c r = .inr (k, t, v, m)) : 1 ≤ m ∧ m ≤ 1 + r.length := by
  have h1 := cnt_le isN r
  have h2 := cnt_le isD r
  unfold wordL at h
  split at h
  · split at h
    · cases h
    · simp at h
      omega
  · split at h
    · split at h
      · cases h
      · split at h
        · cases h
        · simp at h
          omega
    · split at h
      · split at h
        · cases h
        · rename_i o k' hq
          have := quote_len _ _ _ hq
          split at h
          · cases h
          · simp at h
            omega
      · split at h
        · simp at h
          omega
        · cases h
theorem lexF_more : ∀ (n : Nat) (l : List UInt8), l.length ≤ n → ∀ (f g p : Nat), l.length ≤ f → l.length ≤ g → lexF f p l = lexF g p l := by
  intro n
  induction n with
  | zero =>
    intro l hl f g p _ _
    have : l = [] := List.eq_nil_of_length_eq_zero (by omega)
    subst this
    cases f <;> cases g <;> rfl
  | succ n ih =>
    intro l hl f g p hf hg
    cases l with
    | nil => cases f <;> cases g <;> rfl
    | cons c r =>
      simp at hl hf hg
      cases f with
      | zero => omega
      | succ f =>
        cases g with
        | zero => omega
        | succ g =>
          simp only [lexF]
          by_cases hb : isB c = true
          · rw [if_pos hb, if_pos hb]
            exact ih r hl f g _ (by omega) (by omega)
          · rw [if_neg hb, if_neg hb]
            cases hw : wordL c r with
            | inl e => rfl
            | inr x =>
              obtain ⟨k, t, v, m⟩ := x
              have hm := word_len hw
              have hd : ((c :: r).drop m).length ≤ r.length := by simp; omega
              show (lexF f (p + m) ((c :: r).drop m)).cons _ = (lexF g (p + m) ((c :: r).drop m)).cons _
              rw [ih ((c :: r).drop m) (by omega) f g (p + m) (by omega) (by omega)]
theorem lex_nil (p : Nat) : lexL p [] = .inr [⟨5, p, [], 0⟩] := rfl
theorem lex_blank {c : UInt8} {r : List UInt8} (p : Nat) (h : isB c = true) : lexL p (c :: r) = lexL (p + 1) r := by
  unfold lexL
  simp only [List.length_cons, lexF]
  rw [if_pos h]
theorem lex_bad {c : UInt8} {r : List UInt8} {e : Int} (p : Nat) (h : isB c = false) (hw : wordL c r = .inl e) : lexL p (c :: r) = .inl (p, e) := by
  unfold lexL
  simp only [List.length_cons, lexF]
  rw [h, hw]
  rfl
theorem lex_word {c : UInt8} {r : List UInt8} {k : Int} {t : List UInt8} {v : Int} {m : Nat} (p : Nat) (h : isB c = false) (hw : wordL c r = .inr (k, t, v, m)) : lexL p (c :: r) = (lexL (p + m) ((c :: r).drop m)).cons ⟨k, p, t, v⟩ := by
  have hm := word_len hw
  unfold lexL
  rw [lexF_more _ ((c :: r).drop m) (Nat.le_refl _) ((c :: r).drop m).length r.length _ (Nat.le_refl _) (by simp; omega)]
  simp only [List.length_cons, lexF]
  rw [h, hw]
  rfl
/-- All blanks ahead are passed over. -/
theorem lex_past : ∀ (l : List UInt8) (p : Nat), lexL p l = lexL (p + cnt isB l) (l.drop (cnt isB l))
  | [], p => rfl
  | c :: r, p => by
    by_cases h : isB c = true
    · have e : cnt isB (c :: r) = cnt isB r + 1 := by simp [cnt, h]
      rw [lex_blank p h, lex_past r (p + 1), e, List.drop_succ_cons]
      congr 1
      omega
    · have e : cnt isB (c :: r) = 0 := by simp [cnt, h]
      rw [e]
      rfl
theorem pre_nil (o : Out) : o.pre [] = o := by cases o <;> rfl
theorem pre_cons (a : List Wd) (w : Wd) (o : Out) : (o.cons w).pre a = o.pre (a ++ [w]) := by cases o <;> simp [Out.cons, Out.pre]

theorem parse_all (M : Nat) (hM : M ≤ 18446744073709551615) : ∀ (l : List UInt8) (acc : Nat), (∀ c ∈ l, isD c = true) → acc ≤ M → Lib.parseUintM M acc l = if nv acc l ≤ M then .ok (nv acc l) else .range
  | [], acc, _, ha => by
    have : nv acc [] = acc := rfl
    rw [this, if_pos ha]
    rfl
  | c :: r, acc, hd, ha => by
    have hc := (isD_iff c).1 (hd c (List.mem_cons_self ..))
    unfold Lib.parseUintM
    rw [if_pos hc, nv_cons]
    have hg := nv_ge r (acc * 10 + (c.toNat - 48))
    by_cases h1 : 1844674407370955162 ≤ acc
    · rw [if_pos h1, if_neg (by omega)]
    · rw [if_neg h1]
      by_cases h2 : M < acc * 10 + (c.toNat - 48)
      · rw [if_pos h2, if_neg (by omega)]
      · rw [if_neg h2]
        exact parse_all M hM r _ (fun x hx => hd x (List.mem_cons_of_mem _ hx)) (by omega)
theorem pint_neg {c : UInt8} {r : List UInt8} (h : c.toNat = 45) : (∀ u, Lib.parseUintB 64 r = .ok u → Lib.parseIntB 64 (c :: r) = if 9223372036854775808 < u then .range else .ok (-(u : Int))) ∧ (Lib.parseUintB 64 r = .range → Lib.parseIntB 64 (c :: r) = .range) := by
  unfold Lib.parseIntB
  simp only [h, or_true, if_true]
  exact ⟨fun u hu => by rw [hu]; simp, fun hu => by rw [hu]⟩
theorem pint_pos {c : UInt8} {r : List UInt8} (h : ¬ c.toNat = 45) (h2 : ¬ c.toNat = 43) : (∀ u, Lib.parseUintB 64 (c :: r) = .ok u → Lib.parseIntB 64 (c :: r) = if 9223372036854775808 ≤ u then .range else .ok (u : Int)) ∧ (Lib.parseUintB 64 (c :: r) = .range → Lib.parseIntB 64 (c :: r) = .range) := by
  unfold Lib.parseIntB
  simp only [h, h2, or_self, if_false]
  exact ⟨fun u hu => by rw [hu]; simp, fun hu => by rw [hu]⟩
theorem num_neg {c : UInt8} {r : List UInt8} (h : c.toNat = 45) : numP (c :: r) = if nv 0 r ≤ 9223372036854775808 then some (-(nv 0 r : Int)) else none := by
  unfold numP
  simp only [h, if_true]
theorem num_pos {c : UInt8} {r : List UInt8} (h : ¬ c.toNat = 45) : numP (c :: r) = if nv 0 (c :: r) < 9223372036854775808 then some (nv 0 (c :: r) : Int) else none := by
  rw [numP, if_neg h]
theorem uint_all {l : List UInt8} (hl : l ≠ []) (hr : ∀ x ∈ l, isD x = true) : Lib.parseUintB 64 l = if nv 0 l ≤ 18446744073709551615 then .ok (nv 0 l) else .range := by
  unfold Lib.parseUintB
  rw [if_neg hl]
  exact parse_all 18446744073709551615 (Nat.le_refl _) l 0 hr (by omega)
/-- strconv.ParseInt of digits, with a minus or without, is numP. -/
theorem parse_num {c : UInt8} {r : List UInt8} (hr : ∀ x ∈ r, isD x = true) (hc : isD c = true ∨ (c.toNat = 45 ∧ r ≠ [])) : (∀ v, numP (c :: r) = some v → Lib.parseIntB 64 (c :: r) = .ok v) ∧ (numP (c :: r) = none → ∀ v, Lib.parseIntB 64 (c :: r) ≠ .ok v) := by
  by_cases h : c.toNat = 45
  · have hne : r ≠ [] := by
      rcases hc with hc | hc
      · have := (isD_iff c).1 hc
        omega
      · exact hc.2
    rw [num_neg h]
    have hu := uint_all hne hr
    obtain ⟨p1, p2⟩ := pint_neg (r := r) h
    by_cases h2 : nv 0 r ≤ 18446744073709551615
    · rw [if_pos h2] at hu
      rw [p1 _ hu]
      by_cases h1 : nv 0 r ≤ 9223372036854775808
      · rw [if_pos h1, if_neg (by omega)]
        exact ⟨fun v hv => by rw [← Option.some.inj hv], fun hv => (by cases hv)⟩
      · rw [if_neg h1, if_pos (by omega)]
        exact ⟨fun v hv => (by cases hv), fun _ v hv => (by cases hv)⟩
    · rw [if_neg h2] at hu
      rw [p2 hu, if_neg (by omega)]
      exact ⟨fun v hv => (by cases hv), fun _ v hv => (by cases hv)⟩
  · have hd : isD c = true := by
      rcases hc with hc | hc
      · exact hc
      · exact absurd hc.1 h
    have hcr : ∀ x ∈ c :: r, isD x = true := by
      intro x hx
      rcases List.mem_cons.1 hx with rfl | hx
      · exact hd
      · exact hr x hx
    have h43 : ¬ c.toNat = 43 := by
      have := (isD_iff c).1 hd
      omega
    rw [num_pos h]
    have hu := uint_all (l := c :: r) (by simp) hcr
    obtain ⟨p1, p2⟩ := pint_pos (r := r) h h43
    by_cases h2 : nv 0 (c :: r) ≤ 18446744073709551615
    · rw [if_pos h2] at hu
      rw [p1 _ hu]
      by_cases h1 : nv 0 (c :: r) < 9223372036854775808
      · rw [if_pos h1, if_neg (by omega)]
        exact ⟨fun v hv => by rw [← Option.some.inj hv], fun hv => (by cases hv)⟩
      · rw [if_neg h1, if_pos (by omega)]
        exact ⟨fun v hv => (by cases hv), fun _ v hv => (by cases hv)⟩
    · rw [if_neg h2] at hu
      rw [p2 hu, if_neg (by omega)]
      exact ⟨fun v hv => (by cases hv), fun _ v hv => (by cases hv)⟩
end Go.Proofs.YtcmdpahchbbicaaDoor
