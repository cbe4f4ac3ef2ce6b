/- Plain facts on records: the sum, its steps turned back, a record, and what bytes begin with one. -/
import Derived.Lib.Bytealg
namespace Go.Proofs.Ytoipmpaebngppaa

/-! ### Bytes of a number, the highest first -/

def be : Nat → Nat → List UInt8
  | 0, _ => []
  | j + 1, m => UInt8.ofNat (m / 256 ^ j) :: be j m

theorem be_len (j m : Nat) : (be j m).length = j := by
  induction j with
  | zero => rfl
  | succ j ih => simp [be, ih]
theorem ofNat_congr {a b : Nat} (h : a % 256 = b % 256) : UInt8.ofNat a = UInt8.ofNat b := by
  apply UInt8.toNat_inj.1
  rw [UInt8.toNat_ofNat', UInt8.toNat_ofNat']
  exact h
theorem be_mod (m J : Nat) : ∀ j, j ≤ J → be j (m % 256 ^ J) = be j m
  | 0, _ => rfl
  | j + 1, h => by
    show _ :: _ = _ :: _
    rw [be_mod m J j (by omega)]
    congr 1
    apply ofNat_congr
    have e : 256 ^ J = 256 ^ j * 256 ^ (J - j) := by rw [← Nat.pow_add]; congr 1; omega
    rw [e, Nat.mod_mul_right_div_self, Nat.mod_mod_of_dvd]
    exact ⟨256 ^ (J - j - 1), by rw [← Nat.pow_succ']; congr 1; omega⟩
/-- The number that bytes are, the highest first, on from another one. -/
def num (a : Nat) (l : List UInt8) : Nat := l.foldl (fun a c => a * 256 + c.toNat) a
theorem num_nil (a : Nat) : num a [] = a := rfl
theorem num_cons (a : Nat) (c : UInt8) (l : List UInt8) : num a (c :: l) = num (a * 256 + c.toNat) l := rfl
theorem num_snoc (a : Nat) (l : List UInt8) (c : UInt8) : num a (l ++ [c]) = num a l * 256 + c.toNat := by simp [num]
theorem num_eq : ∀ (l : List UInt8) (a : Nat), num a l = a * 256 ^ l.length + num 0 l
  | [], a => by simp [num]
  | c :: l, a => by
    rw [num_cons, num_cons, num_eq l, num_eq l (0 * 256 + c.toNat), List.length_cons, Nat.pow_succ, Nat.add_mul, Nat.add_mul, Nat.mul_assoc, Nat.mul_comm 256, Nat.zero_mul, Nat.zero_add, Nat.add_assoc]
theorem num_lt : ∀ (l : List UInt8), num 0 l < 256 ^ l.length
  | [] => by simp [num]
  | c :: l => by
    have h := num_lt l
    have hc := c.toNat_lt
    rw [num_cons, num_eq, List.length_cons, Nat.pow_succ, Nat.zero_mul, Nat.zero_add]
    have : c.toNat * 256 ^ l.length + 256 ^ l.length ≤ 256 ^ l.length * 256 := by rw [Nat.mul_comm c.toNat, ← Nat.mul_succ]; exact Nat.mul_le_mul_left _ (by omega)
    omega
theorem num_be : ∀ (j m a : Nat), num a (be j m) = a * 256 ^ j + m % 256 ^ j
  | 0, m, a => by rw [be, num_nil, Nat.pow_zero, Nat.mul_one, Nat.mod_one, Nat.add_zero]
  | j + 1, m, a => by
    have e : (UInt8.ofNat (m / 256 ^ j)).toNat = m / 256 ^ j % 256 := UInt8.toNat_ofNat'
    rw [be, num_cons, num_be j m, e]
    have h : m % 256 ^ (j + 1) = 256 ^ j * (m / 256 ^ j % 256) + m % 256 ^ j := by rw [Nat.pow_succ, Nat.mod_mul, Nat.add_comm]
    rw [h, Nat.add_mul, Nat.pow_succ, Nat.mul_assoc, Nat.mul_comm 256, Nat.mul_comm (m / 256 ^ j % 256), Nat.add_assoc]
theorem be_num : ∀ (l : List UInt8), be l.length (num 0 l) = l
  | [] => rfl
  | c :: l => by
    have ih := be_num l
    have hl := num_lt l
    have hp : 0 < 256 ^ l.length := Nat.pow_pos (by omega)
    have hc := c.toNat_lt
    rw [List.length_cons, be, num_cons, Nat.zero_mul, Nat.zero_add, num_eq, ← be_mod _ l.length l.length (Nat.le_refl _), Nat.mul_comm, Nat.mul_add_mod, Nat.mod_eq_of_lt hl, ih, Nat.mul_add_div hp, Nat.div_eq_of_lt hl, Nat.add_zero]
    congr 1
    apply UInt8.toNat_inj.1
    rw [UInt8.toNat_ofNat']
    exact Nat.mod_eq_of_lt hc

/-! ### The sum -/

def bitN (x : Nat) : Nat := if x % 2 = 1 then (x / 2) ^^^ 3988292384 else x / 2
def bitsK : Nat → Nat → Nat
  | 0, x => x
  | k + 1, x => bitN (bitsK k x)
def addB (x : Nat) (b : UInt8) : Nat := bitsK 8 (x ^^^ b.toNat)
def crcL (x : Nat) (l : List UInt8) : Nat := l.foldl addB x
def sumL (l : List UInt8) : Nat := 4294967295 - crcL 4294967295 l

theorem bitN_lt (x : Nat) (h : x < 4294967296) : bitN x < 4294967296 := by
  unfold bitN
  split
  · exact Nat.xor_lt_two_pow (n := 32) (by omega) (by omega)
  · omega
theorem bitsK_lt : ∀ (k x : Nat), x < 4294967296 → bitsK k x < 4294967296
  | 0, _, h => h
  | k + 1, x, h => bitN_lt _ (bitsK_lt k x h)
theorem xorb_lt (x : Nat) (b : UInt8) (h : x < 4294967296) : x ^^^ b.toNat < 4294967296 :=
  Nat.xor_lt_two_pow (n := 32) h (by have := b.toNat_lt; omega)
theorem addB_lt (x : Nat) (b : UInt8) (h : x < 4294967296) : addB x b < 4294967296 := bitsK_lt 8 _ (xorb_lt x b h)
theorem crcL_lt : ∀ (l : List UInt8) (x : Nat), x < 4294967296 → crcL x l < 4294967296
  | [], _, h => h
  | b :: l, x, h => crcL_lt l _ (addB_lt x b h)
theorem crcL_nil (x : Nat) : crcL x [] = x := rfl
theorem crcL_cons (x : Nat) (b : UInt8) (l : List UInt8) : crcL x (b :: l) = crcL (addB x b) l := by unfold crcL; rw [List.foldl_cons]
theorem crcL_snoc (x : Nat) (l : List UInt8) (b : UInt8) : crcL x (l ++ [b]) = addB (crcL x l) b := by simp [crcL]
theorem crcL_append (x : Nat) (l m : List UInt8) : crcL x (l ++ m) = crcL (crcL x l) m := by simp [crcL]
theorem sumL_lt (l : List UInt8) : sumL l < 4294967296 := by unfold sumL; omega

/-- The highest bit tells whether the number was odd. -/
theorem bitN_high (x : Nat) (h : x < 4294967296) : (bitN x).testBit 31 = decide (x % 2 = 1) := by
  unfold bitN
  have h2 : (x / 2).testBit 31 = false := Nat.testBit_lt_two_pow (by omega)
  split
  · rename_i e
    rw [Nat.testBit_xor, h2]
    have hp : Nat.testBit 3988292384 31 = true := by decide
    rw [hp]
    simp [e]
  · rename_i e
    rw [h2]
    simp [e]
theorem xor_cancel {a b c : Nat} (h : a ^^^ c = b ^^^ c) : a = b := by
  have e : (a ^^^ c) ^^^ c = (b ^^^ c) ^^^ c := by rw [h]
  rwa [Nat.xor_assoc, Nat.xor_assoc, Nat.xor_self, Nat.xor_zero, Nat.xor_zero] at e
theorem xor_cancel' {a b c : Nat} (h : c ^^^ a = c ^^^ b) : a = b := xor_cancel (c := c) (by rw [Nat.xor_comm a, Nat.xor_comm b]; exact h)
theorem bitN_inj {x y : Nat} (hx : x < 4294967296) (hy : y < 4294967296) (h : bitN x = bitN y) : x = y := by
  have a := bitN_high x hx
  have b := bitN_high y hy
  rw [h, b] at a
  have ab : (x % 2 = 1) = (y % 2 = 1) := by
    have := decide_eq_decide.1 a
    exact propext this.symm
  unfold bitN at h
  by_cases e : x % 2 = 1
  · have e' : y % 2 = 1 := ab ▸ e
    rw [if_pos e, if_pos e'] at h
    have := xor_cancel h
    omega
  · have e' : ¬ y % 2 = 1 := fun q => e (ab ▸ q)
    rw [if_neg e, if_neg e'] at h
    omega
theorem bitsK_inj : ∀ (k : Nat) {x y : Nat}, x < 4294967296 → y < 4294967296 → bitsK k x = bitsK k y → x = y
  | 0, _, _, _, _, h => h
  | k + 1, x, y, hx, hy, h => bitsK_inj k hx hy (bitN_inj (bitsK_lt k x hx) (bitsK_lt k y hy) h)
theorem addB_inj {x y : Nat} (b : UInt8) (hx : x < 4294967296) (hy : y < 4294967296) (h : addB x b = addB y b) : x = y :=
  xor_cancel (bitsK_inj 8 (xorb_lt x b hx) (xorb_lt y b hy) h)
theorem addB_byte {x : Nat} {b c : UInt8} (hx : x < 4294967296) (h : addB x b = addB x c) : b = c :=
  UInt8.toNat_inj.1 (xor_cancel' (bitsK_inj 8 (xorb_lt x b hx) (xorb_lt x c hx) h))
theorem crcL_inj : ∀ (l : List UInt8) {x y : Nat}, x < 4294967296 → y < 4294967296 → crcL x l = crcL y l → x = y
  | [], _, _, _, _, h => h
  | b :: l, x, y, hx, hy, h => addB_inj b hx hy (crcL_inj l (addB_lt x b hx) (addB_lt y b hy) h)
/-- One byte that is another makes another sum. -/
theorem sum_one (l m : List UInt8) (b c : UInt8) (h : sumL (l ++ b :: m) = sumL (l ++ c :: m)) : b = c := by
  have hl := crcL_lt l 4294967295 (by omega)
  have ha := crcL_lt (l ++ b :: m) 4294967295 (by omega)
  have hb := crcL_lt (l ++ c :: m) 4294967295 (by omega)
  unfold sumL at h
  have e : crcL 4294967295 (l ++ b :: m) = crcL 4294967295 (l ++ c :: m) := by omega
  rw [crcL_append, crcL_append, crcL_cons, crcL_cons] at e
  exact addB_byte hl (crcL_inj m (addB_lt _ _ hl) (addB_lt _ _ hl) e)

/-- All bitsK turned. -/
theorem turn32 (x : Nat) (h : x < 4294967296) : x ^^^ 4294967295 = 4294967295 - x := by
  apply Nat.eq_of_testBit_eq
  intro i
  have e1 : (4294967295 : Nat) = 2 ^ 32 - 1 := by decide
  have e2 : 4294967295 - x = 2 ^ 32 - (x + 1) := by omega
  rw [Nat.testBit_xor, e2, Nat.testBit_two_pow_sub_succ (by omega), e1, Nat.testBit_two_pow_sub_one]
  by_cases hi : i < 32
  · simp [hi]
  · simp only [hi, decide_false, Bool.xor_false, Bool.false_and]
    exact Nat.testBit_lt_two_pow (Nat.lt_of_lt_of_le h (Nat.pow_le_pow_right (n := 2) (i := 32) (by omega) (by omega)))

/-! ### Records -/

/-- Four bytes of a number, the lowest first. -/
def le4 (x : Nat) : List UInt8 := [UInt8.ofNat x, UInt8.ofNat (x / 256), UInt8.ofNat (x / 65536), UInt8.ofNat (x / 16777216)]
theorem le4_len (x : Nat) : (le4 x).length = 4 := rfl
theorem le4_inj {x y : Nat} (hx : x < 4294967296) (hy : y < 4294967296) (h : le4 x = le4 y) : x = y := by
  unfold le4 at h
  simp only [List.cons.injEq, and_true] at h
  obtain ⟨a, b, c, d⟩ := h
  have f : ∀ {u v : Nat}, UInt8.ofNat u = UInt8.ofNat v → u % 256 = v % 256 := by
    intro u v q
    have := congrArg UInt8.toNat q
    rwa [UInt8.toNat_ofNat', UInt8.toNat_ofNat'] at this
  have a := f a
  have b := f b
  have c := f c
  have d := f d
  omega

def headL (p : List UInt8) : List UInt8 := be 4 p.length ++ le4 (sumL (be 4 p.length ++ p))
def recL (p : List UInt8) : List UInt8 := headL p ++ p
def recs : List (List UInt8) → List UInt8
  | [] => []
  | p :: r => recL p ++ recs r

theorem head_len (p : List UInt8) : (headL p).length = 8 := by simp [headL, be_len, le4]
theorem rec_len (p : List UInt8) : (recL p).length = 8 + p.length := by simp [recL, head_len]
theorem recs_append (a b : List (List UInt8)) : recs (a ++ b) = recs a ++ recs b := by
  induction a with
  | nil => rfl
  | cons v r ih => show recL v ++ recs (r ++ b) = recL v ++ recs r ++ recs b; rw [ih, List.append_assoc]
theorem recs_snoc (a : List (List UInt8)) (p : List UInt8) : recs (a ++ [p]) = recs a ++ recL p := by
  rw [recs_append]; show recs a ++ (recL p ++ []) = _; rw [List.append_nil]
theorem recs_one (p : List UInt8) : recs [p] = recL p := List.append_nil _

theorem be4_inj {m n : Nat} (hm : m < 4294967296) (hn : n < 4294967296) (h : be 4 m = be 4 n) : m = n := by
  have e := congrArg (num 0) h
  rw [num_be, num_be] at e
  omega

/-- Bytes that begin with two records begin with one. -/
theorem rec_same {p q r t : List UInt8} (hp : p.length ≤ 65536) (hq : q.length ≤ 65536) (h : recL p ++ r = recL q ++ t) : p = q ∧ r = t := by
  unfold recL headL at h
  simp only [List.append_assoc] at h
  obtain ⟨h1, h2⟩ := List.append_inj h (by rw [be_len, be_len])
  have hl := be4_inj (by omega) (by omega) h1
  obtain ⟨_, h3⟩ := List.append_inj h2 (by rw [le4_len, le4_len])
  obtain ⟨h4, h5⟩ := List.append_inj h3 hl
  exact ⟨h4, h5⟩

/-- No record stands at the front. -/
def NoRec (s : List UInt8) : Prop := ∀ p r, p.length ≤ 65536 → s ≠ recL p ++ r
/-- What is told of bytes: records, one behind the other, and then none. -/
def Scans (s : List UInt8) (ps : List (List UInt8)) (n : Nat) : Prop :=
  ∃ r, s = recs ps ++ r ∧ n = (recs ps).length ∧ (∀ p ∈ ps, p.length ≤ 65536) ∧ NoRec r

theorem scans_one : ∀ {s : List UInt8} {ps qs : List (List UInt8)} {m n : Nat}, Scans s ps m → Scans s qs n → ps = qs ∧ m = n
  | s, [], [], m, n, ⟨_, _, hm, _, _⟩, ⟨_, _, hn, _, _⟩ => ⟨rfl, by rw [hm, hn]⟩
  | s, [], q :: qs, m, n, ⟨r, h, _, _, no⟩, ⟨t, h', _, hl, _⟩ => by
    exfalso
    exact no q (recs qs ++ t) (hl q (by simp)) (by rw [h] at h'; simpa [recs] using h')
  | s, p :: ps, [], m, n, ⟨r, h, _, hl, _⟩, ⟨t, h', _, _, no⟩ => by
    exfalso
    exact no p (recs ps ++ r) (hl p (by simp)) (by rw [h'] at h; simpa [recs] using h)
  | s, p :: ps, q :: qs, m, n, ⟨r, h, hm, hl, no⟩, ⟨t, h', hn, hl', no'⟩ => by
    have e : recL p ++ (recs ps ++ r) = recL q ++ (recs qs ++ t) := by
      rw [h] at h'
      simpa [recs] using h'
    obtain ⟨e1, e2⟩ := rec_same (hl p (by simp)) (hl' q (by simp)) e
    subst e1
    obtain ⟨e3, e4⟩ := scans_one (s := recs ps ++ r) (ps := ps) (qs := qs) ⟨r, rfl, rfl, fun x hx => hl x (by simp [hx]), no⟩ ⟨t, e2, rfl, fun x hx => hl' x (by simp [hx]), no'⟩
    subst e3
    exact ⟨rfl, by rw [hm, hn]⟩

theorem scans_none {s : List UInt8} (h : NoRec s) : Scans s [] 0 := ⟨s, rfl, rfl, by simp, h⟩

/-- The first part of a record is none. -/
theorem noRec_cut {p s t : List UInt8} (hp : p.length ≤ 65536) (h : recL p = s ++ t) (ht : s.length < (recL p).length) : NoRec s := by
  intro q r hq e
  rw [e, List.append_assoc] at h
  have h' : recL p ++ [] = recL q ++ (r ++ t) := by rw [List.append_nil, h]
  obtain ⟨e1, e2⟩ := rec_same hp hq h'
  subst e1
  rw [e, List.length_append] at ht
  omega
theorem noRec_nil : NoRec [] := by
  intro q r _ e
  have := congrArg List.length e
  simp [rec_len] at this
  omega
theorem noRec_short {s : List UInt8} (h : s.length < 8) : NoRec s := by
  intro q r _ e
  have := congrArg List.length e
  simp [rec_len] at this
  omega

/-- Where the records end. -/
def ends (ps : List (List UInt8)) (k : Nat) : Nat := (recs (ps.take k)).length
theorem ends_zero (ps : List (List UInt8)) : ends ps 0 = 0 := rfl
theorem ends_all (ps : List (List UInt8)) : ends ps ps.length = (recs ps).length := by simp [ends]
theorem ends_succ (ps : List (List UInt8)) (k : Nat) (h : k < ps.length) : ends ps (k + 1) = ends ps k + (8 + ps[k].length) := by
  unfold ends
  rw [List.take_succ_eq_append_getElem h, recs_snoc, List.length_append, rec_len]

theorem scans_cut (ps : List (List UInt8)) (cut k : Nat) (hl : ∀ p ∈ ps, p.length ≤ 65536) (hk : k ≤ ps.length) (h1 : ends ps k ≤ cut) (h2 : k = ps.length ∨ (k < ps.length ∧ cut < ends ps (k + 1))) :
    Scans ((recs ps).take cut) (ps.take k) (ends ps k) := by
  have e : recs ps = recs (ps.take k) ++ recs (ps.drop k) := by rw [← recs_append, List.take_append_drop]
  refine ⟨(recs (ps.drop k)).take (cut - ends ps k), ?_, rfl, fun p hp => hl p (List.mem_of_mem_take hp), ?_⟩
  · rw [e, List.take_append, List.take_of_length_le (by exact h1)]
    rfl
  · rcases h2 with h2 | ⟨h2, h3⟩
    · subst h2
      simp [recs]
      exact noRec_nil
    · have ed : ps.drop k = ps[k] :: ps.drop (k + 1) := List.drop_eq_getElem_cons h2
      rw [ends_succ ps k h2] at h3
      rw [ed]
      have hs : (recL ps[k] ++ recs (ps.drop (k + 1))).take (cut - ends ps k) = (recL ps[k]).take (cut - ends ps k) := by
        rw [List.take_append_of_le_length (by rw [rec_len]; omega)]
      show NoRec ((recL ps[k] ++ recs (ps.drop (k + 1))).take (cut - ends ps k))
      rw [hs]
      refine noRec_cut (hl _ (List.getElem_mem h2)) (List.take_append_drop (cut - ends ps k) _).symm ?_
      rw [List.length_take, rec_len]
      omega

theorem scans_behind : ∀ {ps qs : List (List UInt8)} {more : List UInt8} {n : Nat}, (∀ p ∈ ps, p.length ≤ 65536) → Scans (recs ps ++ more) qs n → ∃ t, qs = ps ++ t ∧ (recs ps).length ≤ n ∧ n ≤ (recs ps ++ more).length
  | [], qs, more, n, _, ⟨r, h, hn, _, _⟩ => ⟨qs, rfl, by simp [recs], by rw [h, hn]; simp⟩
  | p :: ps, [], more, n, hl, ⟨r, h, hn, _, no⟩ => by
    exfalso
    exact no p (recs ps ++ more) (hl p (by simp)) (by simpa [recs] using h.symm)
  | p :: ps, q :: qs, more, n, hl, ⟨r, h, hn, hl', no⟩ => by
    have e : recL p ++ (recs ps ++ more) = recL q ++ (recs qs ++ r) := by simpa [recs] using h
    obtain ⟨e1, e2⟩ := rec_same (hl p (by simp)) (hl' q (by simp)) e
    subst e1
    obtain ⟨t, ht, h1, h2⟩ := scans_behind (ps := ps) (qs := qs) (more := more) (n := (recs qs).length) (fun x hx => hl x (by simp [hx])) ⟨r, e2, rfl, fun x hx => hl' x (by simp [hx]), no⟩
    subst ht
    refine ⟨t, rfl, ?_, ?_⟩
    · rw [hn]
      simp [recs] at h1 ⊢
      omega
    · rw [hn]
      simp [recs] at h2 ⊢
      omega

/-- A record of which one byte is another, behind its length, is none. -/
theorem noRec_turn (p : List UInt8) (hp : p.length ≤ 65536) (i : Nat) (c : UInt8) (h4 : 4 ≤ i) (hi : i < (recL p).length) (hc : (recL p)[i] ≠ c) : NoRec ((recL p).set i c) := by
  intro q r hq e
  have el := congrArg List.length e
  rw [List.length_set, List.length_append, rec_len, rec_len] at el
  have e4 : ∀ x : List UInt8, (recL x).take 4 = be 4 x.length := by
    intro x
    unfold recL headL
    rw [List.append_assoc, List.take_append_of_le_length (by rw [be_len]; omega), List.take_of_length_le (by rw [be_len]; omega)]
  have hh : be 4 p.length = be 4 q.length := by
    rw [← e4 p, ← e4 q]
    have := congrArg (List.take 4) e
    rw [List.take_set_of_le h4, List.take_append_of_le_length (by rw [rec_len]; omega)] at this
    exact this
  have hpq := be4_inj (by omega) (by omega) hh
  have hr : r = [] := List.eq_nil_of_length_eq_zero (by omega)
  subst hr
  rw [List.append_nil] at e
  by_cases h8 : i < 8
  · -- the payload is the same
    have hd : ∀ x : List UInt8, (recL x).drop 8 = x := by
      intro x
      unfold recL
      rw [List.drop_append_of_le_length (by rw [head_len]; omega), List.drop_of_length_le (by rw [head_len]; omega), List.nil_append]
    have e1 := congrArg (List.drop 8) e
    rw [List.drop_set_of_lt h8, hd, hd] at e1
    subst e1
    have : ((recL p).set i c)[i]'(by rw [List.length_set]; exact hi) = (recL p)[i] := by simp only [e]
    rw [List.getElem_set_self] at this
    exact hc this.symm
  · -- the sum is the same
    have hj : i - 8 < p.length := by rw [rec_len] at hi; omega
    have ep : (recL p).set i c = headL p ++ p.set (i - 8) c := by
      unfold recL
      rw [List.set_append_right _ _ (by rw [head_len]; omega), head_len]
    rw [ep] at e
    obtain ⟨e1, e2⟩ := List.append_inj (show headL p ++ p.set (i - 8) c = headL q ++ q from e) (by rw [head_len, head_len])
    have es : le4 (sumL (be 4 p.length ++ p)) = le4 (sumL (be 4 q.length ++ q)) := (List.append_inj (show be 4 p.length ++ _ = be 4 q.length ++ _ from e1) (by rw [be_len, be_len])).2
    have es := le4_inj (sumL_lt _) (sumL_lt _) es
    have hgc : p[i - 8] = c := by
      have h1 : p = p.take (i - 8) ++ p[i - 8] :: p.drop (i - 8 + 1) := by
        rw [← List.drop_eq_getElem_cons hj, List.take_append_drop]
      have h2 : q = p.take (i - 8) ++ c :: p.drop (i - 8 + 1) := by
        rw [← e2, List.set_eq_take_append_cons_drop, if_pos hj]
      rw [← hh] at es
      have es' : sumL (be 4 p.length ++ (p.take (i - 8) ++ p[i - 8] :: p.drop (i - 8 + 1))) = sumL (be 4 p.length ++ (p.take (i - 8) ++ c :: p.drop (i - 8 + 1))) := by
        rw [← h1, ← h2]
        exact es
      rw [← List.append_assoc, ← List.append_assoc] at es'
      exact sum_one _ _ _ _ es'
    apply hc
    rw [← hgc]
    have g : ∀ (x y : List UInt8) (hx : x.length = 8) (h : i < (x ++ y).length) (h' : i - 8 < y.length), (x ++ y)[i] = y[i - 8] := by
      intro x y hx h h'
      rw [List.getElem_append_right (by omega)]
      simp only [hx]
    exact g (headL p) p (head_len p) hi hj

/-- Whether bytes begin with a record, as it is looked for. -/
theorem first_yes (s : List UInt8) (n : Nat) (h8 : 8 ≤ s.length) (hn : num 0 (s.take 4) = n) (hl : n ≤ (s.drop 8).length) (hs : (s.drop 4).take 4 = le4 (sumL (s.take 4 ++ (s.drop 8).take n))) :
    s = recL ((s.drop 8).take n) ++ s.drop (8 + n) := by
  have h4 : s.take 4 = be 4 n := by
    have := be_num (s.take 4)
    rw [hn, List.length_take, Nat.min_eq_left (by omega)] at this
    exact this.symm
  have hpl : ((s.drop 8).take n).length = n := by rw [List.length_take]; omega
  unfold recL headL
  rw [hpl, ← h4, ← hs, List.append_assoc, List.append_assoc]
  have e1 : (s.drop 8).take n ++ s.drop (8 + n) = s.drop 8 := by
    rw [← List.drop_drop, List.take_append_drop]
  rw [e1]
  have e2 : (s.drop 4).take 4 ++ s.drop 8 = s.drop 4 := by
    rw [show s.drop 8 = (s.drop 4).drop 4 by rw [List.drop_drop], List.take_append_drop]
  rw [e2, List.take_append_drop]
theorem rec_parts (p r : List UInt8) (hp : p.length ≤ 65536) :
    (recL p ++ r).take 4 = be 4 p.length ∧ num 0 ((recL p ++ r).take 4) = p.length ∧ ((recL p ++ r).drop 4).take 4 = le4 (sumL (be 4 p.length ++ p)) ∧ (recL p ++ r).drop 8 = p ++ r := by
  have a : (recL p ++ r).take 4 = be 4 p.length := by
    unfold recL headL
    rw [List.append_assoc, List.append_assoc, List.take_append_of_le_length (by rw [be_len]; omega), List.take_of_length_le (by rw [be_len]; omega)]
  refine ⟨a, ?_, ?_, ?_⟩
  · rw [a, num_be]
    omega
  · unfold recL headL
    rw [List.append_assoc, List.append_assoc, List.drop_append_of_le_length (by rw [be_len]; omega), List.drop_of_length_le (by rw [be_len]; omega), List.nil_append, List.take_append_of_le_length (by simp [le4]), List.take_of_length_le (by simp [le4])]
  · unfold recL
    rw [List.append_assoc, List.drop_append_of_le_length (by rw [head_len]; omega), List.drop_of_length_le (by rw [head_len]; omega), List.nil_append]
/-- It is no record: a word on why. -/
theorem first_no (s : List UInt8) (h : s.length < 8 ∨ 65536 < num 0 (s.take 4) ∨ (s.drop 8).length < num 0 (s.take 4) ∨ (s.drop 4).take 4 ≠ le4 (sumL (s.take 4 ++ (s.drop 8).take (num 0 (s.take 4))))) : NoRec s := by
  intro p r hp e
  obtain ⟨a, b, c, d⟩ := rec_parts p r hp
  rw [e, b, c, d, a] at h
  rw [List.length_append, rec_len, List.length_append] at h
  rcases h with h | h | h | h
  · omega
  · omega
  · omega
  · rw [List.take_append_of_le_length (Nat.le_refl _), List.take_of_length_le (Nat.le_refl _)] at h
    exact h rfl
end Go.Proofs.Ytoipmpaebngppaa
