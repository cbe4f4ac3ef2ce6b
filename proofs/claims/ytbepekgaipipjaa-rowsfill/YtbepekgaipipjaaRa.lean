/- Rows, plain: cells and their bytes, keys, what a change writes. -/
import Derived.Test.YtbepekgaipipjaaWd
namespace Go.Proofs.Ytbepekgaipipjaa
open Go.RowKit

def bs (l : List UInt8) : ByteArray := ⟨l.toArray⟩
theorem bs_data (l : List UInt8) : (bs l).data.toList = l := rfl
theorem bs_of (s : ByteArray) : bs s.data.toList = s := by cases s; rfl
theorem bs_inj {a b : List UInt8} (h : bs a = bs b) : a = b := by rw [← bs_data a, h, bs_data]
theorem bs_size (l : List UInt8) : (bs l).size = l.length := List.size_toArray

/-- A number's value. -/
def nv (n : Int) : V := ⟨1, n, ⟨#[]⟩⟩
theorem rightV_nv (n : Int) : rightV (nv n) = true := by unfold rightV rightB nv; simp [toL]
theorem right_nv {n : Int} (h : Fit n) : Right (nv n) := right_of (rightV_nv n) h

def nullV0 : V := ⟨0, 0, ⟨#[]⟩⟩
theorem nullV0_eq : nullV0 = nullV := rfl

instance : DecidableEq V := fun x y =>
  if h : x.k = y.k ∧ x.n = y.n ∧ x.s = y.s then isTrue (by obtain ⟨a, b, c⟩ := x; obtain ⟨a', b', c'⟩ := y; simp at h; obtain ⟨rfl, rfl, rfl⟩ := h; rfl)
  else isFalse (fun e => h (by subst e; exact ⟨rfl, rfl, rfl⟩))

/-- A cell. -/
structure Ce where
  id : Int
  v : V

def FitC (c : Ce) : Prop := Fit c.id ∧ Fit c.v.n
def ckey (c : Ce) : List UInt8 := encS [nv c.id, c.v]

theorem encS_short {L : List V} (h8 : L.length ≤ 8) (h : L.all rightV = true) : encS L = encL L := by
  unfold encS; rw [if_neg (by omega), if_pos h]
theorem encS_bad {L : List V} (h : L.all rightV = false) : encS L = [] := by
  unfold encS; split
  · rfl
  · rw [h]; rfl
theorem encE_ok {L : List V} (h8 : L.length ≤ 8) (h : L.all rightV = true) : encE L = 0 := by
  unfold encE; rw [if_neg (by omega), if_pos h]
theorem encE_bad {L : List V} (h8 : L.length ≤ 8) (h : L.all rightV = false) : encE L = 10 := by
  unfold encE; rw [if_neg (by omega), h]; rfl

theorem ckey_eq {c : Ce} (h : rightV c.v = true) : ckey c = encL [nv c.id, c.v] :=
  encS_short (by simp) (by simp [rightV_nv, h])
theorem ckey_no {c : Ce} (h : rightV c.v = false) : ckey c = [] := encS_bad (by simp [rightV_nv, h])
theorem enc_nv (n : Int) : enc1 (nv n) = 2 :: be 8 (bias n) := rfl
theorem ckey_ne {c : Ce} (h : rightV c.v = true) : ckey c ≠ [] := by
  rw [ckey_eq h, encL_cons, enc_nv]; simp
theorem ckey_len {c : Ce} (h : rightV c.v = true) (hf : FitC c) : (ckey c).length ≤ 140 := by
  rw [ckey_eq h, encL_cons, encL_cons, enc_nv]
  have := enc1_len (right_of h hf.2)
  simp only [List.length_append, List.length_cons, be_len, encL, List.length_nil]
  omega

/-- Is a cell fit to stand behind an id? -/
def cOk (last : Int) (c : Ce) : Bool := decide (last < c.id) && rightV c.v
def okC : Int → List Ce → Bool
  | _, [] => true
  | last, c :: r => cOk last c && okC c.id r
def lastF (l : Int) (L : List Ce) : Int := L.foldl (fun _ c => c.id) l
theorem lastF_snoc (l : Int) (L : List Ce) (c : Ce) : lastF l (L ++ [c]) = c.id := by simp [lastF]
theorem okC_append : ∀ (l : Int) (A B : List Ce), okC l (A ++ B) = (okC l A && okC (lastF l A) B)
  | l, [], B => by simp [okC, lastF]
  | l, c :: A, B => by
    show (cOk l c && okC c.id (A ++ B)) = _
    rw [okC_append c.id A B]
    show _ = ((cOk l c && okC c.id A) && okC (lastF c.id A) B)
    rw [Bool.and_assoc]
theorem okC_take {L : List Ce} {k : Nat} (hk : k < L.length) : okC 0 (L.take (k + 1)) = (okC 0 (L.take k) && cOk (lastF 0 (L.take k)) L[k]) := by
  rw [List.take_succ_eq_append_getElem hk, okC_append]
  show _ = _
  simp [okC]
theorem okC_no {L : List Ce} {k : Nat} (h : okC 0 (L.take k) = false) : okC 0 L = false := by
  have e : okC 0 (L.take k ++ L.drop k) = okC 0 L := by rw [List.take_append_drop]
  rw [← e, okC_append, h]; rfl
theorem okC_mem : ∀ {l : Int} {L : List Ce}, okC l L = true → ∀ c ∈ L, rightV c.v = true
  | _, [], _, c, hc => by cases hc
  | l, x :: L, h, c, hc => by
    simp only [okC, cOk, Bool.and_eq_true] at h
    rcases List.mem_cons.1 hc with rfl | hc
    · exact h.1.2
    · exact okC_mem h.2 c hc

def oneB (c : Ce) : List UInt8 := UInt8.ofNat (ckey c).length :: ckey c
def rowB (L : List Ce) : List UInt8 := L.flatMap oneB
theorem rowB_take {L : List Ce} {k : Nat} (hk : k < L.length) : rowB (L.take (k + 1)) = rowB (L.take k) ++ oneB L[k] := by
  unfold rowB; rw [List.take_succ_eq_append_getElem hk, List.flatMap_append, List.flatMap_cons, List.flatMap_nil, List.append_nil]
theorem rowB_len : ∀ (L : List Ce), (∀ c ∈ L, rightV c.v = true) → (∀ c ∈ L, FitC c) → (rowB L).length ≤ 141 * L.length
  | [], _, _ => by simp [rowB]
  | c :: L, h, hf => by
    have h1 := ckey_len (h c (by simp)) (hf c (by simp))
    have h2 := rowB_len L (fun x hx => h x (by simp [hx])) (fun x hx => hf x (by simp [hx]))
    have e : rowB (c :: L) = oneB c ++ rowB L := rfl
    rw [e, List.length_append, List.length_cons]
    simp only [oneB, List.length_cons]
    omega
/-- Put's bytes, and its error. -/
def putS (L : List Ce) : List UInt8 := if okC 0 L then rowB L else []
def putE (L : List Ce) : Int := if okC 0 L then 0 else 100

/-! ### Get -/
def cellP (l : List UInt8) : Option Ce := match decL 8 l with
  | some [a, b] => if a.k = 1 then some ⟨a.n, b⟩ else none
  | _ => none
def getL : Nat → Int → List UInt8 → Option (List Ce)
  | _, _, [] => some []
  | 0, _, _ :: _ => none
  | m + 1, last, n :: r => if r.length < n.toNat then none else match cellP (r.take n.toNat) with
    | none => none
    | some c => if last < c.id then (getL m c.id (r.drop n.toNat)).map (c :: ·) else none
theorem getL_nil (m : Nat) (l : Int) : getL m l [] = some [] := by cases m <;> rfl
theorem getL_cons (m : Nat) (last : Int) (n : UInt8) (r : List UInt8) : getL (m + 1) last (n :: r) = if r.length < n.toNat then none else match cellP (r.take n.toNat) with
    | none => none
    | some c => if last < c.id then (getL m c.id (r.drop n.toNat)).map (c :: ·) else none := rfl
theorem getL_fuel : ∀ (m m' : Nat) (l : Int) (s : List UInt8), s.length ≤ m → s.length ≤ m' → getL m l s = getL m' l s
  | m, m', l, [], _, _ => by rw [getL_nil, getL_nil]
  | 0, _, _, _ :: _, h, _ => by simp at h
  | _, 0, _, _ :: _, _, h => by simp at h
  | m + 1, m' + 1, l, n :: r, h, h' => by
    simp at h h'
    rw [getL_cons, getL_cons]
    split
    · rfl
    · cases cellP (r.take n.toNat) with
      | none => rfl
      | some c =>
        show (if l < c.id then _ else _) = (if l < c.id then _ else _)
        rw [getL_fuel m m' c.id (r.drop n.toNat) (by simp; omega) (by simp; omega)]
def getP (l : Int) (s : List UInt8) : Option (List Ce) := getL s.length l s
theorem getP_nil (l : Int) : getP l [] = some [] := rfl
theorem getP_short {l : Int} {n : UInt8} {r : List UInt8} (h : r.length < n.toNat) : getP l (n :: r) = none := by
  show getL (r.length + 1) l (n :: r) = none
  rw [getL_cons, if_pos h]
theorem getP_bad {l : Int} {n : UInt8} {r : List UInt8} (h : ¬ r.length < n.toNat) (hc : cellP (r.take n.toNat) = none) : getP l (n :: r) = none := by
  show getL (r.length + 1) l (n :: r) = none
  rw [getL_cons, if_neg h, hc]
theorem getP_old {l : Int} {n : UInt8} {r : List UInt8} {c : Ce} (h : ¬ r.length < n.toNat) (hc : cellP (r.take n.toNat) = some c) (hl : ¬ l < c.id) : getP l (n :: r) = none := by
  show getL (r.length + 1) l (n :: r) = none
  rw [getL_cons, if_neg h, hc]
  show (if l < c.id then _ else _) = _
  rw [if_neg hl]
theorem getP_step {l : Int} {n : UInt8} {r : List UInt8} {c : Ce} (h : ¬ r.length < n.toNat) (hc : cellP (r.take n.toNat) = some c) (hl : l < c.id) : getP l (n :: r) = (getP c.id (r.drop n.toNat)).map (c :: ·) := by
  show getL (r.length + 1) l (n :: r) = (getL _ _ _).map _
  rw [getL_cons, if_neg h, hc]
  show (if l < c.id then _ else _) = _
  rw [if_pos hl, getL_fuel r.length (r.drop n.toNat).length c.id _ (by simp) (Nat.le_refl _)]
/-- How far a text has been read. -/
def GetAt (L : List UInt8) (M : List Ce) (s : ByteArray) : Prop := getP 0 L = (getP (lastF 0 M) s.data.toList).map (M ++ ·)
theorem getAt_start (s : ByteArray) : GetAt s.data.toList [] s := by
  unfold GetAt
  show getP 0 _ = (getP 0 _).map _
  cases getP 0 s.data.toList <;> simp
theorem getAt_no {L : List UInt8} {M : List Ce} {s : ByteArray} (h : GetAt L M s) (hn : getP (lastF 0 M) s.data.toList = none) : getP 0 L = none := by
  unfold GetAt at h; rw [h, hn]; rfl
theorem getAt_end {L : List UInt8} {M : List Ce} {s : ByteArray} (h : GetAt L M s) (hn : s.data.toList = []) : getP 0 L = some M := by
  unfold GetAt at h; rw [h, hn, getP_nil]; simp
theorem getAt_step {L : List UInt8} {M : List Ce} {s s' : ByteArray} {n : UInt8} {r : List UInt8} {c : Ce} (h : GetAt L M s) (hs : s.data.toList = n :: r) (hn : ¬ r.length < n.toNat) (hc : cellP (r.take n.toNat) = some c) (hl : lastF 0 M < c.id) (hd : s'.data.toList = r.drop n.toNat) : GetAt L (M ++ [c]) s' := by
  unfold GetAt at *
  rw [h, hs, getP_step hn hc hl, lastF_snoc, hd]
  cases getP c.id (r.drop n.toNat) <;> simp

theorem cellP_facts {l : List UInt8} {c : Ce} (h : cellP l = some c) : Fit c.id ∧ rightV c.v = true ∧ Fit c.v.n ∧ ckey c = l := by
  unfold cellP at h
  cases hd : decL 8 l with
  | none => rw [hd] at h; cases h
  | some M =>
    rw [hd] at h
    obtain ⟨_, hr, he⟩ := encL_decL 8 l M hd
    match M, hr, he, h with
    | [], _, _, h => cases h
    | [_], _, _, h => cases h
    | a :: b :: x :: y, _, _, h => cases h
    | [a, b], hr, he, h =>
      have h' : (if a.k = 1 then some (⟨a.n, b⟩ : Ce) else none) = some c := h
      split at h'
      · rename_i hk
        obtain rfl := Option.some.inj h'
        have ra := hr a (by simp)
        have rb := hr b (by simp)
        have hv := rightV_of rb
        have ea : a = nv a.n := by
          rcases ra.kinds with ⟨k, _⟩ | ⟨_, s⟩ | ⟨k, _⟩
          · omega
          · exact V.ext' hk rfl s
          · omega
        refine ⟨⟨ra.lo, ra.hi⟩, hv, ⟨rb.lo, rb.hi⟩, ?_⟩
        rw [ckey_eq hv, ← he]
        show encL [nv a.n, b] = _
        rw [← ea]
      · cases h'
theorem cellP_key {c : Ce} (h : rightV c.v = true) (hf : FitC c) : cellP (ckey c) = some c := by
  have hr : ∀ v ∈ [nv c.id, c.v], Right v := by
    intro v hv
    simp at hv
    rcases hv with rfl | rfl
    · exact right_nv hf.1
    · exact right_of h hf.2
  have hd := decL_encL 8 [nv c.id, c.v] (by simp) hr
  unfold cellP
  rw [ckey_eq h, hd]
  rfl
theorem ofNat_len {n : Nat} (h : n ≤ 140) : (UInt8.ofNat n).toNat = n := by
  rw [UInt8.toNat_ofNat']; omega
theorem get_row : ∀ (l : Int) (L : List Ce), okC l L = true → (∀ c ∈ L, FitC c) → getP l (rowB L) = some L
  | l, [], _, _ => rfl
  | l, c :: L, h, hf => by
    simp only [okC, cOk, Bool.and_eq_true, decide_eq_true_eq] at h
    obtain ⟨⟨h1, h2⟩, h3⟩ := h
    have hfc := hf c (by simp)
    have hl := ckey_len h2 hfc
    have e : rowB (c :: L) = UInt8.ofNat (ckey c).length :: (ckey c ++ rowB L) := rfl
    have hn := ofNat_len hl
    rw [e, getP_step (c := c) (by rw [hn]; simp) (by rw [hn, List.take_left]; exact cellP_key h2 hfc) h1, hn, List.drop_left, get_row c.id L h3 (fun x hx => hf x (by simp [hx]))]
    rfl
theorem row_get : ∀ (m : Nat) (l : Int) (s : List UInt8) (L : List Ce), getL m l s = some L → okC l L = true ∧ rowB L = s ∧ ∀ c ∈ L, FitC c
  | m, l, [], L, h => by
    rw [getL_nil] at h
    obtain rfl := Option.some.inj h
    exact ⟨rfl, rfl, by simp⟩
  | 0, l, n :: r, L, h => by cases h
  | m + 1, l, n :: r, L, h => by
    rw [getL_cons] at h
    split at h
    · cases h
    · rename_i hn
      cases hc : cellP (r.take n.toNat) with
      | none => rw [hc] at h; cases h
      | some c =>
        rw [hc] at h
        have h' : (if l < c.id then (getL m c.id (r.drop n.toNat)).map (c :: ·) else none) = some L := h
        split at h'
        · rename_i hl
          cases hg : getL m c.id (r.drop n.toNat) with
          | none => rw [hg] at h'; cases h'
          | some M =>
            rw [hg] at h'
            obtain rfl := Option.some.inj h'
            obtain ⟨i1, i2, i3⟩ := row_get m c.id _ M hg
            obtain ⟨f1, f2, f3, f4⟩ := cellP_facts hc
            have hlen : (r.take n.toNat).length = n.toNat := by rw [List.length_take]; omega
            refine ⟨?_, ?_, ?_⟩
            · simp only [okC, cOk, Bool.and_eq_true, decide_eq_true_eq]
              exact ⟨⟨hl, f2⟩, i1⟩
            · have e : rowB (c :: M) = UInt8.ofNat (ckey c).length :: (ckey c ++ rowB M) := rfl
              rw [e, f4, i2, hlen, List.take_append_drop]
              have : UInt8.ofNat n.toNat = n := by simp
              rw [this]
            · intro x hx
              rcases List.mem_cons.1 hx with rfl | hx
              · exact ⟨f1, f3⟩
              · exact i3 x hx
        · cases h'

/-! ### Keys, and what a change writes -/
def rowK (id : Int) (k : V) : List UInt8 := encS [nv 0, nv id, k]
def entK (id : Int) (v k : V) : List UInt8 := encS [nv 1, nv id, v, k]
def ofP (L : List Ce) (id : Int) : V := match L.find? (fun c => c.id == id) with
  | some c => c.v
  | none => nullV0
theorem ofP_at {L : List Ce} {id : Int} {i : Nat} (hi : i < L.length) (h : L[i].id = id) (hb : ∀ j (hj : j < L.length), j < i → L[j].id ≠ id) : ofP L id = L[i].v := by
  unfold ofP
  have : L.find? (fun c => c.id == id) = some L[i] := by
    rw [List.find?_eq_some_iff_getElem]
    refine ⟨by simp [h], i, hi, rfl, fun j hj => ?_⟩
    have := hb j (by omega) hj
    simp [this]
  rw [this]
theorem ofP_none {L : List Ce} {id : Int} (hb : ∀ j (hj : j < L.length), L[j].id ≠ id) : ofP L id = nullV0 := by
  unfold ofP
  have : L.find? (fun c => c.id == id) = none := by
    rw [List.find?_eq_none]
    intro c hc
    obtain ⟨j, hj, rfl⟩ := List.mem_iff_getElem.1 hc
    have := hb j hj
    simp [this]
  rw [this]

structure Col where
  id : Int
  nm : ByteArray
  kd : Int
  st : Int
  df : V
structure Ix where
  id : Int
  nm : ByteArray
  col : Int
  uq : Bool
  st : Int
structure Fk where
  id : Int
  nm : ByteArray
  col : Int
  par : Int
  st : Int
structure Tb where
  id : Int
  nm : ByteArray
  cols : List Col
  ixs : List Ix
  fks : List Fk
/-- A write. -/
structure Wr where
  key : ByteArray
  val : ByteArray
  dead : Bool
def putsB (st : Int) : Bool := decide (st = 2 ∨ st = 3)
def headW (t : Tb) (new : List Ce) (k : V) : Wr := ⟨bs (rowK t.id k), bs (rowB new), new.isEmpty⟩
def goneW (old : List Ce) (k : V) (x : Ix) : Wr := ⟨bs (entK x.id (ofP old x.col) k), bs [], true⟩
def thereW (new : List Ce) (k : V) (x : Ix) : Wr := ⟨bs (entK x.id (ofP new x.col) k), bs [], false⟩
def goneB (old new : List Ce) (x : Ix) : Bool := !old.isEmpty && (new.isEmpty || decide (ofP new x.col ≠ ofP old x.col))
def thereB (new : List Ce) (x : Ix) : Bool := !new.isEmpty && putsB x.st
def ixW (old new : List Ce) (k : V) (x : Ix) : List Wr :=
  (if goneB old new x = true then [goneW old k x] else []) ++ (if thereB new x = true then [thereW new k x] else [])
def keyV (c : Int) (old new : List Ce) : V := if old.isEmpty = true then ofP new c else ofP old c
def chgB (t : Tb) (old new : List Ce) : Bool := okC 0 new && (!t.cols.isEmpty && !(old.isEmpty && new.isEmpty))
def chgK (t : Tb) (old new : List Ce) : V := match t.cols with
  | [] => nullV0
  | c :: _ => keyV c.id old new
def chgW (t : Tb) (old new : List Ce) : List Wr := headW t new (chgK t old new) :: t.ixs.flatMap (ixW old new (chgK t old new))
def changesP (t : Tb) (old new : List Ce) : List Wr := if chgB t old new = true then chgW t old new else []
theorem ixs_take {L : List Ix} {k : Nat} (hk : k < L.length) (f : Ix → List Wr) : (L.take (k + 1)).flatMap f = (L.take k).flatMap f ++ f L[k] := by
  rw [List.take_succ_eq_append_getElem hk, List.flatMap_append, List.flatMap_cons, List.flatMap_nil, List.append_nil]
theorem ixW_len (old new : List Ce) (k : V) (x : Ix) : (ixW old new k x).length ≤ 2 := by
  unfold ixW
  split <;> split <;> simp
theorem ixs_len (old new : List Ce) (k : V) : ∀ L : List Ix, (L.flatMap (ixW old new k)).length ≤ 2 * L.length
  | [] => by simp
  | x :: L => by
    have h1 := ixs_len old new k L
    have h2 := ixW_len old new k x
    rw [List.flatMap_cons, List.length_append, List.length_cons]
    omega
end Go.Proofs.Ytbepekgaipipjaa
