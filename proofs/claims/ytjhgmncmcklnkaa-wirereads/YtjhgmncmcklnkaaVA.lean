/- Numbers as bytes, in groups of seven bits: plain facts. -/
import Derived.Test.YtjhgmncmcklnkaaRows
import Derived.WalkKit
import Derived.WalkSpells
import Derived.WalkLawsBesides
import Derived.OwnWalk
import Derived.BigCall
import Derived.BigRegion
import Derived.Deep.QuietTactic
import Derived.BigQuiet
import Derived.Deep.OwnRows
import Derived.Deep.RegionWith
import Derived.Deep.RegionLaw
import Derived.Deep.RegionHeld3
import Derived.Laws.OwnMore
import Derived.Maps.AppendAt
import Derived.Lib.Hide
import Derived.Lib.Slices
import Derived.Laws.IdiomStrings
import Derived.Laws.BytesArg
import Derived.Deep.DeepCutAuto
import Derived.Laws.BitsAllLaws
namespace Go.Proofs.Ytjhgmncmcklnkaa

def zig (n : Int) : Nat := if n < 0 then (-2 * n - 1).toNat else (2 * n).toNat
def zag (z : Nat) : Int := if z % 2 = 1 then -((z / 2 : Nat) : Int) - 1 else ((z / 2 : Nat) : Int)
theorem zag_zig (n : Int) : zag (zig n) = n := by
  unfold zag zig
  split <;> split <;> omega
theorem zig_zag (z : Nat) : zig (zag z) = z := by
  unfold zag zig
  split <;> split <;> omega
/-- A number of 64 bits. -/
def I64 (n : Int) : Prop := -9223372036854775808 ≤ n ∧ n ≤ 9223372036854775807
theorem zig_lt {n : Int} (h : I64 n) : zig n < 18446744073709551616 := by
  unfold I64 at h
  unfold zig
  split <;> omega
theorem zag_in {z : Nat} (h : z < 18446744073709551616) : I64 (zag z) := by
  unfold I64 zag
  split <;> omega

/-- At most k groups. -/
def grpN : Nat → Nat → List UInt8
  | 0, _ => []
  | k + 1, z => if z < 128 then [UInt8.ofNat z] else UInt8.ofNat (z % 128 + 128) :: grpN k (z / 128)
def grp (z : Nat) : List UInt8 := grpN 10 z
/-- May the group b be the last one, where k more might follow? -/
def endK (k : Nat) (b : Nat) : Bool := if b = 0 then k == 9 else (decide (0 < k) || decide (b ≤ 1))
/-- What is read in at most k groups. -/
def rdN : Nat → List UInt8 → Option (Nat × List UInt8)
  | 0, _ => none
  | _ + 1, [] => none
  | k + 1, b :: l => if 128 ≤ b.toNat then (rdN k l).map fun p => (b.toNat - 128 + 128 * p.1, p.2) else if endK k b.toNat then some (b.toNat, l) else none
/-- What fits into k groups, behind those that are there. -/
def cap : Nat → Nat
  | 0 => 0
  | 1 => 2
  | k + 2 => 128 * cap (k + 1)
theorem cap_ten : cap 10 = 18446744073709551616 := by decide
theorem grpN_len : ∀ (k z : Nat), (grpN k z).length ≤ k
  | 0, _ => Nat.le_refl _
  | k + 1, z => by
    unfold grpN
    split
    · simp
    · have := grpN_len k (z / 128)
      simp only [List.length_cons]
      omega
theorem grp_len (z : Nat) : (grp z).length ≤ 10 := grpN_len 10 z
theorem grp_pos (z : Nat) : 0 < (grp z).length := by
  unfold grp grpN
  split <;> simp
theorem toNat_of {z : Nat} (h : z < 256) : (UInt8.ofNat z).toNat = z := by
  rw [UInt8.toNat_ofNat']
  exact Nat.mod_eq_of_lt h
/-- What is read was written, behind the first group. -/
theorem rd_back : ∀ (k : Nat) (l r : List UInt8) (z : Nat), k < 10 → rdN k l = some (z, r) → 0 < z ∧ z < cap k ∧ l = grpN k z ++ r
  | 0, _, _, _, _, h => by simp [rdN] at h
  | k + 1, [], _, _, _, h => by simp [rdN] at h
  | k + 1, b :: l, r, z, hk, h => by
    unfold rdN at h
    split at h
    · rename_i hb
      cases hq : rdN k l with
      | none => simp [hq] at h
      | some p =>
        obtain ⟨y, s⟩ := p
        simp only [hq, Option.map_some, Option.some.injEq, Prod.mk.injEq] at h
        obtain ⟨h1, h2⟩ := h
        obtain ⟨i1, i2, i3⟩ := rd_back k l s y (by omega) hq
        have hbl : b.toNat < 256 := b.toNat_lt
        cases k with
        | zero => simp [rdN] at hq
        | succ k =>
          refine ⟨by omega, ?_, ?_⟩
          · show z < 128 * cap (k + 1)
            omega
          · unfold grpN
            rw [if_neg (by omega)]
            have e1 : z % 128 + 128 = b.toNat := by omega
            have e2 : z / 128 = y := by omega
            rw [e1, e2, ← h2, UInt8.ofNat_toNat, i3]
            rfl
    · rename_i hb
      split at h
      · rename_i he
        simp only [Option.some.injEq, Prod.mk.injEq] at h
        obtain ⟨h1, h2⟩ := h
        unfold endK at he
        split at he
        · simp at he
          omega
        · rename_i h0
          refine ⟨by omega, ?_, ?_⟩
          · cases k with
            | zero => simp at he; show z < 2; omega
            | succ k =>
              have : 2 ≤ cap (k + 1) := by
                clear he h1 h2 hk
                induction k with
                | zero => exact Nat.le_refl _
                | succ k ih => show 2 ≤ 128 * cap (k + 1); omega
              show z < 128 * cap (k + 1)
              omega
          · unfold grpN
            rw [if_pos (by omega), ← h1, ← h2, UInt8.ofNat_toNat]
            rfl
      · cases h
/-- What was written is read, behind the first group. -/
theorem rd_fore : ∀ (k : Nat) (r : List UInt8) (z : Nat), 0 < z → z < cap k → k < 10 → rdN k (grpN k z ++ r) = some (z, r)
  | 0, _, _, _, h, _ => by simp [cap] at h
  | k + 1, r, z, h0, h1, hk => by
    unfold grpN
    split
    · rename_i hz
      have e : (UInt8.ofNat z).toNat = z := toNat_of (by omega)
      show rdN (k + 1) (UInt8.ofNat z :: r) = _
      unfold rdN
      rw [e, if_neg (by omega), if_pos]
      unfold endK
      rw [if_neg (by omega)]
      cases k with
      | zero => simp; have : z < 2 := h1; omega
      | succ k => simp
    · rename_i hz
      have e : (UInt8.ofNat (z % 128 + 128)).toNat = z % 128 + 128 := toNat_of (by omega)
      show rdN (k + 1) (UInt8.ofNat (z % 128 + 128) :: (grpN k (z / 128) ++ r)) = _
      unfold rdN
      cases k with
      | zero => have : z < 2 := h1; omega
      | succ k =>
        have h1' : z < 128 * cap (k + 1) := h1
        rw [e, if_pos (by omega), rd_fore (k + 1) r (z / 128) (by omega) (by omega) (by omega)]
        simp only [Option.map_some, Option.some.injEq, Prod.mk.injEq, and_true]
        omega
/-- What is read of any bytes. -/
theorem rd_iff (l r : List UInt8) (z : Nat) : rdN 10 l = some (z, r) ↔ z < 18446744073709551616 ∧ l = grp z ++ r := by
  have hcap : 128 * cap 9 = 18446744073709551616 := by decide
  constructor
  · intro h
    cases l with
    | nil => simp [rdN] at h
    | cons b l =>
      rw [show (10 : Nat) = 9 + 1 from rfl] at h
      unfold rdN at h
      have hbl : b.toNat < 256 := b.toNat_lt
      split at h
      · cases hq : rdN 9 l with
        | none => simp [hq] at h
        | some p =>
          obtain ⟨y, s⟩ := p
          simp only [hq, Option.map_some, Option.some.injEq, Prod.mk.injEq] at h
          obtain ⟨h1, h2⟩ := h
          obtain ⟨i1, i2, i3⟩ := rd_back 9 l s y (by omega) hq
          refine ⟨by omega, ?_⟩
          show b :: l = grpN (9 + 1) z ++ r
          unfold grpN
          rw [if_neg (by omega)]
          have e1 : z % 128 + 128 = b.toNat := by omega
          have e2 : z / 128 = y := by omega
          rw [e1, e2, ← h2, UInt8.ofNat_toNat, i3]
          rfl
      · split at h
        · simp only [Option.some.injEq, Prod.mk.injEq] at h
          obtain ⟨h1, h2⟩ := h
          refine ⟨by omega, ?_⟩
          show b :: l = grpN (9 + 1) z ++ r
          unfold grpN
          rw [if_pos (by omega), ← h1, ← h2, UInt8.ofNat_toNat]
          rfl
        · cases h
  · rintro ⟨hz, rfl⟩
    show rdN (9 + 1) (grpN (9 + 1) z ++ r) = _
    unfold grpN
    split
    · have e : (UInt8.ofNat z).toNat = z := toNat_of (by omega)
      show rdN (9 + 1) (UInt8.ofNat z :: r) = _
      unfold rdN
      rw [e, if_neg (by omega), if_pos]
      unfold endK
      split <;> simp
    · have e : (UInt8.ofNat (z % 128 + 128)).toNat = z % 128 + 128 := toNat_of (by omega)
      show rdN (9 + 1) (UInt8.ofNat (z % 128 + 128) :: (grpN 9 (z / 128) ++ r)) = _
      unfold rdN
      rw [e, if_pos (by omega), rd_fore 9 r (z / 128) (by omega) (by omega) (by omega)]
      simp only [Option.map_some, Option.some.injEq, Prod.mk.injEq, and_true]
      omega
/-- Groups, where there is room for all. -/
theorem grpN_step (k z : Nat) (h : 128 ≤ z) : grpN (k + 1) z = UInt8.ofNat (z % 128 + 128) :: grpN k (z / 128) := by
  show (if z < 128 then _ else _) = _
  rw [if_neg (by omega)]
theorem grpN_last (k z : Nat) (h : z < 128) : grpN (k + 1) z = [UInt8.ofNat z] := by
  show (if z < 128 then _ else _) = _
  rw [if_pos h]

/-- A number's bytes. -/
def num (n : Int) : List UInt8 := grp (zig n)
theorem num_len (n : Int) : (num n).length ≤ 10 := grp_len _
theorem num_pos (n : Int) : 0 < (num n).length := grp_pos _
theorem grp_pre {y z : Nat} {r s : List UInt8} (hy : y < 18446744073709551616) (hz : z < 18446744073709551616) (h : grp y ++ r = grp z ++ s) : y = z ∧ r = s := by
  have h1 := (rd_iff (grp y ++ r) r y).2 ⟨hy, rfl⟩
  have h2 := (rd_iff (grp y ++ r) s z).2 ⟨hz, h⟩
  rw [h1] at h2
  simpa using h2
theorem num_pre {m n : Int} {r s : List UInt8} (hm : I64 m) (hn : I64 n) (h : num m ++ r = num n ++ s) : m = n ∧ r = s := by
  obtain ⟨h1, h2⟩ := grp_pre (zig_lt hm) (zig_lt hn) h
  exact ⟨by rw [← zag_zig m, h1, zag_zig], h2⟩
end Go.Proofs.Ytjhgmncmcklnkaa
/- What is written, as plain data: numbers, yes or no, texts, lists of structs; its bytes. -/
namespace Go.Proofs.Ytjhgmncmcklnkaa

/-- A field of a struct (structs within structs are laid out field by field). -/
inductive At where
  | num (n : Int)
  | yes (b : Bool)
  | text (s : ByteArray)
  | list (l : List (List At))
inductive Ty where
  | num
  | yes
  | text
  | list (t : List Ty)
def yesN (b : Bool) : Int := if b then 1 else 0
mutual
def At.enc : At → List UInt8
  | .num n => Ytjhgmncmcklnkaa.num n
  | .yes b => Ytjhgmncmcklnkaa.num (yesN b)
  | .text s => Ytjhgmncmcklnkaa.num (s.data.toList.length : Int) ++ s.data.toList
  | .list l => Ytjhgmncmcklnkaa.num (l.length : Int) ++ encL l
def encS : List At → List UInt8
  | [] => []
  | a :: r => a.enc ++ encS r
def encL : List (List At) → List UInt8
  | [] => []
  | x :: r => encS x ++ encL r
end
mutual
/-- A field is of a type; the numbers are of 64 bits. -/
def Ty.has : Ty → At → Prop
  | .num, .num n => I64 n
  | .yes, .yes _ => True
  | .text, .text s => s.data.toList.length ≤ 9223372036854775807
  | .list t, .list l => l.length ≤ 9223372036854775807 ∧ hasL t l
  | _, _ => False
def hasS : List Ty → List At → Prop
  | [], [] => True
  | t :: r, a :: q => t.has a ∧ hasS r q
  | _, _ => False
def hasL : List Ty → List (List At) → Prop
  | _, [] => True
  | t, x :: r => hasS t x ∧ hasL t r
end
theorem hasS_len : ∀ {t : List Ty} {x : List At}, hasS t x → x.length = t.length
  | [], [], _ => rfl
  | t :: r, a :: q, h => by
    unfold hasS at h
    simp [hasS_len h.2]
  | [], _ :: _, h => by simp [hasS] at h
  | _ :: _, [], h => by simp [hasS] at h
theorem hasL_all : ∀ {t : List Ty} {l : List (List At)}, hasL t l → ∀ x ∈ l, hasS t x
  | _, [], _, _, hx => by simp at hx
  | t, y :: r, h, x, hx => by
    unfold hasL at h
    rcases List.mem_cons.1 hx with rfl | hx
    · exact h.1
    · exact hasL_all h.2 x hx
theorem hasL_of : ∀ {t : List Ty} {l : List (List At)}, (∀ x ∈ l, hasS t x) → hasL t l
  | _, [], _ => by simp [hasL]
  | t, y :: r, h => by
    unfold hasL
    exact ⟨h y (by simp), hasL_of (fun x hx => h x (by simp [hx]))⟩
theorem hasL_append {t : List Ty} {l m : List (List At)} (h : hasL t l) (k : hasL t m) : hasL t (l ++ m) :=
  hasL_of (fun x hx => by
    rcases List.mem_append.1 hx with hx | hx
    · exact hasL_all h x hx
    · exact hasL_all k x hx)
theorem encS_append : ∀ (a b : List At), encS (a ++ b) = encS a ++ encS b
  | [], _ => by simp [encS]
  | x :: r, b => by simp [encS, encS_append r b, List.append_assoc]
theorem encL_append : ∀ (a b : List (List At)), encL (a ++ b) = encL a ++ encL b
  | [], _ => by simp [encL]
  | x :: r, b => by simp [encL, encL_append r b, List.append_assoc]
theorem hasS_append : ∀ {s t : List Ty} {x y : List At}, hasS s x → hasS t y → hasS (s ++ t) (x ++ y)
  | [], _, [], _, _, k => k
  | s :: r, t, a :: q, y, h, k => by
    unfold hasS at h
    show hasS (s :: (r ++ t)) (a :: (q ++ y))
    unfold hasS
    exact ⟨h.1, hasS_append h.2 k⟩
  | [], _, _ :: _, _, h, _ => by simp [hasS] at h
  | _ :: _, _, [], _, h, _ => by simp [hasS] at h
theorem hasS_split : ∀ {s t : List Ty} {z : List At}, hasS (s ++ t) z → ∃ x y, z = x ++ y ∧ hasS s x ∧ hasS t y
  | [], _, z, h => ⟨[], z, rfl, by simp [hasS], h⟩
  | s :: r, t, [], h => by simp [hasS] at h
  | s :: r, t, a :: q, h => by
    have h' : hasS (s :: (r ++ t)) (a :: q) := h
    unfold hasS at h'
    obtain ⟨x, y, e, h1, h2⟩ := hasS_split (s := r) h'.2
    exact ⟨a :: x, y, by rw [e]; rfl, by unfold hasS; exact ⟨h'.1, h1⟩, h2⟩
theorem yes_in (b : Bool) : I64 (yesN b) := by cases b <;> simp [yesN, I64]
theorem yes_inj {a b : Bool} (h : yesN a = yesN b) : a = b := by
  cases a <;> cases b <;> simp [yesN] at h ⊢
theorem len_in {n : Nat} (h : n ≤ 9223372036854775807) : I64 (n : Int) := by
  unfold I64
  omega
theorem append_same {α : Type} {a b r s : List α} (hl : a.length = b.length) (h : a ++ r = b ++ s) : a = b ∧ r = s := List.append_inj h hl
theorem ba_ext {s t : ByteArray} (h : s.data.toList = t.data.toList) : s = t := by
  cases s
  cases t
  simp only [Array.toList_inj] at h
  rw [h]
mutual
/-- No struct's bytes begin another's. -/
theorem At.pre : ∀ (t : Ty) (a b : At) (r s : List UInt8), t.has a → t.has b → a.enc ++ r = b.enc ++ s → a = b ∧ r = s
  | .num, .num m, .num n, r, s, h, k, e => by
    unfold Ty.has at h k
    simp only [At.enc] at e
    obtain ⟨h1, h2⟩ := num_pre h k e
    exact ⟨by rw [h1], h2⟩
  | .yes, .yes a, .yes b, r, s, _, _, e => by
    simp only [At.enc] at e
    obtain ⟨h1, h2⟩ := num_pre (yes_in a) (yes_in b) e
    exact ⟨by rw [yes_inj h1], h2⟩
  | .text, .text a, .text b, r, s, h, k, e => by
    unfold Ty.has at h k
    simp only [At.enc, List.append_assoc] at e
    obtain ⟨h1, h2⟩ := num_pre (len_in h) (len_in k) e
    obtain ⟨h3, h4⟩ := append_same (by omega) h2
    exact ⟨by rw [ba_ext h3], h4⟩
  | .list t, .list a, .list b, r, s, h, k, e => by
    unfold Ty.has at h k
    simp only [At.enc, List.append_assoc] at e
    obtain ⟨h1, h2⟩ := num_pre (len_in h.1) (len_in k.1) e
    obtain ⟨h3, h4⟩ := preL t a b r s (by omega) h.2 k.2 h2
    exact ⟨by rw [h3], h4⟩
  | .num, .yes _, _, _, _, h, _, _ | .num, .text _, _, _, _, h, _, _ | .num, .list _, _, _, _, h, _, _ => by simp [Ty.has] at h
  | .num, .num _, .yes _, _, _, _, h, _ | .num, .num _, .text _, _, _, _, h, _ | .num, .num _, .list _, _, _, _, h, _ => by simp [Ty.has] at h
  | .yes, .num _, _, _, _, h, _, _ | .yes, .text _, _, _, _, h, _, _ | .yes, .list _, _, _, _, h, _, _ => by simp [Ty.has] at h
  | .yes, .yes _, .num _, _, _, _, h, _ | .yes, .yes _, .text _, _, _, _, h, _ | .yes, .yes _, .list _, _, _, _, h, _ => by simp [Ty.has] at h
  | .text, .num _, _, _, _, h, _, _ | .text, .yes _, _, _, _, h, _, _ | .text, .list _, _, _, _, h, _, _ => by simp [Ty.has] at h
  | .text, .text _, .num _, _, _, _, h, _ | .text, .text _, .yes _, _, _, _, h, _ | .text, .text _, .list _, _, _, _, h, _ => by simp [Ty.has] at h
  | .list _, .num _, _, _, _, h, _, _ | .list _, .yes _, _, _, _, h, _, _ | .list _, .text _, _, _, _, h, _, _ => by simp [Ty.has] at h
  | .list _, .list _, .num _, _, _, _, h, _ | .list _, .list _, .yes _, _, _, _, h, _ | .list _, .list _, .text _, _, _, _, h, _ => by simp [Ty.has] at h
theorem preS : ∀ (t : List Ty) (a b : List At) (r s : List UInt8), hasS t a → hasS t b → encS a ++ r = encS b ++ s → a = b ∧ r = s
  | [], [], [], r, s, _, _, e => ⟨rfl, by simpa [encS] using e⟩
  | t :: u, a :: p, b :: q, r, s, h, k, e => by
    unfold hasS at h k
    simp only [encS, List.append_assoc] at e
    obtain ⟨h1, h2⟩ := At.pre t a b _ _ h.1 k.1 e
    obtain ⟨h3, h4⟩ := preS u p q r s h.2 k.2 h2
    exact ⟨by rw [h1, h3], h4⟩
  | [], _ :: _, _, _, _, h, _, _ => by simp [hasS] at h
  | [], [], _ :: _, _, _, _, h, _ => by simp [hasS] at h
  | _ :: _, [], _, _, _, h, _, _ => by simp [hasS] at h
  | _ :: _, _ :: _, [], _, _, _, h, _ => by simp [hasS] at h
theorem preL : ∀ (t : List Ty) (a b : List (List At)) (r s : List UInt8), a.length = b.length → hasL t a → hasL t b → encL a ++ r = encL b ++ s → a = b ∧ r = s
  | _, [], [], r, s, _, _, _, e => ⟨rfl, by simpa [encL] using e⟩
  | t, a :: p, b :: q, r, s, hl, h, k, e => by
    unfold hasL at h k
    simp only [encL, List.append_assoc] at e
    obtain ⟨h1, h2⟩ := preS t a b _ _ h.1 k.1 e
    obtain ⟨h3, h4⟩ := preL t p q r s (by simpa using hl) h.2 k.2 h2
    exact ⟨by rw [h1, h3], h4⟩
  | _, [], _ :: _, _, _, hl, _, _, _ => by simp at hl
  | _, _ :: _, [], _, _, hl, _, _, _ => by simp at hl
end
/-- Every field takes a byte. -/
theorem At.enc_pos (a : At) : 0 < a.enc.length := by
  cases a with
  | num n => simp only [At.enc]; exact num_pos n
  | yes b => simp only [At.enc]; exact num_pos _
  | text s => simp only [At.enc, List.length_append]; have := num_pos (s.data.toList.length : Int); omega
  | list l => simp only [At.enc, List.length_append]; have := num_pos (l.length : Int); omega
theorem encS_len : ∀ (x : List At), x.length ≤ (encS x).length
  | [] => by simp
  | a :: r => by
    have := a.enc_pos
    have := encS_len r
    simp only [encS, List.length_cons, List.length_append]
    omega
theorem encL_len {t : List Ty} (ht : t ≠ []) : ∀ {l : List (List At)}, hasL t l → l.length ≤ (encL l).length
  | [], _ => by simp
  | x :: r, h => by
    unfold hasL at h
    have h1 := hasS_len h.1
    have h2 := encS_len x
    have h3 := encL_len ht h.2
    have h4 : 0 < t.length := List.length_pos_iff.2 ht
    simp only [encL, List.length_cons, List.length_append]
    omega
/-- Nothing. -/
def Ty.zero : Ty → At
  | .num => .num 0
  | .yes => .yes false
  | .text => .text ⟨#[]⟩
  | .list _ => .list []
def zeroS (t : List Ty) : List At := t.map Ty.zero
theorem zeroS_append (s t : List Ty) : zeroS (s ++ t) = zeroS s ++ zeroS t := by simp [zeroS]
theorem zero_has (t : Ty) : t.has t.zero := by
  cases t <;> simp [Ty.zero, Ty.has, I64, hasL]
theorem zeroS_has : ∀ t : List Ty, hasS t (zeroS t)
  | [] => by simp [zeroS, hasS]
  | t :: r => by
    show hasS (t :: r) (t.zero :: zeroS r)
    unfold hasS
    exact ⟨zero_has t, zeroS_has r⟩
/-- Do the bytes begin with a struct of these types? -/
def Rd (t : List Ty) (l : List UInt8) : Prop := ∃ x r, hasS t x ∧ l = encS x ++ r
theorem Rd.split {s t : List Ty} {x : List At} {r : List UInt8} (hx : hasS s x) (h : Rd (s ++ t) (encS x ++ r)) : Rd t r := by
  obtain ⟨z, q, hz, e⟩ := h
  obtain ⟨a, b, rfl, h1, h2⟩ := hasS_split hz
  rw [encS_append, List.append_assoc] at e
  obtain ⟨_, e2⟩ := preS s x a _ _ hx h1 e
  exact ⟨b, q, h2, e2⟩
theorem Rd.first {s t : List Ty} {l : List UInt8} (h : Rd (s ++ t) l) : Rd s l := by
  obtain ⟨z, q, hz, e⟩ := h
  obtain ⟨a, b, rfl, h1, h2⟩ := hasS_split hz
  rw [encS_append, List.append_assoc] at e
  exact ⟨a, _, h1, e⟩
theorem Rd.none {t : List Ty} (ht : t ≠ []) : ¬ Rd t [] := by
  rintro ⟨x, r, h, e⟩
  have h1 := hasS_len h
  have h2 := encS_len x
  have h3 : 0 < t.length := List.length_pos_iff.2 ht
  have h4 := congrArg List.length e
  simp only [List.length_nil, List.length_append] at h4
  omega
end Go.Proofs.Ytjhgmncmcklnkaa
/- What stays of the memory. -/
namespace Go.Proofs.Ytjhgmncmcklnkaa
open Go.RowKit

/-- All blocks but those of S are as they were. -/
structure Fr (w w' : World) (S : Nat → Prop) : Prop where
  os : w'.os = w.os
  tape : w'.tape = w.tape
  output : w'.output = w.output
  size : w.heap.size ≤ w'.heap.size
  block : ∀ k, k < w.heap.size → ¬ S k → w'.heap[k]? = w.heap[k]?
theorem Fr.refl (w : World) (S : Nat → Prop) : Fr w w S := ⟨rfl, rfl, rfl, Nat.le_refl _, fun _ _ _ => rfl⟩
theorem Fr.trans {w w1 w2 : World} {S : Nat → Prop} (h : Fr w w1 S) (k : Fr w1 w2 S) : Fr w w2 S :=
  ⟨k.os.trans h.os, k.tape.trans h.tape, k.output.trans h.output, Nat.le_trans h.size k.size, fun j hj hr => (k.block j (Nat.lt_of_lt_of_le hj h.size) hr).trans (h.block j hj hr)⟩
/-- A second step may also change what is new. -/
theorem Fr.step {w w1 w2 : World} {S T : Nat → Prop} (h : Fr w w1 S) (k : Fr w1 w2 T) (hT : ∀ j, T j → S j ∨ w.heap.size ≤ j) : Fr w w2 S :=
  ⟨k.os.trans h.os, k.tape.trans h.tape, k.output.trans h.output, Nat.le_trans h.size k.size, fun j hj hr => (k.block j (Nat.lt_of_lt_of_le hj h.size) (fun q => by rcases hT j q with q | q; exact hr q; omega)).trans (h.block j hj hr)⟩
theorem Fr.mono {w w' : World} {S T : Nat → Prop} (h : Fr w w' S) (hT : ∀ j, S j → T j) : Fr w w' T :=
  ⟨h.os, h.tape, h.output, h.size, fun j hj hr => h.block j hj (fun q => hr (hT j q))⟩
theorem Fr.alloc {w w1 : World} {S : Nat → Prop} (h : Fr w w1 S) (o : Obj) : Fr w (w1.alloc o) S :=
  ⟨h.os, h.tape, h.output, Nat.le_trans h.size (by simp), fun j hj hr => (Below.heap_alloc w1 o j (Nat.lt_of_lt_of_le hj h.size)).trans (h.block j hj hr)⟩
theorem Fr.set {w w1 : World} {S : Nat → Prop} (h : Fr w w1 S) {a : Addr} (ha : S a.block ∨ w.heap.size ≤ a.block) (u : Value) : Fr w (w1.setCell a u) S :=
  ⟨h.os, h.tape, h.output, Nat.le_trans h.size (by simp [World.setCell]), fun j hj hr => (Below.heap_setCell w1 a u j (by rintro rfl; rcases ha with ha | ha; exact hr ha; omega)).trans (h.block j hj hr)⟩
theorem Fr.drewN {w w1 : World} {S : Nat → Prop} (h : Fr w w1 S) (k : Nat) : Fr w (w1.drewN k) S := ⟨h.os, h.tape, h.output, h.size, h.block⟩
theorem Fr.grown {w w1 w2 : World} {S : Nat → Prop} {row : Option Nat} (h : Fr w w1 S) (k : w1.grownBy w2 row) (hr : ∀ k, row = some k → S k ∨ w.heap.size ≤ k) : Fr w w2 S :=
  ⟨k.os.trans h.os, k.tape.trans h.tape, k.output.trans h.output, Nat.le_trans h.size k.size, fun j hj hrj => (k.block j (Nat.lt_of_lt_of_le hj h.size) (fun e => by rcases hr j e.symm with q | q; exact hrj q; omega)).trans (h.block j hj hrj)⟩
theorem Fr.below {w w1 w2 : World} {S : Nat → Prop} (h : Fr w w1 S) (k : Below w1.heap.size w1 w2) : Fr w w2 S :=
  ⟨k.os.trans h.os, k.tape.trans h.tape, k.output.trans h.output, Nat.le_trans h.size k.size, fun j hj hrj => (k.block j (Nat.lt_of_lt_of_le hj h.size)).trans (h.block j hj hrj)⟩
theorem Fr.toBelow {w w' : World} {S : Nat → Prop} {B : Nat} (h : Fr w w' S) (hS : ∀ k, k < B → ¬ S k) (hB : B ≤ w.heap.size) : Below B w w' :=
  ⟨h.os, h.tape, h.output, h.size, fun k hk => h.block k (by omega) (hS k hk)⟩
theorem Fr.ofBelow {w w' : World} (S : Nat → Prop) (h : Below w.heap.size w w') : Fr w w' S := ⟨h.os, h.tape, h.output, h.size, fun k hk _ => h.block k hk⟩
theorem Fr.fresh {w w' : World} {S : Nat → Prop} (h : Fr w w' S) (hS : ∀ k, S k → w.heap.size ≤ k) : Below w.heap.size w w' :=
  ⟨h.os, h.tape, h.output, h.size, fun k hk => h.block k hk (fun q => by have := hS k q; omega)⟩
/-- S, and what is new. -/
def Gro (S : Nat → Prop) (w w' : World) : Nat → Prop := fun k => S k ∨ (w.heap.size ≤ k ∧ k < w'.heap.size)

theorem cell_blk {w : World} {b : Nat} {cs : Array Value} {t : TypeId} {fr : Nat × Nat} (h : w.heap[b]? = some (.cells cs t fr)) (i : Nat) : w.cell? ⟨b, i, none⟩ = cs[i]? := by simp [World.cell?, h]
theorem frozen_blk {w : World} {b : Nat} {cs : Array Value} {t : TypeId} (h : w.heap[b]? = some (.cells cs t (0, 0))) (i : Nat) : w.frozen? ⟨b, i, none⟩ = false := by simp [World.frozen?, h]
theorem set_blk {w : World} {b i : Nat} {cs : Array Value} {t : TypeId} {fr : Nat × Nat} (h : w.heap[b]? = some (.cells cs t fr)) (v : Value) : (w.setCell ⟨b, i, none⟩ v).heap[b]? = some (.cells (cs.setIfInBounds i v) t fr) := by
  have hlt := (Array.getElem?_eq_some_iff.1 h).1
  simp [World.setCell, Array.getElem?_modify, h]
theorem set_other {w : World} {a : Addr} {k : Nat} (v : Value) (h : k ≠ a.block) : (w.setCell a v).heap[k]? = w.heap[k]? := Below.heap_setCell w a v k h
theorem blk_lt {w : World} {b : Nat} {o : Obj} (h : w.heap[b]? = some o) : b < w.heap.size := (Array.getElem?_eq_some_iff.1 h).1
theorem tag_ne {w : World} {a b : Nat} {cs cs' : Array Value} {t t' : TypeId} {fr fr' : Nat × Nat} (h : w.heap[a]? = some (.cells cs t fr)) (h' : w.heap[b]? = some (.cells cs' t' fr')) (ht : t ≠ t') : a ≠ b := by
  rintro rfl
  rw [h] at h'
  simp only [Option.some.injEq, Obj.cells.injEq] at h'
  exact ht h'.2.1
theorem own_like {w w' : World} {base : Nat} {e : TypeId} {size : Nat} {v : Value} {n : Nat} {xs : List Value} (h : w.ownsRow base e size v n xs) (hb : ∀ k, v.ownBlock = some k → w'.heap[k]? = w.heap[k]?) : w'.ownsRow base e size v n xs := by
  refine ⟨h.1, ?_⟩
  rcases h.2 with hn | ⟨g, cap, cur, rfl, hb0, hgg, rest⟩
  · exact .inl hn
  · exact .inr ⟨g, cap, cur, rfl, hb0, (hb g rfl).trans hgg, rest⟩
theorem undrew {w w' : World} {r : Option Nat} (h : w.drew.grownBy w' r) : w.grownBy w' r := ⟨h.os, h.tape, h.output, h.size, h.block⟩

theorem gro_fresh {w0 w1 w2 : World} {T : Nat → Prop} (hT : ∀ k, T k → w0.heap.size ≤ k) (hs : w0.heap.size ≤ w1.heap.size) : ∀ k, Gro T w1 w2 k → w0.heap.size ≤ k := by
  intro k q
  rcases q with q | q
  · exact hT k q
  · omega
theorem fr_below {w0 w1 w2 : World} {T : Nat → Prop} (hT : ∀ k, T k → w0.heap.size ≤ k) (hb : Below w0.heap.size w0 w1) (hf : Fr w1 w2 T) : Below w0.heap.size w0 w2 :=
  hb.trans (hf.toBelow (fun k hk q => by have := hT k q; omega) hb.size)
theorem own_mono {w : World} {B1 B2 : Nat} {v : Value} {e : TypeId} {c m : Nat} {xs : List Value} (h : w.ownsRow B2 e c v m xs) (hB : B1 ≤ B2) : w.ownsRow B1 e c v m xs := by
  rcases h with ⟨h1, h2 | ⟨g, cap, cur, hv, hg, hr⟩⟩
  · exact ⟨h1, .inl h2⟩
  · exact ⟨h1, .inr ⟨g, cap, cur, hv, Nat.le_trans hB hg, hr⟩⟩
theorem own_below {B : Nat} {e : TypeId} {k : Nat} {v : Value} {n : Nat} {xs : List Value} {w w' : World} (h : w.ownsRow B e k v n xs) (hb : Below w.heap.size w w') : w'.ownsRow B e k v n xs :=
  own_like h (fun j hj => hb.block j (h.lt j hj).2)
theorem row_keep {w w' : World} {B : Nat} {S : Nat → Prop} {v : Value} {e : TypeId} {c m : Nat} {xs : List Value} (h : w.ownsRow B e c v m xs) (hf : Fr w w' S) (hs : ∀ j, v.ownBlock = some j → ¬ S j) : w'.ownsRow B e c v m xs :=
  own_like h (fun j hj => hf.block j (h.lt j hj).2 (hs j hj))
theorem below_draw {w w1 : World} (h : Below w.heap.size w w1) (k : Nat) : Below w.heap.size w (w1.drewN k) := ⟨h.os, h.tape, h.output, h.size, h.block⟩

theorem own_shape {w : World} {B : Nat} {v : Value} {e : TypeId} {c m : Nat} {xs : List Value} (h : w.ownsRow B e c v m xs) : ∃ ad cap, v = .slice ad m cap := by
  rcases h.2 with ⟨hv, h0⟩ | ⟨g, cap, cur, hv, _⟩
  · exact ⟨none, 0, by rw [hv, h0]⟩
  · exact ⟨_, cap, hv⟩

theorem add_at (g o k : Nat) : (⟨g, o, none⟩ : Addr).add k = ⟨g, o + k, none⟩ := by unfold Addr.add; split <;> simp_all

end Go.Proofs.Ytjhgmncmcklnkaa
/- What is written or read, in memory; a tape. -/
namespace Go.Proofs.Ytjhgmncmcklnkaa
open Go.RowKit

mutual
/-- v holds the field; all that it leads to lies outside S. -/
def At.lies (w : World) (S : Nat → Prop) (v : Value) : At → Prop
  | .num n => v = .int .i64 n
  | .yes b => v = .bool b
  | .text s => v = .string s
  | .list l => ∃ ad cap, v = .slice ad l.length cap ∧ l.length ≤ cap ∧ cap ≤ maxLen ∧ (l = [] ∨ ∃ b o, ad = some ⟨b, o, none⟩ ∧ b < w.heap.size ∧ ¬ S b ∧ liesL w S b o l)
/-- The fields lie at b, from o on. -/
def liesS (w : World) (S : Nat → Prop) (b o : Nat) : List At → Prop
  | [] => True
  | a :: r => (∃ v, w.cell? ⟨b, o, none⟩ = some v ∧ a.lies w S v) ∧ liesS w S b (o + 1) r
def liesL (w : World) (S : Nat → Prop) (b o : Nat) : List (List At) → Prop
  | [] => True
  | x :: r => liesS w S b o x ∧ liesL w S b (o + x.length) r
end
/-- What is outside S stays, and is outside S'. -/
def Keeps (w w' : World) (S S' : Nat → Prop) : Prop := w.heap.size ≤ w'.heap.size ∧ ∀ k, k < w.heap.size → ¬ S k → w'.heap[k]? = w.heap[k]? ∧ ¬ S' k
mutual
theorem At.keeps {w w' : World} {S S' : Nat → Prop} (hk : Keeps w w' S S') : ∀ (a : At) (v : Value), a.lies w S v → a.lies w' S' v
  | .num n, v, h => by simpa only [At.lies] using h
  | .yes n, v, h => by simpa only [At.lies] using h
  | .text n, v, h => by simpa only [At.lies] using h
  | .list l, v, h => by
    simp only [At.lies] at h ⊢
    obtain ⟨ad, cap, h1, h2, h3, h4⟩ := h
    refine ⟨ad, cap, h1, h2, h3, ?_⟩
    rcases h4 with h4 | ⟨b, o, h5, h6, h7, h8⟩
    · exact .inl h4
    · have q := hk.2 b h6 h7
      exact .inr ⟨b, o, h5, Nat.lt_of_lt_of_le h6 hk.1, q.2, liesL_keeps hk l b o q.1 h8⟩
theorem liesS_keeps {w w' : World} {S S' : Nat → Prop} (hk : Keeps w w' S S') : ∀ (x : List At) (b o : Nat), (∀ i, o ≤ i → i < o + x.length → w'.cell? ⟨b, i, none⟩ = w.cell? ⟨b, i, none⟩) → liesS w S b o x → liesS w' S' b o x
  | [], _, _, _, _ => by simp [liesS]
  | a :: r, b, o, hc, h => by
    simp only [liesS] at h ⊢
    obtain ⟨⟨v, h1, h2⟩, h3⟩ := h
    exact ⟨⟨v, by rw [hc o (Nat.le_refl _) (by simp)]; exact h1, At.keeps hk a v h2⟩, liesS_keeps hk r b (o + 1) (fun i i1 i2 => hc i (by omega) (by simp only [List.length_cons]; omega)) h3⟩
theorem liesL_keeps {w w' : World} {S S' : Nat → Prop} (hk : Keeps w w' S S') : ∀ (l : List (List At)) (b o : Nat), w'.heap[b]? = w.heap[b]? → liesL w S b o l → liesL w' S' b o l
  | [], _, _, _, _ => by simp [liesL]
  | x :: r, b, o, hb, h => by
    simp only [liesL] at h ⊢
    exact ⟨liesS_keeps hk x b o (fun i _ _ => World.cell?_of_block hb) h.1, liesL_keeps hk r b _ hb h.2⟩
end
theorem liesS_append {w : World} {S : Nat → Prop} {b : Nat} : ∀ (x y : List At) (o : Nat), liesS w S b o (x ++ y) ↔ liesS w S b o x ∧ liesS w S b (o + x.length) y
  | [], y, o => by simp [liesS]
  | a :: r, y, o => by
    have := liesS_append (w := w) (S := S) (b := b) r y (o + 1)
    rw [show o + 1 + r.length = o + (a :: r).length by simp only [List.length_cons]; omega] at this
    simp only [List.cons_append, liesS, this, and_assoc]
/-- Of lists that have the same length. -/
theorem liesL_at {w : World} {S : Nat → Prop} {b m : Nat} : ∀ (l : List (List At)) (o : Nat), (∀ x ∈ l, x.length = m) → liesL w S b o l → ∀ (i : Nat) (h : i < l.length), liesS w S b (o + i * m) l[i]
  | [], _, _, _, i, h => by simp at h
  | x :: r, o, hm, hl, i, h => by
    simp only [liesL] at hl
    cases i with
    | zero => simpa using hl.1
    | succ i =>
      have := liesL_at r (o + x.length) (fun y hy => hm y (by simp [hy])) hl.2 i (by simpa using h)
      rw [hm x (by simp), show o + m + i * m = o + (i + 1) * m by rw [Nat.add_mul]; omega] at this
      simpa using this
theorem liesL_of {w : World} {S : Nat → Prop} {b m : Nat} : ∀ (l : List (List At)) (o : Nat), (∀ x ∈ l, x.length = m) → (∀ (i : Nat) (h : i < l.length), liesS w S b (o + i * m) l[i]) → liesL w S b o l
  | [], _, _, _ => by simp [liesL]
  | x :: r, o, hm, hl => by
    simp only [liesL]
    have h0 := hl 0 (by simp)
    rw [Nat.zero_mul, Nat.add_zero] at h0
    refine ⟨h0, liesL_of r _ (fun y hy => hm y (by simp [hy])) (fun i h => ?_)⟩
    have := hl (i + 1) (by simpa using h)
    rw [hm x (by simp), show o + m + i * m = o + (i + 1) * m by rw [Nat.add_mul]; omega]
    simpa using this
/-- What a value of a type looks like. -/
def Ty.kind : Ty → Value → Prop
  | .num, v => ∃ n, v = .int .i64 n
  | .yes, v => ∃ b, v = .bool b
  | .text, v => ∃ s, v = .string s
  | .list _, v => ∃ ad n c, v = .slice ad n c
theorem Ty.kind_one {t : Ty} {v : Value} (h : t.kind v) : v.oneCell' = true := by
  cases t with
  | num => obtain ⟨n, rfl⟩ := h; rfl
  | yes => obtain ⟨n, rfl⟩ := h; rfl
  | text => obtain ⟨n, rfl⟩ := h; rfl
  | list t => obtain ⟨ad, n, c, rfl⟩ := h; rfl
theorem At.kind {a : At} {t : Ty} {w : World} {S : Nat → Prop} {v : Value} (ht : t.has a) (h : a.lies w S v) : t.kind v := by
  cases t <;> cases a <;> simp only [Ty.has] at ht
  · simp only [At.lies] at h; exact ⟨_, h⟩
  · simp only [At.lies] at h; exact ⟨_, h⟩
  · simp only [At.lies] at h; exact ⟨_, h⟩
  · simp only [At.lies] at h
    obtain ⟨ad, cap, h1, _⟩ := h
    exact ⟨_, _, _, h1⟩
theorem At.one {a : At} {w : World} {S : Nat → Prop} {v : Value} (h : a.lies w S v) : v.oneCell' = true := by
  cases a with
  | num n => simp only [At.lies] at h; rw [h]; rfl
  | yes n => simp only [At.lies] at h; rw [h]; rfl
  | text n => simp only [At.lies] at h; rw [h]; rfl
  | list l =>
    simp only [At.lies] at h
    obtain ⟨ad, cap, h1, _⟩ := h
    rw [h1]
    rfl
theorem liesS_one {w : World} {S : Nat → Prop} {b : Nat} : ∀ (x : List At) (o : Nat), liesS w S b o x → ∀ i, i < x.length → ∃ v, w.cell? ⟨b, o + i, none⟩ = some v ∧ v.oneCell' = true
  | [], _, _, i, h => by simp at h
  | a :: r, o, hl, i, h => by
    simp only [liesS] at hl
    cases i with
    | zero =>
      obtain ⟨v, h1, h2⟩ := hl.1
      exact ⟨v, h1, At.one h2⟩
    | succ i =>
      obtain ⟨v, h1, h2⟩ := liesS_one r (o + 1) hl.2 i (by simpa using h)
      exact ⟨v, by rw [← h1]; congr 2; omega, h2⟩
/-- The value of nothing. -/
def Ty.zv : Ty → Value
  | .num => .int .i64 0
  | .yes => .bool false
  | .text => .string ⟨#[]⟩
  | .list _ => .slice none 0 0
theorem zero_lies (t : Ty) (w : World) (S : Nat → Prop) : t.zero.lies w S t.zv := by
  cases t with
  | num => simp [Ty.zero, Ty.zv, At.lies]
  | yes => simp [Ty.zero, Ty.zv, At.lies]
  | text => simp [Ty.zero, Ty.zv, At.lies]
  | list t =>
    simp only [Ty.zero, Ty.zv, At.lies]
    exact ⟨none, 0, rfl, Nat.le_refl _, Nat.zero_le _, .inl (by trivial)⟩
theorem zeroS_lies {w : World} {S : Nat → Prop} {b : Nat} : ∀ (t : List Ty) (o : Nat), (∀ i (h : i < t.length), w.cell? ⟨b, o + i, none⟩ = some t[i].zv) → liesS w S b o (zeroS t)
  | [], _, _ => by simp [zeroS, liesS]
  | t :: r, o, h => by
    show liesS w S b o (t.zero :: zeroS r)
    simp only [liesS]
    refine ⟨⟨t.zv, h 0 (by simp), zero_lies t w S⟩, zeroS_lies r (o + 1) (fun i hi => ?_)⟩
    have := h (i + 1) (by simpa using hi)
    rw [show o + 1 + i = o + (i + 1) by omega]
    simpa using this

/-! ### A tape -/
def txt (l : List UInt8) : ByteArray := ⟨l.toArray⟩
theorem txt_list (l : List UInt8) : (txt l).data.toList = l := rfl
theorem txt_of (s : ByteArray) : txt s.data.toList = s := by cases s; rfl
theorem txt_size (l : List UInt8) : (txt l).size = l.length := rfl
structure TS where
  reads : Bool
  wr : List UInt8
  rest : List UInt8
  bad : Bool
abbrev tpC (s : TS) (rv : Value) : Array Value := #[.bool s.reads, rv, .string (txt s.rest), .bool s.bad]
/-- The tape s lies at A; S are the blocks that it writes. -/
structure Tv (w : World) (A : Nat) (S : Nat → Prop) (s : TS) (rv : Value) : Prop where
  ob : w.heap[A]? = some (.cells (tpC s rv) 132 (0, 0))
  row : w.ownsRow 0 5 1 rv s.wr.length (Lib.byteCells s.wr)
  cov : ∀ k, rv.ownBlock = some k → S k
  covA : S A
  lt : ∀ k, S k → k < w.heap.size
def Tp (w : World) (A : Nat) (S : Nat → Prop) (s : TS) : Prop := ∃ rv, Tv w A S s rv
section
variable {w w' : World} {A : Nat} {S T : Nat → Prop} {s : TS} {rv : Value}
theorem Tv.like (h : Tv w A S s rv) (hb : ∀ k, S k → w'.heap[k]? = w.heap[k]?) (hz : w.heap.size ≤ w'.heap.size) : Tv w' A S s rv :=
  ⟨(hb A h.covA).trans h.ob, own_like h.row (fun k hk => hb k (h.cov k hk)), h.cov, h.covA, fun k hk => Nat.lt_of_lt_of_le (h.lt k hk) hz⟩
theorem Tp.like (h : Tp w A S s) (hb : ∀ k, S k → w'.heap[k]? = w.heap[k]?) (hz : w.heap.size ≤ w'.heap.size) : Tp w' A S s := by
  obtain ⟨rv, h⟩ := h
  exact ⟨rv, h.like hb hz⟩
theorem Tp.lt (h : Tp w A S s) : ∀ k, S k → k < w.heap.size := by
  obtain ⟨rv, h⟩ := h
  exact h.lt
theorem Tp.covA (h : Tp w A S s) : S A := by
  obtain ⟨rv, h⟩ := h
  exact h.covA
theorem Tp.on (h : Tp w A S s) (hb : Below w.heap.size w w') : Tp w' A S s := h.like (fun k hk => hb.block k (h.lt k hk)) hb.size
theorem Tv.neA (h : Tv w A S s rv) : ∀ k, rv.ownBlock = some k → k ≠ A := by
  intro k hk e
  subst e
  have h' := h.row
  rcases h'.2 with ⟨hv, _⟩ | ⟨g, cap, cur, hv, _, hc, _⟩
  · subst hv
    cases hk
  · subst hv
    have : g = k := by simpa [Value.ownBlock] using hk
    subst this
    rw [h.ob] at hc
    simp at hc
end

/-- The cells of nothing. -/
def Zc (w : World) (B o : Nat) (t : List Ty) : Prop := ∀ i (h : i < t.length), w.cell? ⟨B, o + i, none⟩ = some t[i].zv
theorem Zc.split {w : World} {B o : Nat} {t u : List Ty} (h : Zc w B o (t ++ u)) : Zc w B o t ∧ Zc w B (o + t.length) u := by
  refine ⟨fun i hi => ?_, fun i hi => ?_⟩
  · have := h i (by rw [List.length_append]; omega)
    rwa [List.getElem_append_left hi] at this
  · have := h (t.length + i) (by rw [List.length_append]; omega)
    rw [List.getElem_append_right (by omega)] at this
    rw [Nat.add_assoc]
    simpa using this
/-- Where the fields x lie ahead of a walk along them, by types t. -/
structure Pre (w : World) (A : Nat) (S : Nat → Prop) (s : TS) (B o : Nat) (t : List Ty) (x : List At) : Prop where
  tp : Tp w A S s
  nB : ¬ S B
  blk : ∃ cs ty, w.heap[B]? = some (.cells cs ty (0, 0)) ∧ o + t.length ≤ cs.size
  has : hasS t x
  lies : liesS w S B o x
  zero : s.reads = true → x = zeroS t ∧ Zc w B o t
  rb : s.reads = true → s.bad = true → s.rest = []
  wb : s.reads = false → s.bad = false
  lenW : s.reads = false → s.wr.length + (encS x).length ≤ 1000000000
  lenR : s.rest.length ≤ 1000000000
/-- What became of the tape. -/
def Out (w w' : World) (S' : Nat → Prop) (s s' : TS) (B o : Nat) (t : List Ty) (x : List At) : Prop :=
  (s.reads = false ∧ s' = { s with wr := s.wr ++ encS x }) ∨
  (s.reads = true ∧ ∃ y r, hasS t y ∧ s.rest = encS y ++ r ∧ s' = { s with rest := r } ∧ liesS w' (fun k => k < w.heap.size ∨ S' k) B o y) ∨
  (s.reads = true ∧ ¬ Rd t s.rest ∧ s' = { s with rest := [], bad := true })
/-- What became of the block. -/
def Blk (w w' : World) (s : TS) (B o : Nat) (t : List Ty) : Prop := ∃ cs cs' ty, w.heap[B]? = some (.cells cs ty (0, 0)) ∧ w'.heap[B]? = some (.cells cs' ty (0, 0)) ∧ cs'.size = cs.size ∧ o + t.length ≤ cs.size ∧ (∀ i, i < o ∨ o + t.length ≤ i → cs'[i]? = cs[i]?) ∧ (s.reads = false → cs' = cs) ∧
  (∀ i (h : i < t.length), ∃ v, cs'[o + i]? = some v ∧ t[i].kind v)
def Post (w w' : World) (A : Nat) (S : Nat → Prop) (s : TS) (B o : Nat) (t : List Ty) (x : List At) : Prop :=
  ∃ S' s', Tp w' A S' s' ∧ (∀ k, S' k → Gro S w w' k) ∧ Fr w w' (fun k => S k ∨ k = B) ∧ Blk w w' s B o t ∧ Out w w' S' s s' B o t x
section
variable {w w' w1 w2 : World} {A : Nat} {S S1 : Nat → Prop} {s s1 : TS} {B o : Nat} {t u : List Ty} {x y : List At}
theorem Pre.on (h : Pre w A S s B o t x) (hb : Below w.heap.size w w') : Pre w' A S s B o t x := by
  obtain ⟨cs, ty, h1, h2⟩ := h.blk
  have hB : B < w.heap.size := blk_lt h1
  refine ⟨h.tp.on hb, h.nB, ⟨cs, ty, (hb.block B hB).trans h1, h2⟩, h.has, ?_, fun q => ⟨(h.zero q).1, fun i hi => (World.cell?_of_block (hb.block B hB)).trans ((h.zero q).2 i hi)⟩, h.rb, h.wb, h.lenW, h.lenR⟩
  exact liesS_keeps ⟨hb.size, fun k hk hs => ⟨hb.block k hk, hs⟩⟩ x B o (fun i _ _ => World.cell?_of_block (hb.block B hB)) h.lies
theorem Pre.lt (h : Pre w A S s B o t x) : B < w.heap.size := by
  obtain ⟨cs, ty, h1, h2⟩ := h.blk
  exact blk_lt h1
theorem Post.from (hb : Below w.heap.size w w1) (hB : B < w.heap.size) (h : Post w1 w2 A S s B o t x) : Post w w2 A S s B o t x := by
  obtain ⟨S', s', h1, h2, h3, h4, h5⟩ := h
  have hz := hb.size
  have hz2 := h3.size
  refine ⟨S', s', h1, fun k hk => ?_, (Fr.ofBelow (fun k => S k ∨ k = B) hb).trans h3, ?_, ?_⟩
  · rcases h2 k hk with q | q
    · exact .inl q
    · exact .inr ⟨by omega, q.2⟩
  · obtain ⟨cs, cs', ty, b1, b2⟩ := h4
    exact ⟨cs, cs', ty, (hb.block B hB).symm.trans b1, b2⟩
  · rcases h5 with q | ⟨q1, y, r, q2, q3, q4, q5⟩ | q
    · exact .inl q
    · refine .inr (.inl ⟨q1, y, r, q2, q3, q4, ?_⟩)
      exact liesS_keeps ⟨Nat.le_refl _, fun k _ hk => ⟨rfl, fun q => hk (by rcases q with q | q; exact .inl (by omega); exact .inr q)⟩⟩ y B o (fun _ _ _ => rfl) q5
    · exact .inr (.inr q)
/-- One walk, then the next. -/
theorem Pre.cons (hu : u ≠ []) (h : Pre w A S s B o (t ++ u) x) : ∃ y z, x = y ++ z ∧ Pre w A S s B o t y ∧ ∀ w1, Post w w1 A S s B o t y → ∃ S1 s1, ((∀ k, S1 k → Gro S w w1 k) ∧ Fr w w1 (fun k => S k ∨ k = B)) ∧ Pre w1 A S1 s1 B (o + t.length) u z ∧ ∀ w2, Post w1 w2 A S1 s1 B (o + t.length) u z → Post w w2 A S s B o (t ++ u) x := by
  obtain ⟨y, z, rfl, hy, hz⟩ := hasS_split h.has
  obtain ⟨cs, ty, hb, hsz⟩ := h.blk
  have hB : B < w.heap.size := blk_lt hb
  rw [List.length_append] at hsz
  have ly := hasS_len hy
  have lz := hasS_len hz
  have hl := (liesS_append y z o).1 h.lies
  rw [ly] at hl
  have e0 : s.reads = true → y = zeroS t ∧ z = zeroS u := by
    intro hr
    have e := (h.zero hr).1
    rw [zeroS_append] at e
    exact append_same (by rw [ly]; simp [zeroS]) e
  have hlen : s.reads = false → s.wr.length + ((encS y).length + (encS z).length) ≤ 1000000000 := fun q => by
    have hlen := h.lenW q
    rwa [encS_append, List.length_append] at hlen
  refine ⟨y, z, rfl, ⟨h.tp, h.nB, ⟨cs, ty, hb, by omega⟩, hy, hl.1, fun q => ⟨(e0 q).1, (h.zero q).2.split.1⟩, h.rb, h.wb, fun q => (by have := hlen q; omega), h.lenR⟩, ?_⟩
  rintro w1 ⟨S1, s1, p1, p2, p3, ⟨c0, c1, ty', b1, b2, b3, b4, b5, b6, b7⟩, p5⟩
  have hbb := hb
  rw [b1] at hbb
  simp only [Option.some.injEq, Obj.cells.injEq] at hbb
  obtain ⟨rfl, rfl, _⟩ := hbb
  have hz1 := p3.size
  have nB1 : ¬ S1 B := by
    intro q
    rcases p2 B q with q | q
    · exact h.nB q
    · omega
  have hr1 : s1.reads = s.reads := by
    rcases p5 with ⟨_, q⟩ | ⟨_, _, _, _, _, q, _⟩ | ⟨_, _, q⟩ <;> rw [q]
  have hcell : ∀ i, o + t.length ≤ i → w1.cell? ⟨B, i, none⟩ = w.cell? ⟨B, i, none⟩ := fun i hi => by
    rw [cell_blk b2, cell_blk b1, b5 _ (.inr hi)]
  have hzc : s.reads = true → Zc w1 B (o + t.length) u := fun q i hi => (hcell _ (by omega)).trans ((h.zero q).2.split.2 i hi)
  have hlies : liesS w1 S1 B (o + t.length) z := by
    cases hr : s.reads with
    | true =>
      rw [(e0 hr).2]
      exact zeroS_lies u _ (hzc hr)
    | false =>
      have ec := b6 hr
      subst ec
      refine liesS_keeps ⟨p3.size, fun k hk hs => ⟨?_, fun q => ?_⟩⟩ z B _ (fun i _ _ => World.cell?_of_block (b2.trans b1.symm)) hl.2
      · by_cases e : k = B
        · subst e
          exact b2.trans b1.symm
        · exact p3.block k hk (fun q => by rcases q with q | q; exact hs q; exact e q)
      · rcases p2 k q with q | q
        · exact hs q
        · omega
  refine ⟨S1, s1, ⟨p2, p3⟩, ⟨p1, nB1, ⟨c1, ty', b2, by omega⟩, hz, hlies, fun q => ⟨(e0 (hr1 ▸ q)).2, hzc (hr1 ▸ q)⟩, ?_, ?_, ?_, ?_⟩, ?_⟩
  · intro q1 q2
    rcases p5 with ⟨_, q⟩ | ⟨_, y', r, _, q3, q, _⟩ | ⟨_, _, q⟩
    · rw [q] at q1 q2 ⊢
      exact h.rb q1 q2
    · rw [q] at q1 q2 ⊢
      have := h.rb q1 q2
      rw [this] at q3
      exact (List.append_eq_nil_iff.1 q3.symm).2
    · rw [q]
  · intro q1
    rcases p5 with ⟨_, q⟩ | ⟨q0, _⟩ | ⟨q0, _⟩
    · rw [q] at q1 ⊢
      exact h.wb q1
    · rw [hr1, q0] at q1; cases q1
    · rw [hr1, q0] at q1; cases q1
  · intro q1
    rw [hr1] at q1
    have hlen := hlen q1
    rcases p5 with ⟨_, q⟩ | ⟨q0, _⟩ | ⟨q0, _⟩
    · rw [q, List.length_append]; omega
    · rw [q1] at q0; cases q0
    · rw [q1] at q0; cases q0
  · have := h.lenR
    rcases p5 with ⟨_, q⟩ | ⟨_, y', r, _, q3, q, _⟩ | ⟨_, _, q⟩
    · rw [q]; exact this
    · rw [q]
      rw [q3, List.length_append] at this
      show r.length ≤ _
      omega
    · rw [q]; simp
  · rintro w2 ⟨S2, s2, r1, r2, r3, ⟨d0, d1, ty2, a1, a2, a3, a4, a5, a6, a7⟩, r5⟩
    rw [b2] at a1
    simp only [Option.some.injEq, Obj.cells.injEq] at a1
    obtain ⟨rfl, rfl, _⟩ := a1
    have hz2 := r3.size
    refine ⟨S2, s2, r1, fun k hk => ?_, p3.step r3 (fun k hk => ?_), ⟨c0, d1, ty', b1, a2, by omega, by rw [List.length_append]; omega, fun i hi => ?_, fun q => ?_, fun i hi => ?_⟩, ?_⟩
    · rcases r2 k hk with q | q
      · rcases p2 k q with q | q
        · exact .inl q
        · exact .inr ⟨q.1, by omega⟩
      · exact .inr ⟨by omega, q.2⟩
    · rcases hk with q | q
      · rcases p2 k q with q | q
        · exact .inl (.inl q)
        · exact .inr q.1
      · exact .inl (.inr q)
    · rw [List.length_append] at hi
      rw [a5 i (by omega), b5 i (by omega)]
    · rw [a6 (hr1.trans q), b6 q]
    · have hi2 := hi
      rw [List.length_append] at hi2
      by_cases q : i < t.length
      · rw [a5 (o + i) (.inl (by omega)), List.getElem_append_left q]
        exact b7 i q
      · rw [List.getElem_append_right (by omega)]
        have := a7 (i - t.length) (by omega)
        rwa [show o + t.length + (i - t.length) = o + i by omega] at this
    · have hkeep : ∀ y', hasS t y' → liesS w1 (fun k => k < w.heap.size ∨ S1 k) B o y' → liesS w2 (fun k => k < w.heap.size ∨ S2 k) B o y' := by
        intro y' hy' hl'
        have ly' := hasS_len hy'
        refine liesS_keeps ⟨hz2, fun k hk hs => ⟨?_, fun q => ?_⟩⟩ y' B o (fun i i1 i2 => ?_) hl'
        · refine r3.block k hk (fun q => ?_)
          rcases q with q | q
          · exact hs (.inr q)
          · exact hs (.inl (q ▸ hB))
        · rcases q with q | q
          · exact hs (.inl q)
          · rcases r2 k q with q | q
            · exact hs (.inr q)
            · omega
        · rw [cell_blk a2, cell_blk b2, a5 i (.inl (by omega))]
      rcases p5 with ⟨q0, q⟩ | ⟨q0, y', r, g1, g2, g3, g4⟩ | ⟨q0, g1, g2⟩
      · rcases r5 with ⟨_, q'⟩ | ⟨q', _⟩ | ⟨q', _⟩
        · refine .inl ⟨q0, ?_⟩
          rw [q', q, encS_append, ← List.append_assoc]
        · rw [hr1, q0] at q'; cases q'
        · rw [hr1, q0] at q'; cases q'
      · rcases r5 with ⟨q', _⟩ | ⟨_, z', r', f1, f2, f3, f4⟩ | ⟨_, f1, f2⟩
        · rw [hr1, q0] at q'; cases q'
        · refine .inr (.inl ⟨q0, y' ++ z', r', hasS_append g1 f1, ?_, ?_, ?_⟩)
          · rw [g3] at f2
            rw [g2, encS_append, List.append_assoc, ← f2]
          · rw [f3, g3]
          · rw [liesS_append, hasS_len g1]
            refine ⟨hkeep y' g1 g4, ?_⟩
            exact liesS_keeps ⟨Nat.le_refl _, fun k _ hk => ⟨rfl, fun q => hk (by rcases q with q | q; exact .inl (by omega); exact .inr q)⟩⟩ z' B _ (fun _ _ _ => rfl) f4
        · refine .inr (.inr ⟨q0, fun q => ?_, ?_⟩)
          · rw [g2] at q
            rw [g3] at f1
            exact f1 (q.split g1)
          · rw [f2, g3]
      · rcases r5 with ⟨q', _⟩ | ⟨_, z', r', f1, f2, f3, f4⟩ | ⟨_, f1, f2⟩
        · rw [hr1, q0] at q'; cases q'
        · rw [g2] at f2
          exact absurd ⟨z', r', f1, f2⟩ (Rd.none hu)
        · exact .inr (.inr ⟨q0, fun q => g1 q.first, by rw [f2, g2]⟩)
end
end Go.Proofs.Ytjhgmncmcklnkaa
/- The walks of fold, unfold, mayEnd, fail. -/
namespace Go.Proofs.Ytjhgmncmcklnkaa
open Go.RowKit

theorem ret_int {k : IntKind} {a b : Int} (h : a = b) : Ending.returned (.int k a) = .returned (.int k b) := by rw [h]
theorem ret_bool {a b : Bool} (h : a = b) : Ending.returned (.bool a) = .returned (.bool b) := by rw [h]
theorem nat_not (m : Nat) (h : m < 18446744073709551616) : 18446744073709551615 ^^^ m = 18446744073709551615 - m := by
  apply Nat.eq_of_testBit_eq
  intro i
  have e1 : (18446744073709551615 : Nat) = 2 ^ 64 - 1 := by decide
  have e2 : 18446744073709551615 - m = 2 ^ 64 - (m + 1) := by omega
  rw [Nat.xor_comm, Nat.testBit_xor, e2, Nat.testBit_two_pow_sub_succ (by omega), e1, Nat.testBit_two_pow_sub_one]
  by_cases hi : i < 64
  · simp [hi]
  · simp only [hi, decide_false, Bool.xor_false, Bool.false_and]
    exact Nat.testBit_lt_two_pow (Nat.lt_of_lt_of_le h (Nat.pow_le_pow_right (n := 2) (i := 64) (by omega) (by omega)))
theorem not_u64 (m : Nat) (h : m < 18446744073709551616) : Go.bits .xor .u64 IntKind.u64.max (m : Int) = ((18446744073709551615 - m : Nat) : Int) := by
  have := u64_xor_nat 18446744073709551615 m (by omega) h
  rw [nat_not m h] at this
  exact this
theorem fold_pos {n : Int} (h : I64 n) (hn : 0 ≤ n) : IntKind.u64.wrap (IntKind.u64.wrap n * 2) = (zig n : Int) := by
  unfold I64 at h
  rw [IntKind.wrap_u64, IntKind.wrap_u64]
  unfold zig
  rw [if_neg (by omega)]
  omega
theorem fold_neg {n : Int} (h : I64 n) (hn : n < 0) : Go.bits .xor .u64 IntKind.u64.max (IntKind.u64.wrap (IntKind.u64.wrap n * 2)) = (zig n : Int) := by
  unfold I64 at h
  obtain ⟨m, hm⟩ : ∃ m : Nat, IntKind.u64.wrap (IntKind.u64.wrap n * 2) = (m : Int) ∧ m < 18446744073709551616 ∧ (m : Int) = 2 * n + 18446744073709551616 := by
    refine ⟨(2 * n + 18446744073709551616).toNat, ?_, by omega, by omega⟩
    rw [IntKind.wrap_u64, IntKind.wrap_u64]
    omega
  rw [hm.1, not_u64 m hm.2.1]
  unfold zig
  rw [if_pos hn]
  omega
theorem half_pos {z : Nat} (h : z < 18446744073709551616) (e : ¬ z % 2 = 1) : wrap64 ((z : Int) / 2) = zag z := by
  unfold wrap64
  unfold zag
  rw [if_neg e]
  omega
theorem half_neg {z : Nat} (h : z < 18446744073709551616) (e : z % 2 = 1) : wrap64 (Go.bits .xor .u64 IntKind.u64.max ((z : Int) / 2)) = zag z := by
  have h1 : (z : Int) / 2 = ((z / 2 : Nat) : Int) := by omega
  rw [h1, not_u64 (z / 2) (by omega)]
  unfold zag
  rw [if_pos e]
  unfold wrap64
  omega
theorem odd_and {z : Nat} (h : z < 18446744073709551616) (e : z % 2 = 1) : Go.bits .and .u64 (z : Int) 1 = 1 := by
  have := u64_and_nat z 1 h (by omega)
  rw [nat_mask1, e] at this
  exact this
theorem even_and {z : Nat} (h : z < 18446744073709551616) (e : ¬ z % 2 = 1) : Go.bits .and .u64 (z : Int) 1 = 0 := by
  have := u64_and_nat z 1 h (by omega)
  rw [nat_mask1, show z % 2 = 0 by omega] at this
  exact this
/-- A number of 64 bits without a sign. -/
def U64 (z : Nat) : Prop := z < 18446744073709551616

set_option maxHeartbeats 1000000 in
set_option maxRecDepth 100000 in
theorem fold_any (n : Int) (w : World) (h : I64 n) : Calls Try.prog 96 #[.int .i64 n] w fun e w' => e = .returned (.int .u64 (zig n)) ∧ w' = w := by
  have HH := Lib.hid h
  clear h
  obtain ⟨U, hU⟩ : ∃ U, IntKind.u64.wrap n = U := ⟨_, rfl⟩
  have HU := Lib.hid hU
  by_cases hn : n < 0
  · go_enter Try.func96, Try.ntmps96
    go_wp2
    all_goals
      first
        | (exfalso; rename_i hs; exact absurd hs (by decide))
        | (go_ret
           refine ⟨ret_int ?_, rfl⟩
           rw [← HU.out]
           exact fold_neg HH.out hn)
  · go_enter Try.func96, Try.ntmps96
    go_wp2
    go_ret
    refine ⟨ret_int ?_, rfl⟩
    rw [← HU.out]
    exact fold_pos HH.out (by omega)
set_option maxHeartbeats 1000000 in
set_option maxRecDepth 100000 in
theorem unfold_any (z : Nat) (w : World) (h : U64 z) : Calls Try.prog 93 #[.int .u64 z] w fun e w' => e = .returned (.int .i64 (zag z)) ∧ w' = w := by
  by_cases ho : z % 2 = 1
  · have h1 := odd_and h ho
    have h2 := half_neg h ho
    have H2 := Lib.hid h2
    clear h ho h2
    go_enter Try.func93, Try.ntmps93
    go_wp2
    all_goals
      first
        | (exfalso; rename_i hs; exact absurd hs (by decide))
        | (go_ret
           exact ⟨ret_int H2.out, rfl⟩)
  · have h1 := even_and h ho
    have h2 := half_pos h ho
    have H2 := Lib.hid h2
    clear h ho h2
    go_enter Try.func93, Try.ntmps93
    go_wp2
    go_ret
    exact ⟨ret_int H2.out, rfl⟩
set_option maxHeartbeats 1000000 in
set_option maxRecDepth 100000 in
theorem mayEnd_any (b : UInt8) (k : Nat) (hk : k < 10) (w : World) : Calls Try.prog 102 #[.int .u8 b.toNat, .int .i64 k] w fun e w' => e = .returned (.bool (endK (9 - k) b.toNat)) ∧ w' = w := by
  have hb := b.toNat_lt
  obtain ⟨c, hc⟩ : ∃ c : Nat, b.toNat = c := ⟨_, rfl⟩
  rw [hc] at hb ⊢
  clear hc
  by_cases h0 : c = 0
  · subst h0
    have e : endK (9 - k) 0 = decide (k = 0) := by
      unfold endK
      rw [if_pos rfl]
      by_cases q : k = 0
      · simp [q]
      · have : (9 - k == 9) = false := by simp; omega
        simp [q, this]
    rw [e]
    by_cases h1 : k = 0
    · subst h1
      go_enter Try.func102, Try.ntmps102
      go_wp2
      go_ret
      exact ⟨rfl, rfl⟩
    · have h2 : ¬ ((k : Int) = 0) := by omega
      rw [show decide (k = 0) = false by simp [h1]]
      go_enter Try.func102, Try.ntmps102
      go_wp2
      go_ret
      exact ⟨ret_bool (by simp; omega), rfl⟩
  · have e : endK (9 - k) c = (decide (k < 9) || decide (c ≤ 1)) := by
      unfold endK
      rw [if_neg h0]
      congr 2
      simp
      omega
    rw [e]
    clear e
    by_cases h1 : k < 9
    · rw [show decide (k < 9) = true by simp [h1]]
      go_enter Try.func102, Try.ntmps102
      go_wp2
      go_ret
      exact ⟨rfl, rfl⟩
    · rw [show decide (k < 9) = false by simp [h1]]
      by_cases h2 : c ≤ 1
      · rw [show decide (c ≤ 1) = true by simp [h2]]
        go_enter Try.func102, Try.ntmps102
        go_wp2
        go_ret
        exact ⟨ret_bool (by simp; omega), rfl⟩
      · rw [show decide (c ≤ 1) = false by simp [h2]]
        go_enter Try.func102, Try.ntmps102
        go_wp2
        go_ret
        exact ⟨ret_bool (by simp; omega), rfl⟩
set_option maxHeartbeats 1000000 in
set_option maxRecDepth 100000 in
theorem fail_any {w : World} {A : Nat} {S : Nat → Prop} {s : TS} (h : Tp w A S s) : Calls Try.prog 79 #[.pointer (some ⟨A, 0, none⟩)] w fun e w' => e = .returned (.tuple #[]) ∧ Tp w' A S { s with rest := [], bad := true } ∧ Fr w w' S ∧ w'.heap.size = w.heap.size ∧ ∀ k, k ≠ A → w'.heap[k]? = w.heap[k]? := by
  obtain ⟨rv, h⟩ := h
  have hob := h.ob
  have c2 : w.cell? ⟨A, 2, none⟩ = some (.string (txt s.rest)) := cell_blk hob 2
  have c3 : w.cell? ⟨A, 3, none⟩ = some (.bool s.bad) := cell_blk hob 3
  have f2 : w.frozen? ⟨A, 2, none⟩ = false := frozen_blk hob 2
  have f3 : w.frozen? ⟨A, 3, none⟩ = false := frozen_blk hob 3
  have HH := Lib.hid h
  clear h hob
  go_enter Try.func79, Try.ntmps79
  go_wp2
  go_end0
  have h := HH.out
  have e := set_blk (i := 2) (set_blk (i := 3) h.ob (.bool true)) (.string ⟨#[]⟩)
  have hne : ∀ k, k ≠ A → ((w.setCell ⟨A, 3, none⟩ (.bool true)).setCell ⟨A, 2, none⟩ (.string ⟨#[]⟩)).heap[k]? = w.heap[k]? := fun k hk => (set_other (a := ⟨A, 2, none⟩) _ hk).trans (set_other (a := ⟨A, 3, none⟩) _ hk)
  refine ⟨rfl, ⟨rv, ⟨e, own_like h.row (fun k hk => hne k (h.neA k hk)), h.cov, h.covA, fun k hk => by simpa [World.setCell] using h.lt k hk⟩⟩, ?_, by simp [World.setCell], hne⟩
  exact ⟨rfl, rfl, rfl, by simp [World.setCell], fun k _ hk => hne k (fun e => hk (e ▸ h.covA))⟩
end Go.Proofs.Ytjhgmncmcklnkaa
/- Bytes put on a tape; the walk of writeGroups. -/
namespace Go.Proofs.Ytjhgmncmcklnkaa
open Go.RowKit

theorem step_run {P : Program} {w w' : World} {ops : Array Oper} {o : Oper} {a : Act} {K : Act → World → Prop} {Q : Exit → Act → World → Prop} {E : Prop} {t u ty : TypeId} {v1 v2 v' : Value} (s x : Operand) (hw : Region.wanted o (yielded ops a.tmps) = true)
    (ho : o.op = .call { callee := .builtin .append, args := #[s, x], argTypes := #[t, u] }) (hty : o.type = ty) (hs : a.eval s = v1) (hx : a.eval x = v2) (hrun : (Builtin.append_ #[t, u] ty #[v1, v2]).run P w = .ok v' w')
    (h : K (a.put o.dst v') w') : if Region.wanted o (yielded ops a.tmps) = true then Oper.wp P o a w K Q else E := by
  subst hty
  subst hs
  subst hx
  rw [if_pos hw]
  unfold Oper.wp execOp
  simp only [ho, resolve, invoke, builtin, Sem.run_bind, Sem.run_pure, Result.andThen_ok, List.map_toArray, List.map_cons, List.map_nil, hrun]
  exact h
theorem wpl_run {P : Program} {w w' : World} {ops : Array Oper} {rest : List Oper} {o : Oper} {a : Act} {Q : Exit → Act → World → Prop} {t u ty : TypeId} {v1 v2 v' : Value} {ds : Option Tmp} {ps : String} {af : Array Edge} (s x : Operand)
    (ho : o = ⟨ds, .call { callee := .builtin .append, args := #[s, x], argTypes := #[t, u] }, ty, ps, af, none⟩) (hs : a.eval s = v1) (hx : a.eval x = v2) (hrun : (Builtin.append_ #[t, u] ty #[v1, v2]).run P w = .ok v' w')
    (h : wpList P ops Q rest (a.put ds v') w') : wpList P ops Q (o :: rest) a w := by
  subst hs
  subst hx
  subst ho
  refine wpList_plain rfl fun K hK => ?_
  unfold Oper.wp execOp
  simp only [resolve, invoke, builtin, Sem.run_bind, Sem.run_pure, Result.andThen_ok, List.map_toArray, List.map_cons, List.map_nil, hrun]
  exact hK _ _ h
theorem infoByte : (Try.prog.info? 5).map (fun i => (i.zero, i.size, i.bytes)) = some (some (.int .u8 0), 1, 1) := by kernel_rfl
theorem byteCells_append (a b : List UInt8) : Lib.byteCells (a ++ b) = Lib.byteCells a ++ Lib.byteCells b := by simp [Lib.byteCells]
theorem news_one (w : World) (c : Value) (t : TypeId) : ∀ j u, [c][j]? = some u → (w.alloc (.cells #[c] t)).cell? ((⟨w.heap.size, 0, none⟩ : Addr).add j) = some u := by
  intro j u hj
  match j, hj with
  | 0, hj => simp at hj; subst hj; simp [Addr.add]
section
variable {w w' : World} {A : Nat} {S : Nat → Prop} {s : TS} {rv : Value}
/-- One byte more. -/
theorem Tv.push (h : Tv w A S s rv) (b : UInt8) (hz : s.wr.length ≤ 2000000000) : ∃ v2 w2, (Builtin.append_ #[130, 130] 130 #[rv, .slice (some ⟨w.heap.size, 0, none⟩) 1 1]).run Try.prog (w.alloc (.cells #[.int .u8 b.toNat] 5)) = .ok v2 w2 ∧ w2.ownsRow 0 5 1 v2 (s.wr ++ [b]).length (Lib.byteCells (s.wr ++ [b])) ∧ Fr w w2 S ∧ (∀ k, v2.ownBlock = some k → S k ∨ w.heap.size ≤ k) ∧ w2.heap[A]? = some (.cells (tpC s rv) 132 (0, 0)) := by
  obtain ⟨i0, hi, hz0, hz1, hz2⟩ := info_parts infoByte
  have hb : Below w.heap.size w (w.alloc (.cells #[.int .u8 b.toNat] 5)) := Below.alloc (Below.refl _ _) (Nat.le_refl _) _
  have hrow := own_below h.row hb
  obtain ⟨v', w', hr, ho', hg, _, hat⟩ := run_append_own_at (P := Try.prog) (w := w.alloc (.cells #[.int .u8 b.toNat] 5)) 0 130 130 5 i0 _ 1 1 Try.underlying130 hi hz0 hz1 hz2 rfl (by decide) rv _ _ hrow ⟨w.heap.size, 0, none⟩ 1 1 [.int .u8 b.toNat] rfl (news_one w _ 5) (by intro u hu; simp at hu; subst hu; rfl) (by unfold maxLen; omega) (by omega) (Nat.zero_le _)
  have hsz : (w.alloc (.cells #[.int .u8 b.toNat] 5)).heap.size = w.heap.size + 1 := by simp
  refine ⟨v', w', hr, ?_, ((Fr.refl w S).alloc _).grown hg (fun k hk => .inl (h.cov k hk)), fun k hk => ?_, ?_⟩
  · rw [byteCells_append, List.length_append]
    simpa [Lib.byteCells] using ho'
  · rcases hat with q | q
    · rw [q] at hk
      exact .inl (h.cov k hk)
    · rw [q] at hk
      simp only [Option.some.injEq] at hk
      rw [hsz] at hk
      exact .inr (by omega)
  · have hA : A < w.heap.size := h.lt A h.covA
    rw [hg.block A (by rw [hsz]; omega) (fun q => h.neA A q.symm rfl), hb.block A hA]
    exact h.ob
/-- What is put there is kept. -/
theorem Tv.kept {wr' : List UInt8} {v2 : Value} {w2 : World} (h : Tv w A S s rv) (ho : w2.ownsRow 0 5 1 v2 wr'.length (Lib.byteCells wr')) (hf : Fr w w2 S) (hn : ∀ k, v2.ownBlock = some k → S k ∨ w.heap.size ≤ k) (hob : w2.heap[A]? = some (.cells (tpC s rv) 132 (0, 0))) :
    Tv (w2.setCell ⟨A, 1, none⟩ v2) A (fun k => S k ∨ v2.ownBlock = some k) { s with wr := wr' } v2 ∧ Fr w (w2.setCell ⟨A, 1, none⟩ v2) S ∧ (∀ k, (S k ∨ v2.ownBlock = some k) → Gro S w (w2.setCell ⟨A, 1, none⟩ v2) k) := by
  have hA : A < w.heap.size := h.lt A h.covA
  have hsz : (w2.setCell ⟨A, 1, none⟩ v2).heap.size = w2.heap.size := by simp [World.setCell]
  have hne : ∀ k, v2.ownBlock = some k → k ≠ A := by
    intro k hk e
    subst e
    rcases ho.2 with ⟨hv, _⟩ | ⟨g, cap, cur, hv, _, hc, _⟩
    · subst hv; cases hk
    · subst hv
      have : g = k := by simpa [Value.ownBlock] using hk
      subst this
      rw [hob] at hc
      simp at hc
  refine ⟨⟨set_blk (i := 1) hob v2, own_like ho (fun k hk => set_other (a := ⟨A, 1, none⟩) _ (hne k hk)), fun k hk => .inr hk, .inl h.covA, fun k hk => ?_⟩, hf.set (a := ⟨A, 1, none⟩) (.inl h.covA) v2, fun k hk => ?_⟩
  · rw [hsz]
    rcases hk with hk | hk
    · exact Nat.lt_of_lt_of_le (h.lt k hk) hf.size
    · exact (ho.lt k hk).2
  · rcases hk with hk | hk
    · exact .inl hk
    · rcases hn k hk with q | q
      · exact .inl q
      · exact .inr ⟨q, by rw [hsz]; exact (ho.lt k hk).2⟩
end
/-- A step of the tape. -/
def Tt (w w' : World) (A : Nat) (S : Nat → Prop) (s' : TS) : Prop := ∃ S', Tp w' A S' s' ∧ (∀ k, S' k → Gro S w w' k) ∧ Fr w w' S
theorem Tt.comb {w w1 w2 : World} {A : Nat} {S S1 : Nat → Prop} {s2 : TS} (h2 : ∀ k, S1 k → Gro S w w1 k) (h3 : Fr w w1 S) (k : Tt w1 w2 A S1 s2) : Tt w w2 A S s2 := by
  obtain ⟨S2, k1, k2, k3⟩ := k
  have hz := h3.size
  have kz := k3.size
  refine ⟨S2, k1, fun j q => ?_, h3.step k3 (fun j q => ?_)⟩
  · rcases k2 j q with q | q
    · rcases h2 j q with q | q
      · exact .inl q
      · exact .inr ⟨q.1, by omega⟩
    · exact .inr ⟨by omega, q.2⟩
  · rcases h2 j q with q | q
    · exact .inl q
    · exact .inr q.1
theorem Tt.refl {w : World} {A : Nat} {S : Nat → Prop} {s : TS} (h : Tp w A S s) : Tt w w A S s := ⟨S, h, fun _ q => .inl q, Fr.refl _ _⟩
/-- What is done, and left, of a number's groups. -/
structure Wg (z : Nat) (d : List UInt8) (k y : Nat) : Prop where
  one : 1 ≤ k
  lt : y < 128 ^ k
  eq : grp z = d ++ grpN k y
theorem Wg.start {z : Nat} (h : U64 z) : Wg z [] 10 z := ⟨by omega, by unfold U64 at h; omega, rfl⟩
theorem Wg.next {z k y : Nat} {d : List UInt8} (h : Wg z d k y) (hy : 128 ≤ y) : ∃ k', Wg z (d ++ [UInt8.ofNat (y % 128 + 128)]) k' (y / 128) := by
  obtain ⟨j, rfl⟩ : ∃ j, k = j + 1 := ⟨k - 1, by have := h.one; omega⟩
  have hl := h.lt
  refine ⟨j, ?_, ?_, ?_⟩
  · rcases Nat.eq_zero_or_pos j with rfl | q
    · simp at hl; omega
    · exact q
  · rw [Nat.pow_succ] at hl
    exact Nat.div_lt_of_lt_mul (by rw [Nat.mul_comm]; exact hl)
  · rw [h.eq, grpN_step j y hy, List.append_assoc]
    rfl
theorem Wg.last {z k y : Nat} {d : List UInt8} (h : Wg z d k y) (hy : y < 128) : grp z = d ++ [UInt8.ofNat y] := by
  obtain ⟨j, rfl⟩ : ∃ j, k = j + 1 := ⟨k - 1, by have := h.one; omega⟩
  rw [h.eq, grpN_last j y hy]
set_option maxRecDepth 100000 in
theorem or_all : ∀ x : Fin 256, x.val ||| 128 = x.val % 128 + 128 := by decide
theorem or_more (y : Nat) : Go.bits .or .u8 ((y : Int) % 256) 128 = ((UInt8.ofNat (y % 128 + 128)).toNat : Int) := by
  have h := u8_or_nat (y % 256) 128 (by omega) (by omega)
  have h2 := or_all ⟨y % 256, by omega⟩
  simp only at h2
  rw [h2] at h
  rw [toNat_of (by omega), show (y : Int) % 256 = ((y % 256 : Nat) : Int) by omega]
  refine h.trans ?_
  omega
theorem or_last (y : Nat) (h : y < 128) : (y : Int) = ((UInt8.ofNat y).toNat : Int) := by rw [toNat_of (by omega)]
set_option maxHeartbeats 2000000 in
set_option maxRecDepth 100000 in
theorem writeGroups_any {w : World} {A : Nat} {S : Nat → Prop} {s : TS} (h : Tp w A S s) {z : Nat} (hz : U64 z) (hl : s.wr.length ≤ 1000000000) :
    Calls Try.prog 95 #[.pointer (some ⟨A, 0, none⟩), .int .u64 z] w fun e w' => e = .returned (.tuple #[]) ∧ Tt w w' A S { s with wr := s.wr ++ grp z } := by
  have HZ := Lib.hid (Wg.start hz)
  clear hz
  go_enter Try.func95, Try.ntmps95
  go_wp2
  go_loopw [1] (fun v wr => ∃ k y d, Hid (Wg z d k y) ∧ v = .int .u64 y ∧ Tt w wr A S { s with wr := s.wr ++ d }) (fun v _ => (intOf v).toNat)
  case atStart => exact ⟨10, z, [], HZ, rfl, by simpa using Tt.refl h⟩
  case round =>
    obtain ⟨k, y, d, HW, rfl, S', ⟨rv, hT⟩, hG, hF⟩ := hrel
    have hdl : d.length ≤ 10 := by
      have := congrArg List.length HW.out.eq
      have := grp_len z
      rw [List.length_append] at *
      omega
    have hwl : (s.wr ++ d).length ≤ 2000000000 := by rw [List.length_append]; omega
    have c1 : wr.cell? ⟨A, 1, none⟩ = some rv := cell_blk hT.ob 1
    by_cases hy : 128 ≤ y
    · have e1 := or_more y
      obtain ⟨b, hb⟩ : ∃ b, UInt8.ofNat (y % 128 + 128) = b := ⟨_, rfl⟩
      rw [hb] at e1
      obtain ⟨v2, w2, hrun, q1, q2, q3, q4⟩ := hT.push b hwl
      obtain ⟨N, hN⟩ : ∃ N, (s.wr ++ d ++ [b]).length = N := ⟨_, rfl⟩
      obtain ⟨ad2, cap2, rfl⟩ := own_shape q1
      obtain ⟨t1, t2, t3⟩ := hT.kept q1 q2 q3 q4
      have hstep : Tt w (w2.setCell ⟨A, 1, none⟩ (.slice ad2 _ cap2)) A S _ := Tt.comb hG hF ⟨_, ⟨_, t1⟩, t3, t2⟩
      rw [show (({ s with wr := s.wr ++ d } : TS).wr ++ [b]).length = N from hN] at hrun hstep
      have d1 : w2.cell? ⟨A, 1, none⟩ = some rv := cell_blk q4 1
      have f1 : w2.frozen? ⟨A, 1, none⟩ = false := frozen_blk q4 1
      have HS := Lib.hid hstep
      have HB := Lib.hid hb
      clear t1 t2 t3 q1 q2 q3 q4 hT hb hF hG hdl hwl h hN hstep
      go_wp2_with (at_builtin; refine wpl_run _ _ rfl (by simp [Act.eval]) (by simp [Act.eval]) hrun ?_)
      go_roundw
      case rel =>
        obtain ⟨k', hk'⟩ := HW.out.next hy
        refine ⟨k', y / 128, _, Lib.hid hk', by go_num, ?_⟩
        rw [HB.out, ← List.append_assoc]
        exact HS.out
      case measure => simp [intOf]; omega
    · have e1 := or_last y (by omega)
      have hlast := HW.out.last (by omega : y < 128)
      obtain ⟨b, hb⟩ : ∃ b, UInt8.ofNat y = b := ⟨_, rfl⟩
      rw [hb] at e1 hlast
      obtain ⟨v2, w2, hrun, q1, q2, q3, q4⟩ := hT.push b hwl
      obtain ⟨N, hN⟩ : ∃ N, (s.wr ++ d ++ [b]).length = N := ⟨_, rfl⟩
      obtain ⟨ad2, cap2, rfl⟩ := own_shape q1
      obtain ⟨t1, t2, t3⟩ := hT.kept q1 q2 q3 q4
      have hstep : Tt w (w2.setCell ⟨A, 1, none⟩ (.slice ad2 _ cap2)) A S _ := Tt.comb hG hF ⟨_, ⟨_, t1⟩, t3, t2⟩
      rw [show (({ s with wr := s.wr ++ d } : TS).wr ++ [b]).length = N from hN] at hrun hstep
      have d1 : w2.cell? ⟨A, 1, none⟩ = some rv := cell_blk q4 1
      have f1 : w2.frozen? ⟨A, 1, none⟩ = false := frozen_blk q4 1
      have HS := Lib.hid hstep
      have HL := Lib.hid hlast
      rw [← e1] at hrun
      have hy1 : y < 128 := by omega
      have hy2 : (y : Int) % 256 = y := by omega
      clear t1 t2 t3 q1 q2 q3 q4 hT hb hF hG hdl hwl h hN hstep e1 hlast
      go_wp2_with (at_builtin; refine wpl_run _ _ rfl (by simp [Act.eval]) (by simp [Act.eval]) hrun ?_)
      go_end0
      refine ⟨rfl, ?_⟩
      rw [HL.out, ← List.append_assoc]
      exact HS.out
end Go.Proofs.Ytjhgmncmcklnkaa
