/- What is written, as plain data: numbers, yes or no, texts, lists of structs; its bytes. -/
import Derived.Test.YtjhgmncmcklnkaaKa
namespace Go.Proofs.Ytjhgmncmcklnkaa

/-- A field of a struct (structs within structs are laid out field by field). -/
inductive At where
  | num (n : Int)
  | yes (b : Bool)
  | text (s : ByteArray)
  | list (l : List (List At))
inductive Ty where
  | num
  | yes
  | text
  | list (t : List Ty)
def yesN (b : Bool) : Int := if b then 1 else 0
mutual
def At.enc : At → List UInt8
  | .num n => Ytjhgmncmcklnkaa.num n
  | .yes b => Ytjhgmncmcklnkaa.num (yesN b)
  | .text s => Ytjhgmncmcklnkaa.num (s.data.toList.length : Int) ++ s.data.toList
  | .list l => Ytjhgmncmcklnkaa.num (l.length : Int) ++ encL l
def encS : List At → List UInt8
  | [] => []
  | a :: r => a.enc ++ encS r
def encL : List (List At) → List UInt8
  | [] => []
  | x :: r => encS x ++ encL r
end
mutual
/-- A field is of a type; the numbers are of 64 bits. -/
def Ty.has : Ty → At → Prop
  | .num, .num n => I64 n
  | .yes, .yes _ => True
  | .text, .text s => s.data.toList.length ≤ 9223372036854775807
  | .list t, .list l => l.length ≤ 9223372036854775807 ∧ hasL t l
  | _, _ => False
def hasS : List Ty → List At → Prop
  | [], [] => True
  | t :: r, a :: q => t.has a ∧ hasS r q
  | _, _ => False
def hasL : List Ty → List (List At) → Prop
  | _, [] => True
  | t, x :: r => hasS t x ∧ hasL t r
end
theorem hasS_len : ∀ {t : List Ty} {x : List At}, hasS t x → x.length = t.length
  | [], [], _ => rfl
  | t :: r, a :: q, h => by
    unfold hasS at h
    simp [hasS_len h.2]
  | [], _ :: _, h => by simp [hasS] at h
  | _ :: _, [], h => by simp [hasS] at h
theorem hasL_all : ∀ {t : List Ty} {l : List (List At)}, hasL t l → ∀ x ∈ l, hasS t x
  | _, [], _, _, hx => by simp at hx
  | t, y :: r, h, x, hx => by
    unfold hasL at h
    rcases List.mem_cons.1 hx with rfl | hx
    · exact h.1
    · exact hasL_all h.2 x hx
theorem hasL_of : ∀ {t : List Ty} {l : List (List At)}, (∀ x ∈ l, hasS t x) → hasL t l
  | _, [], _ => by simp [hasL]
  | t, y :: r, h => by
    unfold hasL
    exact ⟨h y (by simp), hasL_of (fun x hx => h x (by simp [hx]))⟩
theorem hasL_append {t : List Ty} {l m : List (List At)} (h : hasL t l) (k : hasL t m) : hasL t (l ++ m) :=
  hasL_of (fun x hx => by
    rcases List.mem_append.1 hx with hx | hx
    · exact hasL_all h x hx
    · exact hasL_all k x hx)
theorem encS_append : ∀ (a b : List At), encS (a ++ b) = encS a ++ encS b
  | [], _ => by simp [encS]
  | x :: r, b => by simp [encS, encS_append r b, List.append_assoc]
theorem encL_append : ∀ (a b : List (List At)), encL (a ++ b) = encL a ++ encL b
  | [], _ => by simp [encL]
  | x :: r, b => by simp [encL, encL_append r b, List.append_assoc]
theorem hasS_append : ∀ {s t : List Ty} {x y : List At}, hasS s x → hasS t y → hasS (s ++ t) (x ++ y)
  | [], _, [], _, _, k => k
  | s :: r, t, a :: q, y, h, k => by
    unfold hasS at h
    show hasS (s :: (r ++ t)) (a :: (q ++ y))
    unfold hasS
    exact ⟨h.1, hasS_append h.2 k⟩
  | [], _, _ :: _, _, h, _ => by simp [hasS] at h
  | _ :: _, _, [], _, h, _ => by simp [hasS] at h
theorem hasS_split : ∀ {s t : List Ty} {z : List At}, hasS (s ++ t) z → ∃ x y, z = x ++ y ∧ hasS s x ∧ hasS t y
  | [], _, z, h => ⟨[], z, rfl, by simp [hasS], h⟩
  | s :: r, t, [], h => by simp [hasS] at h
  | s :: r, t, a :: q, h => by
    have h' : hasS (s :: (r ++ t)) (a :: q) := h
    unfold hasS at h'
    obtain ⟨x, y, e, h1, h2⟩ := hasS_split (s := r) h'.2
    exact ⟨a :: x, y, by rw [e]; rfl, by unfold hasS; exact ⟨h'.1, h1⟩, h2⟩
theorem yes_in (b : Bool) : I64 (yesN b) := by cases b <;> simp [yesN, I64]
theorem yes_inj {a b : Bool} (h : yesN a = yesN b) : a = b := by
  cases a <;> cases b <;> simp [yesN] at h ⊢
theorem len_in {n : Nat} (h : n ≤ 9223372036854775807) : I64 (n : Int) := by
  unfold I64
  omega
theorem append_same {α : Type} {a b r s : List α} (hl : a.length = b.length) (h : a ++ r = b ++ s) : a = b ∧ r = s := List.append_inj h hl
theorem ba_ext {s t : ByteArray} (h : s.data.toList = t.data.toList) : s = t := by
  cases s
  cases t
  simp only [Array.toList_inj] at h
  rw [h]
mutual
/-- No struct's bytes begin another's. -/
theorem At.pre : ∀ (t : Ty) (a b : At) (r s : List UInt8), t.has a → t.has b → a.enc ++ r = b.enc ++ s → a = b ∧ r = s
  | .num, .num m, .num n, r, s, h, k, e => by
    unfold Ty.has at h k
    simp only [At.enc] at e
    obtain ⟨h1, h2⟩ := num_pre h k e
    exact ⟨by rw [h1], h2⟩
  | .yes, .yes a, .yes b, r, s, _, _, e => by
    simp only [At.enc] at e
    obtain ⟨h1, h2⟩ := num_pre (yes_in a) (yes_in b) e
    exact ⟨by rw [yes_inj h1], h2⟩
  | .text, .text a, .text b, r, s, h, k, e => by
    unfold Ty.has at h k
    simp only [At.enc, List.append_assoc] at e
    obtain ⟨h1, h2⟩ := num_pre (len_in h) (len_in k) e
    obtain ⟨h3, h4⟩ := append_same (by omega) h2
    exact ⟨by rw [ba_ext h3], h4⟩
  | .list t, .list a, .list b, r, s, h, k, e => by
    unfold Ty.has at h k
    simp only [At.enc, List.append_assoc] at e
    obtain ⟨h1, h2⟩ := num_pre (len_in h.1) (len_in k.1) e
    obtain ⟨h3, h4⟩ := preL t a b r s (by omega) h.2 k.2 h2
    exact ⟨by rw [h3], h4⟩
  | .num, .yes _, _, _, _, h, _, _ | .num, .text _, _, _, _, h, _, _ | .num, .list _, _, _, _, h, _, _ => by simp [Ty.has] at h
  | .num, .num _, .yes _, _, _, _, h, _ | .num, .num _, .text _, _, _, _, h, _ | .num, .num _, .list _, _, _, _, h, _ => by simp [Ty.has] at h
  | .yes, .num _, _, _, _, h, _, _ | .yes, .text _, _, _, _, h, _, _ | .yes, .list _, _, _, _, h, _, _ => by simp [Ty.has] at h
  | .yes, .yes _, .num _, _, _, _, h, _ | .yes, .yes _, .text _, _, _, _, h, _ | .yes, .yes _, .list _, _, _, _, h, _ => by simp [Ty.has] at h
  | .text, .num _, _, _, _, h, _, _ | .text, .yes _, _, _, _, h, _, _ | .text, .list _, _, _, _, h, _, _ => by simp [Ty.has] at h
  | .text, .text _, .num _, _, _, _, h, _ | .text, .text _, .yes _, _, _, _, h, _ | .text, .text _, .list _, _, _, _, h, _ => by simp [Ty.has] at h
  | .list _, .num _, _, _, _, h, _, _ | .list _, .yes _, _, _, _, h, _, _ | .list _, .text _, _, _, _, h, _, _ => by simp [Ty.has] at h
  | .list _, .list _, .num _, _, _, _, h, _ | .list _, .list _, .yes _, _, _, _, h, _ | .list _, .list _, .text _, _, _, _, h, _ => by simp [Ty.has] at h
theorem preS : ∀ (t : List Ty) (a b : List At) (r s : List UInt8), hasS t a → hasS t b → encS a ++ r = encS b ++ s → a = b ∧ r = s
  | [], [], [], r, s, _, _, e => ⟨rfl, by simpa [encS] using e⟩
  | t :: u, a :: p, b :: q, r, s, h, k, e => by
    unfold hasS at h k
    simp only [encS, List.append_assoc] at e
    obtain ⟨h1, h2⟩ := At.pre t a b _ _ h.1 k.1 e
    obtain ⟨h3, h4⟩ := preS u p q r s h.2 k.2 h2
    exact ⟨by rw [h1, h3], h4⟩
  | [], _ :: _, _, _, _, h, _, _ => by simp [hasS] at h
  | [], [], _ :: _, _, _, _, h, _ => by simp [hasS] at h
  | _ :: _, [], _, _, _, h, _, _ => by simp [hasS] at h
  | _ :: _, _ :: _, [], _, _, _, h, _ => by simp [hasS] at h
theorem preL : ∀ (t : List Ty) (a b : List (List At)) (r s : List UInt8), a.length = b.length → hasL t a → hasL t b → encL a ++ r = encL b ++ s → a = b ∧ r = s
  | _, [], [], r, s, _, _, _, e => ⟨rfl, by simpa [encL] using e⟩
  | t, a :: p, b :: q, r, s, hl, h, k, e => by
    unfold hasL at h k
    simp only [encL, List.append_assoc] at e
    obtain ⟨h1, h2⟩ := preS t a b _ _ h.1 k.1 e
    obtain ⟨h3, h4⟩ := preL t p q r s (by simpa using hl) h.2 k.2 h2
    exact ⟨by rw [h1, h3], h4⟩
  | _, [], _ :: _, _, _, hl, _, _, _ => by simp at hl
  | _, _ :: _, [], _, _, hl, _, _, _ => by simp at hl
end
/-- Every field takes a byte. -/
theorem At.enc_pos (a : At) : 0 < a.enc.length := by
  cases a with
  | num n => simp only [At.enc]; exact num_pos n
  | yes b => simp only [At.enc]; exact num_pos _
  | text s => simp only [At.enc, List.length_append]; have := num_pos (s.data.toList.length : Int); omega
  | list l => simp only [At.enc, List.length_append]; have := num_pos (l.length : Int); omega
theorem encS_len : ∀ (x : List At), x.length ≤ (encS x).length
  | [] => by simp
  | a :: r => by
    have := a.enc_pos
    have := encS_len r
    simp only [encS, List.length_cons, List.length_append]
    omega
theorem encL_len {t : List Ty} (ht : t ≠ []) : ∀ {l : List (List At)}, hasL t l → l.length ≤ (encL l).length
  | [], _ => by simp
  | x :: r, h => by
    unfold hasL at h
    have h1 := hasS_len h.1
    have h2 := encS_len x
    have h3 := encL_len ht h.2
    have h4 : 0 < t.length := List.length_pos_iff.2 ht
    simp only [encL, List.length_cons, List.length_append]
    omega
/-- Nothing. -/
def Ty.zero : Ty → At
  | .num => .num 0
  | .yes => .yes false
  | .text => .text ⟨#[]⟩
  | .list _ => .list []
def zeroS (t : List Ty) : List At := t.map Ty.zero
theorem zeroS_append (s t : List Ty) : zeroS (s ++ t) = zeroS s ++ zeroS t := by simp [zeroS]
theorem zero_has (t : Ty) : t.has t.zero := by
  cases t <;> simp [Ty.zero, Ty.has, I64, hasL]
theorem zeroS_has : ∀ t : List Ty, hasS t (zeroS t)
  | [] => by simp [zeroS, hasS]
  | t :: r => by
    show hasS (t :: r) (t.zero :: zeroS r)
    unfold hasS
    exact ⟨zero_has t, zeroS_has r⟩
/-- Do the bytes begin with a struct of these types? -/
def Rd (t : List Ty) (l : List UInt8) : Prop := ∃ x r, hasS t x ∧ l = encS x ++ r
theorem Rd.split {s t : List Ty} {x : List At} {r : List UInt8} (hx : hasS s x) (h : Rd (s ++ t) (encS x ++ r)) : Rd t r := by
  obtain ⟨z, q, hz, e⟩ := h
  obtain ⟨a, b, rfl, h1, h2⟩ := hasS_split hz
  rw [encS_append, List.append_assoc] at e
  obtain ⟨_, e2⟩ := preS s x a _ _ hx h1 e
  exact ⟨b, q, h2, e2⟩
theorem Rd.first {s t : List Ty} {l : List UInt8} (h : Rd (s ++ t) l) : Rd s l := by
  obtain ⟨z, q, hz, e⟩ := h
  obtain ⟨a, b, rfl, h1, h2⟩ := hasS_split hz
  rw [encS_append, List.append_assoc] at e
  exact ⟨a, _, h1, e⟩
theorem Rd.none {t : List Ty} (ht : t ≠ []) : ¬ Rd t [] := by
  rintro ⟨x, r, h, e⟩
  have h1 := hasS_len h
  have h2 := encS_len x
  have h3 : 0 < t.length := List.length_pos_iff.2 ht
  have h4 := congrArg List.length e
  simp only [List.length_nil, List.length_append] at h4
  omega
end Go.Proofs.Ytjhgmncmcklnkaa
