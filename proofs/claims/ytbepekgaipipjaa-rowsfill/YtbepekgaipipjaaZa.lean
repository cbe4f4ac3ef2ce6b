/- Plain facts on orders. -/
import Derived.Lib.Bytealg
namespace Go.Proofs.Ytbepekgaipipjaa

def cmpI (x y : Int) : Int := if x < y then -1 else if y < x then 1 else 0
def orI (a b c : Int) : Int := if a = 0 then if b = 0 then c else b else a

structure Good {α : Type} (c : α → α → Int) : Prop where
  anti : ∀ a b, c b a = - c a b
  zero : ∀ a b, c a b = 0 ↔ a = b
  rng : ∀ a b, -1 ≤ c a b ∧ c a b ≤ 1
  tr : ∀ a b d, c a b ≤ 0 → c b d ≤ 0 → c a d ≤ 0

theorem cmpI_good : Good cmpI :=
  ⟨fun a b => by unfold cmpI; split <;> split <;> (try split) <;> omega,
   fun a b => by unfold cmpI; split <;> (try split) <;> omega,
   fun a b => by unfold cmpI; split <;> (try split) <;> omega,
   fun a b d => by unfold cmpI; intro h1 h2; split at h1 <;> (try split at h1) <;> split at h2 <;> (try split at h2) <;> split <;> (try split) <;> omega⟩

theorem cb_anti : ∀ a b : List UInt8, Lib.compareBytes b a = - Lib.compareBytes a b
  | [], [] => rfl
  | [], _ :: _ => rfl
  | _ :: _, [] => rfl
  | x :: a, y :: b => by
    have ih := cb_anti a b
    simp only [Lib.compareBytes]
    by_cases h1 : x < y
    · have h2 : ¬ y < x := UInt8.lt_asymm h1
      simp [h1, h2]
    · by_cases h2 : y < x
      · simp [h1, h2]
      · simp [h1, h2, ih]

theorem cb_zero : ∀ a b : List UInt8, Lib.compareBytes a b = 0 ↔ a = b
  | [], [] => by simp [Lib.compareBytes]
  | [], _ :: _ => by simp [Lib.compareBytes]
  | _ :: _, [] => by simp [Lib.compareBytes]
  | x :: a, y :: b => by
    have ih := cb_zero a b
    simp only [Lib.compareBytes]
    by_cases h1 : x < y
    · have : x ≠ y := fun e => UInt8.lt_irrefl y (e ▸ h1)
      simp [h1, this]
    · by_cases h2 : y < x
      · have : x ≠ y := fun e => UInt8.lt_irrefl x (e ▸ h2)
        simp [h1, h2, this]
      · have : x = y := UInt8.le_antisymm (UInt8.not_lt.1 h2) (UInt8.not_lt.1 h1)
        subst this
        simp [ih]

theorem cb_rng : ∀ a b : List UInt8, -1 ≤ Lib.compareBytes a b ∧ Lib.compareBytes a b ≤ 1
  | [], [] => by simp [Lib.compareBytes]
  | [], _ :: _ => by simp [Lib.compareBytes]
  | _ :: _, [] => by simp [Lib.compareBytes]
  | x :: a, y :: b => by
    have ih := cb_rng a b
    simp only [Lib.compareBytes]
    split
    · omega
    · split
      · omega
      · exact ih

theorem cb_tr : ∀ a b d : List UInt8, Lib.compareBytes a b ≤ 0 → Lib.compareBytes b d ≤ 0 → Lib.compareBytes a d ≤ 0
  | [], _, [] => by simp [Lib.compareBytes]
  | [], _, _ :: _ => by simp [Lib.compareBytes]
  | _ :: _, [], _ => by simp [Lib.compareBytes]
  | _ :: _, _ :: _, [] => by simp [Lib.compareBytes]
  | x :: a, y :: b, z :: d => by
    have ih := cb_tr a b d
    simp only [Lib.compareBytes]
    intro h1 h2
    by_cases hxy : x < y
    · by_cases hyz : y < z
      · have : x < z := UInt8.lt_trans hxy hyz
        simp [this]
      · by_cases hzy : z < y
        · simp [hyz, hzy] at h2
        · have : y = z := UInt8.le_antisymm (UInt8.not_lt.1 hzy) (UInt8.not_lt.1 hyz)
          subst this
          simp [hxy]
    · by_cases hyx : y < x
      · simp [hxy, hyx] at h1
      · have : x = y := UInt8.le_antisymm (UInt8.not_lt.1 hyx) (UInt8.not_lt.1 hxy)
        subst this
        simp only [UInt8.lt_irrefl, if_false] at h1
        by_cases hyz : x < z
        · simp [hyz]
        · by_cases hzy : z < x
          · simp [hyz, hzy] at h2
          · simp only [hyz, hzy, if_false] at h2 ⊢
            exact ih h1 h2

theorem cb_good : Good Lib.compareBytes := ⟨cb_anti, cb_zero, cb_rng, cb_tr⟩

theorem lex_good {α β : Type} {c : α → α → Int} {e : β → β → Int} (hc : Good c) (he : Good e) : Good (fun (p q : α × β) => if c p.1 q.1 = 0 then e p.2 q.2 else c p.1 q.1) := by
  refine ⟨fun p q => ?_, fun p q => ?_, fun p q => ?_, fun p q r => ?_⟩
  · have h1 := hc.anti p.1 q.1
    have h2 := he.anti p.2 q.2
    by_cases h : c p.1 q.1 = 0
    · have h' : c q.1 p.1 = 0 := by omega
      simp [h, h', h2]
    · have h' : ¬ c q.1 p.1 = 0 := by omega
      simp only [h', h, if_false]
      exact h1
  · have h1 := hc.zero p.1 q.1
    have h2 := he.zero p.2 q.2
    by_cases h : c p.1 q.1 = 0
    · simp only [h, if_true]
      rw [h2]
      exact ⟨fun e2 => Prod.ext (h1.1 h) e2, fun e2 => congrArg Prod.snd e2⟩
    · simp only [h, if_false]
      exact ⟨fun x => x.elim, fun e2 => h (h1.2 (congrArg Prod.fst e2))⟩
  · have h1 := hc.rng p.1 q.1
    have h2 := he.rng p.2 q.2
    split <;> omega
  · intro h1 h2
    by_cases a : c p.1 q.1 = 0
    · have ea := (hc.zero _ _).1 a
      rw [if_pos a] at h1
      rw [ea]
      split
      · rename_i b
        rw [if_pos b] at h2
        exact he.tr _ _ _ h1 h2
      · rename_i b
        rw [if_neg b] at h2
        exact h2
    · rw [if_neg a] at h1
      have h3 : c q.1 r.1 ≤ 0 := by
        split at h2
        · omega
        · exact h2
      have h4 := hc.tr _ _ _ h1 h3
      have h5 : c p.1 r.1 ≠ 0 := by
        intro z
        have ez := (hc.zero _ _).1 z
        have := hc.anti p.1 q.1
        rw [ez] at this
        rw [ez] at h1 a
        omega
      rw [if_neg h5]
      exact h4

def val3 (p q : Int × Int × List UInt8) : Int := orI (cmpI p.1 q.1) (cmpI p.2.1 q.2.1) (Lib.compareBytes p.2.2 q.2.2)
theorem val3_good : Good val3 := lex_good cmpI_good (lex_good cmpI_good cb_good)
end Go.Proofs.Ytbepekgaipipjaa
