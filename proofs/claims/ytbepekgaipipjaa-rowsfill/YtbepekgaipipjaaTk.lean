/- Changes under a table whose index is written: the entries are those of the rows. -/
import Derived.Test.YtbepekgaipipjaaTj
namespace Go.Proofs.Ytbepekgaipipjaa
open Go.RowKit Go.Maps
def wrK (Ws : List Wr) : List (ByteArray × Bool) := (Ws.filter fun x => inX x.key).map fun x => (x.key, x.dead)
def stK (P : ByteArray → Prop) (p : ByteArray × Bool) : ByteArray → Prop := if p.2 = true then (fun j => P j ∧ j ≠ p.1) else (fun j => P j ∨ j = p.1)
theorem foS_keys (Ws : List Wr) : ∀ s : (ByteArray → Prop) × Nat, (foS Ws s).1 = (wrK Ws).foldl stK s.1 := by
  induction Ws with
  | nil => exact fun _ => rfl
  | cons a L ih =>
    intro s
    have e : foS (a :: L) s = foS L (stS s a) := rfl
    rw [e, ih]
    by_cases h : inX a.key = true
    · have e2 : wrK (a :: L) = (a.key, a.dead) :: wrK L := by unfold wrK; rw [List.filter_cons_of_pos (by exact h)]; rfl
      rw [e2, List.foldl_cons]
      have e3 : (stS s a).1 = stK s.1 (a.key, a.dead) := by
        unfold stS stK
        rw [if_pos h]
        by_cases hd : a.dead = true
        · rw [if_pos hd, if_pos hd]
        · rw [if_neg hd, if_neg hd]
      rw [e3]
    · have e2 : wrK (a :: L) = wrK L := by unfold wrK; rw [List.filter_cons_of_neg (by exact h)]
      rw [e2]
      have e3 : stS s a = s := by unfold stS; rw [if_neg h]
      rw [e3]
def rowO (k : Nat) : Option Nat → List Ce
  | none => []
  | some b => rowC k b
def exE (E : Nat → ByteArray) (old new : Option Nat) : List (ByteArray × Bool) :=
  (match old with
    | some b => if new = some b then [] else [(E b, true)]
    | none => []) ++ (match new with
    | some c => [(E c, false)]
    | none => [])
theorem exE_iff {E : Nat → ByteArray} {old new : Option Nat} {P : ByteArray → Prop} (x : ByteArray) : (exE E old new).foldl stK P x ↔ ((P x ∧ ∀ b, old = some b → new ≠ some b → x ≠ E b) ∨ ∃ c, new = some c ∧ x = E c) := by
  cases old with
  | none =>
    cases new with
    | none => simp [exE]
    | some c => simp [exE, stK]
  | some b =>
    cases new with
    | none => simp [exE, stK]
    | some c =>
      by_cases e : c = b
      · subst e
        simp [exE, stK]
      · simp [exE, stK, e]
def exK (k : Nat) (old new : Option Nat) : List (ByteArray × Bool) := exE (entB k) old new
def O3 (o : Option Nat) : Prop := o = none ∨ o = some 0 ∨ o = some 1 ∨ o = some 2
theorem O3.of {b : Nat} (h : b < 3) : O3 (some b) := by
  rcases (show b = 0 ∨ b = 1 ∨ b = 2 by omega) with rfl | rfl | rfl
  · exact .inr (.inl rfl)
  · exact .inr (.inr (.inl rfl))
  · exact .inr (.inr (.inr rfl))
theorem O3.lt {b : Nat} (h : O3 (some b)) : b < 3 := by
  rcases h with h | h | h | h <;> cases h <;> decide
theorem exact_keys {k : Nat} {old new : Option Nat} (hk : k < 4) (ho : O3 old) (hn : O3 new) : wrK (changesP (tab 2) (rowO k old) (rowO k new)) = exK k old new ∧ wrK (changesP (tab 3) (rowO k old) (rowO k new)) = exK k old new := by
  rcases (show k = 0 ∨ k = 1 ∨ k = 2 ∨ k = 3 by omega) with rfl | rfl | rfl | rfl <;> rcases ho with rfl | rfl | rfl | rfl <;> rcases hn with rfl | rfl | rfl | rfl <;> exact ⟨by kernel_rfl, by kernel_rfl⟩
theorem entB_ne {j k b c : Nat} (hj : j < 4) (hk : k < 4) (hb : b < 3) (hc : c < 3) (h : j ≠ k) : entB j b ≠ entB k c := by
  have q : (encS [nv 1, nv 4, nv b, nv j] == encS [nv 1, nv 4, nv c, nv k]) = false := by
    rcases (show b = 0 ∨ b = 1 ∨ b = 2 by omega) with rfl | rfl | rfl <;> rcases (show c = 0 ∨ c = 1 ∨ c = 2 by omega) with rfl | rfl | rfl <;> rcases (show j = 0 ∨ j = 1 ∨ j = 2 ∨ j = 3 by omega) with rfl | rfl | rfl | rfl <;> rcases (show k = 0 ∨ k = 1 ∨ k = 2 ∨ k = 3 by omega) with rfl | rfl | rfl | rfl <;> first | exact absurd rfl h | kernel_rfl
  intro e
  have e2 : encS [nv 1, nv 4, nv b, nv j] = encS [nv 1, nv 4, nv c, nv k] := by
    have := congrArg (fun z : ByteArray => z.data.toList) e
    simpa only [entB, bs_data] using this
  rw [e2] at q
  simp at q
theorem exK_iff {k : Nat} {old new : Option Nat} {P : ByteArray → Prop} (x : ByteArray) : (exK k old new).foldl stK P x ↔ ((P x ∧ ∀ b, old = some b → new ≠ some b → x ≠ entB k b) ∨ ∃ c, new = some c ∧ x = entB k c) := exE_iff x
theorem step_exact {R : Nat → List Ce} {P : ByteArray → Prop} {k : Nat} {old new : Option Nat} (hk : k < 4) (hn : O3 new) (ho : O3 old) (hR : R k = rowO k old) (hP : ∀ x, P x ↔ WtB R 4 x) (x : ByteArray) : (exK k old new).foldl stK P x ↔ WtB (updR R k (rowO k new)) 4 x := by
  rw [exK_iff]
  constructor
  · rintro (⟨hp, hc⟩ | ⟨c, rfl, rfl⟩)
    · obtain ⟨j, b, hj, hb, e, rfl⟩ := (hP _).1 hp
      by_cases q : j = k
      · subst q
        have e2 : old = some b := by
          rw [hR] at e
          cases old with
          | none => cases e
          | some b' => rw [rowC_inj (show rowC j b' = rowC j b from e)]
        by_cases e3 : new = some b
        · exact ⟨j, b, hj, hb, by rw [e3]; simp [updR, rowO], rfl⟩
        · exact absurd rfl (hc b e2 e3)
      · exact ⟨j, b, hj, hb, by simp [updR, q, e], rfl⟩
    · exact ⟨k, c, hk, hn.lt, by simp [updR, rowO], rfl⟩
  · rintro ⟨j, b, hj, hb, e, rfl⟩
    by_cases q : j = k
    · subst q
      simp only [updR, if_true] at e
      cases new with
      | none => cases e
      | some c => exact .inr ⟨c, rfl, by rw [rowC_inj (show rowC j c = rowC j b from e)]⟩
    · simp only [updR, if_neg q] at e
      exact .inl ⟨(hP _).2 ⟨j, b, hj, hb, e, rfl⟩, fun b' h1 _ => entB_ne hj hk hb (by rw [h1] at ho; exact ho.lt) q⟩
/-- A world whose index holds the rows' entries. -/
def Be (X : World) (A M N : Nat) : Prop := ∃ R P m, RowsK R ∧ (∀ x, P x ↔ WtB R 4 x) ∧ Wd X A M N m R P
theorem exact_do {X : World} {A M N : Nat} (h : Be X A M N) (hN : N ≤ 1000000) (key v : Int) (gone nw : Bool) {st : Int} (hst : st = 2 ∨ st = 3) :
    Calls Try.prog 35 #[.pointer (some ⟨A, 0, none⟩), .agg #[.int .i64 key, .int .i64 v, .bool gone, .bool nw], .int .i64 st] X fun e X' => e = .returned (.tuple #[]) ∧ Be X' A M (N + 3) ∧ Fr X X' (fun j => j = A ∨ j = M) := by
  obtain ⟨R, P, m, hR, hP, hw⟩ := h
  obtain ⟨kk, hk4, hk⟩ := mod_of key 4 (.inl rfl)
  obtain ⟨vv, hv3, hv⟩ := mod_of v 3 (.inr rfl)
  have k4 : kk < 4 := by omega
  have v3 : vv < 3 := by omega
  refine (do_any hw hR.small hN k4 v3 hk hv).mono ?_
  rintro e X' ⟨rfl, hw', hf⟩
  obtain ⟨old, hO, hRo⟩ : ∃ old, O3 old ∧ R kk = rowO kk old := by
    rcases hR kk with e | ⟨b, _, hb, e⟩
    · exact ⟨none, .inl rfl, e⟩
    · exact ⟨some b, O3.of hb, e⟩
  obtain ⟨new, hNw, hNo⟩ : ∃ new, O3 new ∧ nextR (kk : Int) (vv : Int) gone = rowO kk new := by
    cases gone
    · exact ⟨some vv, O3.of v3, rfl⟩
    · exact ⟨none, .inl rfl, rfl⟩
  have hK := hR.upd k4 v3 gone
  rw [hNo] at hw' hK
  refine ⟨rfl, ⟨_, _, _, hK, fun x => ?_, hw'⟩, hf⟩
  have q := exact_keys k4 hO hNw
  rw [foS_keys, hRo]
  rcases hst with rfl | rfl
  · rw [q.1]; exact step_exact k4 hNw hO hRo hP x
  · rw [q.2]; exact step_exact k4 hNw hO hRo hP x
end Go.Proofs.Ytbepekgaipipjaa
