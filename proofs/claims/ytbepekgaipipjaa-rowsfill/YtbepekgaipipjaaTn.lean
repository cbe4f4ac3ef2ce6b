/- Changes under a table whose index is only cleared, and its filling. -/
import Derived.Test.YtbepekgaipipjaaTm
namespace Go.Proofs.Ytbepekgaipipjaa
open Go.RowKit Go.Maps
def exG (E : Nat → ByteArray) (old new : Option Nat) : List (ByteArray × Bool) :=
  match old with
    | some b => if new = some b then [] else [(E b, true)]
    | none => []
theorem exG_sub {E : Nat → ByteArray} {old new : Option Nat} {P : ByteArray → Prop} (x : ByteArray) : (exG E old new).foldl stK P x ↔ (P x ∧ ∀ b, old = some b → new ≠ some b → x ≠ E b) := by
  cases old with
  | none => simp [exG]
  | some b =>
    cases new with
    | none => simp [exG, stK]
    | some c =>
      by_cases e : c = b
      · subst e
        simp [exG]
      · simp [exG, stK, e]
theorem gone_keys {k : Nat} {old new : Option Nat} (hk : k < 4) (ho : O3 old) (hn : O3 new) : wrK (changesP (tab 1) (rowO k old) (rowO k new)) = exG (entB k) old new := by
  rcases (show k = 0 ∨ k = 1 ∨ k = 2 ∨ k = 3 by omega) with rfl | rfl | rfl | rfl <;> rcases ho with rfl | rfl | rfl | rfl <;> rcases hn with rfl | rfl | rfl | rfl <;> kernel_rfl
theorem step_sub {R : Nat → List Ce} {P : ByteArray → Prop} {k : Nat} {old new : Option Nat} (hk : k < 4) (hn : O3 new) (hR : R k = rowO k old) (hP : ∀ x, P x → WtB R 4 x) (x : ByteArray) (h : (P x ∧ ∀ b, old = some b → new ≠ some b → x ≠ entB k b) ∨ ∃ c, new = some c ∧ x = entB k c) : WtB (updR R k (rowO k new)) 4 x := by
  rcases h with ⟨hp, hc⟩ | ⟨c, rfl, rfl⟩
  · obtain ⟨j, b, hj, hb, e, rfl⟩ := hP _ hp
    by_cases q : j = k
    · subst q
      have e2 : old = some b := by
        rw [hR] at e
        cases old with
        | none => cases e
        | some b' => rw [rowC_inj (show rowC j b' = rowC j b from e)]
      by_cases e3 : new = some b
      · exact ⟨j, b, hj, hb, by rw [e3]; simp [updR, rowO], rfl⟩
      · exact absurd rfl (hc b e2 e3)
    · exact ⟨j, b, hj, hb, by simp [updR, q, e], rfl⟩
  · exact ⟨k, c, hk, hn.lt, by simp [updR, rowO], rfl⟩
/-- A world whose index holds none but the rows' entries. -/
def Bf (X : World) (A M N : Nat) : Prop := ∃ R P m, RowsK R ∧ (∀ x, P x → WtB R 4 x) ∧ Wd X A M N m R P
theorem sub_do {X : World} {A M N : Nat} (h : Bf X A M N) (hN : N ≤ 1000000) (key v : Int) (gone nw : Bool) {st : Int} (hst : st = 1 ∨ st = 2) :
    Calls Try.prog 35 #[.pointer (some ⟨A, 0, none⟩), .agg #[.int .i64 key, .int .i64 v, .bool gone, .bool nw], .int .i64 st] X fun e X' => e = .returned (.tuple #[]) ∧ Bf X' A M (N + 3) ∧ Fr X X' (fun j => j = A ∨ j = M) := by
  obtain ⟨R, P, m, hR, hP, hw⟩ := h
  obtain ⟨kk, hk4, hk⟩ := mod_of key 4 (.inl rfl)
  obtain ⟨vv, hv3, hv⟩ := mod_of v 3 (.inr rfl)
  have k4 : kk < 4 := by omega
  have v3 : vv < 3 := by omega
  refine (do_any hw hR.small hN k4 v3 hk hv).mono ?_
  rintro e X' ⟨rfl, hw', hf⟩
  obtain ⟨old, hO, hRo⟩ : ∃ old, O3 old ∧ R kk = rowO kk old := by
    rcases hR kk with e | ⟨b, _, hb, e⟩
    · exact ⟨none, .inl rfl, e⟩
    · exact ⟨some b, O3.of hb, e⟩
  obtain ⟨new, hNw, hNo⟩ : ∃ new, O3 new ∧ nextR (kk : Int) (vv : Int) gone = rowO kk new := by
    cases gone
    · exact ⟨some vv, O3.of v3, rfl⟩
    · exact ⟨none, .inl rfl, rfl⟩
  have hK := hR.upd k4 v3 gone
  rw [hNo] at hw' hK
  refine ⟨rfl, ⟨_, _, _, hK, fun x hx => step_sub k4 hNw hRo hP x ?_, hw'⟩, hf⟩
  rw [foS_keys, hRo] at hx
  rcases hst with rfl | rfl
  · rw [gone_keys k4 hO hNw] at hx
    exact .inl ((exG_sub x).1 hx)
  · rw [(exact_keys k4 hO hNw).1] at hx
    exact (exK_iff x).1 hx
theorem fill_do {X : World} {A M N m : Nat} {R : Nat → List Ce} {P : ByteArray → Prop} (hw : Wd X A M N m R P) (hR : RowsK R) (hN : N ≤ 1000000) {i b : Nat} (hi : i < 4) (hb : b < 3) (hRi : R i = rowC i b) :
    Calls Try.prog 35 #[.pointer (some ⟨A, 0, none⟩), .agg #[.int .i64 (i : Int), .int .i64 (b : Int), .bool false, .bool false], .int .i64 2] X fun e X' => e = .returned (.tuple #[]) ∧ (∃ m' P', Wd X' A M (N + 3) m' R P' ∧ ∀ x, P' x ↔ (P x ∨ x = entB i b)) ∧ Fr X X' (fun j => j = A ∨ j = M) := by
  have hk : wrap64 ((IntKind.u64.wrap (i : Int)).tmod 4) = (i : Int) := by
    rcases (show i = 0 ∨ i = 1 ∨ i = 2 ∨ i = 3 by omega) with rfl | rfl | rfl | rfl <;> kernel_rfl
  have hv : wrap64 ((IntKind.u64.wrap (b : Int)).tmod 3) = (b : Int) := by
    rcases (show b = 0 ∨ b = 1 ∨ b = 2 by omega) with rfl | rfl | rfl <;> kernel_rfl
  refine (do_any hw hR.small hN hi hb hk hv).mono ?_
  rintro e X' ⟨rfl, hw', hf⟩
  have e1 : nextR (i : Int) (b : Int) false = rowO i (some b) := rfl
  have e2 : R i = rowO i (some b) := hRi
  have e3 : updR R i (rowO i (some b)) = R := funext fun j => by
    unfold updR
    split
    · rename_i q; rw [q, e2]
    · rfl
  rw [e1, e3] at hw'
  refine ⟨rfl, ⟨_, _, hw', fun x => ?_⟩, hf⟩
  rw [foS_keys, e2, (exact_keys hi (O3.of hb) (O3.of hb)).1, exK_iff]
  constructor
  · rintro (⟨h, _⟩ | ⟨c, hc, rfl⟩)
    · exact .inl h
    · cases hc; exact .inr rfl
  · rintro (h | rfl)
    · exact .inl ⟨h, fun b' h1 h2 => absurd h1 h2⟩
    · exact .inr ⟨b, rfl, rfl⟩
end Go.Proofs.Ytbepekgaipipjaa
