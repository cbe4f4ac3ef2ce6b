/- Changes under a table without an index, and with one that is not written. -/
import Derived.Test.YtbepekgaipipjaaTe
import Derived.Test.YtbepekgaipipjaaPz
namespace Go.Proofs.Ytbepekgaipipjaa
open Go.RowKit Go.Maps
def okT (Ws : List Wr) : Bool := (wrT Ws).all fun p => !p.1 || p.2
theorem foS_dead (Ws : List Wr) : ∀ s : (ByteArray → Prop) × Nat, okT Ws = true → s.2 = 0 → (∀ x, ¬ s.1 x) → (foS Ws s).2 = 0 ∧ ∀ x, ¬ (foS Ws s).1 x := by
  induction Ws with
  | nil => exact fun s _ h1 h2 => ⟨h1, h2⟩
  | cons a L ih =>
    intro s h h1 h2
    simp only [okT, wrT, List.map_cons, List.all_cons, Bool.and_eq_true] at h
    refine ih (stS s a) h.2 ?_ ?_
    · unfold stS
      split
      · rename_i hx
        rw [if_pos (by simpa [hx] using h.1), if_neg (h2 _)]
        exact h1
      · exact h1
    · unfold stS
      split
      · rename_i hx
        rw [if_pos (by simpa [hx] using h.1)]
        exact fun x q => h2 x q.1
      · exact h2
def RowsK (R : Nat → List Ce) : Prop := ∀ j, R j = [] ∨ ∃ b : Nat, j < 4 ∧ b < 3 ∧ R j = rowC j b
theorem RowsK.small {R : Nat → List Ce} (h : RowsK R) : SmallR R := fun j => by
  rcases h j with e | ⟨b, hj, hb, e⟩
  · exact .inl e
  · exact .inr ⟨j, b, ⟨by omega, by omega⟩, ⟨by omega, by omega⟩, e⟩
theorem RowsK.upd {R : Nat → List Ce} (h : RowsK R) {k v : Nat} (hk : k < 4) (hv : v < 3) (g : Bool) : RowsK (updR R k (nextR k v g)) := fun j => by
  unfold updR
  split
  · rename_i e
    subst e
    unfold nextR
    cases g
    · exact .inr ⟨v, hk, hv, rfl⟩
    · exact .inl rfl
  · exact h j
theorem absentK {k b v : Nat} (hk : k < 4) (hb : b < 3) (hv : v < 3) (g : Bool) : (okT (changesP (tab 0) [] (nextR k v g)) && okT (changesP (tab 1) [] (nextR k v g)) && okT (changesP (tab 0) (rowC k b) (nextR k v g)) && okT (changesP (tab 1) (rowC k b) (nextR k v g))) = true := by
  rcases (show k = 0 ∨ k = 1 ∨ k = 2 ∨ k = 3 by omega) with rfl | rfl | rfl | rfl <;> rcases (show v = 0 ∨ v = 1 ∨ v = 2 by omega) with rfl | rfl | rfl <;> rcases (show b = 0 ∨ b = 1 ∨ b = 2 by omega) with rfl | rfl | rfl <;> cases g <;> kernel_rfl
/-- A world whose index is empty. -/
def Bd (X : World) (A M N : Nat) : Prop := ∃ R P, RowsK R ∧ (∀ x, ¬ P x) ∧ Wd X A M N 0 R P
theorem absent_do {X : World} {A M N : Nat} (h : Bd X A M N) (hN : N ≤ 1000000) (key v : Int) (gone nw : Bool) {st : Int} (hst : st = 0 ∨ st = 1) :
    Calls Try.prog 35 #[.pointer (some ⟨A, 0, none⟩), .agg #[.int .i64 key, .int .i64 v, .bool gone, .bool nw], .int .i64 st] X fun e X' => e = .returned (.tuple #[]) ∧ Bd X' A M (N + 3) ∧ Fr X X' (fun j => j = A ∨ j = M) := by
  obtain ⟨R, P, hR, hP, hw⟩ := h
  obtain ⟨kk, hk4, hk⟩ := mod_of key 4 (.inl rfl)
  obtain ⟨vv, hv3, hv⟩ := mod_of v 3 (.inr rfl)
  have k4 : kk < 4 := by omega
  have v3 : vv < 3 := by omega
  refine (do_any hw hR.small hN k4 v3 hk hv).mono ?_
  rintro e X' ⟨rfl, hw', hf⟩
  have hok : okT (changesP (tab st) (R kk) (nextR kk vv gone)) = true := by
    rcases hR kk with e | ⟨b, _, hb, e⟩
    · have q := absentK k4 (show 0 < 3 by omega) v3 gone
      simp only [Bool.and_eq_true] at q
      rw [e]
      rcases hst with rfl | rfl
      · exact q.1.1.1
      · exact q.1.1.2
    · have q := absentK k4 hb v3 gone
      simp only [Bool.and_eq_true] at q
      rw [e]
      rcases hst with rfl | rfl
      · exact q.1.2
      · exact q.2
  obtain ⟨m0, p0⟩ := foS_dead _ (P, 0) hok rfl hP
  rw [m0] at hw'
  exact ⟨rfl, ⟨_, _, hR.upd k4 v3 gone, p0, hw'⟩, hf⟩
theorem Lr.atC {w : World} {L : List Ch} {ad : Option Addr} {n cap : Nat} (h : Lr chE 4 w L (.slice ad n cap)) : n = L.length ∧ cap ≤ maxLen ∧ L.length ≤ cap ∧ ∀ i (h : i < L.length), ∃ b o, ad = some ⟨b, o, none⟩ ∧ b < w.heap.size ∧ w.cell? ⟨b, o + i * 4, none⟩ = some (.int .i64 L[i].key) ∧ w.cell? ⟨b, o + i * 4 + 1, none⟩ = some (.int .i64 L[i].v) ∧ w.cell? ⟨b, o + i * 4 + 2, none⟩ = some (.bool L[i].gone) ∧ w.cell? ⟨b, o + i * 4 + 3, none⟩ = some (.bool L[i].nw) := by
  obtain ⟨ad', cap', e, h0, h1, h2, h3⟩ := h
  cases e
  refine ⟨rfl, h2, h1, fun i hi => ?_⟩
  obtain ⟨b, o, cs, e, hb, hE, _, hh⟩ := h3 i hi
  have hE' : cs = chL L[i] := hE
  subst hE'
  exact ⟨b, o, e, hb, hh 0 _ rfl, hh 1 _ rfl, hh 2 _ rfl, hh 3 _ rfl⟩
end Go.Proofs.Ytbepekgaipipjaa
