/- Two bags, a list of letters, and blocks that stay. -/
import Derived.Test.YtgmlfldjmnoecaaGh
import Derived.Test.YtgmlfldjmnoecaaGg
import Derived.Test.YtgmlfldjmnoecaaPa
namespace Go.Proofs.Ytgmlfldjmnoecaa
open Go.RowKit

def Tw (w0 w : World) (A B : Nat) (P Q : List Lt) (v : Value) (M : List Lt) (K : List (Nat × Obj)) : Prop :=
  ∃ X, Bg w0 w A P v M K X ∧ Ps w B X Q ∧ (∀ k, X k → w0.heap.size ≤ k) ∧ ∀ p ∈ K, ¬ X p.1
section
variable {w0 w w' : World} {A B : Nat} {P P' Q Q' M M' : List Lt} {K K' : List (Nat × Obj)} {X : Nat → Prop} {v v' : Value}
theorem Tw.below (h : Tw w0 w A B P Q v M K) : Below w0.heap.size w0 w := by
  obtain ⟨X, h, _⟩ := h
  exact h.below
theorem Tw.row (h : Tw w0 w A B P Q v M K) : w.ownsRow w0.heap.size 28 3 v M.length (ltC M) := by
  obtain ⟨X, h, _⟩ := h
  exact h.row
theorem Tw.blk (h : Tw w0 w A B P Q v M K) : ∀ p ∈ K, w.heap[p.1]? = some p.2 := by
  obtain ⟨X, h, _⟩ := h
  exact h.blk
theorem Tw.swap (h : Tw w0 w A B P Q v M K) : Tw w0 w B A Q P v M K := by
  obtain ⟨X, ⟨S, h1, h2, h3, h4, h5, h6, h7⟩, g1, g2, g3⟩ := h
  exact ⟨S, ⟨X, g1, g2, h3, h4, fun k hk q => (h7 k q).2.2 hk, fun p hp => ⟨(h6 p hp).1, g3 p hp, (h6 p hp).2.2⟩, fun k hk => ⟨h1.lt k hk, fun q => (h7 k q).2.1 hk, fun q => h5 k q hk⟩⟩, h1, h2, fun p hp => (h6 p hp).2.1⟩
theorem Tw.on (h : Tw w0 w A B P Q v M K) (hb : Below w.heap.size w w') : Tw w0 w' A B P Q v M K := by
  obtain ⟨X, h1, h2, h3, h4⟩ := h
  exact ⟨X, h1.on hb, h2.on hb, h3, h4⟩
theorem Tw.box (h : Tw w0 w A B P Q v M K) (o : Obj) : Tw w0 (w.alloc o) A B P Q v M ((w.heap.size, o) :: K) := by
  have hal : Below w.heap.size w (w.alloc o) := (Below.refl _ w).alloc (Nat.le_refl _) _
  obtain ⟨X, h1, h2, h3, h4⟩ := h
  refine ⟨X, h1.box o, h2.on hal, h3, fun p hp => ?_⟩
  rcases List.mem_cons.1 hp with rfl | hp
  · intro q
    have q1 : w.heap.size < w.heap.size := h2.lt w.heap.size q
    omega
  · exact h4 p hp
theorem Tw.sub (h : Tw w0 w A B P Q v M K) (hK : ∀ p ∈ K', p ∈ K) : Tw w0 w A B P Q v M K' := by
  obtain ⟨X, h1, h2, h3, h4⟩ := h
  exact ⟨X, h1.sub hK, h2, h3, fun p hp => h4 p (hK p hp)⟩
theorem Tw.drewN (h : Tw w0 w A B P Q v M K) (k : Nat) : Tw w0 (w.drewN k) A B P Q v M K := h.on (below_draw (Below.refl _ _) k)
theorem tw_send (h : Tw w0 w A B P Q v M K) (hf : P.length < 900000) (l : Lt) : Calls Try.prog 9 #[.pointer (some ⟨A, 0, none⟩), ltV l] w fun e w' => e = .returned (.tuple #[]) ∧ Tw w0 w' A B (P ++ [l]) Q v M K := by
  obtain ⟨X, h1, h2, h3, h4⟩ := h
  refine (bg_send h1 hf l).mono ?_
  rintro e w' ⟨rfl, hB, hfr⟩
  exact ⟨rfl, X, hB, h2.stays hfr (fun b hb q => q hb), h3, h4⟩
theorem tw_take (h : Tw w0 w A B P Q v M K) (i : Int) : Calls Try.prog 10 #[.pointer (some ⟨A, 0, none⟩), .int .i64 i] w fun e w' => e = .returned (.tuple #[ltV (atL P i), .bool (isL P i)]) ∧ Tw w0 w' A B (remL P i) Q v M K := by
  obtain ⟨X, h1, h2, h3, h4⟩ := h
  refine (bg_take h1 i).mono ?_
  rintro e w' ⟨rfl, hB, hfr⟩
  exact ⟨rfl, X, hB, h2.stays hfr (fun b hb q => q hb), h3, h4⟩
theorem tw_len (h : Tw w0 w A B P Q v M K) : Calls Try.prog 14 #[.pointer (some ⟨A, 0, none⟩)] w fun e w' => e = .returned (.int .i64 P.length) ∧ w' = w := by
  obtain ⟨X, h1, _⟩ := h
  exact bg_len h1
theorem Tw.renew (h : Tw w0 w A B P Q v M K) (hr : w'.ownsRow w.heap.size 28 3 v' M'.length (ltC M')) (hb : Below w.heap.size w w') : Tw w0 w' A B P Q v' M' K := by
  obtain ⟨X, h1, h2, h3, h4⟩ := h
  exact ⟨X, h1.renew hr hb, h2.on hb, h3, h4⟩
theorem tw_without {ad : Option Addr} {cap : Nat} (h : Tw w0 w A B P Q (.slice ad M.length cap) M K) (hf : M.length ≤ 900000) (i : Int) :
    Calls Try.prog 13 #[.slice ad M.length cap, .int .i64 i] w fun e w' => ∃ v', e = .returned v' ∧ Tw w0 w' A B P Q v' (remL M i) K := by
  obtain ⟨ad', cap', e, hL⟩ := Lk.own h.row
  cases e
  refine (without_any hL hf i).mono ?_
  rintro e w' ⟨v', rfl, hr, hb⟩
  exact ⟨v', rfl, h.renew hr hb⟩
theorem tw_new (hw : Below w0.heap.size w0 w) (h : Bk w0 w A [] []) : Calls Try.prog 8 #[] w fun e w' => ∃ B, e = .returned (.pointer (some ⟨B, 0, none⟩)) ∧ Tw w0 w' A B [] [] (.slice none 0 0) [] [] := by
  obtain ⟨S, h1, h2, h3, _⟩ := h
  refine (new_any w).mono ?_
  rintro e w' ⟨rfl, hp, hb⟩
  refine ⟨_, rfl, _, ⟨S, h1.on hb, h2, h3.trans (hb.mono h3.size), World.ownsRow_nil _ _ _ _, (fun k hk => by cases hk), (fun p hp => by cases hp), fun k hk => ?_⟩, hp, fun k hk => ?_, fun p hp => by cases hp⟩
  · have e : k = w.heap.size := hk
    refine ⟨hp.lt k hk, fun q => ?_, fun q => by cases q⟩
    have := h1.lt k q
    omega
  · have e : k = w.heap.size := hk
    have := hw.size
    omega
end
theorem own_empty (w : World) : (w.alloc (.cells #[] 28)).ownsRow w.heap.size 28 3 (.slice (some ⟨w.heap.size, 0, none⟩) 0 0) 0 [] :=
  ⟨rfl, .inr ⟨w.heap.size, 0, #[], rfl, Nat.le_refl _, heap_alloc_new w _, Nat.le_refl _, Nat.zero_le _, rfl, rfl⟩⟩
theorem ltC_cell (L : List Lt) : ∀ (j : Nat) (u : Value), (ltC L)[j]? = some u → ∃ (i : Nat) (h : i < L.length), (j = i * 3 ∧ u = .int .i64 L[i].fr) ∨ (j = i * 3 + 1 ∧ u = .int .i64 L[i].to) ∨ (j = i * 3 + 2 ∧ u = .string L[i].text) := by
  intro j u hu
  have hj : j < L.length * 3 := by
    have := (List.getElem?_eq_some_iff.1 hu).1
    rwa [ltC_len] at this
  have hi : j / 3 < L.length := by omega
  obtain ⟨a, b, c⟩ := ltC_get L (j / 3) hi
  refine ⟨j / 3, hi, ?_⟩
  have h3 : j = j / 3 * 3 ∨ j = j / 3 * 3 + 1 ∨ j = j / 3 * 3 + 2 := by omega
  rcases h3 with e | e | e
  · rw [← e] at a
    rw [hu] at a
    exact .inl ⟨e, by simpa using a⟩
  · rw [← e] at b
    rw [hu] at b
    exact .inr (.inl ⟨e, by simpa using b⟩)
  · rw [← e] at c
    rw [hu] at c
    exact .inr (.inr ⟨e, by simpa using c⟩)
/-- append([]api.Letter{}, list...) -/
theorem letters_copy {L : List Lt} {ad : Option Addr} {cap : Nat} {w : World} (hL : Lk L ad w) (hz : L.length ≤ 900000) (hc : ad = none → cap = 0) :
    ∃ v' w', (Builtin.append_ #[26, 26] 26 #[.slice (some ⟨w.heap.size, 0, none⟩) 0 0, .slice ad L.length cap]).run Try.prog (w.alloc (.cells #[] 28)) = .ok v' w' ∧ w'.ownsRow w.heap.size 28 3 v' L.length (ltC L) ∧ Below w.heap.size w w' := by
  have hal : Below w.heap.size w (w.alloc (.cells #[] 28)) := (Below.refl _ w).alloc (Nat.le_refl _) _
  have hL1 := hL.on hal
  have hs : (ad = none ∧ L.length = 0 ∧ cap = 0 ∧ ltC L = []) ∨ ∃ a, ad = some a ∧ (ltC L).length = L.length * 3 ∧ (∀ j u, (ltC L)[j]? = some u → (w.alloc (.cells #[] 28)).cell? (a.add j) = some u) := by
    cases had : ad with
    | none =>
      have h0 : L = [] := by
        rcases L with _ | ⟨l, L⟩
        · rfl
        · obtain ⟨b, o, e, _⟩ := hL.at' 0 (by simp)
          rw [had] at e
          cases e
      subst h0
      exact .inl ⟨rfl, rfl, hc had, rfl⟩
    | some a =>
      refine .inr ⟨a, rfl, ltC_len L, fun j u hu => ?_⟩
      obtain ⟨i, hi, h⟩ := ltC_cell L j u hu
      obtain ⟨b, o, e, _, c0, c1, c2⟩ := hL1.at' i hi
      rw [had] at e
      cases e
      rw [add_at]
      rcases h with ⟨rfl, rfl⟩ | ⟨rfl, rfl⟩ | ⟨rfl, rfl⟩
      · exact c0
      · exact c1
      · exact c2
  obtain ⟨v', w', hrun, ho, hg, _⟩ := letters_run (w := w.alloc (.cells #[] 28)) (c := cap) (own_empty w) hal.size hs (ltC_one _) (by omega)
  simp only [Nat.zero_add, List.nil_append] at ho
  exact ⟨v', w', hrun, ho, hal.grown hg hal.size (fun k hk => ((own_empty w).lt k hk).1)⟩
end Go.Proofs.Ytgmlfldjmnoecaa
