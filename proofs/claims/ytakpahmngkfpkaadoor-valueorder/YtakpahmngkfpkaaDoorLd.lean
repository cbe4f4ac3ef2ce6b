/- The statement ValueOrder answers true at every three values: the walks and the plain facts on the order, joined. -/
import Derived.Test.YtakpahmngkfpkaaDoorLc
import Derived.Lib.Strings
namespace Go.Proofs.YtakpahmngkfpkaaDoor
open Go.RowKit

theorem ba_ext {s t : ByteArray} (h : s.data.toList = t.data.toList) : s = t := by
  obtain ⟨⟨l⟩⟩ := s
  obtain ⟨⟨m⟩⟩ := t
  simp at h
  subst h
  rfl

theorem order_any (k n : Int) (s : ByteArray) (k' n' : Int) (s' : ByteArray) (k2 n2 : Int) (s2 : ByteArray) (w : World) (hg : Gd w) :
    Calls Tryd.prog 8 #[.agg #[.int .i64 k, .int .i64 n, .string s], .agg #[.int .i64 k', .int .i64 n', .string s'], .agg #[.int .i64 k2, .int .i64 n2, .string s2]] w fun e w' => e = .returned (.bool true) ∧ Below w.heap.size w w' := by
  have G := val3_good
  have eab : valCmp k n s k' n' s' = val3 (k, n, s.data.toList) (k', n', s'.data.toList) := rfl
  have eba : valCmp k' n' s' k n s = val3 (k', n', s'.data.toList) (k, n, s.data.toList) := rfl
  have ebc : valCmp k' n' s' k2 n2 s2 = val3 (k', n', s'.data.toList) (k2, n2, s2.data.toList) := rfl
  have eac : valCmp k n s k2 n2 s2 = val3 (k, n, s.data.toList) (k2, n2, s2.data.toList) := rfl
  have r := G.rng (k, n, s.data.toList) (k', n', s'.data.toList)
  have an := G.anti (k, n, s.data.toList) (k', n', s'.data.toList)
  by_cases h0 : valCmp k n s k' n' s' = 0
  · have e := (G.zero _ _).1 (eab ▸ h0)
    simp only [Prod.mk.injEq] at e
    obtain ⟨rfl, rfl, e3⟩ := e
    have e4 := ba_ext e3
    subst e4
    refine order_same k n s k2 n2 s2 w hg (Lib.hid ?_)
    rcases Int.lt_trichotomy (valCmp k n s k2 n2 s2) 0 with h | h | h
    · exact Or.inl ⟨h0, h⟩
    · exact Or.inr (Or.inl ⟨h0, h⟩)
    · exact Or.inr (Or.inr ⟨h0, h⟩)
  · have HN : Hid (k = k' → n = n' → s.toList = s'.toList → False) := by
      intro e1 e2 e3
      rw [Lib.toList_data, Lib.toList_data] at e3
      exact h0 (eab.trans ((G.zero _ _).2 (by rw [e1, e2, e3])))
    refine order_apart k n s k' n' s' k2 n2 s2 w hg HN (Lib.hid ?_)
    rw [← eab] at r an
    rw [← eba] at an
    rcases (show valCmp k n s k' n' s' = 1 ∨ valCmp k n s k' n' s' = -1 by omega) with h1 | h1
    · by_cases hy : valCmp k' n' s' k2 n2 s2 < 0
      · exact Or.inl ⟨h1, by omega, hy⟩
      · refine Or.inr (Or.inl ⟨h1, by omega, hy, ?_⟩)
        have a1 := G.anti (k', n', s'.data.toList) (k2, n2, s2.data.toList)
        have a2 := G.anti (k, n, s.data.toList) (k2, n2, s2.data.toList)
        have t := G.tr (k2, n2, s2.data.toList) (k', n', s'.data.toList) (k, n, s.data.toList) (by rw [a1, ← ebc]; omega) (by rw [← eba]; omega)
        rw [a2, ← eac] at t
        omega
    · by_cases hy : 0 < valCmp k' n' s' k2 n2 s2
      · exact Or.inr (Or.inr (Or.inl ⟨h1, by omega, hy⟩))
      · refine Or.inr (Or.inr (Or.inr ⟨h1, by omega, hy, ?_⟩))
        have t := G.tr (k, n, s.data.toList) (k', n', s'.data.toList) (k2, n2, s2.data.toList) (by rw [← eab]; omega) (by rw [← ebc]; omega)
        rw [← eac] at t
        exact t
end Go.Proofs.YtakpahmngkfpkaaDoor
