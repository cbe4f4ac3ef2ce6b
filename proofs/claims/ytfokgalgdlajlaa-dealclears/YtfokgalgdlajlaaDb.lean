/- The walk of awake. -/
import Derived.Test.YtfokgalgdlajlaaDa
namespace Go.Proofs.Ytfokgalgdlajlaa
open Go.RowKit
theorem aq_cell {X : World} {B g n cap : Nat} {Q : List Aq} (h : X.ownsRow B 78 31 (.slice (some ⟨g, 0, none⟩) n cap) n (Q.flatMap aqL)) {i : Nat} (hi : i < Q.length) (hn : Q.length = n) {k : Nat} (hk : k < 31) : X.cell? ⟨g, i * 31 + k, none⟩ = (aqL Q[i])[k]? := by
  rw [(own_mono h (Nat.zero_le _)).cellAt (i * 31 + k) (by
    have : (i + 1) * 31 ≤ n * 31 := Nat.mul_le_mul_right 31 (by omega)
    omega), fl_get aqL_len _ i hi k hk]
section
variable {w : World} {A B : Nat} {g0 g1 : Gp} {pa : Option Addr} {pc : Nat}
theorem asks_is0 (h : Dx w A (da0 g0 g1) pa pc pa pc) (s0 : g0.sh = 0) (s1 : g1.sh = 1) (p0 : PtIn B w g0 ⟨0, [⟨sA, sB, [⟨sA, 3⟩]⟩], []⟩) (p1 : PtIn B w g1 ⟨1, [⟨sB, sC, []⟩], [x1]⟩) : Calls Try.prog 17 #[.pointer (some ⟨A, 0, none⟩)] w fun e w' => ∃ (g cap : Nat), e = .returned (.slice (some ⟨g, 0, none⟩) 2 cap) ∧ w'.cell? ⟨g, 0, none⟩ = some (.int .i64 0) ∧ w'.cell? ⟨g, 31, none⟩ = some (.int .i64 1) ∧ (∃ h c, w'.cell? ⟨g, 9, none⟩ = some (.slice (some ⟨h, 0, none⟩) 1 c) ∧ w'.cell? ⟨h, 1, none⟩ = some (.string sB)) ∧ (∃ a c, w'.cell? ⟨g, 41, none⟩ = some (.slice a 1 c)) ∧ Below w.heap.size w w' := by
  have hin : ∀ q ∈ ([⟨(da0 g0 g1).prep g0, [⟨sA, sB, [⟨sA, 3⟩]⟩], []⟩, ⟨(da0 g0 g1).prep g1, [⟨sB, sC, []⟩], [x1]⟩] : List Aq), AqIn w q := fun q hq => by
    rcases List.mem_cons.1 hq with rfl | hq
    · exact ⟨p0.r.lr, Lr.own wrL_len p0.w, (by show 1 ≤ 900000; decide), (fun x hx => by
        obtain rfl := List.mem_singleton.1 hx
        show 1 ≤ 900000
        decide), (by show 0 ≤ 900000; decide)⟩
    · obtain rfl := List.mem_singleton.1 hq
      exact ⟨p1.r.lr, Lr.own wrL_len p1.w, (by show 1 ≤ 900000; decide), (fun x hx => by
        obtain rfl := List.mem_singleton.1 hx
        show 0 ≤ 900000
        decide), (by show 1 ≤ 900000; decide)⟩
  refine (asks_any (Q := [⟨(da0 g0 g1).prep g0, [⟨sA, sB, [⟨sA, 3⟩]⟩], []⟩, ⟨(da0 g0 g1).prep g1, [⟨sB, sC, []⟩], [x1]⟩]) h (dok_0 g0 g1) (asks_0 g0 g1).symm hin).mono ?_
  rintro e w' ⟨ad, cap, Q', rfl, hl, hrow, hpl, hown, hb⟩
  have hl2 : Q'.length = 2 := hl
  obtain ⟨g, rfl⟩ : ∃ g, ad = some ⟨g, 0, none⟩ := by
    rcases hrow.2 with ⟨_, q⟩ | ⟨g, _, _, q, _⟩
    · exact absurd q (by simp)
    · injection q with q1
      exact ⟨g, q1⟩
  obtain ⟨r0, w0, e0⟩ := hpl 0 (by show 0 < 2; decide) (by omega)
  obtain ⟨r1, w1, e1⟩ := hpl 1 (by show 1 < 2; decide) (by omega)
  have o0 := hown Q'[0] (List.getElem_mem _)
  have o1 := hown Q'[1] (List.getElem_mem _)
  have c0 : w'.cell? ⟨g, 0 * 31 + 0, none⟩ = _ := aq_cell hrow (by omega) hl (by decide)
  have c9 : w'.cell? ⟨g, 0 * 31 + 9, none⟩ = _ := aq_cell hrow (by omega) hl (by decide)
  have c31 : w'.cell? ⟨g, 1 * 31 + 0, none⟩ = _ := aq_cell hrow (by omega) hl (by decide)
  have c41 : w'.cell? ⟨g, 1 * 31 + 10, none⟩ = _ := aq_cell hrow (by omega) hl (by decide)
  rw [e0] at c0 c9 o0
  rw [e1] at c31 c41 o1
  refine ⟨g, cap, rfl, ?_, ?_, ?_, ?_, hb⟩
  · have : w'.cell? ⟨g, 0, none⟩ = some (.int .i64 g0.sh) := c0
    rw [this, s0]
  · have : w'.cell? ⟨g, 31, none⟩ = some (.int .i64 g1.sh) := c31
    rw [this, s1]
  · obtain ⟨⟨K, k1, k2, k3⟩, _⟩ := o0
    have k1' : K.map Prod.fst = [⟨sA, sB, [⟨sA, 3⟩]⟩] := k1
    have k2' : w'.ownsRow w.heap.size 67 3 (.slice r0.a r0.n r0.c) 1 (K.flatMap grL) := k2
    have hKl : K.length = 1 := by
      have := congrArg List.length k1'
      simpa using this
    obtain ⟨kk, rfl⟩ : ∃ kk, K = [kk] := List.length_eq_one_iff.1 hKl
    have hk : kk.1 = ⟨sA, sB, [⟨sA, 3⟩]⟩ := by simpa using k1'
    rcases k2'.2 with ⟨_, q⟩ | ⟨b, c, _, q, _⟩
    · exact absurd q (by decide)
    · injection q with q1 q2 q3
      refine ⟨b, r0.c, ?_, ?_⟩
      · have : w'.cell? ⟨g, 9, none⟩ = some (.slice r0.a r0.n r0.c) := c9
        rw [this, q1, q2]
      · rw [q1, q2] at k2'
        have h9 := (own_mono k2' (Nat.zero_le _)).cellAt 1 (by decide)
        rw [h9]
        show some (Value.string kk.1.hi) = _
        rw [hk]
  · obtain ⟨_, o3⟩ := o1
    have o3' : w'.ownsRow w.heap.size 69 3 (.slice w1.a w1.n w1.c) 1 (wrL x1 ++ []) := o3
    have h41 : w'.cell? ⟨g, 41, none⟩ = some (.slice w1.a w1.n w1.c) := c41
    rcases o3'.2 with ⟨_, q⟩ | ⟨b, c, _, q, _⟩
    · exact absurd q (by decide)
    · injection q with q1 q2 q3
      exact ⟨w1.a, w1.c, by rw [h41, q2]⟩
theorem asks_is2 {wa : Option Addr} {wc : Nat} (h : Dx w A (da2 g0 g1) pa pc wa wc) : Calls Try.prog 17 #[.pointer (some ⟨A, 0, none⟩)] w fun e w' => ∃ (g cap : Nat), e = .returned (.slice (some ⟨g, 0, none⟩) 1 cap) ∧ w'.cell? ⟨g, 1, none⟩ = some (.int .i64 2) ∧ w'.cell? ⟨g, 11, none⟩ = some (.int .i64 8) ∧ w'.cell? ⟨g, 15, none⟩ = some (.int .i64 4) ∧ w'.cell? ⟨g, 14, none⟩ = some (.int .i64 5) ∧ w'.cell? ⟨g, 12, none⟩ = some (.int .i64 60) ∧ Below w.heap.size w w' := by
  have hin : ∀ q ∈ ([⟨(da2 g0 g1).comm, [], []⟩] : List Aq), AqIn w q := fun q hq => by
    obtain rfl := List.mem_singleton.1 hq
    exact ⟨⟨none, 0, rfl, fun _ => rfl, Nat.le_refl _, Nat.zero_le _, fun i hi => absurd hi (by simp)⟩, ⟨none, 0, rfl, fun _ => rfl, Nat.le_refl _, Nat.zero_le _, fun i hi => absurd hi (by simp)⟩, Nat.zero_le _, (fun x hx => by cases hx), Nat.zero_le _⟩
  refine (asks_any (Q := [⟨(da2 g0 g1).comm, [], []⟩]) h (dok_2 g0 g1) (asks_2 g0 g1).symm hin).mono ?_
  rintro e w' ⟨ad, cap, Q', rfl, hl, hrow, hpl, hown, hb⟩
  have hl2 : Q'.length = 1 := hl
  obtain ⟨g, rfl⟩ : ∃ g, ad = some ⟨g, 0, none⟩ := by
    rcases hrow.2 with ⟨_, q⟩ | ⟨g, _, _, q, _⟩
    · exact absurd q (by simp)
    · injection q with q1
      exact ⟨g, q1⟩
  obtain ⟨r0, w0, e0⟩ := hpl 0 (by show 0 < 1; decide) (by omega)
  have cc : ∀ k, k < 31 → w'.cell? ⟨g, k, none⟩ = (aqL Q'[0])[k]? := fun k hk => by
    have h9 : w'.cell? ⟨g, 0 * 31 + k, none⟩ = _ := aq_cell hrow (by omega) hl hk
    rw [Nat.zero_mul, Nat.zero_add] at h9
    exact h9
  rw [e0] at cc
  exact ⟨g, cap, rfl, cc 1 (by decide), cc 11 (by decide), cc 15 (by decide), cc 14 (by decide), cc 12 (by decide), hb⟩
end
end Go.Proofs.Ytfokgalgdlajlaa
