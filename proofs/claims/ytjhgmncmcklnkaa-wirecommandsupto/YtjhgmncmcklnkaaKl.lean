/- The walks of yes and errno. -/
import Derived.Test.YtjhgmncmcklnkaaKk
namespace Go.Proofs.Ytjhgmncmcklnkaa
open Go.RowKit

section
variable {w w' w1 w2 : World} {A : Nat} {S S1 : Nat → Prop} {s s1 : TS} {B o : Nat} {t u : List Ty} {x y : List At} {rv : Value}
/-- What a walk along one number leaves. -/
theorem Post.one {n : Int} {c : Obj} (h : Post (w.alloc c) w1 A S s w.heap.size 0 [.num] [.num n]) (hc : ∃ ty, c = .cells #[.int .i64 n] ty (0, 0)) : ∃ S1 s1 m, Tp w1 A S1 s1 ∧ (∀ k, S1 k → Gro S w w1 k) ∧ Fr w w1 S ∧ w1.cell? ⟨w.heap.size, 0, none⟩ = some (.int .i64 m) ∧
    ((s.reads = false ∧ m = n ∧ s1 = { s with wr := s.wr ++ num n }) ∨ (s.reads = true ∧ I64 m ∧ ∃ r, s.rest = num m ++ r ∧ s1 = { s with rest := r }) ∨ (s.reads = true ∧ (∀ m r, I64 m → s.rest ≠ num m ++ r) ∧ s1 = { s with rest := [], bad := true })) := by
  obtain ⟨ty, rfl⟩ := hc
  obtain ⟨S', s', p1, p2, p3, ⟨c0, c1, ty', b1, b2, b3, b4, b5, b6, b7⟩, p5⟩ := h
  have hN : (w.alloc (.cells #[.int .i64 n] ty)).heap[w.heap.size]? = some (.cells #[.int .i64 n] ty (0, 0)) := heap_alloc_new w _
  rw [hN] at b1
  simp only [Option.some.injEq, Obj.cells.injEq] at b1
  obtain ⟨rfl, rfl, _⟩ := b1
  obtain ⟨v, hv, m, rfl⟩ := b7 0 (by simp)
  have cm : w1.cell? ⟨w.heap.size, 0, none⟩ = some (.int .i64 m) := by rw [cell_blk b2]; simpa using hv
  refine ⟨S', s', m, p1, Gro.fresh1 p2, p3.fresh1, cm, ?_⟩
  rcases p5 with ⟨q1, q2⟩ | ⟨q0, y, r, q1, q2, q3, q4⟩ | ⟨q1, q2, q3⟩
  · refine .inl ⟨q1, ?_, by simpa [encS, At.enc] using q2⟩
    have e := b6 q1
    subst e
    simpa using hv.symm
  · obtain ⟨a, rfl, ha⟩ := hasS_one q1
    obtain ⟨m', rfl, hm'⟩ := has_num ha
    simp only [liesS, At.lies, and_true] at q4
    obtain ⟨v, g1, rfl⟩ := q4
    rw [cm] at g1
    simp only [Option.some.injEq, Value.int.injEq, true_and] at g1
    subst g1
    exact .inr (.inl ⟨q0, hm', r, by simpa [encS, At.enc] using q2, q3⟩)
  · refine .inr (.inr ⟨q1, fun m' r hm' e => q2 ⟨[.num m'], r, ?_, ?_⟩, q3⟩)
    · unfold hasS; exact ⟨by simpa only [Ty.has] using hm', by simp [hasS]⟩
    · simpa [encS, At.enc] using e
theorem yes_ok {m : Int} {b : Bool} (hm : m = 0 ∨ m = 1) (hc : w.cell? ⟨B, o, none⟩ = some (.bool b))
    (h : (s.reads = false ∧ m = yesN b ∧ s1 = { s with wr := s.wr ++ num (yesN b) }) ∨ (s.reads = true ∧ I64 m ∧ ∃ r, s.rest = num m ++ r ∧ s1 = { s with rest := r }) ∨ (s.reads = true ∧ (∀ m r, I64 m → s.rest ≠ num m ++ r) ∧ s1 = { s with rest := [], bad := true })) :
    (s.reads = false ∧ w.cell? ⟨B, o, none⟩ = some (.bool (m == 1)) ∧ s1 = { s with wr := s.wr ++ encS [.yes b] }) ∨ (s.reads = true ∧ ((∃ y r, Ty.yes.has y ∧ s.rest = y.enc ++ r ∧ s1 = { s with rest := r } ∧ y.lies w2 S (.bool (m == 1))) ∨ (¬ Rd [.yes] s.rest ∧ s1 = { s with rest := [], bad := true }))) := by
  rcases h with ⟨h1, h2, h3⟩ | ⟨h1, h2, r, h3, h4⟩ | ⟨h1, h2, h3⟩
  · refine .inl ⟨h1, ?_, by simpa [encS, At.enc] using h3⟩
    rw [hc, h2]
    cases b <;> rfl
  · refine .inr ⟨h1, .inl ⟨.yes (m == 1), r, by simp [Ty.has], ?_, h4, by simp only [At.lies]⟩⟩
    rw [h3]
    simp only [At.enc]
    rcases hm with rfl | rfl <;> rfl
  · refine .inr ⟨h1, .inr ⟨?_, h3⟩⟩
    rintro ⟨y, r, hy, e⟩
    obtain ⟨a, rfl, ha⟩ := hasS_one hy
    obtain ⟨b', rfl⟩ := has_yes ha
    exact h2 _ r (yes_in b') (by simpa [encS, At.enc] using e)
theorem yes_bad {m : Int} {b : Bool} (hm : ¬ (m = 0 ∨ m = 1))
    (h : (s.reads = false ∧ m = yesN b ∧ s1 = { s with wr := s.wr ++ num (yesN b) }) ∨ (s.reads = true ∧ I64 m ∧ ∃ r, s.rest = num m ++ r ∧ s1 = { s with rest := r }) ∨ (s.reads = true ∧ (∀ m r, I64 m → s.rest ≠ num m ++ r) ∧ s1 = { s with rest := [], bad := true })) :
    s.reads = true ∧ ¬ Rd [.yes] s.rest ∧ ({ s1 with rest := [], bad := true } : TS) = { s with rest := [], bad := true } := by
  rcases h with ⟨h1, h2, h3⟩ | ⟨h1, h2, r, h3, h4⟩ | ⟨h1, h2, h3⟩
  · exact absurd (by rw [h2]; cases b <;> simp [yesN]) hm
  · refine ⟨h1, ?_, by rw [h4]⟩
    rintro ⟨y, r', hy, e⟩
    obtain ⟨a, rfl, ha⟩ := hasS_one hy
    obtain ⟨b', rfl⟩ := has_yes ha
    rw [h3] at e
    obtain ⟨e1, _⟩ := num_pre h2 (yes_in b') (by simpa [encS, At.enc] using e)
    exact hm (by rw [e1]; cases b' <;> simp [yesN])
  · refine ⟨h1, ?_, by rw [h3]⟩
    rintro ⟨y, r, hy, e⟩
    obtain ⟨a, rfl, ha⟩ := hasS_one hy
    obtain ⟨b', rfl⟩ := has_yes ha
    exact h2 _ r (yes_in b') (by simpa [encS, At.enc] using e)
set_option maxHeartbeats 2000000 in
set_option maxRecDepth 100000 in
theorem yes_any (h : Pre w A S s B o [.yes] x) : Calls Try.prog 53 #[.pointer (some ⟨A, 0, none⟩), .pointer (some ⟨B, o, none⟩)] w fun e w' => e = .returned (.tuple #[]) ∧ Post w w' A S s B o [.yes] x := by
  obtain ⟨a, rfl, ha⟩ := hasS_one h.has
  obtain ⟨b, rfl⟩ := has_yes ha
  have hl := h.lies
  simp only [liesS, At.lies, and_true] at hl
  obtain ⟨v, hc, rfl⟩ := hl
  have hlen : s.reads = false → s.wr.length + (num (yesN b)).length ≤ 1000000000 := fun q => by
    have hlen := h.lenW q
    simpa only [encS, At.enc, List.append_nil] using hlen
  have h0 : s.reads = true → yesN b = 0 := fun q => by
    have e := (h.zero q).1
    simp only [zeroS, List.map_cons, List.map_nil, Ty.zero, List.cons.injEq, At.yes.injEq, and_true] at e
    rw [e]
    rfl
  have hnum := number_any (h.num (yes_in b) h0 hlen (ty := 2))
  have fin : ∀ w1, Post (w.alloc (.cells #[.int .i64 (yesN b)] 2)) w1 A S s w.heap.size 0 [.num] [.num (yesN b)] → ∃ m S1 s1, Tp w1 A S1 s1 ∧ w1.cell? ⟨w.heap.size, 0, none⟩ = some (.int .i64 m) ∧ ((m = 0 ∨ m = 1) → w1.frozen? ⟨B, o, none⟩ = false ∧ (∃ u, w1.cell? ⟨B, o, none⟩ = some u) ∧ Post w (w1.setCell ⟨B, o, none⟩ (.bool (m == 1))) A S s B o [.yes] [.yes b]) ∧
      (¬ (m = 0 ∨ m = 1) → ∀ w2, Tp w2 A S1 { s1 with rest := [], bad := true } → Fr w1 w2 S1 → (∀ k, k ≠ A → w2.heap[k]? = w1.heap[k]?) → w2.cell? ⟨w.heap.size, 0, none⟩ = some (.int .i64 m) ∧ w2.frozen? ⟨B, o, none⟩ = false ∧ (∃ u, w2.cell? ⟨B, o, none⟩ = some u) ∧ Post w (w2.setCell ⟨B, o, none⟩ (.bool false)) A S s B o [.yes] [.yes b]) := by
    intro w1 Q
    obtain ⟨S1, s1, m, q1, q2, q3, q4, q5⟩ := Q.one ⟨2, rfl⟩
    refine ⟨m, S1, s1, q1, q4, fun hm => Post.put h q1 q2 q3 ⟨_, rfl⟩ (yes_ok hm hc q5), fun hm w2 g1 g2 g3 => ?_⟩
    obtain ⟨r1, r2, r3⟩ := yes_bad hm q5
    have hz := g2.size
    refine ⟨?_, Post.put h g1 (fun k hk => ?_) (q3.step g2 (fun k hk => ?_)) ⟨_, rfl⟩ (.inr ⟨r1, .inr ⟨r2, r3⟩⟩)⟩
    · have hA := h.tp.lt A h.tp.covA
      rw [World.cell?_of_block (g3 w.heap.size (by omega))]
      exact q4
    · rcases q2 k hk with q | q
      · exact .inl q
      · exact .inr ⟨q.1, by omega⟩
    · rcases q2 k hk with q | q
      · exact .inl q
      · exact .inr q.1
  have HF := Lib.hid fin
  have hc2 : (w.alloc (.cells #[.int .i64 0] 2)).cell? ⟨B, o, none⟩ = some (.bool b) := (World.cell?_of_block (Below.heap_alloc w _ B h.lt)).trans hc
  clear fin h ha h0 hlen hc
  cases b with
  | false =>
    have e0 : yesN false = 0 := rfl
    rw [e0] at hnum HF
    go_enter Try.func53, Try.ntmps53
    go_wp2_with (go_at_call 78; refine hnum.mono ?_; rintro e w1 ⟨rfl, Q⟩; refine Hid.out ?_)
    refine Lib.hid ?_
    obtain ⟨m, S1, s1, q1, cm, f1, f2⟩ := HF.out w1 Q
    by_cases hm : m = 0 ∨ m = 1
    · obtain ⟨d1, ⟨u, d2⟩, d3⟩ := f1 hm
      have HD := Lib.hid d3
      clear d3 f1 f2 Q q1
      rcases hm with rfl | rfl
      · go_wp2
        go_end0
        exact ⟨rfl, HD.out⟩
      · go_wp2
        go_end0
        exact ⟨rfl, HD.out⟩
    · have hm0 : (m != 0) = true := by simpa using fun q => hm (.inl q)
      have hm1 : (m != 1) = true := by simpa using fun q => hm (.inr q)
      have hm2 : (m == 1) = false := by simpa using fun q => hm (.inr q)
      have HF2 := Lib.hid (f2 hm)
      have hfail := fail_any q1
      clear f1 f2 Q q1 hm
      go_wp2_with (go_at_call 79; refine hfail.mono ?_; rintro e w2 ⟨rfl, g1, g2, _, g3⟩; refine Hid.out ?_)
      refine Lib.hid ?_
      obtain ⟨d0, d1, ⟨u, d2⟩, d3⟩ := HF2.out w2 g1 g2 g3
      have HD := Lib.hid d3
      clear d3 g1 g2 g3
      go_wp2
      go_end0
      exact ⟨rfl, HD.out⟩
  | true =>
    have e0 : yesN true = 1 := rfl
    rw [e0] at hnum HF
    go_enter Try.func53, Try.ntmps53
    go_wp2_with (go_at_call 78; refine hnum.mono ?_; rintro e w1 ⟨rfl, Q⟩; refine Hid.out ?_)
    refine Lib.hid ?_
    obtain ⟨m, S1, s1, q1, cm, f1, f2⟩ := HF.out w1 Q
    by_cases hm : m = 0 ∨ m = 1
    · obtain ⟨d1, ⟨u, d2⟩, d3⟩ := f1 hm
      have HD := Lib.hid d3
      clear d3 f1 f2 Q q1
      rcases hm with rfl | rfl
      · go_wp2
        go_end0
        exact ⟨rfl, HD.out⟩
      · go_wp2
        go_end0
        exact ⟨rfl, HD.out⟩
    · have hm0 : (m != 0) = true := by simpa using fun q => hm (.inl q)
      have hm1 : (m != 1) = true := by simpa using fun q => hm (.inr q)
      have hm2 : (m == 1) = false := by simpa using fun q => hm (.inr q)
      have HF2 := Lib.hid (f2 hm)
      have hfail := fail_any q1
      clear f1 f2 Q q1 hm
      go_wp2_with (go_at_call 79; refine hfail.mono ?_; rintro e w2 ⟨rfl, g1, g2, _, g3⟩; refine Hid.out ?_)
      refine Lib.hid ?_
      obtain ⟨d0, d1, ⟨u, d2⟩, d3⟩ := HF2.out w2 g1 g2 g3
      have HD := Lib.hid d3
      clear d3 g1 g2 g3
      go_wp2
      go_end0
      exact ⟨rfl, HD.out⟩
set_option maxHeartbeats 2000000 in
set_option maxRecDepth 100000 in
theorem errno_any (h : Pre w A S s B o [.num] x) : Calls Try.prog 63 #[.pointer (some ⟨A, 0, none⟩), .pointer (some ⟨B, o, none⟩)] w fun e w' => e = .returned (.tuple #[]) ∧ Post w w' A S s B o [.num] x := by
  obtain ⟨a, rfl, ha⟩ := hasS_one h.has
  obtain ⟨n, rfl, hn⟩ := has_num ha
  have hl := h.lies
  simp only [liesS, At.lies, and_true] at hl
  obtain ⟨v, hc, rfl⟩ := hl
  have hP := h.via (ty := 3)
  obtain ⟨W, hW⟩ : ∃ W, W = w.alloc (.cells #[.int .i64 n] 3) := ⟨_, rfl⟩
  have hWz : W.heap.size = w.heap.size + 1 := by rw [hW]; simp
  rw [← hW] at hP
  have hb : Below W.heap.size W (W.alloc (.cells #[.pointer (some ⟨w.heap.size, 0, none⟩)] 135)) := Below.alloc (Below.refl _ _) (Nat.le_refl _) _
  have hSl := hP.tp.lt
  have hnum := numbers_any (F := W.heap.size) (m := 1) (by omega) (by omega) (hP.on hb) (ptrs_one W w.heap.size 135) (fun q => by have := hSl _ q; omega) (by omega)
  have HFR : Hid (∀ w', Post (W.alloc (.cells #[.pointer (some ⟨w.heap.size, 0, none⟩)] 135)) w' A S s w.heap.size 0 [.num] [.num n] → ∃ m, w'.cell? ⟨w.heap.size, 0, none⟩ = some (.int .i64 m) ∧ w'.frozen? ⟨B, o, none⟩ = false ∧ (∃ u, w'.cell? ⟨B, o, none⟩ = some u) ∧ Post w (w'.setCell ⟨B, o, none⟩ (.int .i64 m)) A S s B o [.num] [.num n]) := fun w' q => by
    have q' := Post.from hb hP.lt q
    rw [hW] at q'
    exact Post.via h q'
  rw [hWz, hW] at hnum
  rw [hW] at HFR
  clear h ha hn hP hb hSl hWz hW
  go_enter Try.func63, Try.ntmps63
  go_wp2_with (go_at_call 52; refine hnum.mono ?_; rintro e w1 ⟨rfl, Q⟩; refine Hid.out ?_)
  refine Lib.hid ?_
  obtain ⟨m, d1, d2, ⟨u, d3⟩, d4⟩ := HFR.out w1 Q
  have HD := Lib.hid d4
  clear d4 Q hnum
  go_wp2
  go_end0
  exact ⟨rfl, HD.out⟩
end
end Go.Proofs.Ytjhgmncmcklnkaa
