/- A bag in memory; the walks of New, Len, Send, Copy. -/
import Derived.Test.YtgmlfldjmnoecaaGa
namespace Go.Proofs.Ytgmlfldjmnoecaa
open Go.RowKit

/-- The bag at A has the letters L; S are its blocks. -/
structure Pv (w : World) (A : Nat) (S : Nat → Prop) (L : List Lt) (v : Value) : Prop where
  ob : w.heap[A]? = some (.cells #[v] 44 (0, 0))
  own : w.ownsRow 0 28 3 v L.length (ltC L)
  covA : S A
  cov : ∀ k, v.ownBlock = some k → S k
  lt : ∀ k, S k → k < w.heap.size
  few : L.length ≤ 900000
def Ps (w : World) (A : Nat) (S : Nat → Prop) (L : List Lt) : Prop := ∃ v, Pv w A S L v
section
variable {w w' w1 w2 : World} {A : Nat} {S T : Nat → Prop} {L : List Lt} {v : Value} {l : Lt}
theorem Pv.stays (h : Pv w A S L v) (k : Fr w w' T) (hd : ∀ b, S b → ¬ T b) : Pv w' A S L v :=
  ⟨(k.block A (h.lt A h.covA) (hd A h.covA)).trans h.ob, own_like h.own (fun b hb => k.block b (h.lt b (h.cov b hb)) (hd b (h.cov b hb))), h.covA, h.cov, fun b hb => Nat.lt_of_lt_of_le (h.lt b hb) k.size, h.few⟩
theorem Pv.wider (h : Pv w A S L v) (hT : ∀ k, S k → T k) (hl : ∀ k, T k → k < w.heap.size) : Pv w A T L v :=
  ⟨h.ob, h.own, hT A h.covA, fun k hk => hT k (h.cov k hk), hl, h.few⟩
theorem Pv.c0 (h : Pv w A S L v) : w.cell? ⟨A, 0, none⟩ = some v := by rw [cell_blk h.ob]; rfl
theorem Pv.neA (h : Pv w A S L v) {k : Nat} (e : v.ownBlock = some k) : A ≠ k := by
  rcases h.own.2 with ⟨hv, _⟩ | ⟨g, cap, cur, hv, _, hg, _⟩
  · rw [hv] at e; cases e
  · rw [hv] at e
    simp only [Value.ownBlock, Option.some.injEq] at e
    subst e
    exact tag_ne h.ob hg (by decide)
theorem Pv.shape (h : Pv w A S L v) : ∃ ad cap, v = .slice ad L.length cap ∧ L.length ≤ cap ∧ cap ≤ maxLen := by
  rcases h.own.2 with ⟨hv, h0⟩ | ⟨g, cap, cur, hv, _, _, h1, h2, _⟩
  · exact ⟨none, 0, by rw [hv, h0], by omega, by unfold maxLen; omega⟩
  · exact ⟨_, cap, hv, h1, h2⟩
theorem Pv.form (h : Pv w A S L v) (hn : 0 < L.length) : ∃ g cap, v = .slice (some ⟨g, 0, none⟩) L.length cap := by
  rcases h.own.2 with ⟨_, h0⟩ | ⟨g, cap, cur, hv, _⟩
  · omega
  · exact ⟨g, cap, hv⟩
theorem Ps.stays (h : Ps w A S L) (k : Fr w w' T) (hd : ∀ b, S b → ¬ T b) : Ps w' A S L := by
  obtain ⟨v, h⟩ := h
  exact ⟨v, h.stays k hd⟩
theorem Ps.on (h : Ps w A S L) (hb : Below w.heap.size w w') : Ps w' A S L := h.stays (T := fun _ => False) (Fr.ofBelow _ hb) (fun _ _ q => q)
theorem Ps.lt (h : Ps w A S L) : ∀ k, S k → k < w.heap.size := by
  obtain ⟨v, h⟩ := h
  exact h.lt
theorem Ps.few (h : Ps w A S L) : L.length ≤ 900000 := by
  obtain ⟨v, h⟩ := h
  exact h.few
theorem Ps.grow (h : Ps w A S L) (hb : Below w.heap.size w w') : Ps w' A (Gro S w w') L := by
  have hl := h.lt
  obtain ⟨v, h⟩ := h.on hb
  refine ⟨v, h.wider (fun k q => .inl q) (fun k q => ?_)⟩
  rcases q with q | q
  · exact h.lt k q
  · exact q.2

theorem new_any (w : World) : Calls Try.prog 8 #[] w fun e w' => e = .returned (.pointer (some ⟨w.heap.size, 0, none⟩)) ∧ Ps w' w.heap.size (fun k => k = w.heap.size) [] ∧ Below w.heap.size w w' := by
  go_enter Try.func8, Try.ntmps8
  go_wp2
  go_ret
  refine ⟨rfl, ⟨.slice none 0 0, heap_alloc_new w _, World.ownsRow_nil _ _ _ _, rfl, (fun k hk => by cases hk), fun k hk => ?_, by simp⟩, (Below.refl _ w).alloc (Nat.le_refl _) _⟩
  have e : k = w.heap.size := hk
  rw [e]
  simp
theorem len_any (h : Ps w A S L) : Calls Try.prog 14 #[.pointer (some ⟨A, 0, none⟩)] w fun e w' => e = .returned (.int .i64 L.length) ∧ w' = w := by
  obtain ⟨v, h⟩ := h
  have c0 := h.c0
  obtain ⟨ad, cap, rfl, _, _⟩ := h.shape
  go_enter Try.func14, Try.ntmps14
  go_wp2
  go_ret
  exact ⟨rfl, rfl⟩
theorem len_nil (w : World) : Calls Try.prog 14 #[.pointer none] w fun e w' => e = .returned (.int .i64 0) ∧ w' = w := by
  go_enter Try.func14, Try.ntmps14
  go_wp2
  go_ret
  exact ⟨rfl, rfl⟩

/-- append at letters. -/
theorem infoLt : (Try.prog.info? 28).map (fun i => (i.zero, i.size, i.bytes)) = some (some (.agg #[.int .i64 0, .int .i64 0, .string ⟨#[]⟩]), 3, 32) := by kernel_rfl
theorem letters_run {base n m c : Nat} {xs news : List Value} {ad : Option Addr} (ho : w.ownsRow base 28 3 v n xs) (hb : base ≤ w.heap.size) (hs : (ad = none ∧ m = 0 ∧ c = 0 ∧ news = []) ∨ ∃ a, ad = some a ∧ news.length = m * 3 ∧ (∀ j u, news[j]? = some u → w.cell? (a.add j) = some u))
    (h1 : ∀ u ∈ news, u.oneCell' = true) (hnm : (n + m) * 32 ≤ 140737488355328) : ∃ v' w', (Builtin.append_ #[26, 26] 26 #[v, .slice ad m c]).run Try.prog w = .ok v' w' ∧ w'.ownsRow base 28 3 v' (n + m) (xs ++ news) ∧ w.grownBy w' v.ownBlock ∧ (v'.ownBlock = v.ownBlock ∨ v'.ownBlock = some w.heap.size) := by
  obtain ⟨i0, hi, hz0, hz1, hz2⟩ := info_parts infoLt
  rcases hs with ⟨rfl, rfl, rfl, rfl⟩ | ⟨a, rfl, hl, hc⟩
  · refine ⟨v, w, ?_, by simpa using ho, ⟨rfl, rfl, rfl, Nat.le_refl _, fun _ _ _ => rfl⟩, .inl rfl⟩
    exact run_append_owned_none (P := Try.prog) (w := w) base 26 26 28 i0 3 Try.underlying26 hi v n xs ho
  · obtain ⟨v', w', hr, ho', hg, _, hat⟩ := run_append_own_at (P := Try.prog) (w := w) base 26 26 28 i0 (.agg #[.int .i64 0, .int .i64 0, .string ⟨#[]⟩]) 3 32 Try.underlying26 hi hz0 hz1 hz2 rfl (by decide) v n xs ho a m c news hl hc h1 (by unfold maxLen; omega) hnm hb
    exact ⟨v', w', hr, ho', hg, hat⟩
theorem one_letter (w : World) (l : Lt) : ∀ j u, (ltC [l])[j]? = some u → (w.alloc (.cells #[.int .i64 l.fr, .int .i64 l.to, .string l.text] 28)).cell? ((⟨w.heap.size, 0, none⟩ : Addr).add j) = some u := by
  intro j u hu
  have e : (⟨w.heap.size, 0, none⟩ : Addr).add j = ⟨w.heap.size, j, none⟩ := by unfold Addr.add; split <;> simp_all
  rw [e, cell_blk (heap_alloc_new w _)]
  simpa [ltC] using hu

set_option maxHeartbeats 2000000 in
set_option maxRecDepth 100000 in
theorem send_any (h : Ps w A S L) (hf : L.length < 900000) : Calls Try.prog 9 #[.pointer (some ⟨A, 0, none⟩), ltV l] w fun e w' => e = .returned (.tuple #[]) ∧ Ps w' A (Gro S w w') (L ++ [l]) ∧ Fr w w' S := by
  obtain ⟨v, h⟩ := h
  have hA := h.lt A h.covA
  obtain ⟨W1, hW1⟩ : ∃ W1, W1 = w.alloc (.cells #[.int .i64 l.fr, .int .i64 l.to, .string l.text] 28) := ⟨_, rfl⟩
  have hal1 : Below w.heap.size w W1.drew := by rw [hW1]; exact ((Below.refl _ w).alloc (Nat.le_refl _) _).drew
  have h1 : Pv W1.drew A S L v := h.stays (T := fun _ => False) (Fr.ofBelow _ hal1) (fun _ _ q => q)
  have hal2 : Below W1.heap.size W1.drew (W1.drew.alloc (.cells #[.int .i64 l.fr, .int .i64 l.to, .string l.text] 28)) := (Below.refl _ W1.drew).alloc (Nat.le_refl _) _
  have h2 : Pv (W1.drew.alloc (.cells #[.int .i64 l.fr, .int .i64 l.to, .string l.text] 28)) A S L v := h1.stays (T := fun _ => False) (Fr.ofBelow _ hal2) (fun _ _ q => q)
  obtain ⟨v', w3, hrun, ho3, hg3, hat3⟩ := letters_run (ad := some ⟨W1.drew.heap.size, 0, none⟩) (m := 1) (c := 1) (news := ltC [l]) h2.own (Nat.zero_le _) (.inr ⟨_, rfl, by rw [ltC_len]; rfl, one_letter W1.drew l⟩) (ltC_one _) (by omega)
  obtain ⟨ad3, cap3, rfl⟩ := own_shape ho3
  have b0 : W1.cell? ⟨w.heap.size, 0, none⟩ = some (.int .i64 l.fr) := by rw [hW1, cell_blk (heap_alloc_new w _)]; rfl
  have b1 : W1.cell? ⟨w.heap.size, 1, none⟩ = some (.int .i64 l.to) := by rw [hW1, cell_blk (heap_alloc_new w _)]; rfl
  have b2 : W1.cell? ⟨w.heap.size, 2, none⟩ = some (.string l.text) := by rw [hW1, cell_blk (heap_alloc_new w _)]; rfl
  have c0 := h1.c0
  have c2 : (W1.alloc (.cells #[.int .i64 l.fr, .int .i64 l.to, .string l.text] 28)).cell? ⟨A, 0, none⟩ = some v := h2.c0
  have d0 : w3.heap[A]? = some (.cells #[v] 44 (0, 0)) := (hg3.block A (Nat.lt_of_lt_of_le hA (Nat.le_trans hal1.size hal2.size)) (fun e => h2.neA e.symm rfl)).trans h2.ob
  have d1 : w3.cell? ⟨A, 0, none⟩ = some v := by rw [cell_blk d0]; rfl
  have f1 : w3.frozen? ⟨A, 0, none⟩ = false := frozen_blk d0 0
  have HX := Lib.hid hW1
  clear hW1
  go_enter Try.func9, Try.ntmps9
  go_wp2
  rw [← HX.out]
  go_region_law (refine step_run (.tmp 10) (.tmp 12) rfl rfl hrun ?_)
  all_goals
    go_wp2
    go_end0
    have hne : ∀ k, (Value.slice ad3 (L.length + 1) cap3).ownBlock = some k → k ≠ A := by
      intro k hk e
      subst e
      rcases ho3.2 with ⟨hv, _⟩ | ⟨g, cap, cur, hv, _, hg, _⟩
      · rw [hv] at hk; cases hk
      · rw [hv] at hk
        simp only [Value.ownBlock, Option.some.injEq] at hk
        subst hk
        exact tag_ne d0 hg (by decide) rfl
    have hz1 : w.heap.size ≤ W1.heap.size := hal1.size
    have hz2 : W1.heap.size ≤ (W1.drew.alloc (.cells #[.int .i64 l.fr, .int .i64 l.to, .string l.text] 28)).heap.size := hal2.size
    have hz3 := hg3.size
    have hfr : Fr w (w3.setCell ⟨A, 0, none⟩ (.slice ad3 (L.length + 1) cap3)) S := by
      refine Fr.set (Fr.grown ((Fr.ofBelow S hal1).below hal2) hg3 (fun k hk => .inl (h.cov k hk))) (.inl h.covA) _
    refine ⟨rfl, ⟨.slice ad3 (L.length + 1) cap3, ?_, ?_, .inl h.covA, fun k hk => ?_, fun k hk => ?_, ?_⟩, hfr⟩
    · have := set_blk (i := 0) d0 (.slice ad3 (L.length + 1) cap3)
      simpa using this
    · rw [List.length_append, ltC_append]
      exact own_like ho3 (fun k hk => set_other _ (hne k hk))
    · have hlt := (ho3.lt k hk).2
      rcases hat3 with e | e
      · exact .inl (h.cov k (e ▸ hk))
      · rw [e] at hk
        cases hk
        exact .inr ⟨Nat.le_trans hz1 hz2, by simpa [World.setCell] using hlt⟩
    · rcases hk with q | q
      · exact Nat.lt_of_lt_of_le (h.lt k q) hfr.size
      · exact q.2
    · rw [List.length_append]
      simp
      omega
end
end Go.Proofs.Ytgmlfldjmnoecaa
