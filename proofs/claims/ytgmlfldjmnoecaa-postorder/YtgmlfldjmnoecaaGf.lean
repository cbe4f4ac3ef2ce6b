/- The walks of awake and of the statement PostNil. -/
import Derived.Test.YtgmlfldjmnoecaaGe
namespace Go.Proofs.Ytgmlfldjmnoecaa
open Go.RowKit

abbrev lA : Lt := ⟨0, 0, ⟨#[97]⟩⟩
abbrev lB : Lt := ⟨0, 0, ⟨#[98]⟩⟩
abbrev lC : Lt := ⟨0, 0, ⟨#[99]⟩⟩
/-- A bag that was made since w0, and blocks that stay. -/
def Bk (w0 w : World) (A : Nat) (L : List Lt) (K : List (Nat × Obj)) : Prop := ∃ S, Ps w A S L ∧ (∀ k, S k → w0.heap.size ≤ k) ∧ Below w0.heap.size w0 w ∧ ∀ p ∈ K, w.heap[p.1]? = some p.2 ∧ ¬ S p.1
section
variable {w0 w w' : World} {A : Nat} {L L' : List Lt} {K : List (Nat × Obj)} {S S' : Nat → Prop}
theorem Bk.below (h : Bk w0 w A L K) : Below w0.heap.size w0 w := by
  obtain ⟨S, _, _, hb, _⟩ := h
  exact hb
theorem Bk.few (h : Bk w0 w A L K) : L.length ≤ 900000 := by
  obtain ⟨S, h, _⟩ := h
  exact h.few
theorem Bk.blk (h : Bk w0 w A L K) : ∀ p ∈ K, w.heap[p.1]? = some p.2 := by
  obtain ⟨S, _, _, _, hk⟩ := h
  exact fun p hp => (hk p hp).1
theorem Bk.turn (h2 : ∀ k, S k → w0.heap.size ≤ k) (h3 : Below w0.heap.size w0 w) (h4 : ∀ p ∈ K, w.heap[p.1]? = some p.2 ∧ ¬ S p.1) (hp : Ps w' A S' L') (hs : ∀ k, S' k → Gro S w w' k) (hf : Fr w w' S) : Bk w0 w' A L' K := by
  refine ⟨S', hp, fun k q => gro_fresh h2 h3.size k (hs k q), fr_below h2 h3 hf, fun p hpK => ?_⟩
  obtain ⟨a, b⟩ := h4 p hpK
  have hl := blk_lt a
  refine ⟨(hf.block p.1 hl b).trans a, fun q => ?_⟩
  rcases hs p.1 q with q | q
  · exact b q
  · omega
theorem Bk.on (h : Bk w0 w A L K) (hb : Below w.heap.size w w') : Bk w0 w' A L K := by
  obtain ⟨S, h1, h2, h3, h4⟩ := h
  exact Bk.turn h2 h3 h4 (h1.on hb) (fun _ q => .inl q) (Fr.ofBelow _ hb)
theorem Bk.box (h : Bk w0 w A L K) (o : Obj) : Bk w0 (w.alloc o) A L ((w.heap.size, o) :: K) := by
  have hal : Below w.heap.size w (w.alloc o) := (Below.refl _ w).alloc (Nat.le_refl _) _
  obtain ⟨S, h1, h2, h3, h4⟩ := h
  refine ⟨S, h1.on hal, h2, h3.trans (hal.mono h3.size), fun p hp => ?_⟩
  rcases List.mem_cons.1 hp with rfl | hp
  · refine ⟨heap_alloc_new w _, fun q => ?_⟩
    have q1 : w.heap.size < w.heap.size := h1.lt w.heap.size q
    omega
  · obtain ⟨a, b⟩ := h4 p hp
    exact ⟨(hal.block p.1 (blk_lt a)).trans a, b⟩
theorem Bk.sub {K' : List (Nat × Obj)} (h : Bk w0 w A L K) (hK : ∀ p ∈ K', p ∈ K) : Bk w0 w A L K' := by
  obtain ⟨S, h1, h2, h3, h4⟩ := h
  exact ⟨S, h1, h2, h3, fun p hp => h4 p (hK p hp)⟩
theorem bk_new (hw : Below w0.heap.size w0 w) : Calls Try.prog 8 #[] w fun e w' => ∃ A, e = .returned (.pointer (some ⟨A, 0, none⟩)) ∧ Bk w0 w' A [] [] := by
  refine (new_any w).mono ?_
  rintro e w' ⟨rfl, hp, hb⟩
  refine ⟨_, rfl, _, hp, fun k q => ?_, hw.trans (hb.mono hw.size), fun p hp => by cases hp⟩
  have e : k = w.heap.size := q
  have := hw.size
  omega
theorem bk_send (h : Bk w0 w A L K) (hf : L.length < 900000) (l : Lt) : Calls Try.prog 9 #[.pointer (some ⟨A, 0, none⟩), ltV l] w fun e w' => e = .returned (.tuple #[]) ∧ Bk w0 w' A (L ++ [l]) K := by
  obtain ⟨S, h1, h2, h3, h4⟩ := h
  refine (send_any h1 hf).mono ?_
  rintro e w' ⟨rfl, hp, hfr⟩
  exact ⟨rfl, Bk.turn h2 h3 h4 hp (fun _ q => q) hfr⟩
theorem bk_take (h : Bk w0 w A L K) (i : Int) : Calls Try.prog 10 #[.pointer (some ⟨A, 0, none⟩), .int .i64 i] w fun e w' => e = .returned (.tuple #[ltV (atL L i), .bool (isL L i)]) ∧ Bk w0 w' A (remL L i) K := by
  obtain ⟨S, h1, h2, h3, h4⟩ := h
  refine (take_any h1 i).mono ?_
  rintro e w' ⟨rfl, hp, hfr⟩
  exact ⟨rfl, Bk.turn h2 h3 h4 hp (fun _ q => q) hfr⟩
theorem bk_lose (h : Bk w0 w A L K) (i : Int) : Calls Try.prog 12 #[.pointer (some ⟨A, 0, none⟩), .int .i64 i] w fun e w' => e = .returned (.bool (isL L i)) ∧ Bk w0 w' A (remL L i) K := by
  obtain ⟨S, h1, h2, h3, h4⟩ := h
  refine (lose_any h1 i).mono ?_
  rintro e w' ⟨rfl, hp, hfr⟩
  exact ⟨rfl, Bk.turn h2 h3 h4 hp (fun _ q => q) hfr⟩
theorem bk_len (h : Bk w0 w A L K) : Calls Try.prog 14 #[.pointer (some ⟨A, 0, none⟩)] w fun e w' => e = .returned (.int .i64 L.length) ∧ w' = w := by
  obtain ⟨S, h1, _⟩ := h
  exact len_any h1
theorem bk_copy (h : Bk w0 w A L K) (i : Int) : Calls Try.prog 11 #[.pointer (some ⟨A, 0, none⟩), .int .i64 i] w fun e w' => e = .returned (.tuple #[ltV (atL L i), .bool (isL L i)]) ∧ Bk w0 w' A L K := by
  have h0 := h
  obtain ⟨S, h1, _⟩ := h
  refine (copy_any h1 i).mono ?_
  rintro e w' ⟨rfl, hb⟩
  exact ⟨rfl, h0.on hb⟩
end
theorem lt_cells {w : World} {b : Nat} {l : Lt} (h : w.heap[b]? = some (ltO l)) : w.cell? ⟨b, 0, none⟩ = some (.int .i64 l.fr) ∧ w.cell? ⟨b, 1, none⟩ = some (.int .i64 l.to) ∧ w.cell? ⟨b, 2, none⟩ = some (.string l.text) := by
  refine ⟨?_, ?_, ?_⟩ <;> (rw [cell_blk h]; rfl)

set_option maxHeartbeats 4000000 in
set_option maxRecDepth 100000 in
theorem awake_any (w : World) : Calls Try.prog 7 #[] w fun e w' => e = .returned (.bool true) ∧ Below w.heap.size w w' := by
  go_enter Try.func7, Try.ntmps7
  go_wp2_with fail
  refine (bk_new (Below.refl _ w)).mono ?_
  rintro e w1 ⟨A, rfl, h1⟩
  go_wp2_with fail
  refine (bk_send h1 (by decide) lA).mono ?_
  rintro e w2 ⟨rfl, h2⟩
  go_wp2_with fail
  refine (bk_send h2 (by decide) lB).mono ?_
  rintro e w3 ⟨rfl, h3⟩
  go_wp2_with fail
  refine (bk_send h3 (by decide) lC).mono ?_
  rintro e w4 ⟨rfl, h4⟩
  have t4 : Calls Try.prog 10 #[.pointer (some ⟨A, 0, none⟩), .int .i64 1] w4 fun e w' => e = .returned (.tuple #[ltV lB, .bool true]) ∧ Bk w w' A [lA, lC] [] := bk_take h4 1
  go_wp2_with fail
  refine t4.mono ?_
  rintro e w5 ⟨rfl, h5⟩
  have t5 : Calls Try.prog 10 #[.pointer (some ⟨A, 0, none⟩), .int .i64 1] (w5.alloc (ltO lB)) fun e w' => e = .returned (.tuple #[ltV lC, .bool true]) ∧ Bk w w' A [lA] [(w5.heap.size, ltO lB)] := bk_take (h5.box (ltO lB)) 1
  go_wp2_with fail
  refine t5.mono ?_
  rintro e w6 ⟨rfl, h6⟩
  have h7 := h6.box (ltO lC)
  obtain ⟨x0, x1, x2⟩ := lt_cells (h7.blk _ (List.mem_cons_of_mem _ List.mem_cons_self))
  have t7 : Calls Try.prog 14 #[.pointer (some ⟨A, 0, none⟩)] (w6.alloc (ltO lC)) fun e w' => e = .returned (.int .i64 1) ∧ w' = w6.alloc (ltO lC) := bk_len h7
  have t8 : Calls Try.prog 12 #[.pointer (some ⟨A, 0, none⟩), .int .i64 7] (w6.alloc (ltO lC)) fun e w' => e = .returned (.bool false) ∧ Bk w w' A [lA] [(w6.heap.size, ltO lC), (w5.heap.size, ltO lB)] := bk_lose h7 7
  go_wp2_with fail
  refine t7.mono ?_
  rintro e w7 ⟨rfl, rfl⟩
  go_wp2_with fail
  refine t8.mono ?_
  rintro e w8 ⟨rfl, h8⟩
  go_wp2
  go_ret
  exact ⟨rfl, h8.below⟩

set_option maxHeartbeats 4000000 in
set_option maxRecDepth 100000 in
theorem nil_law (l : Lt) (i : Int) (w : World) : Calls Try.prog 6 #[ltV l, .int .i64 i] w fun e w' => e = .returned (.bool true) ∧ Below w.heap.size w w' := by
  have hal : Below w.heap.size w (w.alloc (ltO l)) := (Below.refl _ w).alloc (Nat.le_refl _) _
  go_enter Try.func6, Try.ntmps6
  go_wp2_with fail
  refine (send_nil l _).mono ?_
  rintro e w1 ⟨rfl, hb1⟩
  have hb01 := hal.trans (hb1.mono hal.size)
  go_wp2_with fail
  refine (take_nil i _).mono ?_
  rintro e w2 ⟨rfl, hb2⟩
  have hb02 := (hb01.trans (hb2.mono hb01.size)).alloc (Nat.le_trans hb01.size hb2.size) (ltO lt0)
  go_wp2_with fail
  refine (copy_nil i _).mono ?_
  rintro e w3 ⟨rfl, hb3⟩
  have hb03 := (hb02.trans (hb3.mono hb02.size)).alloc (Nat.le_trans hb02.size hb3.size) (ltO lt0)
  have z2 : (w3.alloc (ltO lt0)).heap[w2.heap.size]? = some (ltO lt0) := by
    have e1 : w3.heap[w2.heap.size]? = some (ltO lt0) := (hb3.block w2.heap.size (by simp)).trans (heap_alloc_new w2 _)
    exact (((Below.refl _ w3).alloc (Nat.le_refl _) (ltO lt0)).block _ (blk_lt e1)).trans e1
  have z3 : (w3.alloc (ltO lt0)).heap[w3.heap.size]? = some (ltO lt0) := heap_alloc_new w3 _
  go_wp2_with fail
  refine (awake_any _).mono ?_
  rintro e w4 ⟨rfl, hb4⟩
  have hb04 := hb03.trans (hb4.mono hb03.size)
  obtain ⟨x0, x1, x2⟩ := lt_cells ((hb4.block _ (blk_lt z2)).trans z2)
  obtain ⟨y0, y1, y2⟩ := lt_cells ((hb4.block _ (blk_lt z3)).trans z3)
  go_wp2_with fail
  refine (lose_nil i _).mono ?_
  rintro e w5 ⟨rfl, hb5⟩
  have hb05 := hb04.trans (hb5.mono hb04.size)
  go_wp2_with fail
  refine (len_nil _).mono ?_
  rintro e w6 ⟨rfl, rfl⟩
  go_wp2
  go_ret
  exact ⟨rfl, hb05⟩
end Go.Proofs.Ytgmlfldjmnoecaa
