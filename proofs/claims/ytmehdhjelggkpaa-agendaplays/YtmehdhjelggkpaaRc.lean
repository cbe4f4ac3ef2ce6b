/- An agenda and the document's beside one another. -/
import Derived.Test.YtmehdhjelggkpaaRb
namespace Go.Proofs.Ytmehdhjelggkpaa
open Go.RowKit Go.Maps

/-- The agenda at A has R1, the document's at B has R2; they share no block, and none of K. -/
def Two (K : Nat → Prop) (w : World) (A B c : Nat) (R1 R2 : List Ti) : Prop :=
  (∀ k, K k → k < w.heap.size) ∧ ∃ S T, Agd w A S c R1 ∧ Rfd w B T R2 ∧ (∀ k, S k → ¬ T k) ∧ (∀ k, K k → ¬ S k ∧ ¬ T k)

section
variable {K : Nat → Prop} {w w' : World} {A B c : Nat} {R1 R2 : List Ti}
theorem Two.agd (h : Two K w A B c R1 R2) : ∃ S, Agd w A S c R1 := by
  obtain ⟨_, S, _, h, _⟩ := h
  exact ⟨S, h⟩
theorem Two.rfd (h : Two K w A B c R1 R2) : ∃ T, Rfd w B T R2 := by
  obtain ⟨_, _, T, _, h, _⟩ := h
  exact ⟨T, h⟩
theorem Two.drewN (h : Two K w A B c R1 R2) (k : Nat) : Two K (w.drewN k) A B c R1 R2 := by
  obtain ⟨hK, S, T, ha, hr, hd, hk⟩ := h
  exact ⟨hK, S, T, ha.drewN k, hr.drewN k, hd, hk⟩
/-- What is new is kept besides. -/
theorem Two.box (h : Two K w A B c R1 R2) (o : Obj) : Two (fun k => K k ∨ k = w.heap.size) (w.alloc o) A B c R1 R2 := by
  obtain ⟨hK, S, T, ha, hr, hd, hk⟩ := h
  refine ⟨?_, S, T, ha.alloc o, hr.alloc o, hd, ?_⟩
  · rintro k (q | q)
    · have := hK k q
      simp
      omega
    · simp
      omega
  · rintro k (q | q)
    · exact hk k q
    · exact ⟨fun p => by have := ha.1 k p; omega, fun p => by have := hr.1 k p; omega⟩
theorem Two.less (h : Two K w A B c R1 R2) {J : Nat → Prop} (hJ : ∀ k, J k → K k) : Two J w A B c R1 R2 := by
  obtain ⟨hK, S, T, ha, hr, hd, hk⟩ := h
  exact ⟨fun k q => hK k (hJ k q), S, T, ha, hr, hd, fun k q => hk k (hJ k q)⟩
/-- The first of them has changed. -/
theorem Two.left {S : Nat → Prop} {T : Nat → Prop} {c' : Nat} {R1' : List Ti} (hK : ∀ k, K k → k < w.heap.size) (hr : Rfd w B T R2) (hd : ∀ k, S k → ¬ T k) (hk : ∀ k, K k → ¬ S k ∧ ¬ T k)
    (ha' : Agd w' A (Gro S w w') c' R1') (hf : Fr w w' S) : Two K w' A B c' R1' R2 ∧ Fr w w' (fun k => ¬ K k) := by
  refine ⟨⟨fun k q => Nat.lt_of_lt_of_le (hK k q) hf.size, Gro S w w', T, ha', hr.stays hf (fun b p q => hd b q p), ?_, ?_⟩, hf.mono (fun k q p => (hk k p).1 q)⟩
  · rintro k (q | q) p
    · exact hd k q p
    · have := hr.1 k p
      have := q.1
      omega
  · intro k q
    refine ⟨?_, (hk k q).2⟩
    rintro (p | p)
    · exact (hk k q).1 p
    · have := hK k q
      have := p.1
      omega
theorem Two.right {S : Nat → Prop} {T : Nat → Prop} {R2' : List Ti} (hK : ∀ k, K k → k < w.heap.size) (ha : Agd w A S c R1) (hd : ∀ k, S k → ¬ T k) (hk : ∀ k, K k → ¬ S k ∧ ¬ T k)
    (hr' : Rfd w' B (Gro T w w') R2') (hf : Fr w w' T) : Two K w' A B c R1 R2' ∧ Fr w w' (fun k => ¬ K k) := by
  refine ⟨⟨fun k q => Nat.lt_of_lt_of_le (hK k q) hf.size, S, Gro T w w', ha.stays hf hd, hr', ?_, ?_⟩, hf.mono (fun k q p => (hk k p).2 q)⟩
  · rintro k q (p | p)
    · exact hd k q p
    · have := ha.1 k q
      have := p.1
      omega
  · intro k q
    refine ⟨(hk k q).1, ?_⟩
    rintro (p | p)
    · exact (hk k q).2 p
    · have := hK k q
      have := p.1
      omega
theorem agd_gro {S : Nat → Prop} (ha : Agd w' A S c R1) (hf : w.heap.size ≤ w'.heap.size) (hS : ∀ k, S k → k < w.heap.size) : Agd w' A (Gro S w w') c R1 := ha.wider (fun _ q => .inl q) (gro_lt hS hf)
theorem Two.set (h : Two K w A B c R1 R2) {what d : Int} (hc : c < 900000) (hi : inI what) : Calls Try.prog 16 #[.pointer (some ⟨A, 0, none⟩), .int .i64 what, .int .i64 d] w fun e w' => e = .returned (.tuple #[]) ∧ Two K w' A B (c + 1) (setL R1 what d) R2 ∧ Fr w w' (fun k => ¬ K k) := by
  obtain ⟨hK, S, T, ha, hr, hd, hk⟩ := h
  refine (set_any ha hc hi).mono ?_
  rintro e w' ⟨rfl, ha', hf⟩
  exact ⟨rfl, Two.left hK hr hd hk ha' hf⟩
theorem Two.drop (h : Two K w A B c R1 R2) {what : Int} (hi : inI what) : Calls Try.prog 17 #[.pointer (some ⟨A, 0, none⟩), .int .i64 what] w fun e w' => e = .returned (.tuple #[]) ∧ Two K w' A B c (dropL R1 what) R2 ∧ Fr w w' (fun k => ¬ K k) := by
  obtain ⟨hK, S, T, ha, hr, hd, hk⟩ := h
  refine (drop_any ha hi).mono ?_
  rintro e w' ⟨rfl, ha', hf⟩
  exact ⟨rfl, Two.left hK hr hd hk (agd_gro ha' hf.size ha.1) hf⟩
theorem Two.pop (h : Two K w A B c R1 R2) {t : Ti} {now : Int} (ht : nextL R1 = some t) (hdu : t.due ≤ now) : Calls Try.prog 14 #[.pointer (some ⟨A, 0, none⟩), .int .i64 now] w fun e w' => e = .returned (.tuple #[.int .i64 t.what, .bool true]) ∧ Two K w' A B c (dropL R1 t.what) R2 ∧ Fr w w' (fun k => ¬ K k) := by
  obtain ⟨hK, S, T, ha, hr, hd, hk⟩ := h
  refine (pop_due ha ht hdu).mono ?_
  rintro e w' ⟨rfl, ha', hf⟩
  exact ⟨rfl, Two.left hK hr hd hk (agd_gro ha' hf.size ha.1) hf⟩
theorem Two.rset (h : Two K w A B c R1 R2) (hs : R2.length < 900000) (what d : Int) : Calls Try.prog 18 #[.pointer (some ⟨B, 0, none⟩), .int .i64 what, .int .i64 d] w fun e w' => e = .returned (.tuple #[]) ∧ Two K w' A B c R1 (setL R2 what d) ∧ Fr w w' (fun k => ¬ K k) := by
  obtain ⟨hK, S, T, ha, hr, hd, hk⟩ := h
  refine (rf_set hr hs what d).mono ?_
  rintro e w' ⟨rfl, hr', hf⟩
  exact ⟨rfl, Two.right hK ha hd hk hr' hf⟩
theorem Two.rdrop (h : Two K w A B c R1 R2) (what : Int) : Calls Try.prog 19 #[.pointer (some ⟨B, 0, none⟩), .int .i64 what] w fun e w' => e = .returned (.tuple #[]) ∧ Two K w' A B c R1 (dropL R2 what) ∧ Fr w w' (fun k => ¬ K k) := by
  obtain ⟨hK, S, T, ha, hr, hd, hk⟩ := h
  refine (rf_drop hr what).mono ?_
  rintro e w' ⟨rfl, hr', hf⟩
  exact ⟨rfl, Two.right hK ha hd hk hr' hf⟩
theorem Two.rpop (h : Two K w A B c R1 R2) {t : Ti} {now : Int} (ht : nextL R2 = some t) (hdu : t.due ≤ now) : Calls Try.prog 20 #[.pointer (some ⟨B, 0, none⟩), .int .i64 now] w fun e w' => e = .returned (.tuple #[.int .i64 t.what, .bool true]) ∧ Two K w' A B c R1 (dropL R2 t.what) ∧ Fr w w' (fun k => ¬ K k) := by
  obtain ⟨hK, S, T, ha, hr, hd, hk⟩ := h
  refine (rf_pop_due hr ht hdu).mono ?_
  rintro e w' ⟨rfl, hr', hf⟩
  exact ⟨rfl, Two.right hK ha hd hk hr' hf⟩
theorem Two.few (h : Two K w A B c R1 R2) : R1.length ≤ c := by
  obtain ⟨S, _, v, mv, f, n, h⟩ := h.agd
  rw [h.len]
  exact h.few
end
end Go.Proofs.Ytmehdhjelggkpaa
