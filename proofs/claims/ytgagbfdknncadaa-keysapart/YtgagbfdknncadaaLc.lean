/- The walk of the statement KeysApart: it answers true at every two lists and every two values. -/
import Derived.Test.YtgagbfdknncadaaLb
namespace Go.Proofs.Ytgagbfdknncadaa
open Go.RowKit

/-- A box of three cells at block b. -/
structure Bx (b : Nat) (x : V) (W : World) : Prop where
  c0 : W.cell? ⟨b, 0, none⟩ = some (.int .i64 x.k)
  c1 : W.cell? ⟨b, 1, none⟩ = some (.int .i64 x.n)
  c2 : W.cell? ⟨b, 2, none⟩ = some (.string x.s)
  lt : b < W.heap.size
theorem Bx.on {b : Nat} {x : V} {W w' : World} (h : Bx b x W) (hb : Below W.heap.size W w') : Bx b x w' :=
  ⟨by rw [(bcell hb).1 _ _ h.lt]; exact h.c0, by rw [(bcell hb).1 _ _ h.lt]; exact h.c1, by rw [(bcell hb).1 _ _ h.lt]; exact h.c2, Nat.lt_of_lt_of_le h.lt hb.size⟩
abbrev vO (x : V) : Obj := .cells #[.int .i64 x.k, .int .i64 x.n, .string x.s] 24
theorem Bx.mk' (W : World) (x : V) : Bx W.heap.size x (W.alloc (vO x)) := ⟨by simp, by simp, by simp, by simp⟩
theorem li_one (W : World) (x : V) : Li [x] (some ⟨W.heap.size, 0, none⟩) (W.alloc (vO x)) := by
  refine ⟨fun i hi => ⟨W.heap.size, 0, rfl, by simp, ?_⟩⟩
  match i, hi with
  | 0, _ => exact ⟨by simp, by simp, by simp⟩
theorem encode_one (x : V) (fx : Fit x.n) (W : World) :
    Calls Try.prog 9 #[.slice (some ⟨W.heap.size, 0, none⟩) 1 1] (W.alloc (vO x)) fun e w' => e = .returned (.tuple #[.string ⟨(encS [x]).toArray⟩, .int .i64 (encE [x])]) ∧ Below (W.alloc (vO x)).heap.size (W.alloc (vO x)) w' :=
  encode_any [x] (some ⟨W.heap.size, 0, none⟩) 1 _ (li_one W x) ⟨fun v hv => by simp at hv; rw [hv]; exact fx⟩


theorem keys_same {A B : List V} (fA : Fits A) (fB : Fits B) (hA0 : encE A = 0) (hB0 : encE B = 0) : (encS A == encS B) = true ↔ A = B := by
  obtain ⟨lA, rA, eA⟩ := enc_ok fA hA0
  obtain ⟨lB, rB, eB⟩ := enc_ok fB hB0
  rw [beq_iff_eq, eA, eB]
  exact ⟨fun h => encL_inj rA rB lA lB h, fun h => by rw [h]⟩

theorem one_ok {x : V} (fx : Fit x.n) (h : encE [x] = 0) : Right x ∧ encS [x] = enc1 x := by
  obtain ⟨_, r, e⟩ := enc_ok (L := [x]) ⟨fun v hv => by simp at hv; rw [hv]; exact fx⟩ h
  refine ⟨r x (by simp), ?_⟩
  rw [e, encL_cons]
  exact List.append_nil _

/-- What follows the lists' part: the last four tests, in their order. -/
def Last (x y : V) : Prop := encE [x] ≠ 0 ∨ (encE [x] = 0 ∧ encE [y] ≠ 0) ∨ (encE [x] = 0 ∧ encE [y] = 0 ∧ x = y) ∨ (encE [x] = 0 ∧ encE [y] = 0 ∧ x ≠ y ∧ (encS [y]).length < (encS [x]).length) ∨ (encE [x] = 0 ∧ encE [y] = 0 ∧ x ≠ y ∧ (encS [x]).length ≤ (encS [y]).length ∧ (encS [y]).take (encS [x]).length ≠ encS [x])

theorem last_any {x y : V} (fx : Fit x.n) (fy : Fit y.n) : Last x y := by
  unfold Last
  by_cases h1 : encE [x] = 0
  · by_cases h2 : encE [y] = 0
    · by_cases h3 : x = y
      · exact .inr (.inr (.inl ⟨h1, h2, h3⟩))
      · by_cases h4 : (encS [y]).length < (encS [x]).length
        · exact .inr (.inr (.inr (.inl ⟨h1, h2, h3, h4⟩)))
        · refine .inr (.inr (.inr (.inr ⟨h1, h2, h3, by omega, ?_⟩)))
          obtain ⟨rx, ex⟩ := one_ok fx h1
          obtain ⟨ry, ey⟩ := one_ok fy h2
          rw [ex, ey]
          intro h
          have e := List.take_append_drop (enc1 x).length (enc1 y)
          rw [h] at e
          exact no_begin rx ry h3 _ e.symm
    · exact .inr (.inl ⟨h1, h2⟩)
  · exact .inl h1

theorem differ {x y : V} (h : x ≠ y) : ((x.k == y.k) = false) ∨ ((x.k == y.k) = true ∧ (x.n == y.n) = false) ∨ ((x.k == y.k) = true ∧ (x.n == y.n) = true ∧ (x.s.toList == y.s.toList) = false) := by
  by_cases e1 : x.k = y.k
  · by_cases e2 : x.n = y.n
    · refine .inr (.inr ⟨by rw [e1]; simp, by rw [e2]; simp, ?_⟩)
      rw [beq_eq_false_iff_ne, toL, toL]
      intro h3
      exact h (V.ext' e1 e2 h3)
    · exact .inr (.inl ⟨by rw [e1]; simp, by rw [beq_eq_false_iff_ne]; exact e2⟩)
  · exact .inl (by rw [beq_eq_false_iff_ne]; exact e1)
end Go.Proofs.Ytgagbfdknncadaa
