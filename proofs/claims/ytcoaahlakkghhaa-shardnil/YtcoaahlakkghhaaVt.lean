/- A store that is filled by a list of calls. -/
import Derived.Test.YtcoaahlakkghhaaVs
namespace Go.Proofs.Ytcoaahlakkghhaa
open Go.RowKit
/-- A store of the walk's own, behind n puts. -/
structure Pj (V0 wr : World) (A n : Nat) (S : Nat → Prop) (R : List Rw) : Prop where
  sb : Sb wr A S R
  len : R.length ≤ n
  each : ∀ r ∈ R, r.list.length ≤ n
  lo : ∀ j, S j → V0.heap.size ≤ j
  bel : Below V0.heap.size V0 wr
section
variable {w V0 wr V V' : World} {A n : Nat} {S : Nat → Prop} {R : List Rw}
theorem Pj.on (h : Pj V0 V A n S R) (hb : Below V.heap.size V V') : Pj V0 V' A n S R := ⟨h.sb.on hb, h.len, h.each, h.lo, h.bel.trans (hb.mono h.bel.size)⟩
theorem Pj.put (h : Pj V0 V A n S R) {k : ByteArray} {v : Ve} {e : Ending} (hp : PutAns V A S R k v e V') : ∃ S', Pj V0 V' A (n + 1) S' (putR R k v) ∧ (∀ j, S' j → Gro S V V' j) ∧ Fr V V' S := by
  obtain ⟨_, S', hs, hg, hf⟩ := hp
  obtain ⟨lo, bl⟩ := Sb.step h.lo h.bel hg hf
  exact ⟨S', ⟨hs, Nat.le_trans (put_len R k v) (by have := h.len; omega), put_less h.each k v, lo, bl⟩, hg, hf⟩
theorem Pj.fit (h : Pj V0 V A n S R) (hn : n < 800000) : R.length < 800000 ∧ ∀ r ∈ R, r.list.length < 800000 :=
  ⟨Nat.lt_of_le_of_lt h.len hn, fun r hr => Nat.lt_of_le_of_lt (h.each r hr) hn⟩
theorem Pj.new (V : World) : Calls Try.prog 26 #[] V fun e w' => e = .returned (.pointer (some ⟨V.heap.size, 0, none⟩)) ∧ Pj V w' V.heap.size 0 (fun k => k = V.heap.size) [] := by
  refine (new_any V).mono ?_
  rintro e w' ⟨rfl, hs, hb⟩
  exact ⟨rfl, hs, Nat.le_refl _, fun r hr => (by cases hr), fun j e => (by have e' : j = V.heap.size := e; omega), hb⟩
theorem Pj.call (h : Pj V0 V A n S R) (hn : n < 800000) (k : ByteArray) (v : Ve) : Calls Try.prog 92 #[.pointer (some ⟨A, 0, none⟩), .string k, veV v] V fun e w' => PutAns V A S R k v e w' :=
  put_b h.sb k v (h.fit hn).1 (h.fit hn).2
end
end Go.Proofs.Ytcoaahlakkghhaa
