/- A tape for writing, a tape for reading: what put and get lay, and what they find. -/
import Derived.Test.YtjhgmncmcklnkaaVD
namespace Go.Proofs.Ytjhgmncmcklnkaa
open Go.RowKit

theorem not_empty {r : ByteArray} (h : r ≠ ⟨#[]⟩) : r.toList.isEmpty = false := by
  rw [Lib.toList_data]
  cases hl : r.data.toList with
  | nil => exact absurd (ba_ext (t := ⟨#[]⟩) (by rw [hl])) h
  | cons _ _ => rfl
abbrev tapeW : Array Value := #[.bool false, .slice none 0 0, .string ⟨#[]⟩, .bool false]
abbrev tapeR (s : ByteArray) : Array Value := #[.bool true, .slice none 0 0, .string s, .bool false]
section
variable {w w' W : World} {t : List Ty} {x : List At} {vs : List Value} {ty : TypeId}
theorem alloc_at (w : World) (c : Obj) : (w.alloc c).heap[w.heap.size]? = some c := heap_alloc_new w c
theorem alloc_sz (w : World) (c : Obj) : (w.alloc c).heap.size = w.heap.size + 1 := by simp
theorem alloc_old (w : World) (c : Obj) {k : Nat} (h : k < w.heap.size) : (w.alloc c).heap[k]? = w.heap[k]? := Below.heap_alloc w c k h
/-- put's tape and struct. -/
theorem put_pre (hx : hasS t x) (hv : valsS w NoS x vs) (hl : (encS x).length ≤ 1000000000) : Pre ((w.alloc (.cells vs.toArray ty)).alloc (.cells tapeW 132)) (w.heap.size + 1) (fun k => k = w.heap.size + 1) ⟨false, [], [], false⟩ w.heap.size 0 t x := by
  obtain ⟨W1, h1⟩ : ∃ W1, W1 = w.alloc (.cells vs.toArray ty) := ⟨_, rfl⟩
  rw [← h1]
  have z1 : W1.heap.size = w.heap.size + 1 := by rw [h1]; exact alloc_sz _ _
  have b1 : W1.heap[w.heap.size]? = some (.cells vs.toArray ty (0, 0)) := by rw [h1]; exact alloc_at _ _
  have bA : (W1.alloc (.cells tapeW 132)).heap[w.heap.size + 1]? = some (.cells tapeW 132 (0, 0)) := by rw [← z1]; exact alloc_at _ _
  have bB : (W1.alloc (.cells tapeW 132)).heap[w.heap.size]? = some (.cells vs.toArray ty (0, 0)) := (alloc_old W1 _ (by omega)).trans b1
  have z2 : (W1.alloc (.cells tapeW 132)).heap.size = w.heap.size + 2 := by rw [alloc_sz, z1]
  have hlen := valsS_len hv
  have htl := hasS_len hx
  refine ⟨⟨.slice none 0 0, ⟨bA, World.ownsRow_nil _ _ _ _, fun k hk => (by cases hk), rfl, fun k hk => by have : k = w.heap.size + 1 := hk; omega⟩⟩, fun q => by have : w.heap.size = w.heap.size + 1 := q; omega, ⟨_, _, bB, by simp; omega⟩, hx, ?_, fun q => (by cases q), fun q => (by cases q), fun _ => rfl, fun _ => by simpa using hl, by simp⟩
  refine liesS_of (valsS_keeps (S := NoS) ⟨by omega, fun k hk _ => ⟨?_, fun q => by have : k = w.heap.size + 1 := q; omega⟩⟩ hv) (fun j hj => ?_)
  · rw [alloc_old W1 _ (by omega), h1, alloc_old w _ hk]
  · rw [cell_blk bB]
    simp
theorem put_post (k : Post ((w.alloc (.cells vs.toArray ty)).alloc (.cells tapeW 132)) w' (w.heap.size + 1) (fun k => k = w.heap.size + 1) ⟨false, [], [], false⟩ w.heap.size 0 t x) : Below w.heap.size w w' ∧ ∃ rv, w'.cell? ⟨w.heap.size + 1, 1, none⟩ = some rv ∧ (convert 130 9 rv).run Try.prog w' = .ok (.string (txt (encS x))) w' := by
  obtain ⟨S', s', ⟨rv, p1⟩, p2, p3, p4, p5⟩ := k
  have hz := p3.size
  rw [alloc_sz, alloc_sz] at hz
  refine ⟨⟨p3.os, p3.tape, p3.output, by omega, fun j hj => ?_⟩, rv, cell_blk p1.ob 1, ?_⟩
  · rw [p3.block j (by rw [alloc_sz, alloc_sz]; omega) (fun q => by rcases q with q | q <;> omega), alloc_old _ _ (by rw [alloc_sz]; omega), alloc_old _ _ hj]
  · rcases p5 with ⟨_, q⟩ | ⟨q, _⟩ | ⟨q, _⟩
    · have h := p1.row
      rw [q] at h
      exact conv_row h
    · cases q
    · cases q
/-- get's result, tape, struct and nothing. -/
theorem get_pre (w : World) (t : List Ty) (ty : TypeId) (s : ByteArray) (hl : s.size ≤ 1000000000) : Pre ((((w.alloc (.cells (zvS t) ty)).alloc (.cells (tapeR s) 132)).alloc (.cells (zvS t) ty)).alloc (.cells (zvS t) ty)) (w.heap.size + 1) (fun k => k = w.heap.size + 1) ⟨true, [], s.data.toList, false⟩ (w.heap.size + 2) 0 t (zeroS t) := by
  obtain ⟨W1, h1⟩ : ∃ W1, W1 = w.alloc (.cells (zvS t) ty) := ⟨_, rfl⟩
  rw [← h1]
  have z1 : W1.heap.size = w.heap.size + 1 := by rw [h1]; exact alloc_sz _ _
  obtain ⟨W2, h2⟩ : ∃ W2, W2 = W1.alloc (.cells (tapeR s) 132) := ⟨_, rfl⟩
  rw [← h2]
  have z2 : W2.heap.size = w.heap.size + 2 := by rw [h2, alloc_sz, z1]
  have a2 : W2.heap[w.heap.size + 1]? = some (.cells (tapeR s) 132 (0, 0)) := by rw [h2, ← z1]; exact alloc_at _ _
  obtain ⟨W3, h3⟩ : ∃ W3, W3 = W2.alloc (.cells (zvS t) ty) := ⟨_, rfl⟩
  rw [← h3]
  have z3 : W3.heap.size = w.heap.size + 3 := by rw [h3, alloc_sz, z2]
  have a3 : W3.heap[w.heap.size + 1]? = some (.cells (tapeR s) 132 (0, 0)) := by rw [h3, alloc_old W2 _ (by omega)]; exact a2
  have x3 : W3.heap[w.heap.size + 2]? = some (.cells (zvS t) ty (0, 0)) := by rw [h3, ← z2]; exact alloc_at _ _
  have z4 : (W3.alloc (.cells (zvS t) ty)).heap.size = w.heap.size + 4 := by rw [alloc_sz, z3]
  have a4 : (W3.alloc (.cells (zvS t) ty)).heap[w.heap.size + 1]? = some (.cells (tapeR s) 132 (0, 0)) := (alloc_old W3 _ (by omega)).trans a3
  have x4 : (W3.alloc (.cells (zvS t) ty)).heap[w.heap.size + 2]? = some (.cells (zvS t) ty (0, 0)) := (alloc_old W3 _ (by omega)).trans x3
  have zc : Zc (W3.alloc (.cells (zvS t) ty)) (w.heap.size + 2) 0 t := fun j hj => by
    rw [cell_blk x4, Nat.zero_add]
    unfold zvS
    simp [hj]
  have e0 : txt s.data.toList = s := txt_of s
  refine ⟨⟨.slice none 0 0, ⟨?_, World.ownsRow_nil _ _ _ _, fun k hk => (by cases hk), rfl, fun k hk => by have : k = w.heap.size + 1 := hk; omega⟩⟩, fun q => by have : w.heap.size + 2 = w.heap.size + 1 := q; omega, ⟨_, _, x4, by simp [zvS]⟩, zeroS_has t, zeroS_lies t 0 zc, fun _ => ⟨rfl, zc⟩, fun _ q => (by cases q), fun q => (by cases q), fun q => (by cases q), ?_⟩
  · rw [a4]
    show _ = some (Obj.cells #[.bool true, .slice none 0 0, .string (txt s.data.toList), .bool false] 132 (0, 0))
    rw [e0]
  · show s.data.toList.length ≤ _
    rw [Array.length_toList]
    exact hl
/-- What get answers. -/
def GetAns (w w' : World) (t : List Ty) (s : ByteArray) (e : Ending) : Prop := ∃ (vs : Array Value) (c : Int), e = .returned (.tuple #[.agg vs, .int .i64 c]) ∧ vs.size = t.length ∧ (∀ j (hj : j < t.length), ∃ v, vs[j]? = some v ∧ t[j].kind v) ∧ Below w.heap.size w w' ∧
  ((c = 0 ∧ ∃ y, hasS t y ∧ s.data.toList = encS y ∧ valsS w' (fun k => k < w.heap.size) y vs.toList) ∨ (c = 100 ∧ vs = zvS t ∧ ∀ y, hasS t y → s.data.toList ≠ encS y))
theorem zvS_kinds (t : List Ty) : ∀ j (hj : j < t.length), ∃ v, (zvS t)[j]? = some v ∧ t[j].kind v := fun j hj => by
  refine ⟨t[j].zv, by unfold zvS; simp [hj], ?_⟩
  cases t[j] <;> simp [Ty.zv, Ty.kind]
theorem get_post {s : ByteArray} (k : Post ((((w.alloc (.cells (zvS t) ty)).alloc (.cells (tapeR s) 132)).alloc (.cells (zvS t) ty)).alloc (.cells (zvS t) ty)) w' (w.heap.size + 1) (fun k => k = w.heap.size + 1) ⟨true, [], s.data.toList, false⟩ (w.heap.size + 2) 0 t (zeroS t)) :
    Below w.heap.size w w' ∧ w'.heap[w.heap.size]? = some (.cells (zvS t) ty (0, 0)) ∧ w'.heap[w.heap.size + 3]? = some (.cells (zvS t) ty (0, 0)) ∧ ∃ (vs : Array Value) (bad : Bool) (r : ByteArray), w'.heap[w.heap.size + 2]? = some (.cells vs ty (0, 0)) ∧ vs.size = t.length ∧ (∀ j (hj : j < t.length), ∃ v, vs[j]? = some v ∧ t[j].kind v) ∧
      w'.cell? ⟨w.heap.size + 1, 3, none⟩ = some (.bool bad) ∧ w'.cell? ⟨w.heap.size + 1, 2, none⟩ = some (.string r) ∧
      (bad = true ∨ r ≠ ⟨#[]⟩ → ∀ y, hasS t y → s.data.toList ≠ encS y) ∧ (bad = false → r = ⟨#[]⟩ → ∃ y, hasS t y ∧ s.data.toList = encS y ∧ valsS w' (fun k => k < w.heap.size + 4) y vs.toList) := by
  obtain ⟨S', s', ⟨rv, p1⟩, p2, p3, ⟨c0, vs, tX, b1, b2, b3, b4, b5, b6, b7⟩, p5⟩ := k
  obtain ⟨W1, h1⟩ : ∃ W1, W1 = w.alloc (.cells (zvS t) ty) := ⟨_, rfl⟩
  rw [← h1] at p2 p3 b1 p5
  have z1 : W1.heap.size = w.heap.size + 1 := by rw [h1]; exact alloc_sz _ _
  have a1 : W1.heap[w.heap.size]? = some (.cells (zvS t) ty (0, 0)) := by rw [h1]; exact alloc_at _ _
  obtain ⟨W2, h2⟩ : ∃ W2, W2 = W1.alloc (.cells (tapeR s) 132) := ⟨_, rfl⟩
  rw [← h2] at p2 p3 b1 p5
  have z2 : W2.heap.size = w.heap.size + 2 := by rw [h2, alloc_sz, z1]
  obtain ⟨W3, h3⟩ : ∃ W3, W3 = W2.alloc (.cells (zvS t) ty) := ⟨_, rfl⟩
  rw [← h3] at p2 p3 b1 p5
  have z3 : W3.heap.size = w.heap.size + 3 := by rw [h3, alloc_sz, z2]
  have x3 : W3.heap[w.heap.size + 2]? = some (.cells (zvS t) ty (0, 0)) := by rw [h3, ← z2]; exact alloc_at _ _
  have z4 : (W3.alloc (.cells (zvS t) ty)).heap.size = w.heap.size + 4 := by rw [alloc_sz, z3]
  have x4 : (W3.alloc (.cells (zvS t) ty)).heap[w.heap.size + 2]? = some (.cells (zvS t) ty (0, 0)) := (alloc_old W3 _ (by omega)).trans x3
  have n4 : (W3.alloc (.cells (zvS t) ty)).heap[w.heap.size + 3]? = some (.cells (zvS t) ty (0, 0)) := by rw [← z3]; exact alloc_at _ _
  have r4 : (W3.alloc (.cells (zvS t) ty)).heap[w.heap.size]? = some (.cells (zvS t) ty (0, 0)) := by
    rw [alloc_old W3 _ (by omega), h3, alloc_old W2 _ (by omega), h2, alloc_old W1 _ (by omega)]
    exact a1
  rw [x4] at b1
  simp only [Option.some.injEq, Obj.cells.injEq] at b1
  obtain ⟨rfl, rfl, _⟩ := b1
  have hz := p3.size
  have st : ∀ j, j < w.heap.size + 4 → j ≠ w.heap.size + 1 → j ≠ w.heap.size + 2 → w'.heap[j]? = (W3.alloc (.cells (zvS t) ty)).heap[j]? := fun j h1 h2 h3 => p3.block j (by omega) (fun q => by rcases q with q | q; exact h2 q; exact h3 q)
  have hvs : vs.size = t.length := by rw [b3]; simp [zvS]
  refine ⟨⟨p3.os.trans (by rw [h3, h2, h1]; rfl), p3.tape.trans (by rw [h3, h2, h1]; rfl), p3.output.trans (by rw [h3, h2, h1]; rfl), by omega, fun j hj => ?_⟩, (st _ (by omega) (by omega) (by omega)).trans r4, (st _ (by omega) (by omega) (by omega)).trans n4, vs, s'.bad, txt s'.rest, b2, hvs, fun j hj => (by have := b7 j hj; rwa [Nat.zero_add] at this), cell_blk p1.ob 3, cell_blk p1.ob 2, ?_, ?_⟩
  · rw [st j (by omega) (by omega) (by omega), alloc_old W3 _ (by omega), h3, alloc_old W2 _ (by omega), h2, alloc_old W1 _ (by omega), h1, alloc_old w _ hj]
  · intro hq y hy e
    rcases p5 with ⟨q, _⟩ | ⟨_, z, r, q1, q2, q3, _⟩ | ⟨_, q1, q2⟩
    · cases q
    · have q2' : s.data.toList = encS z ++ r := q2
      rw [e] at q2'
      obtain ⟨_, e2⟩ := preS t y z [] r hy q1 (by simpa using q2')
      rw [q3, ← e2] at hq
      rcases hq with hq | hq
      · cases hq
      · exact hq rfl
    · exact q1 ⟨y, [], hy, by simpa using e⟩
  · intro hb hr
    rcases p5 with ⟨q, _⟩ | ⟨_, z, r, q1, q2, q3, q4⟩ | ⟨_, q1, q2⟩
    · cases q
    · have er : r = [] := by
        have : txt s'.rest = ⟨#[]⟩ := hr
        rw [q3] at this
        have e2 := congrArg (fun b : ByteArray => b.data.toList) this
        simpa [txt] using e2
      have q2' : s.data.toList = encS z ++ r := q2
      rw [er, List.append_nil] at q2'
      refine ⟨z, q1, q2', ?_⟩
      obtain ⟨us, hu1, hu2⟩ := valsS_of q4
      have hul := valsS_len hu1
      have hzl := hasS_len q1
      have eus : us = vs.toList := by
        apply List.ext_getElem?
        intro j
        by_cases hj : j < t.length
        · rw [← hu2 j (by omega), cell_blk b2, Nat.zero_add]
          simp
        · rw [List.getElem?_eq_none (by omega), List.getElem?_eq_none (by simp; omega)]
      subst eus
      exact valsS_keeps ⟨Nat.le_refl _, fun j _ hj => ⟨rfl, fun q => hj (.inl (by omega))⟩⟩ hu1
    · rw [q2] at hb
      cases hb
end
end Go.Proofs.Ytjhgmncmcklnkaa
