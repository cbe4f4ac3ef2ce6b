import Derived.Test.YtkfnphhoebknnaaQNb
import Derived.Test.YtkfnphhoebknnaaQHa
import Derived.Test.YtkfnphhoebknnaaQBp
namespace Go.Proofs.Ytkfnphhoebknnaa
open Go.RowKit Go.Maps
abbrev inV (L : List Int) : List Value := L.map (fun n => Value.int .i64 n)
/-- A number more behind a row of numbers that is the call's own. -/
theorem pushIn {X : World} {B : Nat} {R : List Int} {v : Value} (ho : X.ownsRow B 3 1 v R.length (inV R)) (hB : B ≤ X.heap.size) (n : Int) (hz : R.length ≤ 1000000) :
    ∃ ad cap w', (Builtin.append_ #[61, 61] 61 #[v, .slice (some ⟨X.heap.size, 0, none⟩) 1 1]).run Try.prog (X.alloc (.cells #[.int .i64 n] 3)) = .ok (.slice ad (R.length + 1) cap) w' ∧ w'.ownsRow B 3 1 (.slice ad (R.length + 1) cap) (R ++ [n]).length (inV (R ++ [n])) ∧ Fr X w' (fun k => v.ownBlock = some k) := by
  have hal := bnew X (.cells #[.int .i64 n] 3)
  have hj := heap_alloc_new X (.cells #[.int .i64 n] 3)
  obtain ⟨ad, cap, w', h1, h2, h3, h4⟩ := run_in (m := 1) (c := 1) (news := [.int .i64 n]) (own_below ho hal) (Nat.le_trans hB hal.size) (.inr ⟨_, rfl, rfl, fun j u hu => by
    rw [add_at, Nat.zero_add, cell_blk hj]
    simpa using hu⟩) (fun u hu => by
      rw [List.mem_singleton.1 hu]
      rfl) (by omega)
  exact ⟨ad, cap, w', h1, by simpa using h2, ((Fr.refl X _).alloc _).grown h3 (fun k hk => .inl hk)⟩
theorem ids_next {l : List Tb} {i : Nat} (hi : i < l.length) : idsS (l.take (i + 1)) = idsS (l.take i) ++ idsT l[i] := by
  unfold idsS
  rw [List.take_succ_eq_append_getElem hi, List.flatMap_append]
  simp
theorem idsT_parts (t : Tb) : idsT t = ([t.id] ++ t.cols.map Col.id ++ t.ixs.map Ix.id) ++ t.fks.map Fk.id := by
  unfold idsT
  simp
theorem map_next {α : Type} {f : α → Int} {l : List α} {k : Nat} (hk : k < l.length) : (l.take (k + 1)).map f = (l.take k).map f ++ [f l[k]] := by
  rw [List.take_succ_eq_append_getElem hk, List.map_append]
  simp
/-- How many ids there are. -/
theorem idsS_len {l : List Tb} (h : ∀ t ∈ l, t.cols.length ≤ 8 ∧ t.ixs.length ≤ 8 ∧ t.fks.length ≤ 8) : (idsS l).length ≤ 25 * l.length := by
  induction l with
  | nil => simp [idsS]
  | cons t r ih =>
    have h1 := h t List.mem_cons_self
    have h2 := ih fun x hx => h x (List.mem_cons_of_mem _ hx)
    unfold idsS at h2 ⊢
    rw [List.flatMap_cons, List.length_append, idsT_parts]
    simp only [List.length_append, List.length_map, List.length_cons, List.length_nil]
    omega
/-- No two are the same: as two loops ask it. -/
theorem nodup_loops {L : List Int} : L.Nodup ↔ ∀ i (hi : i < L.length), ∀ k (hk : k < L.length), k < i → L[k] ≠ L[i] := by
  rw [List.nodup_iff_pairwise_ne, List.pairwise_iff_getElem]
  constructor
  · intro h i hi k hk hki
    exact h k i hk hi hki
  · intro h i j hi hj hij
    exact h j hj i hi hij
/-- A key's column and parent as their places say. -/
theorem fkB_places {l : List Tb} {t : Tb} {x : Fk} : fkB l t x = true ↔ ∃ (c : Nat) (hc : c < t.cols.length) (p : Nat) (hp : p < l.length), colOf t x.col = (c : Int) ∧ tabOf l x.par = (p : Int) ∧ keyKd l[p] = some t.cols[c].kd := by
  have go : ∀ {α : Type} (f : α → Int) (n : Int) (m : List α), (fidx (fun y => decide (f y = n)) m = -1 ∧ m.find? (fun y => decide (f y = n)) = none) ∨ ∃ (i : Nat) (hi : i < m.length), fidx (fun y => decide (f y = n)) m = (i : Int) ∧ m.find? (fun y => decide (f y = n)) = some m[i] := by
    intro α f n m
    rcases fidx_cases (fun y => decide (f y = n)) m with ⟨q, h⟩ | ⟨i, hi, q, hp, hb⟩
    · exact .inl ⟨q, List.find?_eq_none.2 fun x hx => by rw [h x hx]; decide⟩
    · refine .inr ⟨i, hi, q, ?_⟩
      rw [List.find?_eq_some_iff_getElem]
      exact ⟨hp, i, hi, rfl, fun j hj => by rw [hb j (by omega) hj]; rfl⟩
  unfold fkB colOf tabOf
  rcases go Col.id x.col t.cols with ⟨q1, f1⟩ | ⟨c, hc, q1, f1⟩
  · rw [f1]
    constructor
    · intro z; cases z
    · rintro ⟨c, _, _, _, e, _⟩
      rw [q1] at e
      omega
  · rcases go Tb.id x.par l with ⟨q2, f2⟩ | ⟨p, hp, q2, f2⟩
    · rw [f1, f2]
      constructor
      · intro z; cases z
      · rintro ⟨_, _, p, _, _, e, _⟩
        rw [q2] at e
        omega
    · rw [f1, f2]
      simp only [decide_eq_true_eq]
      constructor
      · intro z
        exact ⟨c, hc, p, hp, q1, q2, z⟩
      · rintro ⟨c', hc', p', hp', e1, e2, z⟩
        rw [q1] at e1
        rw [q2] at e2
        have : c = c' := by omega
        subst this
        have : p = p' := by omega
        subst this
        exact z
end Go.Proofs.Ytkfnphhoebknnaa
namespace Go.Proofs.Ytkfnphhoebknnaa
open Go.RowKit Go.Maps
structure RJ (w W : World) (Y : Nat) (box : Array Value) (wr : World) (iv : Value) (L : List Int) : Prop where
  y : wr.heap[Y]? = some (.cells box 24 (0, 0))
  row : wr.ownsRow W.heap.size 3 1 iv L.length (inV L)
  b : Below w.heap.size w wr
  sz : W.heap.size ≤ wr.heap.size
theorem RJ.below {w W : World} {Y : Nat} {box : Array Value} {wr wr' : World} {iv : Value} {L : List Int} (h : RJ w W Y box wr iv L) (hb : Below wr.heap.size wr wr') : RJ w W Y box wr' iv L :=
  ⟨(hb.block Y (blk_lt h.y)).trans h.y, own_below h.row hb, bgo h.b hb, Nat.le_trans h.sz hb.size⟩
/-- One id more. -/
theorem RJ.push {w W : World} {Y : Nat} {box : Array Value} {wr : World} {iv : Value} {L : List Int} (h : RJ w W Y box wr iv L) (hw : w.heap.size ≤ W.heap.size) (n : Int) (hz : L.length ≤ 1000000) :
    ∃ ad cap w', (Builtin.append_ #[61, 61] 61 #[iv, .slice (some ⟨wr.heap.size, 0, none⟩) 1 1]).run Try.prog (wr.alloc (.cells #[.int .i64 n] 3)) = .ok (.slice ad (L.length + 1) cap) w' ∧ RJ w W Y box w' (.slice ad (L.length + 1) cap) (L ++ [n]) ∧ (∀ (k : Nat) (cs : Array Value) (e : TypeId), e ≠ 3 → wr.heap[k]? = some (.cells cs e (0, 0)) → w'.heap[k]? = some (.cells cs e (0, 0))) := by
  obtain ⟨ad, cap, w', h1, h2, h3⟩ := pushIn h.row h.sz n hz
  have kp : ∀ (k : Nat) (cs : Array Value) (e : TypeId), e ≠ 3 → wr.heap[k]? = some (.cells cs e (0, 0)) → w'.heap[k]? = some (.cells cs e (0, 0)) := fun k cs e he hk => (h3.block k (blk_lt hk) (fun q => by
    obtain ⟨cs9, t9⟩ := own_tag h.row k q
    rw [hk] at t9
    simp only [Option.some.injEq, Obj.cells.injEq] at t9
    exact he t9.2.1)).trans hk
  exact ⟨ad, cap, w', h1, ⟨kp Y box 24 (by decide) h.y, h2, h.b.trans (h3.toBelow (fun k hk q => by have := (own_ge h.row k q).1; omega) h.b.size), Nat.le_trans h.sz h3.size⟩, kp⟩
end Go.Proofs.Ytkfnphhoebknnaa
