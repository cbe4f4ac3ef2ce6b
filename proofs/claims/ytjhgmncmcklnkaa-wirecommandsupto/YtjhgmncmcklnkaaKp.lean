/- Lists that are read. -/
import Derived.Test.YtjhgmncmcklnkaaKo
namespace Go.Proofs.Ytjhgmncmcklnkaa
open Go.RowKit

section
variable {w w' w1 w2 wr : World} {A : Nat} {S S1 : Nat → Prop} {s s1 : TS} {B o : Nat} {t u : List Ty} {x y : List At} {st et ty : TypeId} {l : List (List At)} {cs : Array Value} {c i : Nat}
/-- So many items are read. -/
structure RV (w : World) (A : Nat) (S : Nat → Prop) (s : TS) (B o : Nat) (cs : Array Value) (ty et : TypeId) (t : List Ty) (c i : Nat) (wr : World) (S' : Nat → Prop) (r : List UInt8) (ys : List (List At)) (xs : List Value) (tv : Value) : Prop where
  tp : Tp wr A S' { s with rest := r }
  gro : ∀ k, S' k → Gro S w wr k
  fr : Fr w wr (fun k => S k ∨ k = B)
  blk : wr.heap[B]? = some (.cells (cs.setIfInBounds o tv) ty (0, 0))
  nN : ¬ S' w.heap.size
  lN : w.heap.size < wr.heap.size
  cN : wr.cell? ⟨w.heap.size, 0, none⟩ = some (.int .i64 (c : Int))
  len : ys.length = i
  has : hasL t ys
  eq : s.rest = num (c : Int) ++ (encL ys ++ r)
  row : wr.ownsRow (w.heap.size + 1) et t.length tv i xs
  vals : valsL wr (fun k => k < w.heap.size ∨ S' k ∨ tv.ownBlock = some k) ys xs
  nrow : ∀ k, tv.ownBlock = some k → ¬ S' k
  cl : c ≤ 1000000000
def RI (w : World) (A : Nat) (S : Nat → Prop) (s : TS) (B o : Nat) (cs : Array Value) (ty et : TypeId) (t : List Ty) (c i : Nat) (wr : World) : Prop := ∃ S' r ys xs tv, RV w A S s B o cs ty et t c i wr S' r ys xs tv
/-- There is no list. -/
def RB (w : World) (A : Nat) (S : Nat → Prop) (s : TS) (B o : Nat) (cs : Array Value) (ty : TypeId) (t : List Ty) (wr : World) : Prop := ∃ S' tv m, Tp wr A S' { s with rest := [], bad := true } ∧ (∀ k, S' k → Gro S w wr k) ∧ Fr w wr (fun k => S k ∨ k = B) ∧ wr.heap[B]? = some (.cells (cs.setIfInBounds o tv) ty (0, 0)) ∧ (∃ ad n q, tv = .slice ad n q) ∧ ¬ Rd [.list t] s.rest ∧ wr.cell? ⟨w.heap.size, 0, none⟩ = some (.int .i64 m)
theorem RI.cells (h0 : Pre w A S s B o [.list t] x) (h : RI w A S s B o cs ty et t c i wr) (hr : s.reads = true) : wr.cell? ⟨A, 0, none⟩ = some (.bool true) ∧ wr.cell? ⟨A, 3, none⟩ = some (.bool false) ∧ wr.cell? ⟨w.heap.size, 0, none⟩ = some (.int .i64 (c : Int)) ∧ c ≤ 1000000000 := by
  obtain ⟨S', r, ys, xs, tv, h⟩ := h
  obtain ⟨rv, hT⟩ := h.tp
  have hrne : s.rest ≠ [] := by
    rw [h.eq]
    have := num_pos (c : Int)
    intro q
    have := congrArg List.length q
    simp only [List.length_append, List.length_nil] at this
    omega
  refine ⟨(cell_blk hT.ob 0).trans ?_, (cell_blk hT.ob 3).trans ?_, h.cN, h.cl⟩
  · show some (Value.bool s.reads) = _
    rw [hr]
  · show some (Value.bool s.bad) = _
    cases hb : s.bad with
    | false => rfl
    | true => exact absurd (h0.rb hr hb) hrne
theorem RB.cells (h : RB w A S s B o cs ty t wr) : wr.cell? ⟨A, 3, none⟩ = some (.bool true) ∧ ∃ m, wr.cell? ⟨w.heap.size, 0, none⟩ = some (.int .i64 m) := by
  obtain ⟨S', tv, m, ⟨rv, hT⟩, h⟩ := h
  exact ⟨cell_blk hT.ob 3, m, h.2.2.2.2.2⟩
theorem list_no {l : List UInt8} (ht : 0 < t.length) (h : ∀ (c : Nat) (r : List UInt8), c ≤ r.length → I64 (c : Int) → l ≠ num (c : Int) ++ r) : ¬ Rd [.list t] l := by
  rintro ⟨y, r, hy, e⟩
  obtain ⟨a, rfl, ha⟩ := hasS_one hy
  obtain ⟨q, rfl, hs, hL⟩ := has_list ha
  have hlen := encL_len (List.ne_nil_of_length_pos ht) hL
  refine h q.length (encL q ++ r) (by rw [List.length_append]; omega) (len_in hs) ?_
  simpa [encS, At.enc] using e
theorem zero_cell (h : Pre w A S s B o [.list t] x) (hr : s.reads = true) : w.cell? ⟨B, o, none⟩ = some (.slice none 0 0) ∧ x = [.list []] := ⟨(h.zero hr).2 0 (by simp), (h.zero hr).1⟩
theorem RI.start {tn : TypeId} (h : Pre w A S s B o [.list t] x) (hr : s.reads = true) (ht : 0 < t.length) (hb : w.heap[B]? = some (.cells cs ty (0, 0))) (hc : CAns (w.alloc (.cells #[.int .i64 0] tn)) w1 A S s w.heap.size 0) : (∃ c, RI w A S s B o cs ty et t c 0 w1) ∨ RB w A S s B o cs ty t w1 := by
  obtain ⟨S', s', m, h1, h2, h3, h4, h5⟩ := hc
  have hsz : (w.alloc (.cells #[.int .i64 0] tn)).heap.size = w.heap.size + 1 := by simp
  have hz := h3.size
  have hF := h3.fresh1
  have hz0 := (zero_cell h hr).1
  rw [cell_blk hb] at hz0
  have hB : w1.heap[B]? = some (.cells (cs.setIfInBounds o (.slice none 0 0)) ty (0, 0)) := by
    rw [set_same hz0, hF.block B h.lt h.nB]
    exact hb
  rcases h5 with ⟨q, _⟩ | ⟨_, c, r, q1, q2, q3, q4⟩ | ⟨_, q1, q2, q3⟩
  · rw [hr] at q; cases q
  · subst q1
    have hl := h.lenR
    rw [q3, List.length_append] at hl
    refine .inl ⟨c, S', r, [], [], .slice none 0 0, ⟨by rw [q4] at h1; exact h1, Gro.fresh1 h2, hF.mono (fun _ q => .inl q), hB, fun q => ?_, by omega, h4, rfl, by simp [hasL], by simpa [encL] using q3, World.ownsRow_nil _ _ _ _, rfl, fun k hk => (by cases hk), by omega⟩⟩
    rcases h2 _ q with q | q
    · have := h.tp.lt _ q
      omega
    · omega
  · exact .inr ⟨S', .slice none 0 0, m, by rw [q3] at h1; exact h1, Gro.fresh1 h2, hF.mono (fun _ q => .inl q), hB, ⟨_, _, _, rfl⟩, list_no ht q2, h4⟩
theorem RI.done (h : Pre w A S s B o [.list t] x) (hr : s.reads = true) (hb : w.heap[B]? = some (.cells cs ty (0, 0))) (k : RI w A S s B o cs ty et t c c wr) : Post w wr A S s B o [.list t] x := by
  obtain ⟨S', r, ys, xs, tv, k⟩ := k
  have hrow := k.row
  have hl := k.len
  have hcl := k.cl
  have hsh : ∃ ad n q, tv = .slice ad n q := by
    obtain ⟨ad, cap, e⟩ := own_shape hrow
    exact ⟨_, _, _, e⟩
  refine Post.fin h hb k.tp k.gro k.fr k.blk hsh hr (.inl ⟨.list ys, r, ?_, ?_, rfl, ?_⟩)
  · simp only [Ty.has]
    exact ⟨by omega, k.has⟩
  · simp only [At.enc]
    rw [hl, List.append_assoc]
    exact k.eq
  · simp only [At.lies]
    rcases hrow.2 with ⟨hv, h0⟩ | ⟨g, cap, cur, hv, hg, hc, h1, h2, _⟩
    · exact ⟨none, 0, by rw [hv, hl, h0], by omega, Nat.zero_le _, .inl (List.eq_nil_of_length_eq_zero (by omega))⟩
    · have hgl := blk_lt hc
      refine ⟨_, cap, by rw [hv, hl], by omega, h2, .inr ⟨g, 0, rfl, hgl, fun q => ?_, ?_⟩⟩
      · rcases q with q | q
        · omega
        · exact k.nrow g (by rw [hv]; rfl) q
      · refine liesL_vals (valsL_keeps (S := fun k => k < w.heap.size ∨ S' k ∨ tv.ownBlock = some k) ⟨Nat.le_refl _, fun j _ hj => ⟨rfl, fun q => hj (by rcases q with q | q; exact .inl q; exact .inr (.inl q))⟩⟩ k.vals) (fun j hj => ?_)
        rw [Nat.zero_add]
        subst hv
        exact hrow.cellAt j (by rw [← hrow.1]; exact hj)
theorem RB.done (h : Pre w A S s B o [.list t] x) (hr : s.reads = true) (hb : w.heap[B]? = some (.cells cs ty (0, 0))) (k : RB w A S s B o cs ty t wr) : Post w wr A S s B o [.list t] x := by
  obtain ⟨S', tv, m, k1, k2, k3, k4, k5, k6, _⟩ := k
  exact Post.fin h hb k1 k2 k3 k4 k5 hr (.inr ⟨k6, rfl⟩)
theorem zvS_get (i : Nat) (hi : i < t.length) : (zvS t)[i]? = some t[i].zv := by
  unfold zvS
  simp [hi]
/-- Room for one item more. -/
theorem RI.next (hE : El st et t) (h : Pre w A S s B o [.list t] x) (hr : s.reads = true) (hb : w.heap[B]? = some (.cells cs ty (0, 0))) (hi : i < c) (k : RI w A S s B o cs ty et t c i wr) :
    ∃ S' s', Pre (wr.alloc (.cells (zvS t) et)) A S' s' wr.heap.size 0 t (zeroS t) ∧ ∀ w2, Post (wr.alloc (.cells (zvS t) et)) w2 A S' s' wr.heap.size 0 t (zeroS t) →
      ∃ (us : Array Value) (tv v' : Value) (w3 : World), us.size = t.length ∧ (∀ j, j < t.length → w2.cell? ⟨wr.heap.size, j, none⟩ = us[j]?) ∧ (∀ j (hj : j < t.length), ∃ v, us[j]? = some v ∧ t[j].kind v) ∧ w2.cell? ⟨B, o, none⟩ = some tv ∧
        (Builtin.append_ #[st, st] st #[tv, .slice (some ⟨w2.heap.size, 0, none⟩) 1 1]).run Try.prog (w2.drew.alloc (.cells us et)) = .ok v' w3 ∧ (∃ ad n q, tv = .slice ad n q) ∧ (∃ ad n q, v' = .slice ad n q) ∧ (w2.alloc (.cells us et)).cell? ⟨B, o, none⟩ = some tv ∧ w3.cell? ⟨B, o, none⟩ = some tv ∧ w3.frozen? ⟨B, o, none⟩ = false ∧
        (RI w A S s B o cs ty et t c (i + 1) (w3.setCell ⟨B, o, none⟩ v') ∨ RB w A S s B o cs ty t (w3.setCell ⟨B, o, none⟩ v')) := by
  obtain ⟨S', r, ys, xs, tv, k⟩ := k
  have hbw : Below wr.heap.size wr (wr.alloc (.cells (zvS t) et)) := Below.alloc (Below.refl _ _) (Nat.le_refl _) _
  have hX : (wr.alloc (.cells (zvS t) et)).heap[wr.heap.size]? = some (.cells (zvS t) et (0, 0)) := heap_alloc_new wr _
  have hXs : (wr.alloc (.cells (zvS t) et)).heap.size = wr.heap.size + 1 := by simp
  have hzl : (zvS t).size = t.length := by simp [zvS]
  have hBl := h.lt
  have hlN := k.lN
  have hcs : o < cs.size := by
    obtain ⟨cs', ty', g1, g2⟩ := h.blk
    rw [hb] at g1
    simp only [Option.some.injEq, Obj.cells.injEq] at g1
    obtain ⟨rfl, rfl, _⟩ := g1
    simp at g2
    omega
  have zc : Zc (wr.alloc (.cells (zvS t) et)) wr.heap.size 0 t := fun j hj => by
    rw [cell_blk hX, Nat.zero_add]
    exact zvS_get j hj
  have hrne : s.rest ≠ [] := by
    rw [k.eq]
    have := num_pos (c : Int)
    intro q
    have := congrArg List.length q
    simp only [List.length_append, List.length_nil] at this
    omega
  have hlr : r.length ≤ 1000000000 := by
    have := h.lenR
    rw [k.eq] at this
    simp only [List.length_append] at this
    omega
  refine ⟨S', { s with rest := r }, ⟨k.tp.on hbw, fun q => ?_, ⟨_, _, hX, by omega⟩, zeroS_has t, zeroS_lies t 0 zc, fun _ => ⟨rfl, zc⟩, fun _ q => absurd (h.rb hr q) hrne, fun q => ?_, fun q => ?_, hlr⟩, ?_⟩
  · have := k.tp.lt _ q
    omega
  · have q' : s.reads = false := q
    rw [hr] at q'; cases q'
  · have q' : s.reads = false := q
    rw [hr] at q'; cases q'
  rintro w2 ⟨S2, s2, p1, p2, p3, ⟨c0, us, tX, b1, b2, b3, b4, b5, b6, b7⟩, p5⟩
  rw [hX] at b1
  simp only [Option.some.injEq, Obj.cells.injEq] at b1
  obtain ⟨rfl, rfl, _⟩ := b1
  have hz2 := p3.size
  have hus : us.size = t.length := by omega
  have hone : ∀ v ∈ us, v.oneCell' = true := by
    intro v hv
    obtain ⟨j, hj, e⟩ := Array.mem_iff_getElem.1 hv
    obtain ⟨v', g1, g2⟩ := b7 j (by omega)
    rw [Nat.zero_add, Array.getElem?_eq_getElem hj, e] at g1
    simp only [Option.some.injEq] at g1
    rw [g1]
    exact Ty.kind_one g2
  -- what stays over the item's own walk
  have st2 : ∀ j, j < wr.heap.size → ¬ S' j → w2.heap[j]? = wr.heap[j]? := fun j hj hs =>
    (p3.block j (by omega) (fun q => by rcases q with q | q; exact hs q; omega)).trans (hbw.block j hj)
  have nBS : ¬ S' B := fun q => by
    rcases k.gro B q with q | q
    · exact h.nB q
    · omega
  have hB2 : w2.heap[B]? = some (.cells (cs.setIfInBounds o tv) ty (0, 0)) := (st2 B (by omega) nBS).trans k.blk
  have hrow2 : w2.ownsRow (w.heap.size + 1) et t.length tv i xs := own_like k.row (fun j hj => st2 j (k.row.lt j hj).2 (k.nrow j hj))
  have hbd : Below w2.heap.size w2 (w2.drew.alloc (.cells us et)) := by
    have hb0 : Below w2.drew.heap.size w2.drew (w2.drew.alloc (.cells us et)) := Below.alloc (Below.refl _ _) (Nat.le_refl _) _
    exact ⟨hb0.os, hb0.tape, hb0.output, hb0.size, hb0.block⟩
  have hrow3 := own_below hrow2 hbd
  have hYs : (w2.drew.alloc (.cells us et)).heap.size = w2.heap.size + 1 := by simp
  have hY : (w2.drew.alloc (.cells us et)).heap[w2.heap.size]? = some (.cells us et (0, 0)) := heap_alloc_new w2.drew _
  obtain ⟨i0, z0, bb, g1, g2, g3, g4, g5, g6⟩ := hE.info
  have hcl := k.cl
  obtain ⟨v', w3, hrun, ho3, hg3, _, hat⟩ := run_append_own_at (P := Try.prog) (w := w2.drew.alloc (.cells us et)) (w.heap.size + 1) st st et i0 z0 t.length bb hE.und g1 g2 g3 g4 g5 hE.pos tv i xs hrow3 ⟨w2.heap.size, 0, none⟩ 1 1 us.toList (by simp [hus]) (fun j u hu => by
      rw [add_at, cell_blk hY, Nat.zero_add]
      simpa using hu) (fun u hu => hone u (by simpa using hu)) (by unfold maxLen; omega) (Nat.le_trans (Nat.mul_le_mul (show i + 1 ≤ 1000000000 by omega) g6) (by decide)) (by omega)
  have hne3 : ∀ j, tv.ownBlock = some j → j ≠ B ∧ w.heap.size + 1 ≤ j ∧ j < wr.heap.size := fun j hj => by
    have := k.row.lt j hj
    omega
  have st3 : ∀ j, j < w2.heap.size → tv.ownBlock ≠ some j → w3.heap[j]? = w2.heap[j]? := fun j hj hs => (hg3.block j (by omega) (fun q => hs q.symm)).trans (hbd.block j hj)
  have hB3 : w3.heap[B]? = some (.cells (cs.setIfInBounds o tv) ty (0, 0)) := (st3 B (by omega) (fun q => (hne3 B q).1 rfl)).trans hB2
  have hz3 := hg3.size
  have hsz : (w3.setCell ⟨B, o, none⟩ v').heap.size = w3.heap.size := by simp [World.setCell]
  have hB4 : (w3.setCell ⟨B, o, none⟩ v').heap[B]? = some (.cells (cs.setIfInBounds o v') ty (0, 0)) := by
    rw [set_blk (i := o) hB3 v']
    simp
  have st4 : ∀ j, j ≠ B → (w3.setCell ⟨B, o, none⟩ v').heap[j]? = w3.heap[j]? := fun j hj => set_other (a := ⟨B, o, none⟩) _ hj
  have hcB : ∀ W : World, W.heap[B]? = some (.cells (cs.setIfInBounds o tv) ty (0, 0)) → W.cell? ⟨B, o, none⟩ = some tv := fun W hW => by
    rw [cell_blk hW]
    simp [hcs]
  have hcB2 : (w2.alloc (.cells us et)).cell? ⟨B, o, none⟩ = some tv := hcB _ ((Below.heap_alloc w2 _ B (by omega)).trans hB2)
  obtain ⟨ad1, cap1, e1⟩ := own_shape hrow2
  obtain ⟨ad2, cap2, e2⟩ := own_shape ho3
  refine ⟨us, tv, v', w3, hus, fun j _ => by rw [cell_blk b2], fun j hj => (by have := b7 j hj; rwa [Nat.zero_add] at this), hcB w2 hB2, hrun, ⟨_, _, _, e1⟩, ⟨_, _, _, e2⟩, hcB2, hcB w3 hB3, frozen_blk hB3 o, ?_⟩
  -- what is left
  have nBS2 : ¬ S2 B := fun q => by
    rcases p2 B q with q | q
    · exact nBS q
    · omega
  have hS2 : ∀ j, S2 j → tv.ownBlock ≠ some j := fun j hj q => by
    rcases p2 j hj with g | g
    · exact k.nrow j q g
    · have := hne3 j q
      omega
  have T4 : Tp (w3.setCell ⟨B, o, none⟩ v') A S2 s2 := p1.like (fun j hj => (st4 j (fun e => nBS2 (e ▸ hj))).trans (st3 j (p1.lt j hj) (hS2 j hj))) (by omega)
  have G4 : ∀ j, S2 j → Gro S w (w3.setCell ⟨B, o, none⟩ v') j := fun j hj => by
    rcases p2 j hj with q | q
    · rcases k.gro j q with q | q
      · exact .inl q
      · exact .inr ⟨q.1, by omega⟩
    · exact .inr ⟨by omega, by omega⟩
  have kz := k.fr.size
  have F4 : Fr w (w3.setCell ⟨B, o, none⟩ v') (fun j => S j ∨ j = B) := by
    refine ⟨hg3.os.trans (hbd.os.trans (p3.os.trans (hbw.os.trans k.fr.os))), hg3.tape.trans (hbd.tape.trans (p3.tape.trans (hbw.tape.trans k.fr.tape))), hg3.output.trans (hbd.output.trans (p3.output.trans (hbw.output.trans k.fr.output))), by omega, fun j hj hs => ?_⟩
    have q1 : j < wr.heap.size := Nat.lt_of_lt_of_le hj kz
    have q2 : ¬ S' j := fun q => by
      rcases k.gro j q with q | q
      · exact hs (.inl q)
      · have := q.1
        omega
    have q3 : tv.ownBlock ≠ some j := fun q => by
      have := (hne3 j q).2.1
      omega
    rw [st4 j (fun e => hs (.inr e)), st3 j (by omega) q3, st2 j q1 q2]
    exact k.fr.block j hj hs
  have N4 : ∀ j, j < wr.heap.size → ¬ S' j → j ≠ B → tv.ownBlock ≠ some j → (w3.setCell ⟨B, o, none⟩ v').heap[j]? = wr.heap[j]? := fun j h1 h2 h3 h4 => (st4 j h3).trans ((st3 j (by omega) h4).trans (st2 j h1 h2))
  have cN4 : (w3.setCell ⟨B, o, none⟩ v').cell? ⟨w.heap.size, 0, none⟩ = some (.int .i64 (c : Int)) := (World.cell?_of_block (N4 w.heap.size k.lN k.nN (by omega) (fun q => by have := hne3 w.heap.size q; omega))).trans k.cN
  have hnv : ∀ j, v'.ownBlock = some j → tv.ownBlock = some j ∨ j = w2.heap.size + 1 := fun j hj => by
    rcases hat with q | q
    · rw [q] at hj
      exact .inl hj
    · rw [q] at hj
      simp only [Option.some.injEq] at hj
      exact .inr (by omega)
  rcases p5 with ⟨q, _⟩ | ⟨_, y, r2, q1, q2, q3, q4⟩ | ⟨_, q1, q2⟩
  · have q' : s.reads = false := q
    rw [hr] at q'; cases q'
  · have q2' : r = encS y ++ r2 := q2
    obtain ⟨vs, hv1, hv2⟩ := valsS_of q4
    have hvl := valsS_len hv1
    have hyl := hasS_len q1
    have evs : vs = us.toList := by
      apply List.ext_getElem?
      intro j
      by_cases hj : j < t.length
      · rw [← hv2 j (by omega), cell_blk b2, Nat.zero_add]
        simp
      · rw [List.getElem?_eq_none (by omega), List.getElem?_eq_none (by simp; omega)]
    subst evs
    refine .inl ⟨S2, r2, ys ++ [y], xs ++ us.toList, v', ⟨by rw [q3] at T4; exact T4, G4, F4, hB4, fun q => ?_, by omega, cN4, by simp [k.len], hasL_append k.has (by unfold hasL; exact ⟨q1, by simp [hasL]⟩), ?_, ?_, ?_, fun j hj q => ?_, k.cl⟩⟩
    · rcases p2 _ q with q | q
      · exact k.nN q
      · omega
    · rw [k.eq, q2', encL_append]
      simp [encL]
    · exact own_like ho3 (fun j hj => st4 j (fun e => by have := ho3.lt j hj; omega))
    · refine valsL_snoc (valsL_keeps ⟨by omega, fun j hj hs => ⟨?_, fun q => ?_⟩⟩ k.vals) (valsS_keeps ⟨by omega, fun j hj hs => ⟨?_, fun q => ?_⟩⟩ hv1)
      · exact N4 j hj (fun q => hs (.inr (.inl q))) (fun e => hs (.inl (by omega))) (fun q => hs (.inr (.inr q)))
      · rcases q with q | q | q
        · exact hs (.inl q)
        · rcases p2 j q with q | q
          · exact hs (.inr (.inl q))
          · omega
        · rcases hnv j q with q | q
          · exact hs (.inr (.inr q))
          · omega
      · refine (st4 j (fun e => hs (.inl (by omega)))).trans (st3 j hj (fun q => hs (.inl ?_)))
        have := hne3 j q
        omega
      · rcases q with q | q | q
        · exact hs (.inl (by omega))
        · exact hs (.inr q)
        · rcases hnv j q with q | q
          · have := hne3 j q
            exact hs (.inl (by omega))
          · omega
    · rcases hnv j hj with g | g
      · exact hS2 j q g
      · have := p1.lt j q
        omega
  · refine .inr ⟨S2, v', _, by rw [q2] at T4; exact T4, G4, F4, hB4, ⟨_, _, _, e2⟩, ?_, cN4⟩
    rintro ⟨z, r', hz, e⟩
    obtain ⟨a, rfl, ha⟩ := hasS_one hz
    obtain ⟨l, rfl, hl1, hl2⟩ := has_list ha
    simp only [encS, At.enc, List.append_nil, List.append_assoc] at e
    rw [k.eq] at e
    obtain ⟨ec, e⟩ := num_pre (len_in (n := c) (by omega)) (len_in hl1) e
    have hil : i < l.length := by omega
    have el : l = l.take i ++ (l[i] :: l.drop (i + 1)) := by rw [← List.drop_eq_getElem_cons hil, List.take_append_drop]
    rw [el, encL_append, List.append_assoc] at e
    have hkl := k.len
    obtain ⟨e3, e4⟩ := preL t ys (l.take i) _ _ (by rw [List.length_take]; omega) k.has (hasL_of (fun x hx => hasL_all hl2 x (List.mem_of_mem_take hx))) e
    refine q1 ⟨l[i], encL (l.drop (i + 1)) ++ r', hasL_all hl2 _ (List.getElem_mem hil), ?_⟩
    show r = _
    rw [e4]
    simp [encL]
end
end Go.Proofs.Ytjhgmncmcklnkaa
