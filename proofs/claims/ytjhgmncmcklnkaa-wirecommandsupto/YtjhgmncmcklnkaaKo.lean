/- Lists: what a walk along one keeps. -/
import Derived.Test.YtjhgmncmcklnkaaKn
namespace Go.Proofs.Ytjhgmncmcklnkaa
open Go.RowKit

/-! ### Values that hold fields -/
def valsS (w : World) (S : Nat → Prop) : List At → List Value → Prop
  | [], [] => True
  | a :: x, v :: vs => a.lies w S v ∧ valsS w S x vs
  | _, _ => False
def valsL (w : World) (S : Nat → Prop) : List (List At) → List Value → Prop
  | [], xs => xs = []
  | y :: ys, xs => ∃ vs us, xs = vs ++ us ∧ valsS w S y vs ∧ valsL w S ys us
section
variable {w w' : World} {S S' : Nat → Prop}
theorem valsS_len : ∀ {x : List At} {vs : List Value}, valsS w S x vs → vs.length = x.length
  | [], [], _ => rfl
  | a :: x, v :: vs, h => by simp [valsS_len h.2]
  | [], _ :: _, h => h.elim
  | _ :: _, [], h => h.elim
theorem valsS_keeps (hk : Keeps w w' S S') : ∀ {x : List At} {vs : List Value}, valsS w S x vs → valsS w' S' x vs
  | [], [], _ => trivial
  | a :: _, v :: _, h => ⟨At.keeps hk a v h.1, valsS_keeps hk h.2⟩
  | [], _ :: _, h => h.elim
  | _ :: _, [], h => h.elim
theorem valsL_keeps (hk : Keeps w w' S S') : ∀ {ys : List (List At)} {xs : List Value}, valsL w S ys xs → valsL w' S' ys xs
  | [], _, h => h
  | y :: ys, xs, h => by
    obtain ⟨vs, us, h1, h2, h3⟩ := h
    exact ⟨vs, us, h1, valsS_keeps hk h2, valsL_keeps hk h3⟩
theorem valsL_snoc : ∀ {ys : List (List At)} {xs : List Value} {y : List At} {vs : List Value}, valsL w S ys xs → valsS w S y vs → valsL w S (ys ++ [y]) (xs ++ vs)
  | [], xs, y, vs, h, k => ⟨vs, [], by rw [show xs = [] from h]; simp, k, rfl⟩
  | z :: ys, xs, y, vs, h, k => by
    obtain ⟨us, us', h1, h2, h3⟩ := h
    exact ⟨us, us' ++ vs, by rw [h1, List.append_assoc], h2, valsL_snoc h3 k⟩
/-- The values, where the fields lie. -/
theorem valsS_of {b : Nat} : ∀ {x : List At} {o : Nat}, liesS w S b o x → ∃ vs : List Value, valsS w S x vs ∧ ∀ j, j < x.length → w.cell? ⟨b, o + j, none⟩ = vs[j]?
  | [], _, _ => ⟨[], trivial, fun j hj => by simp at hj⟩
  | a :: x, o, h => by
    simp only [liesS] at h
    obtain ⟨⟨v, h1, h2⟩, h3⟩ := h
    obtain ⟨vs, h4, h5⟩ := valsS_of h3
    refine ⟨v :: vs, ⟨h2, h4⟩, fun j hj => ?_⟩
    cases j with
    | zero => exact h1
    | succ j =>
      rw [show o + (j + 1) = o + 1 + j by omega]
      exact h5 j (by simpa using hj)
theorem liesS_of {b : Nat} : ∀ {x : List At} {o : Nat} {vs : List Value}, valsS w S x vs → (∀ j, j < x.length → w.cell? ⟨b, o + j, none⟩ = vs[j]?) → liesS w S b o x
  | [], _, _, _, _ => by simp [liesS]
  | a :: x, o, [], h, _ => h.elim
  | a :: x, o, v :: vs, h, hc => by
    simp only [liesS]
    refine ⟨⟨v, hc 0 (by simp), h.1⟩, liesS_of h.2 (fun j hj => ?_)⟩
    rw [show o + 1 + j = o + (j + 1) by omega]
    exact hc (j + 1) (by simpa using hj)
theorem liesL_vals {b : Nat} : ∀ {ys : List (List At)} {o : Nat} {xs : List Value}, valsL w S ys xs → (∀ j, j < xs.length → w.cell? ⟨b, o + j, none⟩ = xs[j]?) → liesL w S b o ys
  | [], _, _, _, _ => by simp [liesL]
  | y :: ys, o, xs, h, hc => by
    obtain ⟨vs, us, rfl, h2, h3⟩ := h
    have hl := valsS_len h2
    simp only [liesL]
    refine ⟨liesS_of h2 (fun j hj => ?_), liesL_vals h3 (fun j hj => ?_)⟩
    · rw [hc j (by rw [List.length_append]; omega), List.getElem?_append_left (by omega)]
    · rw [Nat.add_assoc, hc (y.length + j) (by rw [List.length_append]; omega), List.getElem?_append_right (by omega)]
      congr 1
      omega
theorem valsL_len {t : List Ty} : ∀ {ys : List (List At)} {xs : List Value}, hasL t ys → valsL w S ys xs → xs.length = ys.length * t.length
  | [], xs, _, h => by rw [show xs = [] from h]; simp
  | y :: ys, xs, ht, h => by
    unfold hasL at ht
    obtain ⟨vs, us, rfl, h2, h3⟩ := h
    rw [List.length_append, valsS_len h2, hasS_len ht.1, valsL_len ht.2 h3, List.length_cons, Nat.add_mul]
    omega
end
/-- Elements of a list's type. -/
structure El (st et : TypeId) (t : List Ty) : Prop where
  und : Try.prog.underlying st = some (.slice et)
  info : ∃ i z b, Try.prog.info? et = some i ∧ i.zero = some z ∧ i.size = t.length ∧ i.bytes = b ∧ z.cells.size = t.length ∧ b ≤ 400
  pos : 0 < t.length
def zvS (t : List Ty) : Array Value := (t.map Ty.zv).toArray
section
variable {w w' w1 w2 wr : World} {A : Nat} {S S1 : Nat → Prop} {s s1 : TS} {B o : Nat} {t u : List Ty} {x y : List At} {st et : TypeId} {l : List (List At)}
/-! ### A list that is written -/
def WI (w : World) (A : Nat) (S : Nat → Prop) (s : TS) (l : List (List At)) (i : Nat) (wr : World) : Prop := ∃ S', Tp wr A S' { s with wr := s.wr ++ num (l.length : Int) ++ encL (l.take i) } ∧ (∀ k, S' k → Gro S w wr k) ∧ Fr w wr S ∧ ¬ S' w.heap.size ∧ w.heap.size < wr.heap.size ∧ wr.cell? ⟨w.heap.size, 0, none⟩ = some (.int .i64 (l.length : Int))
theorem WI.reads {i : Nat} (h : WI w A S s l i wr) (hr : s.reads = false) (hb : s.bad = false) : wr.cell? ⟨A, 0, none⟩ = some (.bool false) ∧ wr.cell? ⟨A, 3, none⟩ = some (.bool false) ∧ wr.cell? ⟨w.heap.size, 0, none⟩ = some (.int .i64 (l.length : Int)) := by
  obtain ⟨S', ⟨rv, hT⟩, _, _, _, _, hN⟩ := h
  refine ⟨(cell_blk hT.ob 0).trans ?_, (cell_blk hT.ob 3).trans ?_, hN⟩
  · show some (Value.bool s.reads) = _
    rw [hr]
  · show some (Value.bool s.bad) = _
    rw [hb]
theorem WI.start {ty : TypeId} (h : Pre w A S s B o [.list t] [.list l]) (hr : s.reads = false) (hc : CAns (w.alloc (.cells #[.int .i64 (l.length : Int)] ty)) w1 A S s w.heap.size (l.length : Int)) : WI w A S s l 0 w1 := by
  obtain ⟨S', s', m, h1, h2, h3, h4, h5⟩ := hc
  rcases h5 with ⟨_, rfl, rfl⟩ | ⟨q, _⟩ | ⟨q, _⟩
  · have hsz : (w.alloc (.cells #[.int .i64 (l.length : Int)] ty)).heap.size = w.heap.size + 1 := by simp
    have hz := h3.size
    refine ⟨S', by simpa [encL] using h1, Gro.fresh1 h2, h3.fresh1, fun q => ?_, by omega, h4⟩
    rcases h2 _ q with q | q
    · have := h.tp.lt _ q
      omega
    · omega
  · rw [hr] at q; cases q
  · rw [hr] at q; cases q
/-- One item more. -/
theorem WI.next {i : Nat} (h : Pre w A S s B o [.list t] [.list l]) (hr : s.reads = false) (ht : hasL t l) (hi : i < l.length) {b p cap : Nat} (hc : w.cell? ⟨B, o, none⟩ = some (.slice (some ⟨b, p, none⟩) l.length cap)) (hb : b < w.heap.size) (nb : ¬ S b) (hl : liesL w S b p l) (k : WI w A S s l i wr) :
    wr.cell? ⟨B, o, none⟩ = some (.slice (some ⟨b, p, none⟩) l.length cap) ∧ ∃ vs : Array Value, vs.size = t.length ∧ (∀ j, j < t.length → wr.cell? ⟨b, p + i * t.length + j, none⟩ = vs[j]?) ∧ (∀ v ∈ vs, v.oneCell' = true) ∧ ∃ S' s', Pre (wr.alloc (.cells vs et)) A S' s' wr.heap.size 0 t l[i] ∧ ∀ w', Post (wr.alloc (.cells vs et)) w' A S' s' wr.heap.size 0 t l[i] → WI w A S s l (i + 1) w' := by
  obtain ⟨S', p1, p2, p3, p4, p5, p6⟩ := k
  have hx := hasL_all ht l[i] (List.getElem_mem hi)
  have hlen := hasS_len hx
  have hk : Keeps w wr S S' := ⟨p3.size, fun k hk hs => ⟨p3.block k hk hs, fun q => by rcases p2 k q with q | q; exact hs q; omega⟩⟩
  have hat := liesL_at l p (fun y hy => hasS_len (hasL_all ht y hy)) hl i hi
  have hat2 := liesS_keeps hk l[i] b (p + i * t.length) (fun j _ _ => World.cell?_of_block (p3.block b hb nb)) hat
  obtain ⟨vs, hv1, hv2⟩ := valsS_of hat2
  have hvl := valsS_len hv1
  have hB := h.lt
  have hbw : Below wr.heap.size wr (wr.alloc (.cells vs.toArray et)) := Below.alloc (Below.refl _ _) (Nat.le_refl _) _
  have hN : (wr.alloc (.cells vs.toArray et)).heap[wr.heap.size]? = some (.cells vs.toArray et (0, 0)) := heap_alloc_new wr _
  have hsz : (wr.alloc (.cells vs.toArray et)).heap.size = wr.heap.size + 1 := by simp
  have hlw := h.lenW hr
  simp only [encS, At.enc, List.append_nil, List.length_append] at hlw
  have etk : encL l = encL (l.take i) ++ (encS l[i] ++ encL (l.drop (i + 1))) := by
    have e : l = l.take i ++ (l[i] :: l.drop (i + 1)) := by rw [← List.drop_eq_getElem_cons hi, List.take_append_drop]
    have e2 := congrArg encL e
    rw [encL_append] at e2
    simpa only [encL] using e2
  have el2 := congrArg List.length etk
  simp only [List.length_append] at el2
  refine ⟨(World.cell?_of_block (p3.block B hB h.nB)).trans hc, vs.toArray, by simp; omega, fun j hj => ?_, ?_, S', _, ⟨p1.on hbw, fun q => ?_, ⟨_, _, hN, by simp; omega⟩, hx, ?_, fun q => ?_, fun q => ?_, fun q => ?_, ?_, h.lenR⟩, ?_⟩
  · rw [hv2 j (by omega)]
    simp
  · intro v hv
    obtain ⟨j, hj, e⟩ := List.mem_iff_getElem.1 (List.mem_toArray.1 hv)
    obtain ⟨v', h1, h2⟩ := liesS_one l[i] (p + i * t.length) hat2 j (by omega)
    rw [hv2 j (by omega), List.getElem?_eq_getElem hj, e] at h1
    simp only [Option.some.injEq] at h1
    rw [h1]
    exact h2
  · have := p1.lt _ q
    omega
  · refine liesS_of (valsS_keeps ⟨hbw.size, fun k hk hs => ⟨hbw.block k hk, hs⟩⟩ hv1) (fun j hj => ?_)
    rw [cell_blk hN]
    simp
  · have q' : s.reads = true := q
    rw [hr] at q'; cases q'
  · have q' : s.reads = true := q
    rw [hr] at q'; cases q'
  · exact h.wb hr
  · intro _
    simp only [List.length_append]
    omega
  · rintro w' ⟨S2, s2, r1, r2, r3, r4, r5⟩
    rcases r5 with ⟨_, q⟩ | ⟨q, _⟩ | ⟨q, _⟩
    · have hz := r3.size
      have hF := r3.fresh1
      have hN2 : w'.cell? ⟨w.heap.size, 0, none⟩ = some (.int .i64 (l.length : Int)) := (World.cell?_of_block (hF.block _ p5 p4)).trans p6
      refine ⟨S2, ?_, fun k hk => ?_, p3.step hF (fun k hk => ?_), fun q => ?_, by omega, hN2⟩
      · rw [q] at r1
        rw [List.take_succ_eq_append_getElem hi, encL_append]
        simpa [encL] using r1
      · rcases Gro.fresh1 r2 k hk with q | q
        · rcases p2 k q with q | q
          · exact .inl q
          · exact .inr ⟨q.1, by omega⟩
        · exact .inr ⟨by omega, q.2⟩
      · rcases p2 k hk with q | q
        · exact .inl q
        · exact .inr q.1
      · rcases r2 _ q with q | q
        · exact p4 q
        · omega
    · have q' : s.reads = true := q
      rw [hr] at q'; cases q'
    · have q' : s.reads = true := q
      rw [hr] at q'; cases q'
theorem WI.done (h : Pre w A S s B o [.list t] [.list l]) (hr : s.reads = false) (k : WI w A S s l l.length wr) : Post w wr A S s B o [.list t] [.list l] := by
  obtain ⟨S', p1, p2, p3, _⟩ := k
  refine Post.wrote h hr ⟨S', ?_, p2, p3⟩
  rw [List.take_length] at p1
  simpa [encS, At.enc] using p1
end
end Go.Proofs.Ytjhgmncmcklnkaa
