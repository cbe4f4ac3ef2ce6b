/- How structs are walked; entry. -/
import Derived.Test.YtjhgmncmcklnkaaVB
namespace Go.Proofs.Ytjhgmncmcklnkaa
open Go.RowKit

section
variable {w w' w1 w2 : World} {A : Nat} {S S1 : Nat → Prop} {s s1 : TS} {B o : Nat} {t u : List Ty} {x y : List At} {rv : Value}
/-- The next part, at its place. -/
theorem Pre.part {o' : Nat} (hu : u ≠ []) (ho : o + t.length = o') (h : Pre w A S s B o (t ++ u) x) : ∃ y z, x = y ++ z ∧ Pre w A S s B o t y ∧ ∀ w1, Post w w1 A S s B o t y → ∃ S1 s1, Pre w1 A S1 s1 B o' u z ∧ ∀ w2, Post w1 w2 A S1 s1 B o' u z → Post w w2 A S s B o (t ++ u) x := by
  obtain ⟨y, z, e, P, N⟩ := h.cons hu
  subst ho
  refine ⟨y, z, e, P, fun w1 Q => ?_⟩
  obtain ⟨S1, s1, _, P1, C1⟩ := N w1 Q
  exact ⟨S1, s1, P1, C1⟩
/-- Two worlds that differ by draws alone. -/
structure Lk (W w : World) : Prop where
  os : W.os = w.os
  tape : W.tape = w.tape
  output : W.output = w.output
  heap : W.heap = w.heap
theorem Lk.below {W : World} {c : Obj} (h : Lk W (w.alloc c)) : Below w.heap.size w W := by
  have hb : Below w.heap.size w (w.alloc c) := Below.alloc (Below.refl _ _) (Nat.le_refl _) _
  exact ⟨h.os.trans hb.os, h.tape.trans hb.tape, h.output.trans hb.output, by rw [h.heap]; exact hb.size, fun k hk => by rw [h.heap]; exact hb.block k hk⟩
theorem Lk.same {W : World} (h : Lk W w) : Below w.heap.size w W := ⟨h.os, h.tape, h.output, by rw [h.heap]; exact Nat.le_refl _, fun k _ => by rw [h.heap]⟩
/-- Some numbers, wherever the pointers are laid. -/
theorem nums_at {m : Nat} (ps : Array Value) (h : Pre w A S s B o (List.replicate m .num) x) (hm : 0 < m) (hm2 : m ≤ 100) (hp : ∀ i, i < m → ps[i]? = some (.pointer (some ⟨B, o + i, none⟩))) :
    ∀ W, Lk W (w.alloc (.cells ps 135)) → Calls Try.prog 52 #[.pointer (some ⟨A, 0, none⟩), .slice (some ⟨w.heap.size, 0, none⟩) m m] W fun e w' => e = .returned (.tuple #[]) ∧ Post w w' A S s B o (List.replicate m .num) x := by
  intro W hW
  have hb := hW.below
  have hB := h.lt
  have hF : W.heap[w.heap.size]? = some (.cells ps 135 (0, 0)) := by rw [hW.heap]; exact heap_alloc_new w _
  refine (numbers_any (F := w.heap.size) hm hm2 (h.on hb) ⟨ps, 135, hF, hp⟩ (fun q => ?_) (by omega)).mono ?_
  · have := h.tp.lt _ q
    omega
  · rintro e w' ⟨rfl, q⟩
    exact ⟨rfl, Post.from hb hB q⟩
/-- A call at a world that differs by draws alone. -/
theorem Post.lk {W : World} (h : Pre w A S s B o t x) (hW : Lk W w) (k : Post W w' A S s B o t x) : Post w w' A S s B o t x := Post.from hW.same h.lt k
end
abbrev entryT : List Ty := [.num, .num, .num, .text]
section
variable {w w' w1 w2 : World} {A : Nat} {S S1 : Nat → Prop} {s s1 : TS} {B o : Nat} {t u : List Ty} {x y : List At} {rv : Value}
set_option maxHeartbeats 4000000 in
set_option maxRecDepth 100000 in
theorem entry_any (h : Pre w A S s B o entryT x) : Calls Try.prog 55 #[.pointer (some ⟨A, 0, none⟩), .pointer (some ⟨B, o, none⟩)] w fun e w' => e = .returned (.tuple #[]) ∧ Post w w' A S s B o entryT x := by
  obtain ⟨y1, x2, rfl, P1, N1⟩ := Pre.part (t := [.num, .num, .num]) (u := [.text]) (o' := o + 3) (by simp) rfl h
  have h1 := nums_at (m := 3) #[.pointer (some ⟨B, o, none⟩), .pointer (some ⟨B, o + 1, none⟩), .pointer (some ⟨B, o + 2, none⟩)] P1 (by omega) (by omega) (fun i hi => by
    have : i = 0 ∨ i = 1 ∨ i = 2 := by omega
    rcases this with rfl | rfl | rfl <;> rfl)
  have H1 := Lib.hid N1
  clear N1 P1 h
  go_enter Try.func55, Try.ntmps55
  go_wp2
  go_cut [] (fun wx => Post w wx A S s B o [.num, .num, .num] y1)
  case first =>
    go_region_with (go_at_call 52; refine (h1 _ (by exact ⟨rfl, rfl, rfl, rfl⟩)).mono ?_; rintro e w1 ⟨rfl, q⟩)
    all_goals
      go_wp2_with fail
      go_meet
      exact q
  case rest =>
    obtain ⟨S1, s1, P2, C1⟩ := H1.out _ hcut
    have h2 := text_any P2
    have H2 := Lib.hid C1
    clear C1 P2 hcut h1
    go_wp2_with (go_at_call 56; refine h2.mono ?_; rintro e w2 ⟨rfl, q⟩; refine Hid.out ?_)
    refine Lib.hid ?_
    go_wp2
    go_end0
    exact ⟨rfl, H2.out _ q⟩
end
end Go.Proofs.Ytjhgmncmcklnkaa
/- Lists: what a walk along one keeps. -/
namespace Go.Proofs.Ytjhgmncmcklnkaa
open Go.RowKit

/-! ### Values that hold fields -/
def valsS (w : World) (S : Nat → Prop) : List At → List Value → Prop
  | [], [] => True
  | a :: x, v :: vs => a.lies w S v ∧ valsS w S x vs
  | _, _ => False
def valsL (w : World) (S : Nat → Prop) : List (List At) → List Value → Prop
  | [], xs => xs = []
  | y :: ys, xs => ∃ vs us, xs = vs ++ us ∧ valsS w S y vs ∧ valsL w S ys us
section
variable {w w' : World} {S S' : Nat → Prop}
theorem valsS_len : ∀ {x : List At} {vs : List Value}, valsS w S x vs → vs.length = x.length
  | [], [], _ => rfl
  | a :: x, v :: vs, h => by simp [valsS_len h.2]
  | [], _ :: _, h => h.elim
  | _ :: _, [], h => h.elim
theorem valsS_keeps (hk : Keeps w w' S S') : ∀ {x : List At} {vs : List Value}, valsS w S x vs → valsS w' S' x vs
  | [], [], _ => trivial
  | a :: _, v :: _, h => ⟨At.keeps hk a v h.1, valsS_keeps hk h.2⟩
  | [], _ :: _, h => h.elim
  | _ :: _, [], h => h.elim
theorem valsL_keeps (hk : Keeps w w' S S') : ∀ {ys : List (List At)} {xs : List Value}, valsL w S ys xs → valsL w' S' ys xs
  | [], _, h => h
  | y :: ys, xs, h => by
    obtain ⟨vs, us, h1, h2, h3⟩ := h
    exact ⟨vs, us, h1, valsS_keeps hk h2, valsL_keeps hk h3⟩
theorem valsL_snoc : ∀ {ys : List (List At)} {xs : List Value} {y : List At} {vs : List Value}, valsL w S ys xs → valsS w S y vs → valsL w S (ys ++ [y]) (xs ++ vs)
  | [], xs, y, vs, h, k => ⟨vs, [], by rw [show xs = [] from h]; simp, k, rfl⟩
  | z :: ys, xs, y, vs, h, k => by
    obtain ⟨us, us', h1, h2, h3⟩ := h
    exact ⟨us, us' ++ vs, by rw [h1, List.append_assoc], h2, valsL_snoc h3 k⟩
/-- The values, where the fields lie. -/
theorem valsS_of {b : Nat} : ∀ {x : List At} {o : Nat}, liesS w S b o x → ∃ vs : List Value, valsS w S x vs ∧ ∀ j, j < x.length → w.cell? ⟨b, o + j, none⟩ = vs[j]?
  | [], _, _ => ⟨[], trivial, fun j hj => by simp at hj⟩
  | a :: x, o, h => by
    simp only [liesS] at h
    obtain ⟨⟨v, h1, h2⟩, h3⟩ := h
    obtain ⟨vs, h4, h5⟩ := valsS_of h3
    refine ⟨v :: vs, ⟨h2, h4⟩, fun j hj => ?_⟩
    cases j with
    | zero => exact h1
    | succ j =>
      rw [show o + (j + 1) = o + 1 + j by omega]
      exact h5 j (by simpa using hj)
theorem liesS_of {b : Nat} : ∀ {x : List At} {o : Nat} {vs : List Value}, valsS w S x vs → (∀ j, j < x.length → w.cell? ⟨b, o + j, none⟩ = vs[j]?) → liesS w S b o x
  | [], _, _, _, _ => by simp [liesS]
  | a :: x, o, [], h, _ => h.elim
  | a :: x, o, v :: vs, h, hc => by
    simp only [liesS]
    refine ⟨⟨v, hc 0 (by simp), h.1⟩, liesS_of h.2 (fun j hj => ?_)⟩
    rw [show o + 1 + j = o + (j + 1) by omega]
    exact hc (j + 1) (by simpa using hj)
theorem liesL_vals {b : Nat} : ∀ {ys : List (List At)} {o : Nat} {xs : List Value}, valsL w S ys xs → (∀ j, j < xs.length → w.cell? ⟨b, o + j, none⟩ = xs[j]?) → liesL w S b o ys
  | [], _, _, _, _ => by simp [liesL]
  | y :: ys, o, xs, h, hc => by
    obtain ⟨vs, us, rfl, h2, h3⟩ := h
    have hl := valsS_len h2
    simp only [liesL]
    refine ⟨liesS_of h2 (fun j hj => ?_), liesL_vals h3 (fun j hj => ?_)⟩
    · rw [hc j (by rw [List.length_append]; omega), List.getElem?_append_left (by omega)]
    · rw [Nat.add_assoc, hc (y.length + j) (by rw [List.length_append]; omega), List.getElem?_append_right (by omega)]
      congr 1
      omega
theorem valsL_len {t : List Ty} : ∀ {ys : List (List At)} {xs : List Value}, hasL t ys → valsL w S ys xs → xs.length = ys.length * t.length
  | [], xs, _, h => by rw [show xs = [] from h]; simp
  | y :: ys, xs, ht, h => by
    unfold hasL at ht
    obtain ⟨vs, us, rfl, h2, h3⟩ := h
    rw [List.length_append, valsS_len h2, hasS_len ht.1, valsL_len ht.2 h3, List.length_cons, Nat.add_mul]
    omega
end
/-- Elements of a list's type. -/
structure El (st et : TypeId) (t : List Ty) : Prop where
  und : Try.prog.underlying st = some (.slice et)
  info : ∃ i z b, Try.prog.info? et = some i ∧ i.zero = some z ∧ i.size = t.length ∧ i.bytes = b ∧ z.cells.size = t.length ∧ b ≤ 400
  pos : 0 < t.length
def zvS (t : List Ty) : Array Value := (t.map Ty.zv).toArray
section
variable {w w' w1 w2 wr : World} {A : Nat} {S S1 : Nat → Prop} {s s1 : TS} {B o : Nat} {t u : List Ty} {x y : List At} {st et : TypeId} {l : List (List At)}
/-! ### A list that is written -/
def WI (w : World) (A : Nat) (S : Nat → Prop) (s : TS) (l : List (List At)) (i : Nat) (wr : World) : Prop := ∃ S', Tp wr A S' { s with wr := s.wr ++ num (l.length : Int) ++ encL (l.take i) } ∧ (∀ k, S' k → Gro S w wr k) ∧ Fr w wr S ∧ ¬ S' w.heap.size ∧ w.heap.size < wr.heap.size ∧ wr.cell? ⟨w.heap.size, 0, none⟩ = some (.int .i64 (l.length : Int))
theorem WI.reads {i : Nat} (h : WI w A S s l i wr) (hr : s.reads = false) (hb : s.bad = false) : wr.cell? ⟨A, 0, none⟩ = some (.bool false) ∧ wr.cell? ⟨A, 3, none⟩ = some (.bool false) ∧ wr.cell? ⟨w.heap.size, 0, none⟩ = some (.int .i64 (l.length : Int)) := by
  obtain ⟨S', ⟨rv, hT⟩, _, _, _, _, hN⟩ := h
  refine ⟨(cell_blk hT.ob 0).trans ?_, (cell_blk hT.ob 3).trans ?_, hN⟩
  · show some (Value.bool s.reads) = _
    rw [hr]
  · show some (Value.bool s.bad) = _
    rw [hb]
theorem WI.start {ty : TypeId} (h : Pre w A S s B o [.list t] [.list l]) (hr : s.reads = false) (hc : CAns (w.alloc (.cells #[.int .i64 (l.length : Int)] ty)) w1 A S s w.heap.size (l.length : Int)) : WI w A S s l 0 w1 := by
  obtain ⟨S', s', m, h1, h2, h3, h4, h5⟩ := hc
  rcases h5 with ⟨_, rfl, rfl⟩ | ⟨q, _⟩ | ⟨q, _⟩
  · have hsz : (w.alloc (.cells #[.int .i64 (l.length : Int)] ty)).heap.size = w.heap.size + 1 := by simp
    have hz := h3.size
    refine ⟨S', by simpa [encL] using h1, Gro.fresh1 h2, h3.fresh1, fun q => ?_, by omega, h4⟩
    rcases h2 _ q with q | q
    · have := h.tp.lt _ q
      omega
    · omega
  · rw [hr] at q; cases q
  · rw [hr] at q; cases q
/-- One item more. -/
theorem WI.next {i : Nat} (h : Pre w A S s B o [.list t] [.list l]) (hr : s.reads = false) (ht : hasL t l) (hi : i < l.length) {b p cap : Nat} (hc : w.cell? ⟨B, o, none⟩ = some (.slice (some ⟨b, p, none⟩) l.length cap)) (hb : b < w.heap.size) (nb : ¬ S b) (hl : liesL w S b p l) (k : WI w A S s l i wr) :
    wr.cell? ⟨B, o, none⟩ = some (.slice (some ⟨b, p, none⟩) l.length cap) ∧ ∃ vs : Array Value, vs.size = t.length ∧ (∀ j, j < t.length → wr.cell? ⟨b, p + i * t.length + j, none⟩ = vs[j]?) ∧ (∀ v ∈ vs, v.oneCell' = true) ∧ ∃ S' s', Pre (wr.alloc (.cells vs et)) A S' s' wr.heap.size 0 t l[i] ∧ ∀ w', Post (wr.alloc (.cells vs et)) w' A S' s' wr.heap.size 0 t l[i] → WI w A S s l (i + 1) w' := by
  obtain ⟨S', p1, p2, p3, p4, p5, p6⟩ := k
  have hx := hasL_all ht l[i] (List.getElem_mem hi)
  have hlen := hasS_len hx
  have hk : Keeps w wr S S' := ⟨p3.size, fun k hk hs => ⟨p3.block k hk hs, fun q => by rcases p2 k q with q | q; exact hs q; omega⟩⟩
  have hat := liesL_at l p (fun y hy => hasS_len (hasL_all ht y hy)) hl i hi
  have hat2 := liesS_keeps hk l[i] b (p + i * t.length) (fun j _ _ => World.cell?_of_block (p3.block b hb nb)) hat
  obtain ⟨vs, hv1, hv2⟩ := valsS_of hat2
  have hvl := valsS_len hv1
  have hB := h.lt
  have hbw : Below wr.heap.size wr (wr.alloc (.cells vs.toArray et)) := Below.alloc (Below.refl _ _) (Nat.le_refl _) _
  have hN : (wr.alloc (.cells vs.toArray et)).heap[wr.heap.size]? = some (.cells vs.toArray et (0, 0)) := heap_alloc_new wr _
  have hsz : (wr.alloc (.cells vs.toArray et)).heap.size = wr.heap.size + 1 := by simp
  have hlw := h.lenW hr
  simp only [encS, At.enc, List.append_nil, List.length_append] at hlw
  have etk : encL l = encL (l.take i) ++ (encS l[i] ++ encL (l.drop (i + 1))) := by
    have e : l = l.take i ++ (l[i] :: l.drop (i + 1)) := by rw [← List.drop_eq_getElem_cons hi, List.take_append_drop]
    have e2 := congrArg encL e
    rw [encL_append] at e2
    simpa only [encL] using e2
  have el2 := congrArg List.length etk
  simp only [List.length_append] at el2
  refine ⟨(World.cell?_of_block (p3.block B hB h.nB)).trans hc, vs.toArray, by simp; omega, fun j hj => ?_, ?_, S', _, ⟨p1.on hbw, fun q => ?_, ⟨_, _, hN, by simp; omega⟩, hx, ?_, fun q => ?_, fun q => ?_, fun q => ?_, ?_, h.lenR⟩, ?_⟩
  · rw [hv2 j (by omega)]
    simp
  · intro v hv
    obtain ⟨j, hj, e⟩ := List.mem_iff_getElem.1 (List.mem_toArray.1 hv)
    obtain ⟨v', h1, h2⟩ := liesS_one l[i] (p + i * t.length) hat2 j (by omega)
    rw [hv2 j (by omega), List.getElem?_eq_getElem hj, e] at h1
    simp only [Option.some.injEq] at h1
    rw [h1]
    exact h2
  · have := p1.lt _ q
    omega
  · refine liesS_of (valsS_keeps ⟨hbw.size, fun k hk hs => ⟨hbw.block k hk, hs⟩⟩ hv1) (fun j hj => ?_)
    rw [cell_blk hN]
    simp
  · have q' : s.reads = true := q
    rw [hr] at q'; cases q'
  · have q' : s.reads = true := q
    rw [hr] at q'; cases q'
  · exact h.wb hr
  · intro _
    simp only [List.length_append]
    omega
  · rintro w' ⟨S2, s2, r1, r2, r3, r4, r5⟩
    rcases r5 with ⟨_, q⟩ | ⟨q, _⟩ | ⟨q, _⟩
    · have hz := r3.size
      have hF := r3.fresh1
      have hN2 : w'.cell? ⟨w.heap.size, 0, none⟩ = some (.int .i64 (l.length : Int)) := (World.cell?_of_block (hF.block _ p5 p4)).trans p6
      refine ⟨S2, ?_, fun k hk => ?_, p3.step hF (fun k hk => ?_), fun q => ?_, by omega, hN2⟩
      · rw [q] at r1
        rw [List.take_succ_eq_append_getElem hi, encL_append]
        simpa [encL] using r1
      · rcases Gro.fresh1 r2 k hk with q | q
        · rcases p2 k q with q | q
          · exact .inl q
          · exact .inr ⟨q.1, by omega⟩
        · exact .inr ⟨by omega, q.2⟩
      · rcases p2 k hk with q | q
        · exact .inl q
        · exact .inr q.1
      · rcases r2 _ q with q | q
        · exact p4 q
        · omega
    · have q' : s.reads = true := q
      rw [hr] at q'; cases q'
    · have q' : s.reads = true := q
      rw [hr] at q'; cases q'
theorem WI.done (h : Pre w A S s B o [.list t] [.list l]) (hr : s.reads = false) (k : WI w A S s l l.length wr) : Post w wr A S s B o [.list t] [.list l] := by
  obtain ⟨S', p1, p2, p3, _⟩ := k
  refine Post.wrote h hr ⟨S', ?_, p2, p3⟩
  rw [List.take_length] at p1
  simpa [encS, At.enc] using p1
end
end Go.Proofs.Ytjhgmncmcklnkaa
/- Lists that are read. -/
namespace Go.Proofs.Ytjhgmncmcklnkaa
open Go.RowKit

section
variable {w w' w1 w2 wr : World} {A : Nat} {S S1 : Nat → Prop} {s s1 : TS} {B o : Nat} {t u : List Ty} {x y : List At} {st et ty : TypeId} {l : List (List At)} {cs : Array Value} {c i : Nat}
/-- So many items are read. -/
structure RV (w : World) (A : Nat) (S : Nat → Prop) (s : TS) (B o : Nat) (cs : Array Value) (ty et : TypeId) (t : List Ty) (c i : Nat) (wr : World) (S' : Nat → Prop) (r : List UInt8) (ys : List (List At)) (xs : List Value) (tv : Value) : Prop where
  tp : Tp wr A S' { s with rest := r }
  gro : ∀ k, S' k → Gro S w wr k
  fr : Fr w wr (fun k => S k ∨ k = B)
  blk : wr.heap[B]? = some (.cells (cs.setIfInBounds o tv) ty (0, 0))
  nN : ¬ S' w.heap.size
  lN : w.heap.size < wr.heap.size
  cN : wr.cell? ⟨w.heap.size, 0, none⟩ = some (.int .i64 (c : Int))
  len : ys.length = i
  has : hasL t ys
  eq : s.rest = num (c : Int) ++ (encL ys ++ r)
  row : wr.ownsRow (w.heap.size + 1) et t.length tv i xs
  vals : valsL wr (fun k => k < w.heap.size ∨ S' k ∨ tv.ownBlock = some k) ys xs
  nrow : ∀ k, tv.ownBlock = some k → ¬ S' k
  cl : c ≤ 1000000000
def RI (w : World) (A : Nat) (S : Nat → Prop) (s : TS) (B o : Nat) (cs : Array Value) (ty et : TypeId) (t : List Ty) (c i : Nat) (wr : World) : Prop := ∃ S' r ys xs tv, RV w A S s B o cs ty et t c i wr S' r ys xs tv
/-- There is no list. -/
def RB (w : World) (A : Nat) (S : Nat → Prop) (s : TS) (B o : Nat) (cs : Array Value) (ty : TypeId) (t : List Ty) (wr : World) : Prop := ∃ S' tv m, Tp wr A S' { s with rest := [], bad := true } ∧ (∀ k, S' k → Gro S w wr k) ∧ Fr w wr (fun k => S k ∨ k = B) ∧ wr.heap[B]? = some (.cells (cs.setIfInBounds o tv) ty (0, 0)) ∧ (∃ ad n q, tv = .slice ad n q) ∧ ¬ Rd [.list t] s.rest ∧ wr.cell? ⟨w.heap.size, 0, none⟩ = some (.int .i64 m)
theorem RI.cells (h0 : Pre w A S s B o [.list t] x) (h : RI w A S s B o cs ty et t c i wr) (hr : s.reads = true) : wr.cell? ⟨A, 0, none⟩ = some (.bool true) ∧ wr.cell? ⟨A, 3, none⟩ = some (.bool false) ∧ wr.cell? ⟨w.heap.size, 0, none⟩ = some (.int .i64 (c : Int)) ∧ c ≤ 1000000000 := by
  obtain ⟨S', r, ys, xs, tv, h⟩ := h
  obtain ⟨rv, hT⟩ := h.tp
  have hrne : s.rest ≠ [] := by
    rw [h.eq]
    have := num_pos (c : Int)
    intro q
    have := congrArg List.length q
    simp only [List.length_append, List.length_nil] at this
    omega
  refine ⟨(cell_blk hT.ob 0).trans ?_, (cell_blk hT.ob 3).trans ?_, h.cN, h.cl⟩
  · show some (Value.bool s.reads) = _
    rw [hr]
  · show some (Value.bool s.bad) = _
    cases hb : s.bad with
    | false => rfl
    | true => exact absurd (h0.rb hr hb) hrne
theorem RB.cells (h : RB w A S s B o cs ty t wr) : wr.cell? ⟨A, 3, none⟩ = some (.bool true) ∧ ∃ m, wr.cell? ⟨w.heap.size, 0, none⟩ = some (.int .i64 m) := by
  obtain ⟨S', tv, m, ⟨rv, hT⟩, h⟩ := h
  exact ⟨cell_blk hT.ob 3, m, h.2.2.2.2.2⟩
theorem list_no {l : List UInt8} (ht : 0 < t.length) (h : ∀ (c : Nat) (r : List UInt8), c ≤ r.length → I64 (c : Int) → l ≠ num (c : Int) ++ r) : ¬ Rd [.list t] l := by
  rintro ⟨y, r, hy, e⟩
  obtain ⟨a, rfl, ha⟩ := hasS_one hy
  obtain ⟨q, rfl, hs, hL⟩ := has_list ha
  have hlen := encL_len (List.ne_nil_of_length_pos ht) hL
  refine h q.length (encL q ++ r) (by rw [List.length_append]; omega) (len_in hs) ?_
  simpa [encS, At.enc] using e
theorem zero_cell (h : Pre w A S s B o [.list t] x) (hr : s.reads = true) : w.cell? ⟨B, o, none⟩ = some (.slice none 0 0) ∧ x = [.list []] := ⟨(h.zero hr).2 0 (by simp), (h.zero hr).1⟩
theorem RI.start {tn : TypeId} (h : Pre w A S s B o [.list t] x) (hr : s.reads = true) (ht : 0 < t.length) (hb : w.heap[B]? = some (.cells cs ty (0, 0))) (hc : CAns (w.alloc (.cells #[.int .i64 0] tn)) w1 A S s w.heap.size 0) : (∃ c, RI w A S s B o cs ty et t c 0 w1) ∨ RB w A S s B o cs ty t w1 := by
  obtain ⟨S', s', m, h1, h2, h3, h4, h5⟩ := hc
  have hsz : (w.alloc (.cells #[.int .i64 0] tn)).heap.size = w.heap.size + 1 := by simp
  have hz := h3.size
  have hF := h3.fresh1
  have hz0 := (zero_cell h hr).1
  rw [cell_blk hb] at hz0
  have hB : w1.heap[B]? = some (.cells (cs.setIfInBounds o (.slice none 0 0)) ty (0, 0)) := by
    rw [set_same hz0, hF.block B h.lt h.nB]
    exact hb
  rcases h5 with ⟨q, _⟩ | ⟨_, c, r, q1, q2, q3, q4⟩ | ⟨_, q1, q2, q3⟩
  · rw [hr] at q; cases q
  · subst q1
    have hl := h.lenR
    rw [q3, List.length_append] at hl
    refine .inl ⟨c, S', r, [], [], .slice none 0 0, ⟨by rw [q4] at h1; exact h1, Gro.fresh1 h2, hF.mono (fun _ q => .inl q), hB, fun q => ?_, by omega, h4, rfl, by simp [hasL], by simpa [encL] using q3, World.ownsRow_nil _ _ _ _, rfl, fun k hk => (by cases hk), by omega⟩⟩
    rcases h2 _ q with q | q
    · have := h.tp.lt _ q
      omega
    · omega
  · exact .inr ⟨S', .slice none 0 0, m, by rw [q3] at h1; exact h1, Gro.fresh1 h2, hF.mono (fun _ q => .inl q), hB, ⟨_, _, _, rfl⟩, list_no ht q2, h4⟩
theorem RI.done (h : Pre w A S s B o [.list t] x) (hr : s.reads = true) (hb : w.heap[B]? = some (.cells cs ty (0, 0))) (k : RI w A S s B o cs ty et t c c wr) : Post w wr A S s B o [.list t] x := by
  obtain ⟨S', r, ys, xs, tv, k⟩ := k
  have hrow := k.row
  have hl := k.len
  have hcl := k.cl
  have hsh : ∃ ad n q, tv = .slice ad n q := by
    obtain ⟨ad, cap, e⟩ := own_shape hrow
    exact ⟨_, _, _, e⟩
  refine Post.fin h hb k.tp k.gro k.fr k.blk hsh hr (.inl ⟨.list ys, r, ?_, ?_, rfl, ?_⟩)
  · simp only [Ty.has]
    exact ⟨by omega, k.has⟩
  · simp only [At.enc]
    rw [hl, List.append_assoc]
    exact k.eq
  · simp only [At.lies]
    rcases hrow.2 with ⟨hv, h0⟩ | ⟨g, cap, cur, hv, hg, hc, h1, h2, _⟩
    · exact ⟨none, 0, by rw [hv, hl, h0], by omega, Nat.zero_le _, .inl (List.eq_nil_of_length_eq_zero (by omega))⟩
    · have hgl := blk_lt hc
      refine ⟨_, cap, by rw [hv, hl], by omega, h2, .inr ⟨g, 0, rfl, hgl, fun q => ?_, ?_⟩⟩
      · rcases q with q | q
        · omega
        · exact k.nrow g (by rw [hv]; rfl) q
      · refine liesL_vals (valsL_keeps (S := fun k => k < w.heap.size ∨ S' k ∨ tv.ownBlock = some k) ⟨Nat.le_refl _, fun j _ hj => ⟨rfl, fun q => hj (by rcases q with q | q; exact .inl q; exact .inr (.inl q))⟩⟩ k.vals) (fun j hj => ?_)
        rw [Nat.zero_add]
        subst hv
        exact hrow.cellAt j (by rw [← hrow.1]; exact hj)
theorem RB.done (h : Pre w A S s B o [.list t] x) (hr : s.reads = true) (hb : w.heap[B]? = some (.cells cs ty (0, 0))) (k : RB w A S s B o cs ty t wr) : Post w wr A S s B o [.list t] x := by
  obtain ⟨S', tv, m, k1, k2, k3, k4, k5, k6, _⟩ := k
  exact Post.fin h hb k1 k2 k3 k4 k5 hr (.inr ⟨k6, rfl⟩)
theorem zvS_get (i : Nat) (hi : i < t.length) : (zvS t)[i]? = some t[i].zv := by
  unfold zvS
  simp [hi]
/-- Room for one item more. -/
theorem RI.next (hE : El st et t) (h : Pre w A S s B o [.list t] x) (hr : s.reads = true) (hb : w.heap[B]? = some (.cells cs ty (0, 0))) (hi : i < c) (k : RI w A S s B o cs ty et t c i wr) :
    ∃ S' s', Pre (wr.alloc (.cells (zvS t) et)) A S' s' wr.heap.size 0 t (zeroS t) ∧ ∀ w2, Post (wr.alloc (.cells (zvS t) et)) w2 A S' s' wr.heap.size 0 t (zeroS t) →
      ∃ (us : Array Value) (tv v' : Value) (w3 : World), us.size = t.length ∧ (∀ j, j < t.length → w2.cell? ⟨wr.heap.size, j, none⟩ = us[j]?) ∧ (∀ j (hj : j < t.length), ∃ v, us[j]? = some v ∧ t[j].kind v) ∧ w2.cell? ⟨B, o, none⟩ = some tv ∧
        (Builtin.append_ #[st, st] st #[tv, .slice (some ⟨w2.heap.size, 0, none⟩) 1 1]).run Try.prog (w2.drew.alloc (.cells us et)) = .ok v' w3 ∧ (∃ ad n q, tv = .slice ad n q) ∧ (∃ ad n q, v' = .slice ad n q) ∧ (w2.alloc (.cells us et)).cell? ⟨B, o, none⟩ = some tv ∧ w3.cell? ⟨B, o, none⟩ = some tv ∧ w3.frozen? ⟨B, o, none⟩ = false ∧
        (RI w A S s B o cs ty et t c (i + 1) (w3.setCell ⟨B, o, none⟩ v') ∨ RB w A S s B o cs ty t (w3.setCell ⟨B, o, none⟩ v')) := by
  obtain ⟨S', r, ys, xs, tv, k⟩ := k
  have hbw : Below wr.heap.size wr (wr.alloc (.cells (zvS t) et)) := Below.alloc (Below.refl _ _) (Nat.le_refl _) _
  have hX : (wr.alloc (.cells (zvS t) et)).heap[wr.heap.size]? = some (.cells (zvS t) et (0, 0)) := heap_alloc_new wr _
  have hXs : (wr.alloc (.cells (zvS t) et)).heap.size = wr.heap.size + 1 := by simp
  have hzl : (zvS t).size = t.length := by simp [zvS]
  have hBl := h.lt
  have hlN := k.lN
  have hcs : o < cs.size := by
    obtain ⟨cs', ty', g1, g2⟩ := h.blk
    rw [hb] at g1
    simp only [Option.some.injEq, Obj.cells.injEq] at g1
    obtain ⟨rfl, rfl, _⟩ := g1
    simp at g2
    omega
  have zc : Zc (wr.alloc (.cells (zvS t) et)) wr.heap.size 0 t := fun j hj => by
    rw [cell_blk hX, Nat.zero_add]
    exact zvS_get j hj
  have hrne : s.rest ≠ [] := by
    rw [k.eq]
    have := num_pos (c : Int)
    intro q
    have := congrArg List.length q
    simp only [List.length_append, List.length_nil] at this
    omega
  have hlr : r.length ≤ 1000000000 := by
    have := h.lenR
    rw [k.eq] at this
    simp only [List.length_append] at this
    omega
  refine ⟨S', { s with rest := r }, ⟨k.tp.on hbw, fun q => ?_, ⟨_, _, hX, by omega⟩, zeroS_has t, zeroS_lies t 0 zc, fun _ => ⟨rfl, zc⟩, fun _ q => absurd (h.rb hr q) hrne, fun q => ?_, fun q => ?_, hlr⟩, ?_⟩
  · have := k.tp.lt _ q
    omega
  · have q' : s.reads = false := q
    rw [hr] at q'; cases q'
  · have q' : s.reads = false := q
    rw [hr] at q'; cases q'
  rintro w2 ⟨S2, s2, p1, p2, p3, ⟨c0, us, tX, b1, b2, b3, b4, b5, b6, b7⟩, p5⟩
  rw [hX] at b1
  simp only [Option.some.injEq, Obj.cells.injEq] at b1
  obtain ⟨rfl, rfl, _⟩ := b1
  have hz2 := p3.size
  have hus : us.size = t.length := by omega
  have hone : ∀ v ∈ us, v.oneCell' = true := by
    intro v hv
    obtain ⟨j, hj, e⟩ := Array.mem_iff_getElem.1 hv
    obtain ⟨v', g1, g2⟩ := b7 j (by omega)
    rw [Nat.zero_add, Array.getElem?_eq_getElem hj, e] at g1
    simp only [Option.some.injEq] at g1
    rw [g1]
    exact Ty.kind_one g2
  -- what stays over the item's own walk
  have st2 : ∀ j, j < wr.heap.size → ¬ S' j → w2.heap[j]? = wr.heap[j]? := fun j hj hs =>
    (p3.block j (by omega) (fun q => by rcases q with q | q; exact hs q; omega)).trans (hbw.block j hj)
  have nBS : ¬ S' B := fun q => by
    rcases k.gro B q with q | q
    · exact h.nB q
    · omega
  have hB2 : w2.heap[B]? = some (.cells (cs.setIfInBounds o tv) ty (0, 0)) := (st2 B (by omega) nBS).trans k.blk
  have hrow2 : w2.ownsRow (w.heap.size + 1) et t.length tv i xs := own_like k.row (fun j hj => st2 j (k.row.lt j hj).2 (k.nrow j hj))
  have hbd : Below w2.heap.size w2 (w2.drew.alloc (.cells us et)) := by
    have hb0 : Below w2.drew.heap.size w2.drew (w2.drew.alloc (.cells us et)) := Below.alloc (Below.refl _ _) (Nat.le_refl _) _
    exact ⟨hb0.os, hb0.tape, hb0.output, hb0.size, hb0.block⟩
  have hrow3 := own_below hrow2 hbd
  have hYs : (w2.drew.alloc (.cells us et)).heap.size = w2.heap.size + 1 := by simp
  have hY : (w2.drew.alloc (.cells us et)).heap[w2.heap.size]? = some (.cells us et (0, 0)) := heap_alloc_new w2.drew _
  obtain ⟨i0, z0, bb, g1, g2, g3, g4, g5, g6⟩ := hE.info
  have hcl := k.cl
  obtain ⟨v', w3, hrun, ho3, hg3, _, hat⟩ := run_append_own_at (P := Try.prog) (w := w2.drew.alloc (.cells us et)) (w.heap.size + 1) st st et i0 z0 t.length bb hE.und g1 g2 g3 g4 g5 hE.pos tv i xs hrow3 ⟨w2.heap.size, 0, none⟩ 1 1 us.toList (by simp [hus]) (fun j u hu => by
      rw [add_at, cell_blk hY, Nat.zero_add]
      simpa using hu) (fun u hu => hone u (by simpa using hu)) (by unfold maxLen; omega) (Nat.le_trans (Nat.mul_le_mul (show i + 1 ≤ 1000000000 by omega) g6) (by decide)) (by omega)
  have hne3 : ∀ j, tv.ownBlock = some j → j ≠ B ∧ w.heap.size + 1 ≤ j ∧ j < wr.heap.size := fun j hj => by
    have := k.row.lt j hj
    omega
  have st3 : ∀ j, j < w2.heap.size → tv.ownBlock ≠ some j → w3.heap[j]? = w2.heap[j]? := fun j hj hs => (hg3.block j (by omega) (fun q => hs q.symm)).trans (hbd.block j hj)
  have hB3 : w3.heap[B]? = some (.cells (cs.setIfInBounds o tv) ty (0, 0)) := (st3 B (by omega) (fun q => (hne3 B q).1 rfl)).trans hB2
  have hz3 := hg3.size
  have hsz : (w3.setCell ⟨B, o, none⟩ v').heap.size = w3.heap.size := by simp [World.setCell]
  have hB4 : (w3.setCell ⟨B, o, none⟩ v').heap[B]? = some (.cells (cs.setIfInBounds o v') ty (0, 0)) := by
    rw [set_blk (i := o) hB3 v']
    simp
  have st4 : ∀ j, j ≠ B → (w3.setCell ⟨B, o, none⟩ v').heap[j]? = w3.heap[j]? := fun j hj => set_other (a := ⟨B, o, none⟩) _ hj
  have hcB : ∀ W : World, W.heap[B]? = some (.cells (cs.setIfInBounds o tv) ty (0, 0)) → W.cell? ⟨B, o, none⟩ = some tv := fun W hW => by
    rw [cell_blk hW]
    simp [hcs]
  have hcB2 : (w2.alloc (.cells us et)).cell? ⟨B, o, none⟩ = some tv := hcB _ ((Below.heap_alloc w2 _ B (by omega)).trans hB2)
  obtain ⟨ad1, cap1, e1⟩ := own_shape hrow2
  obtain ⟨ad2, cap2, e2⟩ := own_shape ho3
  refine ⟨us, tv, v', w3, hus, fun j _ => by rw [cell_blk b2], fun j hj => (by have := b7 j hj; rwa [Nat.zero_add] at this), hcB w2 hB2, hrun, ⟨_, _, _, e1⟩, ⟨_, _, _, e2⟩, hcB2, hcB w3 hB3, frozen_blk hB3 o, ?_⟩
  -- what is left
  have nBS2 : ¬ S2 B := fun q => by
    rcases p2 B q with q | q
    · exact nBS q
    · omega
  have hS2 : ∀ j, S2 j → tv.ownBlock ≠ some j := fun j hj q => by
    rcases p2 j hj with g | g
    · exact k.nrow j q g
    · have := hne3 j q
      omega
  have T4 : Tp (w3.setCell ⟨B, o, none⟩ v') A S2 s2 := p1.like (fun j hj => (st4 j (fun e => nBS2 (e ▸ hj))).trans (st3 j (p1.lt j hj) (hS2 j hj))) (by omega)
  have G4 : ∀ j, S2 j → Gro S w (w3.setCell ⟨B, o, none⟩ v') j := fun j hj => by
    rcases p2 j hj with q | q
    · rcases k.gro j q with q | q
      · exact .inl q
      · exact .inr ⟨q.1, by omega⟩
    · exact .inr ⟨by omega, by omega⟩
  have kz := k.fr.size
  have F4 : Fr w (w3.setCell ⟨B, o, none⟩ v') (fun j => S j ∨ j = B) := by
    refine ⟨hg3.os.trans (hbd.os.trans (p3.os.trans (hbw.os.trans k.fr.os))), hg3.tape.trans (hbd.tape.trans (p3.tape.trans (hbw.tape.trans k.fr.tape))), hg3.output.trans (hbd.output.trans (p3.output.trans (hbw.output.trans k.fr.output))), by omega, fun j hj hs => ?_⟩
    have q1 : j < wr.heap.size := Nat.lt_of_lt_of_le hj kz
    have q2 : ¬ S' j := fun q => by
      rcases k.gro j q with q | q
      · exact hs (.inl q)
      · have := q.1
        omega
    have q3 : tv.ownBlock ≠ some j := fun q => by
      have := (hne3 j q).2.1
      omega
    rw [st4 j (fun e => hs (.inr e)), st3 j (by omega) q3, st2 j q1 q2]
    exact k.fr.block j hj hs
  have N4 : ∀ j, j < wr.heap.size → ¬ S' j → j ≠ B → tv.ownBlock ≠ some j → (w3.setCell ⟨B, o, none⟩ v').heap[j]? = wr.heap[j]? := fun j h1 h2 h3 h4 => (st4 j h3).trans ((st3 j (by omega) h4).trans (st2 j h1 h2))
  have cN4 : (w3.setCell ⟨B, o, none⟩ v').cell? ⟨w.heap.size, 0, none⟩ = some (.int .i64 (c : Int)) := (World.cell?_of_block (N4 w.heap.size k.lN k.nN (by omega) (fun q => by have := hne3 w.heap.size q; omega))).trans k.cN
  have hnv : ∀ j, v'.ownBlock = some j → tv.ownBlock = some j ∨ j = w2.heap.size + 1 := fun j hj => by
    rcases hat with q | q
    · rw [q] at hj
      exact .inl hj
    · rw [q] at hj
      simp only [Option.some.injEq] at hj
      exact .inr (by omega)
  rcases p5 with ⟨q, _⟩ | ⟨_, y, r2, q1, q2, q3, q4⟩ | ⟨_, q1, q2⟩
  · have q' : s.reads = false := q
    rw [hr] at q'; cases q'
  · have q2' : r = encS y ++ r2 := q2
    obtain ⟨vs, hv1, hv2⟩ := valsS_of q4
    have hvl := valsS_len hv1
    have hyl := hasS_len q1
    have evs : vs = us.toList := by
      apply List.ext_getElem?
      intro j
      by_cases hj : j < t.length
      · rw [← hv2 j (by omega), cell_blk b2, Nat.zero_add]
        simp
      · rw [List.getElem?_eq_none (by omega), List.getElem?_eq_none (by simp; omega)]
    subst evs
    refine .inl ⟨S2, r2, ys ++ [y], xs ++ us.toList, v', ⟨by rw [q3] at T4; exact T4, G4, F4, hB4, fun q => ?_, by omega, cN4, by simp [k.len], hasL_append k.has (by unfold hasL; exact ⟨q1, by simp [hasL]⟩), ?_, ?_, ?_, fun j hj q => ?_, k.cl⟩⟩
    · rcases p2 _ q with q | q
      · exact k.nN q
      · omega
    · rw [k.eq, q2', encL_append]
      simp [encL]
    · exact own_like ho3 (fun j hj => st4 j (fun e => by have := ho3.lt j hj; omega))
    · refine valsL_snoc (valsL_keeps ⟨by omega, fun j hj hs => ⟨?_, fun q => ?_⟩⟩ k.vals) (valsS_keeps ⟨by omega, fun j hj hs => ⟨?_, fun q => ?_⟩⟩ hv1)
      · exact N4 j hj (fun q => hs (.inr (.inl q))) (fun e => hs (.inl (by omega))) (fun q => hs (.inr (.inr q)))
      · rcases q with q | q | q
        · exact hs (.inl q)
        · rcases p2 j q with q | q
          · exact hs (.inr (.inl q))
          · omega
        · rcases hnv j q with q | q
          · exact hs (.inr (.inr q))
          · omega
      · refine (st4 j (fun e => hs (.inl (by omega)))).trans (st3 j hj (fun q => hs (.inl ?_)))
        have := hne3 j q
        omega
      · rcases q with q | q | q
        · exact hs (.inl (by omega))
        · exact hs (.inr q)
        · rcases hnv j q with q | q
          · have := hne3 j q
            exact hs (.inl (by omega))
          · omega
    · rcases hnv j hj with g | g
      · exact hS2 j q g
      · have := p1.lt j q
        omega
  · refine .inr ⟨S2, v', _, by rw [q2] at T4; exact T4, G4, F4, hB4, ⟨_, _, _, e2⟩, ?_, cN4⟩
    rintro ⟨z, r', hz, e⟩
    obtain ⟨a, rfl, ha⟩ := hasS_one hz
    obtain ⟨l, rfl, hl1, hl2⟩ := has_list ha
    simp only [encS, At.enc, List.append_nil, List.append_assoc] at e
    rw [k.eq] at e
    obtain ⟨ec, e⟩ := num_pre (len_in (n := c) (by omega)) (len_in hl1) e
    have hil : i < l.length := by omega
    have el : l = l.take i ++ (l[i] :: l.drop (i + 1)) := by rw [← List.drop_eq_getElem_cons hil, List.take_append_drop]
    rw [el, encL_append, List.append_assoc] at e
    have hkl := k.len
    obtain ⟨e3, e4⟩ := preL t ys (l.take i) _ _ (by rw [List.length_take]; omega) k.has (hasL_of (fun x hx => hasL_all hl2 x (List.mem_of_mem_take hx))) e
    refine q1 ⟨l[i], encL (l.drop (i + 1)) ++ r', hasL_all hl2 _ (List.getElem_mem hil), ?_⟩
    show r = _
    rw [e4]
    simp [encL]
end
end Go.Proofs.Ytjhgmncmcklnkaa
/- The walk of list, at entries. -/
namespace Go.Proofs.Ytjhgmncmcklnkaa
open Go.RowKit

theorem arr4 {vs : Array Value} (h : vs.size = 4) : ∃ a b c d, vs = #[a, b, c, d] := by
  obtain ⟨l⟩ := vs
  match l, h with
  | [a, b, c, d], _ => exact ⟨a, b, c, d, rfl⟩
theorem infoEntry : (Try.prog.info? 140).map (fun i => (i.zero, i.size, i.bytes)) = some (some (.agg #[.int .i64 0, .int .i64 0, .int .i64 0, .string ⟨#[]⟩]), 4, 40) := by kernel_rfl
theorem elEntry : El 22 140 entryT := by
  obtain ⟨i0, hi, hz0, hz1, hz2⟩ := info_parts infoEntry
  exact ⟨Try.underlying22, ⟨i0, _, 40, hi, hz0, hz1, hz2, rfl, by decide⟩, by decide⟩
section
variable {w w' w1 w2 : World} {A : Nat} {S S1 : Nat → Prop} {s s1 : TS} {B o : Nat} {t u : List Ty} {x y : List At} {rv : Value}
set_option maxHeartbeats 4000000 in
set_option maxRecDepth 100000 in
theorem entrys_any (h : Pre w A S s B o [.list entryT] x) : Calls Try.prog 54 #[.pointer (some ⟨A, 0, none⟩), .pointer (some ⟨B, o, none⟩), .func (.func 55) #[] #[]] w fun e w' => e = .returned (.tuple #[]) ∧ Post w w' A S s B o [.list entryT] x := by
  obtain ⟨a, rfl, ha⟩ := hasS_one h.has
  obtain ⟨l, rfl, hl1, hl2⟩ := has_list ha
  have hl := h.lies
  simp only [liesS, At.lies, and_true] at hl
  obtain ⟨v, hc, ad, cap, rfl, hcap, hmx, hmem⟩ := hl
  obtain ⟨cs, ty, hb, hs0⟩ := h.blk
  have h0 : s.reads = true → ((l.length : Nat) : Int) = 0 := fun q => by
    have e := (zero_cell h q).2
    simp only [List.cons.injEq, At.list.injEq, and_true] at e
    rw [e]
    rfl
  have hlen : s.reads = false → s.wr.length + (num (l.length : Int)).length ≤ 1000000000 := fun q => by
    have := h.lenW q
    simp only [encS, At.enc, List.append_nil, List.length_append] at this
    omega
  have hcnt := count_any (h.num (len_in hl1) h0 hlen (ty := 3))
  have HH := Lib.hid h
  cases hr : s.reads with
  | false =>
    have HR := Lib.hid hr
    have HM := Lib.hid hmem
    have HL2 := Lib.hid hl2
    have HC := Lib.hid hc
    have hl3 : (l.length : Int) ≤ 9223372036854775807 := by omega
    clear h ha hl1 hl2 h0 hlen hmem hb hs0 hr
    go_enter Try.func54, Try.ntmps54
    go_wp2_with (go_at_call 80; refine hcnt.mono ?_; rintro e w1 ⟨rfl, Q⟩; refine Hid.out ?_)
    refine Lib.hid ?_
    have HW := Lib.hid (WI.start HH.out HR.out Q)
    clear Q hcnt hc
    go_wp2
    go_loopw [7] (fun iv wr => ∃ i : Nat, i ≤ l.length ∧ iv = .int .i64 i ∧ Hid (WI w A S s l i wr)) (fun iv _ => l.length - (intOf iv).toNat)
    case atStart => exact ⟨0, Nat.zero_le _, rfl, HW⟩
    case round =>
      obtain ⟨i, hi, rfl, HI⟩ := hrel
      clear HW
      obtain ⟨c0, c3, cN⟩ := HI.out.reads HR.out (HH.out.wb HR.out)
      by_cases hlt : i < l.length
      · have hlI : (i : Int) < (l.length : Int) := by omega
        obtain ⟨b, p, rfl, hbl, nb, hL⟩ : ∃ b p, ad = some ⟨b, p, none⟩ ∧ b < w.heap.size ∧ ¬ S b ∧ liesL w S b p l := by
          rcases HM.out with e | q
          · rw [e] at hlt; simp at hlt
          · exact q
        obtain ⟨cB, vs, hvs, hcells, hone1, S', s', P, N⟩ := WI.next (et := 140) HH.out HR.out HL2.out hlt HC.out hbl nb hL HI.out
        obtain ⟨v0, v1, v2, v3, rfl⟩ := arr4 hvs
        have hkd := liesS_kinds P.has P.lies
        have hX := heap_alloc_new wr (.cells #[v0, v1, v2, v3] 140)
        obtain ⟨u0, g0, n0, rfl⟩ := hkd 0 (by decide)
        obtain ⟨u1, g1, n1, rfl⟩ := hkd 1 (by decide)
        obtain ⟨u2, g2, n2, rfl⟩ := hkd 2 (by decide)
        obtain ⟨u3, g3, n3, rfl⟩ := hkd 3 (by decide)
        rw [cell_blk hX] at g0 g1 g2 g3
        simp at g0 g1 g2 g3
        subst g0 g1 g2 g3
        have e0 : wr.cell? ⟨b, p + i * 4, none⟩ = some (.int .i64 n0) := hcells 0 (by decide)
        have e1 : wr.cell? ⟨b, p + i * 4 + 1, none⟩ = some (.int .i64 n1) := hcells 1 (by decide)
        have e2 : wr.cell? ⟨b, p + i * 4 + 2, none⟩ = some (.int .i64 n2) := hcells 2 (by decide)
        have e3 : wr.cell? ⟨b, p + i * 4 + 3, none⟩ = some (.string n3) := hcells 3 (by decide)
        have hone := entry_any P
        have HN := Lib.hid N
        clear N P hcells hone1 hkd hX hvs HC
        go_wp2_with (go_at_call 55; refine hone.mono ?_; rintro e w2 ⟨rfl, q⟩; refine Hid.out ?_)
        refine Lib.hid ?_
        have HI2 := Lib.hid (HN.out _ q)
        clear q hone
        go_wp2
        go_roundw
        case rel => exact ⟨i + 1, by omega, by go_num, HI2⟩
        case measure => simp [intOf]; omega
      · have hiF : i = l.length := by omega
        subst hiF
        go_wp2
        go_end0
        exact ⟨rfl, WI.done HH.out HR.out HI.out⟩
  | true =>
    have hx := (zero_cell h hr).2
    simp only [List.cons.injEq, At.list.injEq, and_true] at hx
    subst hx
    have hz := (zero_cell h hr).1
    rw [hc] at hz
    simp only [Option.some.injEq, Value.slice.injEq] at hz
    obtain ⟨rfl, _, rfl⟩ := hz
    have HR := Lib.hid hr
    have HB := Lib.hid hb
    clear h ha hl1 hl2 h0 hlen hmem hb hs0 hr
    go_enter Try.func54, Try.ntmps54
    go_wp2_with (go_at_call 80; refine hcnt.mono ?_; rintro e w1 ⟨rfl, Q⟩; refine Hid.out ?_)
    refine Lib.hid ?_
    obtain ⟨c, hst⟩ : ∃ c, (RI w A S s B o cs ty 140 entryT c 0 w1) ∨ RB w A S s B o cs ty entryT w1 := by
      rcases RI.start (et := 140) HH.out HR.out (by decide) HB.out Q with ⟨c, q⟩ | q
      · exact ⟨c, .inl q⟩
      · exact ⟨0, .inr q⟩
    have HST := Lib.hid hst
    clear Q hcnt hc hst
    go_wp2
    go_loopw [7] (fun iv wr => ∃ i : Nat, i ≤ c ∧ iv = .int .i64 i ∧ Hid (RI w A S s B o cs ty 140 entryT c i wr ∨ RB w A S s B o cs ty entryT wr)) (fun iv _ => c - (intOf iv).toNat)
    case atStart => exact ⟨0, Nat.zero_le _, rfl, HST⟩
    case round =>
      obtain ⟨i, hi, rfl, HI⟩ := hrel
      clear HST
      rcases HI.out with HRI | HRB
      · obtain ⟨c0, c3, cN, hcl⟩ := HRI.cells HH.out HR.out
        by_cases hlt : i < c
        · have hlI : (i : Int) < (c : Int) := by omega
          obtain ⟨S', s', P, N⟩ := RI.next elEntry HH.out HR.out HB.out hlt HRI
          have ez : zvS entryT = #[.int .i64 0, .int .i64 0, .int .i64 0, .string ⟨#[]⟩] := rfl
          rw [ez] at P N
          have hone := entry_any P
          have HN := Lib.hid N
          clear N P ez HI HRI
          go_wp2_with (go_at_call 55; refine hone.mono ?_; rintro e w2 ⟨rfl, q⟩; refine Hid.out ?_)
          refine Lib.hid ?_
          obtain ⟨us, tv, v', w3, hus, hcells, hkd, d1, hrun, ⟨ad1, m1, q1, rfl⟩, ⟨ad2, m2, q2, rfl⟩, d2, d3, d4, hend⟩ := HN.out w2 q
          obtain ⟨v0, v1, v2, v3, rfl⟩ := arr4 hus
          obtain ⟨u0, g0, n0, rfl⟩ := hkd 0 (by decide)
          obtain ⟨u1, g1, n1, rfl⟩ := hkd 1 (by decide)
          obtain ⟨u2, g2, n2, rfl⟩ := hkd 2 (by decide)
          obtain ⟨u3, g3, n3, rfl⟩ := hkd 3 (by decide)
          simp at g0 g1 g2 g3
          subst g0 g1 g2 g3
          have e0 : w2.cell? ⟨wr.heap.size, 0, none⟩ = some (.int .i64 n0) := hcells 0 (by decide)
          have e1 : w2.cell? ⟨wr.heap.size, 1, none⟩ = some (.int .i64 n1) := hcells 1 (by decide)
          have e2 : w2.cell? ⟨wr.heap.size, 2, none⟩ = some (.int .i64 n2) := hcells 2 (by decide)
          have e3 : w2.cell? ⟨wr.heap.size, 3, none⟩ = some (.string n3) := hcells 3 (by decide)
          have HI2 := Lib.hid hend
          clear q hone hend hcells hkd hus HN
          go_wp2
          go_region_law (refine step_run (.tmp 38) (.tmp 40) rfl rfl rfl (by simp [Act.eval]) (by simp [Act.eval]) hrun ?_)
          all_goals
            go_wp2
            go_roundw
            case rel => exact ⟨i + 1, by omega, by go_num, HI2⟩
            case measure => simp [intOf]; omega
        · have hiF : i = c := by omega
          subst hiF
          have HRI2 := Lib.hid HRI
          clear HRI HI
          go_wp2
          go_end0
          exact ⟨rfl, RI.done HH.out HR.out HB.out HRI2.out⟩
      · obtain ⟨c3, m, cN⟩ := HRB.cells
        have HRB2 := Lib.hid HRB
        clear HRB HI
        by_cases hm : (i : Int) < m
        · go_wp2
          go_end0
          exact ⟨rfl, RB.done HH.out HR.out HB.out HRB2.out⟩
        · go_wp2
          go_end0
          exact ⟨rfl, RB.done HH.out HR.out HB.out HRB2.out⟩
end
end Go.Proofs.Ytjhgmncmcklnkaa
