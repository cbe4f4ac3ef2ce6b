/- The agenda's map: which thing lies where; the agenda as a whole. -/
import Derived.Test.YtmehdhjelggkpaaWf
import Derived.Maps.OwnSet
namespace Go.Proofs.Ytmehdhjelggkpaa
open Go.RowKit Go.Maps

abbrev key (k : Int) : Lit := .int .i64 k
def inI (k : Int) : Prop := (key k).wf = true
theorem inI_of {k : Int} (h1 : -9223372036854775808 ≤ k) (h2 : k ≤ 9223372036854775807) : inI k := WalkArith.wf_i64 ⟨h1, h2⟩

/-- A pointer to a block, read as the block's number. -/
def ptrElem : Value → Option (DataW Unit × List MemPlace)
  | .pointer none => some (.nil, [])
  | .pointer (some a) => if a = ⟨a.block, 0, none⟩ then some (.lit (.int .i64 a.block), []) else none
  | _ => none
theorem ptrElem_none : ptrElem (.pointer none) = some (.nil, []) := rfl
theorem ptrElem_mk (b : Nat) : ptrElem (.pointer (some ⟨b, 0, none⟩)) = some (.lit (.int .i64 b), []) := by simp [ptrElem]
theorem ptrElem_inv {v : Value} {b : Nat} {ps : List MemPlace} (h : ptrElem v = some (.lit (.int .i64 b), ps)) : v = .pointer (some ⟨b, 0, none⟩) := by
  cases v <;> simp [ptrElem] at h
  rename_i p
  cases p with
  | none => simp at h
  | some a =>
    simp only at h
    by_cases e : a = ⟨a.block, 0, none⟩
    · rw [if_pos e] at h
      simp only [Option.some.injEq, Prod.mk.injEq, DataW.lit.injEq, Lit.int.injEq] at h
      have : a.block = b := by omega
      rw [e, this]
    · rw [if_neg e] at h
      cases h
theorem ptrElem_nil {v : Value} {ps : List MemPlace} (h : ptrElem v = some (.nil, ps)) : v = .pointer none := by
  cases v <;> simp [ptrElem] at h
  rename_i p
  cases p with
  | none => rfl
  | some a =>
    simp only at h
    by_cases e : a = ⟨a.block, 0, none⟩
    · rw [if_pos e] at h
      simp at h
    · rw [if_neg e] at h
      cases h

theorem law3 : Keyed Try.prog 3 := int_keyed Try.underlying3
theorem key3 {k : Int} (h : inI k) : keyOf Try.prog 3 (.int .i64 k) = some (key k) := keyOf_int_mk Try.underlying3 h
theorem zero54 (w : World) : (zeroValue 54).run Try.prog w = .ok (.pointer none) w := by kernel_rfl
theorem zero4 (w : World) : (zeroValue 4).run Try.prog w = .ok (.bool false) w := by kernel_rfl
theorem isKey {k : Int} : WideAt.IsKeyLit (key k) := by
  simp [WideAt.IsKeyLit]

/-- The map mv has the things of L, each where it lies. -/
def Mp (w : World) (mv : Value) (N : Nat) (L : List Th) : Prop :=
  (mv = .map none ∧ L = []) ∨ ∃ b D, mv = .map (some b) ∧ w.ownsMap Try.prog 3 ptrElem b N D ∧
    ∀ k, inI k → (∃ x ∈ L, x.what = k ∧ has D (key k) = true ∧ D.atKey (key k) .nil = .lit (.int .i64 x.blk)) ∨ ((∀ x ∈ L, x.what ≠ k) ∧ has D (key k) = false)

section
variable {w w' : World} {mv : Value} {N : Nat} {L L' : List Th}
theorem Mp.perm (h : Mp w mv N L) (hp : L'.Perm L) : Mp w mv N L' := by
  rcases h with ⟨rfl, rfl⟩ | ⟨b, D, rfl, ho, hk⟩
  · exact .inl ⟨rfl, List.Perm.eq_nil hp⟩
  · refine .inr ⟨b, D, rfl, ho, fun k hi => ?_⟩
    rcases hk k hi with ⟨x, hx, r⟩ | ⟨hx, r⟩
    · exact .inl ⟨x, hp.mem_iff.2 hx, r⟩
    · exact .inr ⟨fun x q => hx x (hp.mem_iff.1 q), r⟩
theorem Mp.mono (h : Mp w mv N L) {M : Nat} (hm : N ≤ M) : Mp w mv M L := by
  rcases h with h | ⟨b, D, rfl, ho, hk⟩
  · exact .inl h
  · exact .inr ⟨b, D, rfl, ho.mono hm, hk⟩
theorem own_map {P : Program} {k : TypeId} {H : Type} {R : Value → Option (DataW H × List MemPlace)} {b n : Nat} {D : DataW H} (h : w.ownsMap P k R b n D) (he : w'.heap[b]? = w.heap[b]?) : w'.ownsMap P k R b n D := by
  obtain ⟨es, clock, hb, r⟩ := h
  exact ⟨es, clock, he.trans hb, r⟩
/-- The map stays where its block does. -/
theorem Mp.stays (h : Mp w mv N L) (he : ∀ b, mv = .map (some b) → w'.heap[b]? = w.heap[b]?) : Mp w' mv N L := by
  rcases h with h | ⟨b, D, rfl, ho, hk⟩
  · exact .inl h
  · exact .inr ⟨b, D, rfl, own_map ho (he b rfl), hk⟩
theorem Mp.lt (h : Mp w mv N L) {b : Nat} (e : mv = .map (some b)) : b < w.heap.size := by
  rcases h with ⟨rfl, _⟩ | ⟨b', D, rfl, ho, _⟩
  · cases e
  · cases e
    exact ho.lt
theorem Mp.block (h : Mp w mv N L) {b : Nat} (e : mv = .map (some b)) : ∃ es clock, w.heap[b]? = some (.map es clock) := by
  rcases h with ⟨rfl, _⟩ | ⟨b', D, rfl, ⟨es, clock, hb, _⟩, _⟩
  · cases e
  · cases e
    exact ⟨es, clock, hb⟩
theorem Mp.form (h : Mp w mv N L) : ∃ o, mv = .map o := by
  rcases h with ⟨rfl, _⟩ | ⟨b', D, rfl, _⟩ <;> exact ⟨_, rfl⟩
theorem map_ne {a b : Nat} {cs : Array Value} {t : TypeId} {fr : Nat × Nat} {es : Array MapEntry} {clock : Nat} (h : w.heap[a]? = some (.cells cs t fr)) (h' : w.heap[b]? = some (.map es clock)) : a ≠ b := by
  rintro rfl
  rw [h] at h'
  cases h'
/-- A thing that is there is found. -/
theorem Mp.yes (h : Mp w mv N L) {x : Th} (hx : x ∈ L) (hu : ∀ y ∈ L, y.what = x.what → y = x) (hi : inI x.what) : (Instr.lookup 51 mv (.int .i64 x.what) true).run Try.prog w = .ok (.tuple #[.pointer (some ⟨x.blk, 0, none⟩), .bool true]) w := by
  rcases h with ⟨rfl, rfl⟩ | ⟨b, D, rfl, ho, hk⟩
  · cases hx
  · obtain ⟨v, ps, hrun, hv⟩ := ho.look_ok law3 Try.underlying51 (zero54 w) ptrElem_none (key3 hi)
    rcases hk x.what hi with ⟨y, hy, e, hh, ha⟩ | ⟨hn, _⟩
    · have := hu y hy e
      subst this
      rw [ha] at hv
      rw [hrun, hh, ptrElem_inv hv]
    · exact absurd rfl (hn x hx)
/-- One that isn't is not. -/
theorem Mp.no (h : Mp w mv N L) {k : Int} (hx : ∀ y ∈ L, y.what ≠ k) (hi : inI k) : (Instr.lookup 51 mv (.int .i64 k) true).run Try.prog w = .ok (.tuple #[.pointer none, .bool false]) w := by
  rcases h with ⟨rfl, rfl⟩ | ⟨b, D, rfl, ho, hk⟩
  · exact Maps.look_nil true law3 Try.underlying51 (zero54 w) (key3 hi)
  · obtain ⟨v, ps, hrun, hv⟩ := ho.look_ok law3 Try.underlying51 (zero54 w) ptrElem_none (key3 hi)
    rcases hk k hi with ⟨y, hy, e, _⟩ | ⟨_, hh⟩
    · exact absurd e (hx y hy)
    · rw [atKey_of_not_has hh] at hv
      rw [hrun, hh, ptrElem_nil hv]
/-- One more. -/
theorem Mp.put {b : Nat} (h : Mp w (.map (some b)) N L) (hN : N < maxLen) {x : Th} (hi : inI x.what) (hx : ∀ y ∈ L, y.what ≠ x.what) : ∃ w', (Instr.mapUpdate 51 (.map (some b)) (.int .i64 x.what) (.pointer (some ⟨x.blk, 0, none⟩))).run Try.prog w = .ok () w' ∧ Mp w' (.map (some b)) (N + 1) (x :: L) ∧ w.mapTurned w' b := by
  rcases h with ⟨h, _⟩ | ⟨b', D, e, ho, hk⟩
  · cases h
  · cases e
    obtain ⟨w', hrun, ho', ht⟩ := ho.store law3 Try.underlying51 hN (key3 hi) (ptrElem_mk x.blk)
    refine ⟨w', hrun, .inr ⟨b, _, rfl, ho', fun k hik => ?_⟩, ht⟩
    by_cases e : k = x.what
    · subst e
      exact .inl ⟨x, by simp, rfl, has_put_same ho.isMap isKey _, atKey_put_same ho.isMap isKey _ _⟩
    · have ne : key k ≠ key x.what := fun q => e (by simpa [key] using q)
      rw [has_put_other ne, atKey_put_other ne]
      rcases hk k hik with ⟨y, hy, r⟩ | ⟨hy, r⟩
      · exact .inl ⟨y, by simp [hy], r⟩
      · refine .inr ⟨?_, r⟩
        intro y hy'
        rcases List.mem_cons.1 hy' with rfl | hy'
        · exact fun q => e q.symm
        · exact hy y hy'
/-- One less. -/
theorem Mp.del {b : Nat} (h : Mp w (.map (some b)) N L) {x : Th} (hi : inI x.what) (hp : L.Perm (x :: L')) (hx : ∀ y ∈ L', y.what ≠ x.what) (ty : TypeId) : ∃ w', (Builtin.delete_ #[51, 3] ty #[.map (some b), .int .i64 x.what]).run Try.prog w = .ok (.tuple #[]) w' ∧ Mp w' (.map (some b)) N L' ∧ w.mapTurned w' b := by
  rcases h with ⟨h, _⟩ | ⟨b', D, e, ho, hk⟩
  · cases h
  · cases e
    obtain ⟨w', hrun, ho', ht⟩ := ho.drop law3 Try.underlying51 (key3 hi) ty
    refine ⟨w', hrun, .inr ⟨b, _, rfl, ho', fun k hik => ?_⟩, ht⟩
    by_cases e : k = x.what
    · subst e
      exact .inr ⟨hx, has_del_same⟩
    · have ne : key k ≠ key x.what := fun q => e (by simpa [key] using q)
      rw [has_del_other ne, atKey_del_other ne]
      rcases hk k hik with ⟨y, hy, r1, r⟩ | ⟨hy, r⟩
      · rcases List.mem_cons.1 (hp.mem_iff.1 hy) with rfl | hy'
        · exact absurd r1.symm e
        · exact .inl ⟨y, hy', r1, r⟩
      · exact .inr ⟨fun y hy' => hy y (hp.mem_iff.2 (by simp [hy'])), r⟩
end

/-- The agenda at block A, whose blocks are among S: c Sets were made, and R is the document's list. -/
structure Ags (w : World) (A : Nat) (S : Nat → Prop) (c : Nat) (R : List Ti) (v mv : Value) (f : Nat → Th) (n : Nat) : Prop where
  q : Qs w A v mv (c : Int) f n
  heap : Heap f n
  rep : Rep f n ((c : Int) + 1) R
  mp : Mp w mv c (row f n)
  cov : Cov S v f n
  covA : S A
  covM : ∀ b, mv = .map (some b) → S b
  small : c ≤ 900000
  few : n ≤ c
  ints : ∀ t ∈ R, inI t.what
def Agd (w : World) (A : Nat) (S : Nat → Prop) (c : Nat) (R : List Ti) : Prop := (∀ k, S k → k < w.heap.size) ∧ ∃ v mv f n, Ags w A S c R v mv f n
/-- S, and what is new. -/
def Gro (S : Nat → Prop) (w w' : World) : Nat → Prop := fun k => S k ∨ (w.heap.size ≤ k ∧ k < w'.heap.size)

section
variable {w w' : World} {A c n : Nat} {S : Nat → Prop} {R : List Ti} {v mv : Value} {f : Nat → Th}
theorem Ags.len (h : Ags w A S c R v mv f n) : R.length = n := h.rep.len
theorem Agd.like (h : Agd w A S c R) (k : Like w' w) : Agd w' A S c R := by
  obtain ⟨hS, v, mv, f, n, h⟩ := h
  exact ⟨by rw [k.heap]; exact hS, v, mv, f, n, h.q.like k, h.heap, h.rep, h.mp.stays (fun b _ => by rw [k.heap]), h.cov, h.covA, h.covM, h.small, h.few, h.ints⟩
theorem Agd.drewN (h : Agd w A S c R) (k : Nat) : Agd (w.drewN k) A S c R := h.like ⟨rfl, rfl, rfl, rfl⟩
/-- It stays while others change. -/
theorem Agd.stays {T : Nat → Prop} (h : Agd w A S c R) (k : Fr w w' T) (hd : ∀ b, S b → ¬ T b) : Agd w' A S c R := by
  obtain ⟨hS, v, mv, f, n, h⟩ := h
  refine ⟨fun b hb => Nat.lt_of_lt_of_le (hS b hb) k.size, v, mv, f, n, ?_, h.heap, h.rep, ?_, h.cov, h.covA, h.covM, h.small, h.few, h.ints⟩
  · exact h.q.stays k (hd A h.covA) (fun b hb => hd b (h.cov.row b hb)) (fun i hi => hd _ (h.cov.th i hi))
  · exact h.mp.stays (fun b hb => k.block b (h.mp.lt hb) (hd b (h.covM b hb)))
theorem Agd.wider (h : Agd w A S c R) {T : Nat → Prop} (hT : ∀ k, S k → T k) (hl : ∀ k, T k → k < w.heap.size) : Agd w A T c R := by
  obtain ⟨hS, v, mv, f, n, h⟩ := h
  exact ⟨hl, v, mv, f, n, h.q, h.heap, h.rep, h.mp, ⟨fun k hk => hT k (h.cov.row k hk), fun i hi => hT _ (h.cov.th i hi)⟩, hT A h.covA, fun b hb => hT b (h.covM b hb), h.small, h.few, h.ints⟩
theorem Ags.uniq (h : Ags w A S c R v mv f n) {i j : Nat} (hi : i < n) (hj : j < n) (e : (f i).what = (f j).what) : i = j := h.rep.inj hi hj e
theorem Ags.inI (h : Ags w A S c R v mv f n) {i : Nat} (hi : i < n) : inI (f i).what := by
  obtain ⟨t, ht, e⟩ := List.mem_map.1 ((h.rep.mem (f i).what).2 ⟨i, hi, rfl⟩)
  have := h.ints t ht
  rw [e] at this
  exact this
/-- A thing that is there is found where it lies. -/
theorem Ags.found (h : Ags w A S c R v mv f n) {i : Nat} (hi : i < n) : (Instr.lookup 51 mv (.int .i64 (f i).what) true).run Try.prog w = .ok (.tuple #[.pointer (some ⟨(f i).blk, 0, none⟩), .bool true]) w :=
  h.mp.yes (mem_row.2 ⟨i, hi, rfl⟩) (fun y hy e => by
    obtain ⟨j, hj, rfl⟩ := mem_row.1 hy
    rw [h.uniq hj hi e]) (h.inI hi)
theorem Ags.lost (h : Ags w A S c R v mv f n) {k : Int} (hk : k ∉ whats R) (hi : Ytmehdhjelggkpaa.inI k) : (Instr.lookup 51 mv (.int .i64 k) true).run Try.prog w = .ok (.tuple #[.pointer none, .bool false]) w :=
  h.mp.no (fun y hy e => by
    obtain ⟨j, hj, rfl⟩ := mem_row.1 hy
    exact hk ((h.rep.mem k).2 ⟨j, hj, e⟩)) hi
end
end Go.Proofs.Ytmehdhjelggkpaa
