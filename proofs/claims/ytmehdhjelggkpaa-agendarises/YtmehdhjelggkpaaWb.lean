/- What an agenda is in memory: its queue, the things, what stays when they change; Less and Swap over it. -/
import Derived.Test.YtmehdhjelggkpaaWa
namespace Go.Proofs.Ytmehdhjelggkpaa
open Go.RowKit

/-- All blocks but those of S are as they were. -/
structure Fr (w w' : World) (S : Nat → Prop) : Prop where
  os : w'.os = w.os
  tape : w'.tape = w.tape
  output : w'.output = w.output
  size : w.heap.size ≤ w'.heap.size
  block : ∀ k, k < w.heap.size → ¬ S k → w'.heap[k]? = w.heap[k]?
theorem Fr.refl (w : World) (S : Nat → Prop) : Fr w w S := ⟨rfl, rfl, rfl, Nat.le_refl _, fun _ _ _ => rfl⟩
theorem Fr.trans {w w1 w2 : World} {S : Nat → Prop} (h : Fr w w1 S) (k : Fr w1 w2 S) : Fr w w2 S :=
  ⟨k.os.trans h.os, k.tape.trans h.tape, k.output.trans h.output, Nat.le_trans h.size k.size, fun j hj hr => (k.block j (Nat.lt_of_lt_of_le hj h.size) hr).trans (h.block j hj hr)⟩
/-- A second step may also change what is new. -/
theorem Fr.step {w w1 w2 : World} {S T : Nat → Prop} (h : Fr w w1 S) (k : Fr w1 w2 T) (hT : ∀ j, T j → S j ∨ w.heap.size ≤ j) : Fr w w2 S :=
  ⟨k.os.trans h.os, k.tape.trans h.tape, k.output.trans h.output, Nat.le_trans h.size k.size, fun j hj hr => (k.block j (Nat.lt_of_lt_of_le hj h.size) (fun q => by rcases hT j q with q | q; exact hr q; omega)).trans (h.block j hj hr)⟩
theorem Fr.mono {w w' : World} {S T : Nat → Prop} (h : Fr w w' S) (hT : ∀ j, S j → T j) : Fr w w' T :=
  ⟨h.os, h.tape, h.output, h.size, fun j hj hr => h.block j hj (fun q => hr (hT j q))⟩
theorem Fr.like {w w1 w2 : World} {S : Nat → Prop} (h : Fr w w1 S) (k : Like w2 w1) : Fr w w2 S :=
  ⟨k.os.trans h.os, k.tape.trans h.tape, k.output.trans h.output, by rw [k.heap]; exact h.size, fun j hj hr => by rw [k.heap]; exact h.block j hj hr⟩
theorem Fr.alloc {w w1 : World} {S : Nat → Prop} (h : Fr w w1 S) (o : Obj) : Fr w (w1.alloc o) S :=
  ⟨h.os, h.tape, h.output, Nat.le_trans h.size (by simp), fun j hj hr => (Below.heap_alloc w1 o j (Nat.lt_of_lt_of_le hj h.size)).trans (h.block j hj hr)⟩
theorem Fr.set {w w1 : World} {S : Nat → Prop} (h : Fr w w1 S) {a : Addr} (ha : S a.block ∨ w.heap.size ≤ a.block) (u : Value) : Fr w (w1.setCell a u) S :=
  ⟨h.os, h.tape, h.output, Nat.le_trans h.size (by simp [World.setCell]), fun j hj hr => (Below.heap_setCell w1 a u j (by rintro rfl; rcases ha with ha | ha; exact hr ha; omega)).trans (h.block j hj hr)⟩
theorem Fr.drewN {w w1 : World} {S : Nat → Prop} (h : Fr w w1 S) (k : Nat) : Fr w (w1.drewN k) S := ⟨h.os, h.tape, h.output, h.size, h.block⟩
theorem Fr.grown {w w1 w2 : World} {S : Nat → Prop} {row : Option Nat} (h : Fr w w1 S) (k : w1.grownBy w2 row) (hr : ∀ k, row = some k → S k ∨ w.heap.size ≤ k) : Fr w w2 S :=
  ⟨k.os.trans h.os, k.tape.trans h.tape, k.output.trans h.output, Nat.le_trans h.size k.size, fun j hj hrj => (k.block j (Nat.lt_of_lt_of_le hj h.size) (fun e => by rcases hr j e.symm with q | q; exact hrj q; omega)).trans (h.block j hj hrj)⟩
theorem Fr.below {w w1 w2 : World} {S : Nat → Prop} (h : Fr w w1 S) (k : Below w1.heap.size w1 w2) : Fr w w2 S :=
  ⟨k.os.trans h.os, k.tape.trans h.tape, k.output.trans h.output, Nat.le_trans h.size k.size, fun j hj hrj => (k.block j (Nat.lt_of_lt_of_le hj h.size)).trans (h.block j hj hrj)⟩
theorem Fr.toBelow {w w' : World} {S : Nat → Prop} {B : Nat} (h : Fr w w' S) (hS : ∀ k, k < B → ¬ S k) (hB : B ≤ w.heap.size) : Below B w w' :=
  ⟨h.os, h.tape, h.output, h.size, fun k hk => h.block k (by omega) (hS k hk)⟩
theorem Fr.ofBelow {w w' : World} (S : Nat → Prop) (h : Below w.heap.size w w') : Fr w w' S := ⟨h.os, h.tape, h.output, h.size, fun k hk _ => h.block k hk⟩

def ptrs (f : Nat → Th) (n : Nat) : List Value := (List.range n).map fun i => .pointer (some ⟨(f i).blk, 0, none⟩)
theorem ptrs_len (f : Nat → Th) (n : Nat) : (ptrs f n).length = n := by simp [ptrs]
theorem ptrs_get (f : Nat → Th) (n i : Nat) (h : i < n) : (ptrs f n)[i]? = some (.pointer (some ⟨(f i).blk, 0, none⟩)) := by simp [ptrs, h]
theorem ptrs_snoc (f : Nat → Th) (n : Nat) : ptrs f (n + 1) = ptrs f n ++ [.pointer (some ⟨(f n).blk, 0, none⟩)] := by simp [ptrs, List.range_succ]
theorem ptrs_congr {f g : Nat → Th} {n : Nat} (h : ∀ k, k < n → (f k).blk = (g k).blk) : ptrs f n = ptrs g n := by
  unfold ptrs
  apply List.map_congr_left
  intro k hk
  rw [h k (List.mem_range.1 hk)]
theorem ptrs_swp (f : Nat → Th) (n i j : Nat) (hi : i < n) (hj : j < n) (hij : i ≠ j) :
    ((ptrs f n).set i (.pointer (some ⟨(f j).blk, 0, none⟩))).set j (.pointer (some ⟨(f i).blk, 0, none⟩)) = ptrs (swp f i j) n := by
  apply List.ext_getElem
  · simp [ptrs]
  · intro k h1 h2
    have hk : k < n := by simpa [ptrs] using h2
    simp only [List.getElem_set]
    by_cases e : k = j
    · subst e
      simp [ptrs, swp_r]
    · rw [if_neg (Ne.symm e)]
      by_cases e2 : k = i
      · subst e2
        simp [ptrs, swp_l]
      · rw [if_neg (Ne.symm e2)]
        simp [ptrs, swp_o f i j k e2 e]

abbrev thO (x : Th) (i : Int) : Obj := .cells #[.int .i64 x.what, .int .i64 x.due, .int .i64 x.seq, .int .i64 i] 56 (0, 0)
abbrev agO (v mv : Value) (c : Int) : Obj := .cells #[v, mv, .int .i64 c] 53 (0, 0)

/-- The queue of the agenda at block A: v its row, n things as f has them; mv its map, c its count. -/
structure Qs (w : World) (A : Nat) (v mv : Value) (c : Int) (f : Nat → Th) (n : Nat) : Prop where
  ag : w.heap[A]? = some (agO v mv c)
  own : w.ownsRow 0 54 1 v n (ptrs f n)
  th : ∀ i, i < n → w.heap[(f i).blk]? = some (thO (f i) i)
  small : n ≤ 1000000

/-- Where the queue lies. -/
structure Cov (S : Nat → Prop) (v : Value) (f : Nat → Th) (n : Nat) : Prop where
  row : ∀ k, v.ownBlock = some k → S k
  th : ∀ i, i < n → S (f i).blk

theorem cell_blk {w : World} {b : Nat} {cs : Array Value} {t : TypeId} {fr : Nat × Nat} (h : w.heap[b]? = some (.cells cs t fr)) (i : Nat) : w.cell? ⟨b, i, none⟩ = cs[i]? := by simp [World.cell?, h]
theorem frozen_blk {w : World} {b : Nat} {cs : Array Value} {t : TypeId} (h : w.heap[b]? = some (.cells cs t (0, 0))) (i : Nat) : w.frozen? ⟨b, i, none⟩ = false := by simp [World.frozen?, h]
theorem set_blk {w : World} {b i : Nat} {cs : Array Value} {t : TypeId} {fr : Nat × Nat} (h : w.heap[b]? = some (.cells cs t fr)) (v : Value) : (w.setCell ⟨b, i, none⟩ v).heap[b]? = some (.cells (cs.setIfInBounds i v) t fr) := by
  have hlt := (Array.getElem?_eq_some_iff.1 h).1
  simp [World.setCell, Array.getElem?_modify, h]
theorem set_other {w : World} {a : Addr} {k : Nat} (v : Value) (h : k ≠ a.block) : (w.setCell a v).heap[k]? = w.heap[k]? := Below.heap_setCell w a v k h
theorem blk_lt {w : World} {b : Nat} {o : Obj} (h : w.heap[b]? = some o) : b < w.heap.size := (Array.getElem?_eq_some_iff.1 h).1
theorem tag_ne {w : World} {a b : Nat} {cs cs' : Array Value} {t t' : TypeId} {fr fr' : Nat × Nat} (h : w.heap[a]? = some (.cells cs t fr)) (h' : w.heap[b]? = some (.cells cs' t' fr')) (ht : t ≠ t') : a ≠ b := by
  rintro rfl
  rw [h] at h'
  simp only [Option.some.injEq, Obj.cells.injEq] at h'
  exact ht h'.2.1
theorem own_like {w w' : World} {base : Nat} {e : TypeId} {size : Nat} {v : Value} {n : Nat} {xs : List Value} (h : w.ownsRow base e size v n xs) (hb : ∀ k, v.ownBlock = some k → w'.heap[k]? = w.heap[k]?) : w'.ownsRow base e size v n xs := by
  refine ⟨h.1, ?_⟩
  rcases h.2 with hn | ⟨g, cap, cur, rfl, hb0, hgg, rest⟩
  · exact .inl hn
  · exact .inr ⟨g, cap, cur, rfl, hb0, (hb g rfl).trans hgg, rest⟩

section
variable {w : World} {A : Nat} {v mv : Value} {c : Int} {f : Nat → Th} {n : Nat}
theorem Qs.like {w' : World} (h : Qs w A v mv c f n) (k : Like w' w) : Qs w' A v mv c f n :=
  ⟨by rw [k.heap]; exact h.ag, own_like h.own (fun b _ => by rw [k.heap]), fun i hi => by rw [k.heap]; exact h.th i hi, h.small⟩
theorem Qs.drewN (h : Qs w A v mv c f n) (k : Nat) : Qs (w.drewN k) A v mv c f n := h.like ⟨rfl, rfl, rfl, rfl⟩
/-- It stays where its blocks do. -/
theorem Qs.stays {w' : World} {S : Nat → Prop} (h : Qs w A v mv c f n) (k : Fr w w' S) (hA : ¬ S A) (hr : ∀ b, v.ownBlock = some b → ¬ S b) (ht : ∀ i, i < n → ¬ S (f i).blk) : Qs w' A v mv c f n :=
  ⟨(k.block A (blk_lt h.ag) hA).trans h.ag, own_like h.own (fun b hb => k.block b (h.own.lt b hb).2 (hr b hb)), fun i hi => (k.block _ (blk_lt (h.th i hi)) (ht i hi)).trans (h.th i hi), h.small⟩
theorem Qs.congr {g : Nat → Th} (h : Qs w A v mv c f n) (e : ∀ k, k < n → f k = g k) : Qs w A v mv c g n :=
  ⟨h.ag, by rw [← ptrs_congr (f := f) (g := g) (fun k hk => by rw [e k hk])]; exact h.own, fun i hi => by rw [← e i hi]; exact h.th i hi, h.small⟩
theorem Qs.inj (h : Qs w A v mv c f n) {i j : Nat} (hi : i < n) (hj : j < n) (e : (f i).blk = (f j).blk) : i = j := by
  have a := h.th i hi
  rw [e, h.th j hj] at a
  simp only [Option.some.injEq, Obj.cells.injEq] at a
  have b := a.1
  simp at b
  omega
theorem Qs.form (h : Qs w A v mv c f n) (hn : 0 < n) : ∃ g cap, v = .slice (some ⟨g, 0, none⟩) n cap := by
  rcases h.own.2 with ⟨_, h0⟩ | ⟨g, cap, cur, rfl, _⟩
  · omega
  · exact ⟨g, cap, rfl⟩
theorem Qs.slot (h : Qs w A v mv c f n) : w.cell? ⟨A, 0, none⟩ = some v := by rw [cell_blk h.ag]; rfl
variable {g cap : Nat}
theorem Qs.rowAt (h : Qs w A (.slice (some ⟨g, 0, none⟩) n cap) mv c f n) {i : Nat} (hi : i < n) : w.cell? ⟨g, i, none⟩ = some (.pointer (some ⟨(f i).blk, 0, none⟩)) := by
  rw [h.own.cellAt i (by omega), ptrs_get f n i hi]
theorem Qs.rowFree (h : Qs w A (.slice (some ⟨g, 0, none⟩) n cap) mv c f n) (i : Nat) : w.frozen? ⟨g, i, none⟩ = false := h.own.frozenAt i
theorem Qs.rowBlk (h : Qs w A (.slice (some ⟨g, 0, none⟩) n cap) mv c f n) : ∃ cur, w.heap[g]? = some (.cells cur 54 (0, 0)) := by
  rcases h.own.2 with ⟨h0, _⟩ | ⟨g', cap', cur, e, _, hg, _⟩
  · cases h0
  · simp only [Value.slice.injEq, Option.some.injEq, Addr.mk.injEq] at e
    obtain ⟨⟨rfl, _⟩, _⟩ := e
    exact ⟨cur, hg⟩
theorem Qs.rowNe (h : Qs w A (.slice (some ⟨g, 0, none⟩) n cap) mv c f n) {i : Nat} (hi : i < n) : g ≠ (f i).blk := by
  obtain ⟨cur, hg⟩ := h.rowBlk
  exact tag_ne hg (h.th i hi) (by decide)
theorem Qs.agNe (h : Qs w A v mv c f n) {i : Nat} (hi : i < n) : A ≠ (f i).blk := tag_ne h.ag (h.th i hi) (by decide)
theorem Qs.agRow (h : Qs w A v mv c f n) : ∀ k, v.ownBlock = some k → A ≠ k := by
  intro k hk
  rcases h.own.2 with ⟨rfl, _⟩ | ⟨g', cap', cur, rfl, _, hg, _⟩
  · cases hk
  · simp only [Value.ownBlock, Option.some.injEq] at hk
    subst hk
    exact tag_ne h.ag hg (by decide)
end

abbrev swW (w : World) (g i j : Nat) (x y : Th) : World := (((w.setCell ⟨g, i, none⟩ (.pointer (some ⟨y.blk, 0, none⟩))).setCell ⟨g, j, none⟩ (.pointer (some ⟨x.blk, 0, none⟩))).setCell ⟨y.blk, 3, none⟩ (.int .i64 i)).setCell ⟨x.blk, 3, none⟩ (.int .i64 j)
theorem sw_other (w : World) (g i j k : Nat) (x y : Th) (h1 : k ≠ g) (h2 : k ≠ x.blk) (h3 : k ≠ y.blk) : (swW w g i j x y).heap[k]? = w.heap[k]? := by
  rw [set_other _ h2, set_other _ h3, set_other _ h1, set_other _ h1]

/-- Two things change places. -/
theorem Qs.swap {w : World} {A g cap n i j : Nat} {mv : Value} {c : Int} {f : Nat → Th} (h : Qs w A (.slice (some ⟨g, 0, none⟩) n cap) mv c f n) (hi : i < n) (hj : j < n) (hij : i ≠ j) :
    Qs (swW w g i j (f i) (f j)) A (.slice (some ⟨g, 0, none⟩) n cap) mv c (swp f i j) n := by
  have hxy : (f i).blk ≠ (f j).blk := fun e => hij (h.inj hi hj e)
  have hgi := h.rowNe hi
  have hgj := h.rowNe hj
  have hAg : A ≠ g := h.agRow g rfl
  refine ⟨?_, ?_, ?_, h.small⟩
  · rw [sw_other _ _ _ _ _ _ _ hAg (h.agNe hi) (h.agNe hj)]
    exact h.ag
  · have o1 := ((h.own.stored i (.pointer (some ⟨(f j).blk, 0, none⟩))).1.stored j (.pointer (some ⟨(f i).blk, 0, none⟩))).1
    rw [ptrs_swp f n i j hi hj hij] at o1
    refine own_like o1 ?_
    intro k hk
    simp only [Value.ownBlock, Option.some.injEq] at hk
    subst hk
    rw [set_other _ hgi, set_other _ hgj]
  · intro k hk
    by_cases e : k = i
    · subst e
      rw [swp_l]
      have b := h.th j hj
      rw [← set_other (w := w) (a := ⟨g, k, none⟩) (k := (f j).blk) (.pointer (some ⟨(f j).blk, 0, none⟩)) (Ne.symm hgj), ← set_other (a := ⟨g, j, none⟩) (k := (f j).blk) (.pointer (some ⟨(f k).blk, 0, none⟩)) (Ne.symm hgj)] at b
      rw [set_other _ (Ne.symm hxy), set_blk b]
      rfl
    · by_cases e2 : k = j
      · subst e2
        rw [swp_r]
        have b := h.th i hi
        rw [← set_other (w := w) (a := ⟨g, i, none⟩) (k := (f i).blk) (.pointer (some ⟨(f k).blk, 0, none⟩)) (Ne.symm hgi), ← set_other (a := ⟨g, k, none⟩) (k := (f i).blk) (.pointer (some ⟨(f i).blk, 0, none⟩)) (Ne.symm hgi),
          ← set_other (a := ⟨(f k).blk, 3, none⟩) (k := (f i).blk) (.int .i64 i) hxy] at b
        rw [set_blk b]
        rfl
      · rw [swp_o _ _ _ _ e e2, sw_other _ _ _ _ _ _ _ (Ne.symm (h.rowNe hk)) (fun q => e (h.inj hk hi q)) (fun q => e2 (h.inj hk hj q))]
        exact h.th k hk

theorem Qs.cov {w : World} {A : Nat} {v mv : Value} {c : Int} {f : Nat → Th} {n : Nat} (_ : Qs w A v mv c f n) {S : Nat → Prop} (h : Cov S v f n) {f' : Nat → Th} (hp : (row f' n).Perm (row f n)) : Cov S v f' n :=
  ⟨h.row, fun i hi => by
    obtain ⟨k, hk, e⟩ := mem_row.1 (hp.mem_iff.1 (mem_row.2 ⟨i, hi, rfl⟩))
    rw [← e]
    exact h.th k hk⟩

/-- Less over a queue. -/
theorem less_q {w : World} {A g cap n i j : Nat} {mv : Value} {c : Int} {f : Nat → Th} (h : Qs w A (.slice (some ⟨g, 0, none⟩) n cap) mv c f n) (hi : i < n) (hj : j < n) :
    Calls Try.prog 46 #[.slice (some ⟨g, 0, none⟩) n cap, .int .i64 i, .int .i64 j] w fun e w' => e = .returned (.bool (aheadB (f i) (f j))) ∧ ∃ k, w' = w.drewN k :=
  less_any g n cap i j (f i) (f j) w hi hj h.small (h.rowAt hi) (h.rowAt hj) (by rw [cell_blk (h.th i hi)]; rfl) (by rw [cell_blk (h.th i hi)]; rfl) (by rw [cell_blk (h.th j hj)]; rfl) (by rw [cell_blk (h.th j hj)]; rfl)
/-- Swap over a queue. -/
theorem swap_q {w : World} {A g cap n i j : Nat} {mv : Value} {c : Int} {f : Nat → Th} {S : Nat → Prop} (h : Qs w A (.slice (some ⟨g, 0, none⟩) n cap) mv c f n) (hc : Cov S (.slice (some ⟨g, 0, none⟩) n cap) f n) (hi : i < n) (hj : j < n) (hij : i ≠ j) :
    Calls Try.prog 47 #[.slice (some ⟨g, 0, none⟩) n cap, .int .i64 i, .int .i64 j] w fun e w' => e = .returned (.tuple #[]) ∧ Qs w' A (.slice (some ⟨g, 0, none⟩) n cap) mv c (swp f i j) n ∧ Fr w w' S := by
  refine (swap_any g n cap i j (f i) (f j) w hi hj h.small hij (h.rowNe hi) (h.rowNe hj) (h.rowAt hi) (h.rowAt hj) (h.rowFree i) (h.rowFree j) (frozen_blk (h.th i hi) 3) (frozen_blk (h.th j hj) 3) _ _ (by rw [cell_blk (h.th i hi)]; rfl) (by rw [cell_blk (h.th j hj)]; rfl) (fun e => hij (h.inj hi hj e))).mono ?_
  rintro e w' ⟨rfl, hl⟩
  refine ⟨rfl, (h.swap hi hj hij).like hl, Fr.like ?_ hl⟩
  exact ((((Fr.refl w S).set (.inl (hc.row g rfl)) _).set (.inl (hc.row g rfl)) _).set (.inl (hc.th j hj)) _).set (.inl (hc.th i hi)) _

theorem wrap_run (P : Program) (w : World) (ts : Array TypeId) (t : TypeId) (a : Addr) (s m : ByteArray) : (Builtin.ssaWrapNilChk_ ts t #[.pointer (some a), .string s, .string m]).run P w = .ok (.pointer (some a)) w := rfl
/-- The methods that heap calls. -/
theorem meth (w : World) (A : Nat) (v : Value) (name : String) (fn : FuncId) (sig : TypeId) (h : w.cell? ⟨A, 0, none⟩ = some v) (hm : (Try.prog.info? 60).map (fun i => i.methods.find? (·.name == name)) = some (some ⟨name, sig, #[], some (fn, false)⟩)) (m : Nat) :
    (method (m + 1) 60 (.pointer (some ⟨A, 0, none⟩)) name).run Try.prog w = .ok (fn, v) w := by
  obtain ⟨i, hi, hf⟩ := Option.map_eq_some_iff.1 hm
  simp [method, typeInfo, hi, hf, follow, receiverAt, run_underlying Try.underlying60, Place.get, wrap_run, strVal, asAddr, loadVar, isAgg, go_sem, h, Result.andThen]
end Go.Proofs.Ytmehdhjelggkpaa
