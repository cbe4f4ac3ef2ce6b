/- What stays of the memory; clocks, plain. -/
import Derived.Test.YtjnkfnohnibgiaaRows
import Derived.WalkKit
import Derived.WalkSpells
import Derived.WalkLawsBesides
import Derived.OwnWalk
import Derived.BigCall
import Derived.BigRegion
import Derived.Deep.QuietTactic
import Derived.BigQuiet
import Derived.Deep.OwnRows
import Derived.Deep.RegionWith
import Derived.Deep.RegionLaw
import Derived.Deep.RegionHeld3
import Derived.Laws.OwnMore
import Derived.Maps.AppendAt
import Derived.Lib.Hide
namespace Go.Proofs.Ytjnkfnohnibgiaa
open Go.RowKit

/-- All blocks but those of S are as they were. -/
structure Fr (w w' : World) (S : Nat → Prop) : Prop where
  os : w'.os = w.os
  tape : w'.tape = w.tape
  output : w'.output = w.output
  size : w.heap.size ≤ w'.heap.size
  block : ∀ k, k < w.heap.size → ¬ S k → w'.heap[k]? = w.heap[k]?
theorem Fr.refl (w : World) (S : Nat → Prop) : Fr w w S := ⟨rfl, rfl, rfl, Nat.le_refl _, fun _ _ _ => rfl⟩
theorem Fr.trans {w w1 w2 : World} {S : Nat → Prop} (h : Fr w w1 S) (k : Fr w1 w2 S) : Fr w w2 S :=
  ⟨k.os.trans h.os, k.tape.trans h.tape, k.output.trans h.output, Nat.le_trans h.size k.size, fun j hj hr => (k.block j (Nat.lt_of_lt_of_le hj h.size) hr).trans (h.block j hj hr)⟩
/-- A second step may also change what is new. -/
theorem Fr.step {w w1 w2 : World} {S T : Nat → Prop} (h : Fr w w1 S) (k : Fr w1 w2 T) (hT : ∀ j, T j → S j ∨ w.heap.size ≤ j) : Fr w w2 S :=
  ⟨k.os.trans h.os, k.tape.trans h.tape, k.output.trans h.output, Nat.le_trans h.size k.size, fun j hj hr => (k.block j (Nat.lt_of_lt_of_le hj h.size) (fun q => by rcases hT j q with q | q; exact hr q; omega)).trans (h.block j hj hr)⟩
theorem Fr.mono {w w' : World} {S T : Nat → Prop} (h : Fr w w' S) (hT : ∀ j, S j → T j) : Fr w w' T :=
  ⟨h.os, h.tape, h.output, h.size, fun j hj hr => h.block j hj (fun q => hr (hT j q))⟩
theorem Fr.alloc {w w1 : World} {S : Nat → Prop} (h : Fr w w1 S) (o : Obj) : Fr w (w1.alloc o) S :=
  ⟨h.os, h.tape, h.output, Nat.le_trans h.size (by simp), fun j hj hr => (Below.heap_alloc w1 o j (Nat.lt_of_lt_of_le hj h.size)).trans (h.block j hj hr)⟩
theorem Fr.set {w w1 : World} {S : Nat → Prop} (h : Fr w w1 S) {a : Addr} (ha : S a.block ∨ w.heap.size ≤ a.block) (u : Value) : Fr w (w1.setCell a u) S :=
  ⟨h.os, h.tape, h.output, Nat.le_trans h.size (by simp [World.setCell]), fun j hj hr => (Below.heap_setCell w1 a u j (by rintro rfl; rcases ha with ha | ha; exact hr ha; omega)).trans (h.block j hj hr)⟩
theorem Fr.drewN {w w1 : World} {S : Nat → Prop} (h : Fr w w1 S) (k : Nat) : Fr w (w1.drewN k) S := ⟨h.os, h.tape, h.output, h.size, h.block⟩
theorem Fr.grown {w w1 w2 : World} {S : Nat → Prop} {row : Option Nat} (h : Fr w w1 S) (k : w1.grownBy w2 row) (hr : ∀ k, row = some k → S k ∨ w.heap.size ≤ k) : Fr w w2 S :=
  ⟨k.os.trans h.os, k.tape.trans h.tape, k.output.trans h.output, Nat.le_trans h.size k.size, fun j hj hrj => (k.block j (Nat.lt_of_lt_of_le hj h.size) (fun e => by rcases hr j e.symm with q | q; exact hrj q; omega)).trans (h.block j hj hrj)⟩
theorem Fr.below {w w1 w2 : World} {S : Nat → Prop} (h : Fr w w1 S) (k : Below w1.heap.size w1 w2) : Fr w w2 S :=
  ⟨k.os.trans h.os, k.tape.trans h.tape, k.output.trans h.output, Nat.le_trans h.size k.size, fun j hj hrj => (k.block j (Nat.lt_of_lt_of_le hj h.size)).trans (h.block j hj hrj)⟩
theorem Fr.toBelow {w w' : World} {S : Nat → Prop} {B : Nat} (h : Fr w w' S) (hS : ∀ k, k < B → ¬ S k) (hB : B ≤ w.heap.size) : Below B w w' :=
  ⟨h.os, h.tape, h.output, h.size, fun k hk => h.block k (by omega) (hS k hk)⟩
theorem Fr.ofBelow {w w' : World} (S : Nat → Prop) (h : Below w.heap.size w w') : Fr w w' S := ⟨h.os, h.tape, h.output, h.size, fun k hk _ => h.block k hk⟩
theorem Fr.fresh {w w' : World} {S : Nat → Prop} (h : Fr w w' S) (hS : ∀ k, S k → w.heap.size ≤ k) : Below w.heap.size w w' :=
  ⟨h.os, h.tape, h.output, h.size, fun k hk => h.block k hk (fun q => by have := hS k q; omega)⟩
/-- S, and what is new. -/
def Gro (S : Nat → Prop) (w w' : World) : Nat → Prop := fun k => S k ∨ (w.heap.size ≤ k ∧ k < w'.heap.size)

theorem cell_blk {w : World} {b : Nat} {cs : Array Value} {t : TypeId} {fr : Nat × Nat} (h : w.heap[b]? = some (.cells cs t fr)) (i : Nat) : w.cell? ⟨b, i, none⟩ = cs[i]? := by simp [World.cell?, h]
theorem frozen_blk {w : World} {b : Nat} {cs : Array Value} {t : TypeId} (h : w.heap[b]? = some (.cells cs t (0, 0))) (i : Nat) : w.frozen? ⟨b, i, none⟩ = false := by simp [World.frozen?, h]
theorem set_blk {w : World} {b i : Nat} {cs : Array Value} {t : TypeId} {fr : Nat × Nat} (h : w.heap[b]? = some (.cells cs t fr)) (v : Value) : (w.setCell ⟨b, i, none⟩ v).heap[b]? = some (.cells (cs.setIfInBounds i v) t fr) := by
  have hlt := (Array.getElem?_eq_some_iff.1 h).1
  simp [World.setCell, Array.getElem?_modify, h]
theorem set_other {w : World} {a : Addr} {k : Nat} (v : Value) (h : k ≠ a.block) : (w.setCell a v).heap[k]? = w.heap[k]? := Below.heap_setCell w a v k h
theorem blk_lt {w : World} {b : Nat} {o : Obj} (h : w.heap[b]? = some o) : b < w.heap.size := (Array.getElem?_eq_some_iff.1 h).1
theorem tag_ne {w : World} {a b : Nat} {cs cs' : Array Value} {t t' : TypeId} {fr fr' : Nat × Nat} (h : w.heap[a]? = some (.cells cs t fr)) (h' : w.heap[b]? = some (.cells cs' t' fr')) (ht : t ≠ t') : a ≠ b := by
  rintro rfl
  rw [h] at h'
  simp only [Option.some.injEq, Obj.cells.injEq] at h'
  exact ht h'.2.1
theorem own_like {w w' : World} {base : Nat} {e : TypeId} {size : Nat} {v : Value} {n : Nat} {xs : List Value} (h : w.ownsRow base e size v n xs) (hb : ∀ k, v.ownBlock = some k → w'.heap[k]? = w.heap[k]?) : w'.ownsRow base e size v n xs := by
  refine ⟨h.1, ?_⟩
  rcases h.2 with hn | ⟨g, cap, cur, rfl, hb0, hgg, rest⟩
  · exact .inl hn
  · exact .inr ⟨g, cap, cur, rfl, hb0, (hb g rfl).trans hgg, rest⟩
theorem undrew {w w' : World} {r : Option Nat} (h : w.drew.grownBy w' r) : w.grownBy w' r := ⟨h.os, h.tape, h.output, h.size, h.block⟩

theorem gro_fresh {w0 w1 w2 : World} {T : Nat → Prop} (hT : ∀ k, T k → w0.heap.size ≤ k) (hs : w0.heap.size ≤ w1.heap.size) : ∀ k, Gro T w1 w2 k → w0.heap.size ≤ k := by
  intro k q
  rcases q with q | q
  · exact hT k q
  · omega
theorem fr_below {w0 w1 w2 : World} {T : Nat → Prop} (hT : ∀ k, T k → w0.heap.size ≤ k) (hb : Below w0.heap.size w0 w1) (hf : Fr w1 w2 T) : Below w0.heap.size w0 w2 :=
  hb.trans (hf.toBelow (fun k hk q => by have := hT k q; omega) hb.size)
theorem own_mono {w : World} {B1 B2 : Nat} {v : Value} {e : TypeId} {c m : Nat} {xs : List Value} (h : w.ownsRow B2 e c v m xs) (hB : B1 ≤ B2) : w.ownsRow B1 e c v m xs := by
  rcases h with ⟨h1, h2 | ⟨g, cap, cur, hv, hg, hr⟩⟩
  · exact ⟨h1, .inl h2⟩
  · exact ⟨h1, .inr ⟨g, cap, cur, hv, Nat.le_trans hB hg, hr⟩⟩
theorem own_below {B : Nat} {e : TypeId} {k : Nat} {v : Value} {n : Nat} {xs : List Value} {w w' : World} (h : w.ownsRow B e k v n xs) (hb : Below w.heap.size w w') : w'.ownsRow B e k v n xs :=
  own_like h (fun j hj => hb.block j (h.lt j hj).2)
theorem row_keep {w w' : World} {B : Nat} {S : Nat → Prop} {v : Value} {e : TypeId} {c m : Nat} {xs : List Value} (h : w.ownsRow B e c v m xs) (hf : Fr w w' S) (hs : ∀ j, v.ownBlock = some j → ¬ S j) : w'.ownsRow B e c v m xs :=
  own_like h (fun j hj => hf.block j (h.lt j hj).2 (hs j hj))
theorem below_draw {w w1 : World} (h : Below w.heap.size w w1) (k : Nat) : Below w.heap.size w (w1.drewN k) := ⟨h.os, h.tape, h.output, h.size, h.block⟩

theorem own_shape {w : World} {B : Nat} {v : Value} {e : TypeId} {c m : Nat} {xs : List Value} (h : w.ownsRow B e c v m xs) : ∃ ad cap, v = .slice ad m cap := by
  rcases h.2 with ⟨hv, h0⟩ | ⟨g, cap, cur, hv, _⟩
  · exact ⟨none, 0, by rw [hv, h0]⟩
  · exact ⟨_, cap, hv⟩

theorem add_at (g o k : Nat) : (⟨g, o, none⟩ : Addr).add k = ⟨g, o + k, none⟩ := by unfold Addr.add; split <;> simp_all

/-! ### Clocks, plain -/
def hasC (T : List Int) (i : Int) : Bool := decide (0 ≤ i ∧ i < T.length)
def nowC (T : List Int) (i : Int) : Int := if hasC T i then T.getD i.toNat 0 else 0
def leastC (T : List Int) (x : Int) : Int := T.foldl min x
/-- By how much a clock goes on, where there is one and it is told to. -/
def goC (T : List Int) (most i d : Int) : Int := min d (most - (nowC T i - leastC T (nowC T i)))
def stepC (T : List Int) (most i d : Int) : Int := if hasC T i = true ∧ 1 ≤ d then (if 1125899906842624 < nowC T i + goC T most i d then 0 else goC T most i d) else 0
def putC (T : List Int) (i d : Int) : List Int := if hasC T i then T.set i.toNat (nowC T i + d) else T
structure Ok (T : List Int) (most : Int) : Prop where
  len1 : 1 ≤ T.length
  len5 : T.length ≤ 5
  m1 : 1 ≤ most
  m2 : most ≤ 1073741824
  lo : ∀ t ∈ T, 0 ≤ t
  hi : ∀ t ∈ T, t ≤ 1125899906842624
  near : ∀ s ∈ T, ∀ t ∈ T, s - t ≤ most
theorem hasC_nat {T : List Int} {k : Nat} (h : k < T.length) : hasC T (k : Int) = true := by unfold hasC; simp; omega
theorem hasC_not {T : List Int} {i : Int} (h : i < 0 ∨ (T.length : Int) ≤ i) : hasC T i = false := by unfold hasC; simp; omega
theorem hasC_split (T : List Int) (i : Int) : (∃ k : Nat, i = k ∧ k < T.length) ∨ (i < 0 ∨ (T.length : Int) ≤ i) := by
  by_cases h : 0 ≤ i ∧ i < T.length
  · exact .inl ⟨i.toNat, by omega, by omega⟩
  · exact .inr (by omega)
theorem nowC_nat {T : List Int} {k : Nat} (h : k < T.length) : nowC T (k : Int) = T[k] := by
  unfold nowC
  rw [hasC_nat h]
  simp [h]
theorem nowC_not {T : List Int} {i : Int} (h : i < 0 ∨ (T.length : Int) ≤ i) : nowC T i = 0 := by
  unfold nowC
  rw [hasC_not h]
  rfl
theorem putC_nat {T : List Int} {k : Nat} (h : k < T.length) (d : Int) : putC T (k : Int) d = T.set k (T[k] + d) := by
  unfold putC
  rw [hasC_nat h, nowC_nat h]
  simp
theorem putC_not {T : List Int} {i : Int} (h : i < 0 ∨ (T.length : Int) ≤ i) (d : Int) : putC T i d = T := by
  unfold putC
  rw [hasC_not h]
  rfl
theorem putC_len (T : List Int) (i d : Int) : (putC T i d).length = T.length := by unfold putC; split <;> simp
theorem putC_zero (T : List Int) (i : Int) : putC T i 0 = T := by
  rcases hasC_split T i with ⟨k, rfl, h⟩ | h
  · rw [putC_nat h]
    simp
  · exact putC_not h 0
theorem least_le (T : List Int) : ∀ x, leastC T x ≤ x ∧ (∀ t ∈ T, leastC T x ≤ t) ∧ (leastC T x = x ∨ leastC T x ∈ T) := by
  induction T with
  | nil => intro x; simp [leastC]
  | cons a T ih =>
    intro x
    obtain ⟨h1, h2, h3⟩ := ih (min x a)
    have e : leastC (a :: T) x = leastC T (min x a) := rfl
    rw [e]
    refine ⟨by omega, fun t ht => ?_, ?_⟩
    · rcases List.mem_cons.1 ht with rfl | ht
      · omega
      · exact h2 t ht
    · rcases h3 with h3 | h3
      · rw [h3]
        by_cases hx : x ≤ a
        · exact .inl (by omega)
        · right
          have : min x a = a := by omega
          rw [this]
          exact List.mem_cons_self
      · exact .inr (List.mem_cons_of_mem _ h3)
theorem leastC_snoc (T : List Int) (k : Nat) (h : k < T.length) (x : Int) : leastC (T.take (k + 1)) x = min (leastC (T.take k) x) T[k] := by
  unfold leastC
  rw [List.take_succ_eq_append_getElem h, List.foldl_append]
  rfl
theorem stepC_not {T : List Int} {i : Int} (h : i < 0 ∨ (T.length : Int) ≤ i) (most d : Int) : stepC T most i d = 0 := by
  unfold stepC
  rw [hasC_not h, if_neg (by simp)]
theorem stepC_small (T : List Int) (most i : Int) {d : Int} (h : d < 1) : stepC T most i d = 0 := by
  unfold stepC
  rw [if_neg (by omega)]
theorem stepC_nat {T : List Int} {k : Nat} (h : k < T.length) (most : Int) {d : Int} (hd : 1 ≤ d) :
    stepC T most k d = if 1125899906842624 < T[k] + min d (most - (T[k] - leastC T T[k])) then 0 else min d (most - (T[k] - leastC T T[k])) := by
  unfold stepC goC
  rw [hasC_nat h, if_pos ⟨rfl, hd⟩, nowC_nat h]
theorem Ok.room {T : List Int} {most : Int} (h : Ok T most) {k : Nat} (hk : k < T.length) : 0 ≤ most - (T[k] - leastC T T[k]) ∧ most - (T[k] - leastC T T[k]) ≤ most ∧ 0 ≤ leastC T T[k] ∧ 0 ≤ T[k] ∧ T[k] ≤ 1125899906842624 ∧ leastC T T[k] ≤ T[k] := by
  obtain ⟨h1, h2, h3⟩ := least_le T T[k]
  have hm := List.getElem_mem hk
  have hl : leastC T T[k] ∈ T := by
    rcases h3 with e | e
    · rw [e]; exact hm
    · exact e
  have := h.near _ hm _ hl
  have := h.lo _ hl
  have := h.lo _ hm
  have := h.hi _ hm
  omega
theorem Ok.step {T : List Int} {most : Int} (h : Ok T most) (i d : Int) : 0 ≤ stepC T most i d ∧ stepC T most i d ≤ max 0 d ∧ stepC T most i d ≤ most := by
  have hm := h.m1
  rcases hasC_split T i with ⟨k, rfl, hk⟩ | hi
  · by_cases hd : 1 ≤ d
    · rw [stepC_nat hk most hd]
      have := h.room hk
      split <;> omega
    · rw [stepC_small T most _ (by omega)]
      omega
  · rw [stepC_not hi]
    omega
theorem Ok.put {T : List Int} {most : Int} (h : Ok T most) (i d : Int) : Ok (putC T i (stepC T most i d)) most := by
  rcases hasC_split T i with ⟨k, rfl, hk⟩ | hi
  · by_cases hd : 1 ≤ d
    · rw [stepC_nat hk most hd]
      obtain ⟨r1, r2, r3, r4, r5, r6⟩ := h.room hk
      obtain ⟨l1, l2, l3⟩ := least_le T T[k]
      split
      · rw [putC_zero]; exact h
      · rename_i hle
        rw [putC_nat hk]
        obtain ⟨g, hg⟩ : ∃ g, g = min d (most - (T[k] - leastC T T[k])) := ⟨_, rfl⟩
        rw [← hg] at hle ⊢
        have hg0 : 0 ≤ g := by omega
        have hg1 : T[k] + g ≤ leastC T T[k] + most := by omega
        have hmem : ∀ t ∈ T.set k (T[k] + g), t = T[k] + g ∨ t ∈ T := fun t ht => (List.mem_or_eq_of_mem_set ht).symm
        have hT := List.getElem_mem hk
        refine ⟨by simpa using h.len1, by simpa using h.len5, h.m1, h.m2, fun t ht => ?_, fun t ht => ?_, fun s hs t ht => ?_⟩
        · rcases hmem t ht with rfl | ht
          · omega
          · exact h.lo t ht
        · rcases hmem t ht with rfl | ht
          · omega
          · exact h.hi t ht
        · have hm1 := h.m1
          rcases hmem s hs with rfl | hs <;> rcases hmem t ht with rfl | ht
          · omega
          · have := l2 t ht; omega
          · have := h.near s hs _ hT; omega
          · exact h.near s hs t ht
    · rw [stepC_small T most _ (by omega), putC_zero]
      exact h
  · rw [stepC_not hi, putC_zero]
    exact h
theorem Ok.now {T : List Int} {most : Int} (h : Ok T most) (i : Int) : 0 ≤ nowC T i ∧ nowC T i ≤ 1125899906842624 := by
  rcases hasC_split T i with ⟨k, rfl, hk⟩ | hi
  · rw [nowC_nat hk]
    exact ⟨h.lo _ (List.getElem_mem hk), h.hi _ (List.getElem_mem hk)⟩
  · rw [nowC_not hi]
    omega
theorem nowC_put {T : List Int} (i d : Int) (hd : hasC T i = false → d = 0) : nowC (putC T i d) i = nowC T i + d := by
  rcases hasC_split T i with ⟨k, rfl, hk⟩ | hi
  · rw [putC_nat hk, nowC_nat (by simpa using hk), nowC_nat hk]
    simp
  · rw [putC_not hi, nowC_not hi, hd (hasC_not hi)]
    rfl
theorem Ok.zero {n : Nat} {most : Int} (h1 : 1 ≤ n) (h5 : n ≤ 5) (m1 : 1 ≤ most) (m2 : most ≤ 1073741824) : Ok (List.replicate n 0) most := by
  have e : ∀ t ∈ List.replicate n (0 : Int), t = 0 := fun t ht => List.eq_of_mem_replicate ht
  refine ⟨by simpa using h1, by simpa using h5, m1, m2, fun t ht => ?_, fun t ht => ?_, fun s hs t ht => ?_⟩
  · rw [e t ht]; omega
  · rw [e t ht]; omega
  · rw [e t ht, e s hs]; omega
end Go.Proofs.Ytjnkfnohnibgiaa
