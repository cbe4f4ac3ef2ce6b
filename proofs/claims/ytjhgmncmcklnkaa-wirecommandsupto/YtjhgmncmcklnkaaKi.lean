/- The walk of numbers. -/
import Derived.Test.YtjhgmncmcklnkaaKh
namespace Go.Proofs.Ytjhgmncmcklnkaa
open Go.RowKit

theorem set_same {cs : Array Value} {o : Nat} {v : Value} (h : cs[o]? = some v) : cs.setIfInBounds o v = cs := by
  apply Array.ext_getElem?
  intro i
  rw [Array.getElem?_setIfInBounds]
  split
  · rename_i e
    subst e
    obtain ⟨h1, h2⟩ := Array.getElem?_eq_some_iff.1 h
    rw [if_pos h1, h]
  · rfl
section
variable {w w' w1 w2 : World} {A : Nat} {S S1 : Nat → Prop} {s s1 : TS} {B o : Nat} {t u : List Ty} {x y : List At}
/-- A number is copied, gone through, and put back. -/
theorem Pre.via {n : Int} (h : Pre w A S s B o [.num] [.num n]) {ty : TypeId} : Pre (w.alloc (.cells #[.int .i64 n] ty)) A S s w.heap.size 0 [.num] [.num n] := by
  have hb : Below w.heap.size w (w.alloc (.cells #[.int .i64 n] ty)) := Below.alloc (Below.refl _ _) (Nat.le_refl _) _
  have hN : (w.alloc (.cells #[.int .i64 n] ty)).heap[w.heap.size]? = some (.cells #[.int .i64 n] ty (0, 0)) := heap_alloc_new w _
  refine ⟨h.tp.on hb, fun q => ?_, ⟨_, _, hN, by simp⟩, h.has, ?_, fun q => ⟨(h.zero q).1, fun i hi => ?_⟩, h.rb, h.wb, h.lenW, h.lenR⟩
  · have := h.tp.lt _ q
    omega
  · simp only [liesS, At.lies, and_true]
    exact ⟨_, cell_blk hN 0, rfl⟩
  · have : i = 0 := by simpa using hi
    subst this
    have e := (h.zero q).1
    simp only [zeroS, List.map_cons, List.map_nil, Ty.zero, List.cons.injEq, At.num.injEq, and_true] at e
    rw [cell_blk hN]
    simp [Ty.zv, e]
theorem Post.via {n : Int} (h : Pre w A S s B o [.num] [.num n]) {ty : TypeId} (k : Post (w.alloc (.cells #[.int .i64 n] ty)) w1 A S s w.heap.size 0 [.num] [.num n]) : ∃ m, w1.cell? ⟨w.heap.size, 0, none⟩ = some (.int .i64 m) ∧ w1.frozen? ⟨B, o, none⟩ = false ∧ (∃ u, w1.cell? ⟨B, o, none⟩ = some u) ∧ Post w (w1.setCell ⟨B, o, none⟩ (.int .i64 m)) A S s B o [.num] [.num n] := by
  obtain ⟨S', s', p1, p2, p3, ⟨c0, c1, ty', b1, b2, b3, b4, b5, b6, b7⟩, p5⟩ := k
  have hN : (w.alloc (.cells #[.int .i64 n] ty)).heap[w.heap.size]? = some (.cells #[.int .i64 n] ty (0, 0)) := heap_alloc_new w _
  have hsz : (w.alloc (.cells #[.int .i64 n] ty)).heap.size = w.heap.size + 1 := by simp
  rw [hN] at b1
  simp only [Option.some.injEq, Obj.cells.injEq] at b1
  obtain ⟨rfl, rfl, _⟩ := b1
  obtain ⟨v, hv, m, rfl⟩ := b7 0 (by simp)
  obtain ⟨cs, tb, h1, h2⟩ := h.blk
  simp only [List.length_cons, List.length_nil] at h2
  have hB : B < w.heap.size := blk_lt h1
  have hold : ∀ k, k < w.heap.size → (w.alloc (.cells #[.int .i64 n] ty)).heap[k]? = w.heap[k]? := fun k hk => Below.heap_alloc w _ k hk
  have hb1 : w1.heap[B]? = some (.cells cs tb (0, 0)) := by
    rw [p3.block B (by omega) (fun q => by rcases q with q | q; exact h.nB q; omega), hold B hB]
    exact h1
  have hb2 := set_blk (i := o) hb1 (.int .i64 m)
  have hne : ∀ k, k ≠ B → (w1.setCell ⟨B, o, none⟩ (.int .i64 m)).heap[k]? = w1.heap[k]? := fun k hk => set_other (a := ⟨B, o, none⟩) _ hk
  have hz : (w1.setCell ⟨B, o, none⟩ (.int .i64 m)).heap.size = w1.heap.size := by simp [World.setCell]
  have hp3 := p3.size
  have hcell : (w1.setCell ⟨B, o, none⟩ (.int .i64 m)).cell? ⟨B, o, none⟩ = some (.int .i64 m) := by
    rw [cell_blk hb2]
    simp [Array.getElem?_setIfInBounds]
    omega
  have nB' : ¬ S' B := fun q => by
    rcases p2 B q with q | q
    · exact h.nB q
    · omega
  have hcm : w1.cell? ⟨w.heap.size, 0, none⟩ = some (.int .i64 m) := by rw [cell_blk b2]; exact hv
  refine ⟨m, hcm, frozen_blk hb1 o, ⟨_, by rw [cell_blk hb1]; exact Array.getElem?_eq_getElem (by omega)⟩, S', s', p1.like (fun k hk => hne k (fun e => nB' (e ▸ hk))) (by rw [hz]; exact Nat.le_refl _), fun k hk => ?_, ⟨p3.os, p3.tape, p3.output, by rw [hz]; omega, fun k hk hs => ?_⟩, ⟨cs, _, tb, h1, hb2, by simp, by simpa using h2, fun i hi => ?_, fun q => ?_, fun i hi => ?_⟩, ?_⟩
  · rcases p2 k hk with q | q
    · exact .inl q
    · exact .inr ⟨by omega, by rw [hz]; exact q.2⟩
  · rw [hne k (fun e => hs (.inr e)), p3.block k (by omega) (fun q => by rcases q with q | q; exact hs (.inl q); omega), hold k hk]
  · simp only [List.length_cons, List.length_nil] at hi
    rw [Array.getElem?_setIfInBounds_ne (by omega)]
  · have e := b6 q
    subst e
    simp at hv
    subst hv
    have hl := h.lies
    simp only [liesS, At.lies, and_true] at hl
    obtain ⟨v, hc, rfl⟩ := hl
    rw [cell_blk h1] at hc
    exact set_same hc
  · have : i = 0 := by simpa using hi
    subst this
    refine ⟨.int .i64 m, ?_, ⟨m, rfl⟩⟩
    rw [cell_blk hb2] at hcell
    simpa using hcell
  · rcases p5 with q | ⟨q0, y, r, q1, q2, q3, q4⟩ | q
    · exact .inl q
    · refine .inr (.inl ⟨q0, y, r, q1, q2, q3, ?_⟩)
      obtain ⟨a, rfl, ha⟩ := hasS_one q1
      obtain ⟨m', rfl, hm'⟩ := has_num ha
      simp only [liesS, At.lies, and_true] at q4 ⊢
      obtain ⟨v, g1, rfl⟩ := q4
      rw [hcm] at g1
      simp only [Option.some.injEq] at g1
      exact ⟨_, hcell, g1⟩
    · exact .inr (.inr q)
/-- What is still to do of some numbers. -/
def Todo (w wr : World) (A : Nat) (S : Nat → Prop) (s : TS) (B o m : Nat) (x : List At) (i : Nat) : Prop :=
  (i < m ∧ ∃ S' s' y, (∀ k, S' k → Gro S w wr k) ∧ Pre wr A S' s' B (o + i) (List.replicate (m - i) .num) y ∧ ∀ w2, Post wr w2 A S' s' B (o + i) (List.replicate (m - i) .num) y → Post w w2 A S s B o (List.replicate m .num) x) ∨
  (i = m ∧ Post w wr A S s B o (List.replicate m .num) x)
theorem Todo.start {m : Nat} (hm : 0 < m) (h : Pre w A S s B o (List.replicate m .num) x) : Todo w w A S s B o m x 0 := .inl ⟨hm, S, s, x, fun _ q => .inl q, h, fun _ q => q⟩
theorem Todo.next {m i : Nat} (h : Todo w w1 A S s B o m x i) (hi : i < m) (hz : w.heap.size ≤ w1.heap.size) : ∃ S' s' n, (∀ k, S' k → Gro S w w1 k) ∧ Pre w1 A S' s' B (o + i) [.num] [.num n] ∧ ∀ w2, Post w1 w2 A S' s' B (o + i) [.num] [.num n] → Todo w w2 A S s B o m x (i + 1) := by
  rcases h with ⟨_, S', s', y, g1, g2, g3⟩ | ⟨q, _⟩
  · by_cases he : m - i = 1
    · rw [he] at g2 g3
      obtain ⟨a, rfl, ha⟩ := hasS_one g2.has
      obtain ⟨n, rfl, hn⟩ := has_num ha
      exact ⟨S', s', n, g1, g2, fun w2 q => .inr ⟨by omega, g3 w2 q⟩⟩
    · have e : List.replicate (m - i) Ty.num = [Ty.num] ++ List.replicate (m - (i + 1)) Ty.num := by
        obtain ⟨j, hj⟩ : ∃ j, m - i = j + 1 := ⟨m - i - 1, by omega⟩
        rw [hj, show m - (i + 1) = j by omega]
        rfl
      rw [e] at g2 g3
      obtain ⟨p, q, rfl, P1, N1⟩ := g2.cons (by simp; omega)
      obtain ⟨a, rfl, ha⟩ := hasS_one P1.has
      obtain ⟨n, rfl, hn⟩ := has_num ha
      refine ⟨S', s', n, g1, P1, fun w2 Q => .inl ⟨by omega, ?_⟩⟩
      obtain ⟨S2, s2, ⟨G2, F2⟩, P2, C2⟩ := N1 w2 Q
      have hz2 := F2.size
      refine ⟨S2, s2, q, fun k hk => ?_, ?_, fun w3 Q3 => ?_⟩
      · rcases G2 k hk with q | q
        · rcases g1 k q with q | q
          · exact .inl q
          · exact .inr ⟨q.1, by omega⟩
        · exact .inr ⟨by omega, q.2⟩
      · exact P2
      · exact g3 w3 (C2 w3 Q3)
  · omega
/-- Pointers to numbers, one behind the other. -/
def Ptrs (w : World) (F B o m : Nat) : Prop := ∃ cs ty, w.heap[F]? = some (.cells cs ty (0, 0)) ∧ ∀ i, i < m → cs[i]? = some (.pointer (some ⟨B, o + i, none⟩))
set_option maxHeartbeats 2000000 in
set_option maxRecDepth 100000 in
theorem numbers_any {F m : Nat} (hm : 0 < m) (hm2 : m ≤ 100) (h : Pre w A S s B o (List.replicate m .num) x) (hF : Ptrs w F B o m) (nF : ¬ S F) (hFB : F ≠ B) : Calls Try.prog 52 #[.pointer (some ⟨A, 0, none⟩), .slice (some ⟨F, 0, none⟩) m m] w fun e w' => e = .returned (.tuple #[]) ∧ Post w w' A S s B o (List.replicate m .num) x := by
  obtain ⟨cs, ty, hF1, hF2⟩ := hF
  have HT := Lib.hid (Todo.start hm h)
  have hFl : F < w.heap.size := blk_lt hF1
  clear h
  go_enter Try.func52, Try.ntmps52
  go_wp2
  go_loopw [9] (fun iv wr => ∃ i : Nat, i ≤ m ∧ iv = .int .i64 i ∧ Hid (Todo w wr A S s B o m x i) ∧ wr.heap[F]? = some (.cells cs ty (0, 0)) ∧ w.heap.size ≤ wr.heap.size) (fun iv _ => m - (intOf iv).toNat)
  case atStart => exact ⟨0, by omega, rfl, HT, hF1, Nat.le_refl _⟩
  case round =>
    obtain ⟨i, hi, rfl, HD, hFr, hz⟩ := hrel
    clear HT hF1
    by_cases hlt : i < m
    · obtain ⟨S', s', n, G, P, N⟩ := HD.out.next hlt hz
      have nF' : ¬ S' F := fun q => by
        rcases G F q with q | q
        · exact nF q
        · omega
      have cF : wr.cell? ⟨F, i, none⟩ = some (.pointer (some ⟨B, o + i, none⟩)) := (cell_blk hFr i).trans (hF2 i hlt)
      have hl := P.lies
      simp only [liesS, At.lies, and_true] at hl
      obtain ⟨v, cB, rfl⟩ := hl
      have hnum := number_any (P.via (ty := 2))
      have hFb : (wr.alloc (.cells #[.int .i64 n] 2)).heap[F]? = some (.cells cs ty (0, 0)) := (Below.heap_alloc wr _ F (by omega)).trans hFr
      have HP := Lib.hid P
      have HN := Lib.hid N
      have HNF := Lib.hid nF'
      have HFb := Lib.hid hFb
      clear P N nF' hFb G HD
      go_wp2_with (go_at_call 78; refine hnum.mono ?_; rintro e w1 ⟨rfl, Q⟩; refine Hid.out ?_)
      refine Lib.hid ?_
      obtain ⟨k, d1, d2, ⟨u, d3⟩, d4⟩ := Post.via HP.out Q
      have hF3 : (w1.setCell ⟨B, o + i, none⟩ (.int .i64 k)).heap[F]? = some (.cells cs ty (0, 0)) := by
        obtain ⟨S'', s'', _, _, p3, _⟩ := Q
        rw [set_other (a := ⟨B, o + i, none⟩) _ hFB, p3.block F (blk_lt HFb.out) (fun q => by rcases q with q | q; exact HNF.out q; omega)]
        exact HFb.out
      have hz3 : w.heap.size ≤ (w1.setCell ⟨B, o + i, none⟩ (.int .i64 k)).heap.size := by
        obtain ⟨S'', s'', _, _, p3, _⟩ := d4
        exact Nat.le_trans hz p3.size
      have HT := Lib.hid (HN.out _ d4)
      have HF3 := Lib.hid hF3
      have HZ3 := Lib.hid hz3
      clear d4 hF3 hz3 Q
      go_wp2
      go_roundw
      case rel => exact ⟨i + 1, by omega, by go_num, HT, HF3.out, HZ3.out⟩
      case measure => simp [intOf]; omega
    · have hiF : i = m := by omega
      subst hiF
      go_wp2
      go_end0
      rcases HD.out with ⟨q, _⟩ | ⟨_, q⟩
      · omega
      · exact ⟨rfl, q⟩
end
end Go.Proofs.Ytjhgmncmcklnkaa
