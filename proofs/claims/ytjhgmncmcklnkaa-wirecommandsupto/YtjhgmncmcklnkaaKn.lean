/- How structs are walked; entry. -/
import Derived.Test.YtjhgmncmcklnkaaKm
namespace Go.Proofs.Ytjhgmncmcklnkaa
open Go.RowKit

section
variable {w w' w1 w2 : World} {A : Nat} {S S1 : Nat → Prop} {s s1 : TS} {B o : Nat} {t u : List Ty} {x y : List At} {rv : Value}
/-- The next part, at its place. -/
theorem Pre.part {o' : Nat} (hu : u ≠ []) (ho : o + t.length = o') (h : Pre w A S s B o (t ++ u) x) : ∃ y z, x = y ++ z ∧ Pre w A S s B o t y ∧ ∀ w1, Post w w1 A S s B o t y → ∃ S1 s1, Pre w1 A S1 s1 B o' u z ∧ ∀ w2, Post w1 w2 A S1 s1 B o' u z → Post w w2 A S s B o (t ++ u) x := by
  obtain ⟨y, z, e, P, N⟩ := h.cons hu
  subst ho
  refine ⟨y, z, e, P, fun w1 Q => ?_⟩
  obtain ⟨S1, s1, _, P1, C1⟩ := N w1 Q
  exact ⟨S1, s1, P1, C1⟩
/-- Two worlds that differ by draws alone. -/
structure Lk (W w : World) : Prop where
  os : W.os = w.os
  tape : W.tape = w.tape
  output : W.output = w.output
  heap : W.heap = w.heap
theorem Lk.below {W : World} {c : Obj} (h : Lk W (w.alloc c)) : Below w.heap.size w W := by
  have hb : Below w.heap.size w (w.alloc c) := Below.alloc (Below.refl _ _) (Nat.le_refl _) _
  exact ⟨h.os.trans hb.os, h.tape.trans hb.tape, h.output.trans hb.output, by rw [h.heap]; exact hb.size, fun k hk => by rw [h.heap]; exact hb.block k hk⟩
theorem Lk.same {W : World} (h : Lk W w) : Below w.heap.size w W := ⟨h.os, h.tape, h.output, by rw [h.heap]; exact Nat.le_refl _, fun k _ => by rw [h.heap]⟩
/-- Some numbers, wherever the pointers are laid. -/
theorem nums_at {m : Nat} (ps : Array Value) (h : Pre w A S s B o (List.replicate m .num) x) (hm : 0 < m) (hm2 : m ≤ 100) (hp : ∀ i, i < m → ps[i]? = some (.pointer (some ⟨B, o + i, none⟩))) :
    ∀ W, Lk W (w.alloc (.cells ps 135)) → Calls Try.prog 52 #[.pointer (some ⟨A, 0, none⟩), .slice (some ⟨w.heap.size, 0, none⟩) m m] W fun e w' => e = .returned (.tuple #[]) ∧ Post w w' A S s B o (List.replicate m .num) x := by
  intro W hW
  have hb := hW.below
  have hB := h.lt
  have hF : W.heap[w.heap.size]? = some (.cells ps 135 (0, 0)) := by rw [hW.heap]; exact heap_alloc_new w _
  refine (numbers_any (F := w.heap.size) hm hm2 (h.on hb) ⟨ps, 135, hF, hp⟩ (fun q => ?_) (by omega)).mono ?_
  · have := h.tp.lt _ q
    omega
  · rintro e w' ⟨rfl, q⟩
    exact ⟨rfl, Post.from hb hB q⟩
/-- A call at a world that differs by draws alone. -/
theorem Post.lk {W : World} (h : Pre w A S s B o t x) (hW : Lk W w) (k : Post W w' A S s B o t x) : Post w w' A S s B o t x := Post.from hW.same h.lt k
end
abbrev entryT : List Ty := [.num, .num, .num, .text]
section
variable {w w' w1 w2 : World} {A : Nat} {S S1 : Nat → Prop} {s s1 : TS} {B o : Nat} {t u : List Ty} {x y : List At} {rv : Value}
set_option maxHeartbeats 4000000 in
set_option maxRecDepth 100000 in
theorem entry_any (h : Pre w A S s B o entryT x) : Calls Try.prog 55 #[.pointer (some ⟨A, 0, none⟩), .pointer (some ⟨B, o, none⟩)] w fun e w' => e = .returned (.tuple #[]) ∧ Post w w' A S s B o entryT x := by
  obtain ⟨y1, x2, rfl, P1, N1⟩ := Pre.part (t := [.num, .num, .num]) (u := [.text]) (o' := o + 3) (by simp) rfl h
  have h1 := nums_at (m := 3) #[.pointer (some ⟨B, o, none⟩), .pointer (some ⟨B, o + 1, none⟩), .pointer (some ⟨B, o + 2, none⟩)] P1 (by omega) (by omega) (fun i hi => by
    have : i = 0 ∨ i = 1 ∨ i = 2 := by omega
    rcases this with rfl | rfl | rfl <;> rfl)
  have H1 := Lib.hid N1
  clear N1 P1 h
  go_enter Try.func55, Try.ntmps55
  go_wp2
  go_cut [] (fun wx => Post w wx A S s B o [.num, .num, .num] y1)
  case first =>
    go_region_with (go_at_call 52; refine (h1 _ (by exact ⟨rfl, rfl, rfl, rfl⟩)).mono ?_; rintro e w1 ⟨rfl, q⟩)
    all_goals
      go_wp2_with fail
      go_meet
      exact q
  case rest =>
    obtain ⟨S1, s1, P2, C1⟩ := H1.out _ hcut
    have h2 := text_any P2
    have H2 := Lib.hid C1
    clear C1 P2 hcut h1
    go_wp2_with (go_at_call 56; refine h2.mono ?_; rintro e w2 ⟨rfl, q⟩; refine Hid.out ?_)
    refine Lib.hid ?_
    go_wp2
    go_end0
    exact ⟨rfl, H2.out _ q⟩
end
end Go.Proofs.Ytjhgmncmcklnkaa
