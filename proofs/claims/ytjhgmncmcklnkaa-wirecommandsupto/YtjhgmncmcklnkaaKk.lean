/- The library's contract on internal/stringslite.Clone, laid at this program; strings.Clone; a text's bytes put on a tape. -/
import Derived.Test.YtjhgmncmcklnkaaKj
import Derived.Shelf.Pu.Clone
import Derived.Lib.AppendStr
namespace Go.Proofs.Ytjhgmncmcklnkaa
open Go.RowKit Go.Shelf Go.Lib

def ren : Ren := ⟨fun | 25 => 97 | n => n, fun | 37 => 130 | 47 => 257 | n => n, fun n => n⟩
theorem lays25 : LaysPu.n25 Try.prog ren := {
  mixed := by kernel_rfl
  f25 := Try.func97.trans (congrArg some (by kernel_rfl))
  t0 := Try.underlying0
  a0 := Try.isAgg0
  z0 := Try.sizeOf0
  v0 := Try.zeroValue0
  i0 := by kernel_rfl
  t3 := Try.underlying3
  a3 := Try.isAgg3
  z3 := Try.sizeOf3
  v3 := Try.zeroValue3
  i3 := by kernel_rfl
  t4 := Try.underlying4
  a4 := Try.isAgg4
  z4 := Try.sizeOf4
  v4 := Try.zeroValue4
  i4 := by kernel_rfl
  t5 := Try.underlying5
  a5 := Try.isAgg5
  z5 := Try.sizeOf5
  v5 := Try.zeroValue5
  i5 := by kernel_rfl
  t9 := Try.underlying9
  a9 := Try.isAgg9
  z9 := Try.sizeOf9
  v9 := Try.zeroValue9
  i9 := by kernel_rfl
  t37 := Try.underlying130
  a37 := Try.isAgg130
  z37 := Try.sizeOf130
  v37 := Try.zeroValue130
  i37 := by kernel_rfl
  t47 := Try.underlying257
  a47 := Try.isAgg257
  z47 := Try.sizeOf257
  v47 := Try.zeroValue257
  i47 := by kernel_rfl }

theorem lite_any (s : ByteArray) (w : World) (h : s.size ≤ 281474976710656) :
    Calls Try.prog 97 #[.string s] w fun e w' => e = .returned (.string s) ∧ Below w.heap.size w w' := AnyPu.stringslite_Clone lays25 s w h
theorem clone_any (s : ByteArray) (w : World) (h : s.size ≤ 281474976710656) :
    Calls Try.prog 81 #[.string s] w fun e w' => e = .returned (.string s) ∧ Below w.heap.size w w' := by
  go_enter Try.func81, Try.ntmps81
  go_wp2_with (go_at_call 97; refine (lite_any s _ h).mono ?_; rintro e w1 ⟨rfl, hb1⟩)
  go_ret
  exact ⟨rfl, hb1⟩
theorem strCells_eq (s : ByteArray) : strCells s = Lib.byteCells s.data.toList := rfl
section
variable {w w' w1 w2 : World} {A : Nat} {S S1 : Nat → Prop} {s s1 : TS} {B o : Nat} {t u : List Ty} {x y : List At} {rv : Value}
theorem str_run {l : List UInt8} (hown : w.ownsRow 0 5 1 rv l.length (Lib.byteCells l)) (str : ByteArray) (hz : l.length + str.size ≤ 2000000000) : ∃ v' w', (Builtin.append_ #[130, 9] 130 #[rv, .string str]).run Try.prog w = .ok v' w' ∧ w'.ownsRow 0 5 1 v' (l ++ str.data.toList).length (Lib.byteCells (l ++ str.data.toList)) ∧ w.grownBy w' rv.ownBlock ∧ (v'.ownBlock = rv.ownBlock ∨ v'.ownBlock = some w.heap.size) := by
  obtain ⟨i0, hi, hz0, hz1, hz2⟩ := info_parts infoByte
  obtain ⟨v', w', hr, ho, hg, _⟩ := run_append_own_string (P := Try.prog) (w := w) 0 130 9 130 5 i0 Try.underlying130 Try.underlying9 hi hz0 hz1 hz2 rv _ _ hown str (by unfold maxLen; omega) (by omega) (Nat.zero_le _)
  refine ⟨v', w', hr, ?_, hg, ?_⟩
  · rw [byteCells_append, List.length_append]
    simpa [strCells_eq] using ho
  · have hxl : (Lib.byteCells l).length = l.length := by simpa using hown.1
    rcases hown.2 with ⟨rfl, hl0⟩ | ⟨g, cap, cur, rfl, hbg, hgg, hnc, hcm, hcs, htake⟩
    · by_cases hm : str.size = 0
      · have hf := run_firstCells_string (P := Try.prog) w 1 str
        rw [hm] at hf
        have hr2 : (Builtin.append_ #[130, 9] 130 #[.slice none 0 0, .string str]).run Try.prog w = .ok (.slice none 0 0) w := by
          simp [Builtin.append_, run_underlying Try.underlying130, run_underlying Try.underlying9, sizeOf, typeInfo, hi, hz1, Builtin.lenOf, hm, hf]
        rw [hr] at hr2
        simp only [Result.ok.injEq] at hr2
        rw [hr2.1]
        exact .inl rfl
      · have hr2 := run_append_nil_string (P := Try.prog) w 130 9 130 5 i0 (.int .u8 0) Try.underlying130 Try.underlying9 hi hz0 str (by omega) (by omega) (by rw [hz2]; omega)
        rw [hr] at hr2
        simp only [Result.ok.injEq] at hr2
        rw [hr2.1]
        exact .inr rfl
    · by_cases hroom : l.length + str.size ≤ cap
      · have hr2 := run_append_room_string (P := Try.prog) w 130 9 130 5 i0 Try.underlying130 Try.underlying9 hi hz1 g l.length cap cur hgg str hroom (by simp at hcs; omega)
        rw [hr] at hr2
        simp only [Result.ok.injEq] at hr2
        rw [hr2.1]
        exact .inl rfl
      · have holds : ∀ j u, (Lib.byteCells l)[j]? = some u → w.cell? ((⟨g, 0, none⟩ : Addr).add j) = some u := hown.cells (g := g) rfl
        have hr2 := run_append_grow_string (P := Try.prog) w 130 9 130 5 i0 (.int .u8 0) Try.underlying130 Try.underlying9 hi hz0 ⟨g, 0, none⟩ l.length cap (Lib.byteCells l) (by rw [hz1]; simpa using hxl) holds str (by omega) (by omega) (by rw [hz2]; exact growslice_fits (by omega) (by omega))
        rw [hr] at hr2
        simp only [Result.ok.injEq] at hr2
        rw [hr2.1]
        exact .inr rfl
/-- A text's bytes more. -/
theorem Tv.pushS (h : Tv w A S s rv) (str : ByteArray) (hz : s.wr.length + str.size ≤ 2000000000) : ∃ v2 w2, (Builtin.append_ #[130, 9] 130 #[rv, .string str]).run Try.prog w = .ok v2 w2 ∧ w2.ownsRow 0 5 1 v2 (s.wr ++ str.data.toList).length (Lib.byteCells (s.wr ++ str.data.toList)) ∧ Fr w w2 S ∧ (∀ k, v2.ownBlock = some k → S k ∨ w.heap.size ≤ k) ∧ w2.heap[A]? = some (.cells (tpC s rv) 132 (0, 0)) := by
  obtain ⟨v', w', hr, ho', hg, hat⟩ := str_run h.row str hz
  refine ⟨v', w', hr, ho', (Fr.refl w S).grown hg (fun k hk => .inl (h.cov k hk)), fun k hk => ?_, ?_⟩
  · rcases hat with q | q
    · rw [q] at hk
      exact .inl (h.cov k hk)
    · rw [q] at hk
      simp only [Option.some.injEq] at hk
      exact .inr (by omega)
  · rw [hg.block A (h.lt A h.covA) (fun q => h.neA A q.symm rfl)]
    exact h.ob
/-- One field is put. -/
theorem Post.put {t : Ty} {v : Value} (h : Pre w A S s B o [t] x) (hT : Tp w1 A S1 s1) (hG : ∀ k, S1 k → Gro S w w1 k) (hF : Fr w w1 S) (hv : t.kind v)
    (hout : (s.reads = false ∧ w.cell? ⟨B, o, none⟩ = some v ∧ s1 = { s with wr := s.wr ++ encS x }) ∨ (s.reads = true ∧ ((∃ y r, t.has y ∧ s.rest = y.enc ++ r ∧ s1 = { s with rest := r } ∧ y.lies (w1.setCell ⟨B, o, none⟩ v) (fun k => k < w.heap.size ∨ S1 k) v) ∨ (¬ Rd [t] s.rest ∧ s1 = { s with rest := [], bad := true })))) :
    w1.frozen? ⟨B, o, none⟩ = false ∧ (∃ u, w1.cell? ⟨B, o, none⟩ = some u) ∧ Post w (w1.setCell ⟨B, o, none⟩ v) A S s B o [t] x := by
  obtain ⟨cs, ty, h1, h2⟩ := h.blk
  simp only [List.length_cons, List.length_nil] at h2
  have hB : B < w.heap.size := blk_lt h1
  have hb1 : w1.heap[B]? = some (.cells cs ty (0, 0)) := (hF.block B hB h.nB).trans h1
  have hb2 := set_blk (i := o) hb1 v
  have hne : ∀ k, k ≠ B → (w1.setCell ⟨B, o, none⟩ v).heap[k]? = w1.heap[k]? := fun k hk => set_other (a := ⟨B, o, none⟩) _ hk
  have hz : (w1.setCell ⟨B, o, none⟩ v).heap.size = w1.heap.size := by simp [World.setCell]
  have hcell : (w1.setCell ⟨B, o, none⟩ v).cell? ⟨B, o, none⟩ = some v := by
    rw [cell_blk hb2]
    simp [Array.getElem?_setIfInBounds]
    omega
  have nB1 : ¬ S1 B := fun q => by
    rcases hG B q with q | q
    · exact h.nB q
    · omega
  refine ⟨frozen_blk hb1 o, ⟨_, by rw [cell_blk hb1]; exact Array.getElem?_eq_getElem (by omega)⟩, S1, s1, hT.like (fun k hk => hne k (fun e => nB1 (e ▸ hk))) (by rw [hz]; exact Nat.le_refl _), fun k hk => ?_, (hF.mono (fun _ q => .inl q)).set (a := ⟨B, o, none⟩) (.inl (.inr rfl)) v, ⟨cs, _, ty, h1, hb2, by simp, by simpa using h2, fun i hi => ?_, fun q => ?_, fun i hi => ?_⟩, ?_⟩
  · rcases hG k hk with q | q
    · exact .inl q
    · exact .inr ⟨q.1, by rw [hz]; exact q.2⟩
  · simp only [List.length_cons, List.length_nil] at hi
    rw [Array.getElem?_setIfInBounds_ne (by omega)]
  · rcases hout with ⟨_, q2, _⟩ | ⟨q1, _⟩
    · rw [cell_blk h1] at q2
      exact set_same q2
    · rw [q] at q1; cases q1
  · have : i = 0 := by simpa using hi
    subst this
    refine ⟨v, ?_, hv⟩
    rw [cell_blk hb2] at hcell
    simpa using hcell
  · rcases hout with ⟨q1, _, q2⟩ | ⟨hr, ⟨y, r, q1, q2, q3, q4⟩ | q⟩
    · exact .inl ⟨q1, q2⟩
    · refine .inr (.inl ⟨hr, [y], r, by unfold hasS; exact ⟨q1, by simp [hasS]⟩, by simpa [encS] using q2, q3, ?_⟩)
      simp only [liesS, and_true]
      exact ⟨v, hcell, q4⟩
    · exact .inr (.inr ⟨hr, q⟩)
/-- A number of one's own beside it. -/
theorem Pre.num {n : Int} (h : Pre w A S s B o t x) (hn : I64 n) (h0 : s.reads = true → n = 0) (hl : s.reads = false → s.wr.length + (Ytjhgmncmcklnkaa.num n).length ≤ 1000000000) {ty : TypeId} : Pre (w.alloc (.cells #[.int .i64 n] ty)) A S s w.heap.size 0 [.num] [.num n] := by
  have hb : Below w.heap.size w (w.alloc (.cells #[.int .i64 n] ty)) := Below.alloc (Below.refl _ _) (Nat.le_refl _) _
  have hN : (w.alloc (.cells #[.int .i64 n] ty)).heap[w.heap.size]? = some (.cells #[.int .i64 n] ty (0, 0)) := heap_alloc_new w _
  refine ⟨h.tp.on hb, fun q => ?_, ⟨_, _, hN, by simp⟩, by unfold hasS; exact ⟨by simpa only [Ty.has] using hn, by simp [hasS]⟩, ?_, fun q => ⟨?_, fun i hi => ?_⟩, h.rb, h.wb, fun q => (by simpa [encS, At.enc] using hl q), h.lenR⟩
  · have := h.tp.lt _ q
    omega
  · simp only [liesS, At.lies, and_true]
    exact ⟨_, cell_blk hN 0, rfl⟩
  · rw [h0 q]
    rfl
  · have : i = 0 := by simpa using hi
    subst this
    rw [cell_blk hN]
    simp [Ty.zv, h0 q]
/-- What was new and one's own is no part of the frame. -/
theorem Fr.fresh1 {c : Obj} (h : Fr (w.alloc c) w1 (fun k => S k ∨ k = w.heap.size)) : Fr w w1 S := by
  have hz := h.size
  have hsz : (w.alloc c).heap.size = w.heap.size + 1 := by simp
  exact ⟨h.os, h.tape, h.output, by omega, fun k hk hs => (h.block k (by omega) (fun q => by rcases q with q | q; exact hs q; omega)).trans (Below.heap_alloc w c k hk)⟩
theorem Gro.fresh1 {c : Obj} {S' : Nat → Prop} (h : ∀ k, S' k → Gro S (w.alloc c) w1 k) : ∀ k, S' k → Gro S w w1 k := by
  intro k hk
  have hsz : (w.alloc c).heap.size = w.heap.size + 1 := by simp
  rcases h k hk with q | q
  · exact .inl q
  · exact .inr ⟨by omega, q.2⟩
end
end Go.Proofs.Ytjhgmncmcklnkaa
