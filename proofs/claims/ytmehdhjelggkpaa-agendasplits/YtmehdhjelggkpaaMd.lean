/- The walk of the agenda's add where there is no map yet; the walk of Set. -/
import Derived.Test.YtmehdhjelggkpaaMc
namespace Go.Proofs.Ytmehdhjelggkpaa
open Go.RowKit Go.Maps

set_option maxHeartbeats 2000000 in
set_option maxRecDepth 100000 in
theorem add_none {w : World} {A c : Nat} {S : Nat → Prop} {C : Int} {v : Value} {f : Nat → Th} {x : Th} (hq0 : Qs w A v (.map none) C f 0) (hh : Heap f 0) (hc0 : Cov S v f 0) (hA : S A) (hx0 : w.heap[x.blk]? = some (thO x 0)) (hxS : S x.blk) (hc9 : c ≤ 900000) (hi : inI x.what) :
    Calls Try.prog 24 #[.pointer (some ⟨A, 0, none⟩), .pointer (some ⟨x.blk, 0, none⟩)] w fun e w' => e = .returned (.tuple #[]) ∧ Added w A c 0 S C f x w' := by
  have hlt := blk_lt hq0.ag
  have hltx := blk_lt hx0
  obtain ⟨W, hW⟩ : ∃ W, W = (w.setCell ⟨A, 1, none⟩ (.map (some w.heap.size))).alloc (.map #[] 0) := ⟨_, rfl⟩
  have hfr0 : Fr w W (fun k => k = A) := by rw [hW]; exact Fr.alloc (Fr.set (S := fun k => k = A) (Fr.refl w _) (.inl rfl) _) _
  have hAx : A ≠ x.blk := tag_ne hq0.ag hx0 (by decide)
  have hq : Qs W A v (.map (some w.heap.size)) C f 0 := by
    refine ⟨?_, own_like hq0.own (fun k hk => hfr0.block k (hq0.own.lt k hk).2 (Ne.symm (hq0.agRow k hk))), fun i hi => by omega, by omega⟩
    rw [hW, Below.heap_alloc _ _ A (by simpa using hlt), set_blk hq0.ag]
    rfl
  have hx : W.heap[x.blk]? = some (thO x 0) := (hfr0.block _ hltx (Ne.symm hAx)).trans hx0
  have hmp : Mp W (.map (some w.heap.size)) c (row f 0) := by
    refine .inr ⟨_, .map [], rfl, ?_, fun k _ => .inr ⟨fun y hy => by simp [row] at hy, rfl⟩⟩
    have a := World.ownsMap_made (w.setCell ⟨A, 1, none⟩ (.map (some w.heap.size))) Try.prog 3 ptrElem
    rw [show (w.setCell ⟨A, 1, none⟩ (.map (some w.heap.size))).heap.size = w.heap.size by simp] at a
    rw [hW]
    exact a.mono (Nat.zero_le c)
  have hc : Cov (fun k => S k ∨ w.heap.size ≤ k) v f 0 := ⟨fun k hk => .inl (hc0.row k hk), fun i hi => by omega⟩
  obtain ⟨w1, hrun, hmp1, ht⟩ := (hmp.stays (w' := W.drew) (fun _ _ => rfl)).put (by unfold maxLen; omega) hi (fun y hy => by simp [row] at hy)
  obtain ⟨es, clock, hbb⟩ := hmp.block rfl
  have hg : W.grownBy w1 (some w.heap.size) := undrew ht.grown
  have hcA0 : w.cell? ⟨A, 1, none⟩ = some (.map none) := by rw [cell_blk hq0.ag]; rfl
  have hfA0 : w.frozen? ⟨A, 1, none⟩ = false := frozen_blk hq0.ag 1
  have hcA : W.cell? ⟨A, 1, none⟩ = some (.map (some w.heap.size)) := by rw [cell_blk hq.ag]; rfl
  have hcx : W.cell? ⟨x.blk, 0, none⟩ = some (.int .i64 x.what) := by rw [cell_blk hx]; rfl
  have hfr1 : Fr W w1 (fun k => k = w.heap.size) := (Fr.refl W _).grown hg (fun k hk => .inl (by cases hk; rfl))
  have hq1 : Qs w1 A v (.map (some w.heap.size)) C f 0 := hq.stays hfr1 (map_ne hq.ag hbb) (fun k hk => by
    obtain ⟨cur, hgk⟩ := hq.rowTag k hk
    exact map_ne hgk hbb) (fun i hi => map_ne (hq.th i hi) hbb)
  have hx1 : w1.heap[x.blk]? = some (thO x 0) := (hfr1.block _ (blk_lt hx) (map_ne hx hbb)).trans hx
  have hc1 : Cov (fun k => (S k ∨ w.heap.size ≤ k) ∧ k ≠ w.heap.size) v f 0 := ⟨fun k hk => ⟨hc.row k hk, by
    obtain ⟨cur, hgk⟩ := hq.rowTag k hk
    exact map_ne hgk hbb⟩, fun i hi => by omega⟩
  have hm0 := map_none w
  have hmm := @run_makeMap Try.prog
  have HW := Lib.hid hW
  clear hW
  go_enter Try.func24, Try.ntmps24
  go_wp2
  rw [← HW.out]
  go_region
  clear hrun
  go_wp2_with fail
  refine (push_any hq1 hx1 hc1 ⟨.inl hA, map_ne hq.ag hbb⟩ ⟨.inl hxS, map_ne hx hbb⟩ (by omega) (fun i hi => by omega) hh).mono ?_
  rintro e w2 ⟨rfl, v', f', hq2, hh2, hp2, hf2, hl2⟩
  go_wp2
  go_end0
  have hsz : w.heap.size ≤ W.heap.size := hfr0.size
  refine ⟨rfl, v', _, f', hq2, hh2, hp2, (hmp1.perm hp2).stays (fun b' e => by cases e; exact hf2.block _ (hmp1.lt rfl) (fun q => q.2 rfl)), ?_, ?_, fun b' e => by cases e; exact .inr (Nat.le_refl _)⟩
  · exact ((hfr0.mono (fun k hk => by rw [hk]; exact hA)).step hfr1 (fun k hk => .inr (by omega))).step hf2 (fun k q => q.1)
  · intro k hk
    rcases hl2 k hk with q | q
    · exact q.1
    · exact .inr (Nat.le_trans (Nat.le_trans hsz hg.size) q)

theorem add_any {w : World} {A c n : Nat} {S : Nat → Prop} {C : Int} {v mv : Value} {f : Nat → Th} {x : Th} (hq : Qs w A v mv C f n) (hh : Heap f n) (hmp : Mp w mv c (row f n)) (hc : Cov S v f n) (hA : S A) (hb : ∀ b, mv = .map (some b) → S b) (hx : w.heap[x.blk]? = some (thO x 0)) (hxS : S x.blk) (hn : n < 1000000) (hc9 : c ≤ 900000)
    (hne : ∀ i, i < n → (f i).blk ≠ x.blk) (hi : inI x.what) (hw : ∀ y ∈ row f n, y.what ≠ x.what) :
    Calls Try.prog 24 #[.pointer (some ⟨A, 0, none⟩), .pointer (some ⟨x.blk, 0, none⟩)] w fun e w' => e = .returned (.tuple #[]) ∧ Added w A c n S C f x w' := by
  obtain ⟨o, rfl⟩ := hmp.form
  cases o with
  | none =>
    have : n = 0 := by
      rcases hmp with ⟨_, e⟩ | ⟨b, D, e, _⟩
      · have := congrArg List.length e
        simpa [row] using this
      · cases e
    subst this
    exact add_none hq hh hc hA hx hxS hc9 hi
  | some b => exact add_some hq hh hmp hc hA (hb b rfl) hx hxS hn hc9 hne hi hw
end Go.Proofs.Ytmehdhjelggkpaa
