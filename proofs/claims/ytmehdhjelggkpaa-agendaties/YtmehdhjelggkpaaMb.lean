/- The walks of the agenda's New, Len, Next and remove. -/
import Derived.Test.YtmehdhjelggkpaaMa
import Derived.Deep.RegionWith
namespace Go.Proofs.Ytmehdhjelggkpaa
open Go.RowKit Go.Maps

set_option maxHeartbeats 1000000 in
theorem new_any (w : World) : Calls Try.prog 10 #[] w fun e w' => e = .returned (.pointer (some ⟨w.heap.size, 0, none⟩)) ∧ Agd w' w.heap.size (fun k => k = w.heap.size) 0 [] ∧ Below w.heap.size w w' ∧ w'.heap.size = w.heap.size + 1 := by
  go_enter Try.func10, Try.ntmps10
  go_wp2
  go_ret
  refine ⟨rfl, ⟨fun k hk => by simp at hk; subst hk; simp, .slice none 0 0, .map none, fun _ => ⟨0, 0, 0, 0⟩, 0, ?_⟩, (Below.refl _ _).alloc (Nat.le_refl _) _, by simp⟩
  refine ⟨⟨heap_alloc_new w _, World.ownsRow_nil _ _ _ _, fun i hi => by omega, by omega⟩, fun k _ hk => by omega, Rep.nil _ _, .inl ⟨rfl, rfl⟩, ⟨fun k hk => (by cases hk), fun i hi => (by omega)⟩, rfl, fun b hb => (by cases hb), by omega, by omega, fun t ht => by cases ht⟩

theorem Qs.shape {w : World} {A n : Nat} {v mv : Value} {c : Int} {f : Nat → Th} (h : Qs w A v mv c f n) : ∃ ad cap, v = .slice ad n cap := by
  rcases h.own.2 with ⟨rfl, rfl⟩ | ⟨g', cap', cur, rfl, _⟩
  · exact ⟨none, 0, rfl⟩
  · exact ⟨_, _, rfl⟩

theorem ptr_no (a : Addr) (w : World) : (binOp .eql 24 (.pointer (some a)) (.pointer none)).run Try.prog w = .ok (.bool false) w := by
  kernel_rfl

set_option maxHeartbeats 1000000 in
theorem alen_any {w : World} {A c : Nat} {S : Nat → Prop} {R : List Ti} (h : Agd w A S c R) : Calls Try.prog 15 #[.pointer (some ⟨A, 0, none⟩)] w fun e w' => e = .returned (.int .i64 R.length) ∧ w' = w := by
  obtain ⟨hS, v, mv, f, n, h⟩ := h
  obtain ⟨ad, cap, rfl⟩ := h.q.shape
  have hcl := h.q.slot
  have hl := h.len
  rw [hl]
  clear hl
  go_enter Try.func15, Try.ntmps15
  go_wp2
  go_ret
  exact ⟨rfl, rfl⟩

set_option maxHeartbeats 1000000 in
theorem next_no {w : World} {A c : Nat} {S : Nat → Prop} (h : Agd w A S c []) : Calls Try.prog 13 #[.pointer (some ⟨A, 0, none⟩)] w fun e w' => e = .returned (.tuple #[.int .i64 0, .int .i64 0, .bool false]) ∧ w' = w := by
  go_enter Try.func13, Try.ntmps13
  go_wp2_with fail
  refine (alen_any h).mono ?_
  rintro e w' ⟨rfl, rfl⟩
  go_wp2
  go_ret3
  exact ⟨rfl, rfl⟩

set_option maxHeartbeats 1000000 in
set_option maxRecDepth 100000 in
theorem next_yes {w : World} {A c : Nat} {S : Nat → Prop} {R : List Ti} {t : Ti} (h : Agd w A S c R) (ht : nextL R = some t) : Calls Try.prog 13 #[.pointer (some ⟨A, 0, none⟩)] w fun e w' => e = .returned (.tuple #[.int .i64 t.what, .int .i64 t.due, .bool true]) ∧ ∃ k, w' = w.drewN k := by
  have h' := h
  obtain ⟨hS, v, mv, f, n, h⟩ := h
  have hn : 0 < n := by
    rw [← h.len]
    cases R with
    | nil => cases ht
    | cons a b => simp
  obtain ⟨g, cap, rfl⟩ := h.q.form hn
  have hcl := h.q.slot
  have hr := h.q.rowAt hn
  have h0 : w.cell? ⟨(f 0).blk, 0, none⟩ = some (.int .i64 (f 0).what) := by rw [cell_blk (h.q.th 0 hn)]; rfl
  have h1 : w.cell? ⟨(f 0).blk, 1, none⟩ = some (.int .i64 (f 0).due) := by rw [cell_blk (h.q.th 0 hn)]; rfl
  have hx := h.rep.next h.heap hn
  rw [ht] at hx
  have e0 : t.what = (f 0).what := by cases hx; rfl
  have e1 : t.due = (f 0).due := by cases hx; rfl
  rw [e0, e1]
  have hl := h.len
  have hlen : ¬ (R.length : Int) = 0 := by omega
  have n0 : (0 : Int) < n := by omega
  clear e0 e1 hx hl
  go_enter Try.func13, Try.ntmps13
  go_wp2_with fail
  refine (alen_any h').mono ?_
  rintro e w' ⟨rfl, rfl⟩
  go_wp2
  go_quiet (fail)
  go_wp2
  go_ret3
  exact ⟨rfl, _, rfl⟩

theorem undrew {w w' : World} {r : Option Nat} (h : w.drew.grownBy w' r) : w.grownBy w' r := ⟨h.os, h.tape, h.output, h.size, h.block⟩
theorem Fr.turned {w w' : World} {S : Nat → Prop} {b : Nat} (h : w.grownBy w' (some b)) (hb : S b) : Fr w w' S := (Fr.refl w S).grown h (fun k hk => .inl (by cases hk; exact hb))
section
variable {w w1 : World} {A c n b : Nat} {S : Nat → Prop} {R : List Ti} {v : Value} {f : Nat → Th}
/-- The queue stays when the map turns. -/
theorem Ags.turned (h : Ags w A S c R v (.map (some b)) f n) (ht : w.grownBy w1 (some b)) : Qs w1 A v (.map (some b)) (c : Int) f n := by
  obtain ⟨es, clock, hb⟩ := h.mp.block rfl
  refine h.q.stays (S := fun k => k = b) ((Fr.refl w _).grown ht (fun k hk => .inl (by cases hk; rfl))) (map_ne h.q.ag hb) ?_ (fun i hi => map_ne (h.q.th i hi) hb)
  intro k hk
  obtain ⟨cur, hg⟩ := h.q.rowTag k hk
  exact map_ne hg hb
end

/-- The queue's blocks, without the map's. -/
theorem Ags.cov0 {w : World} {A c n b : Nat} {S : Nat → Prop} {R : List Ti} {v : Value} {f : Nat → Th} (h : Ags w A S c R v (.map (some b)) f n) : Cov (fun k => S k ∧ k ≠ b) v f n ∧ A ≠ b := by
  obtain ⟨es, clock, hb⟩ := h.mp.block rfl
  refine ⟨⟨fun k hk => ⟨h.cov.row k hk, ?_⟩, fun i hi => ⟨h.cov.th i hi, map_ne (h.q.th i hi) hb⟩⟩, map_ne h.q.ag hb⟩
  obtain ⟨cur, hg⟩ := h.q.rowTag k hk
  exact map_ne hg hb
theorem Ags.dropped {w w1 w2 : World} {A c m i b : Nat} {S : Nat → Prop} {R : List Ti} {v v2 : Value} {f f' : Nat → Th} (h : Ags w A S c R v (.map (some b)) f (m + 1)) (hS : ∀ k, S k → k < w.heap.size) (hi : i < m + 1)
    (hmp : Mp w1 (.map (some b)) c (row (swp f i m) m)) (ht : w.grownBy w1 (some b)) (hq : Qs w2 A v2 (.map (some b)) (c : Int) f' m) (hh : Heap f' m) (hp : (f i :: row f' m).Perm (row f (m + 1))) (hf : Fr w1 w2 (fun k => S k ∧ k ≠ b)) (hv : ∀ k, v2.ownBlock = some k → S k) : Agd w2 A S c (dropL R (f i).what) := by
  have hp1 := row_swap_last f m i hi
  have hp2 : (row f' m).Perm (row (swp f i m) m) := List.Perm.cons_inv (hp.trans hp1.symm)
  refine ⟨fun k hk => Nat.lt_of_lt_of_le (hS k hk) (Nat.le_trans ht.size hf.size), v2, _, f', m, hq, hh, h.rep.drop hp, (hmp.perm hp2).stays (fun b' e => by cases e; exact hf.block b (hmp.lt rfl) (fun q => q.2 rfl)), ⟨hv, ?_⟩, h.covA, h.covM, h.small, by have := h.few; omega, fun t ht => h.ints t (dropL_mem.1 ht).1⟩
  intro k hk
  obtain ⟨j, hj, e⟩ := mem_row.1 (hp.mem_iff.1 (List.mem_cons_of_mem _ (mem_row.2 ⟨k, hk, rfl⟩)))
  rw [← e]
  exact h.cov.th j hj

set_option maxHeartbeats 2000000 in
set_option maxRecDepth 100000 in
theorem rem_any {w : World} {A c n i : Nat} {S : Nat → Prop} {R : List Ti} {v mv : Value} {f : Nat → Th} (hS : ∀ k, S k → k < w.heap.size) (h : Ags w A S c R v mv f n) (hi : i < n) :
    Calls Try.prog 22 #[.pointer (some ⟨A, 0, none⟩), .pointer (some ⟨(f i).blk, 0, none⟩)] w fun e w' => e = .returned (.tuple #[]) ∧ Agd w' A S c (dropL R (f i).what) ∧ Fr w w' S ∧ ∃ pl, w'.heap[(f i).blk]? = some (thO (f i) pl) := by
  obtain ⟨m, rfl⟩ : ∃ m, n = m + 1 := ⟨n - 1, by omega⟩
  obtain ⟨g, cap, rfl⟩ := h.q.form (by omega)
  obtain ⟨b, rfl⟩ : ∃ b, mv = .map (some b) := by
    rcases h.mp with ⟨_, e⟩ | ⟨b, D, e, _⟩
    · have := congrArg List.length e
      simp [row] at this
    · exact ⟨b, e⟩
  have hin := h.inI hi
  have hp := row_swap_last f m i hi
  have hot : ∀ y ∈ row (swp f i m) m, y.what ≠ (f i).what := by
    intro y hy e
    obtain ⟨k, hk, rfl⟩ := mem_row.1 hy
    unfold swp at e
    by_cases q : k = i
    · rw [if_pos q] at e
      have := h.uniq (by omega : m < m + 1) hi e
      omega
    · rw [if_neg q, if_neg (by omega)] at e
      exact q (h.uniq (by omega : k < m + 1) hi e)
  obtain ⟨w1, hrun, hmp, ht⟩ := (h.mp.stays (w' := w.drew) (fun _ _ => rfl)).del hin hp.symm hot 0
  have ht' : w.grownBy w1 (some b) := undrew ht.grown
  have hq1 := h.turned ht'
  have hcA : w.cell? ⟨A, 1, none⟩ = some (.map (some b)) := by rw [cell_blk h.q.ag]; rfl
  have hc0 : w.cell? ⟨(f i).blk, 0, none⟩ = some (.int .i64 (f i).what) := by rw [cell_blk (h.q.th i hi)]; rfl
  have hc3 : w1.cell? ⟨(f i).blk, 3, none⟩ = some (.int .i64 i) := by rw [cell_blk (hq1.th i hi)]; rfl
  go_enter Try.func22, Try.ntmps22
  go_wp2
  go_region
  clear hrun
  go_wp2
  go_region_with (go_at_call 25; refine (remove_any (hq1.drewN 1) h.cov0.1 ⟨h.covA, h.cov0.2⟩ hi h.heap).mono ?_; rintro e w2 ⟨r, rfl, f', hq2, hh2, hp2, hf2, hl2⟩)
  all_goals
    go_wp2
    go_end0
    exact ⟨rfl, h.dropped hS hi hmp ht' hq2 hh2 hp2 ⟨hf2.os, hf2.tape, hf2.output, hf2.size, hf2.block⟩ (fun k hk => h.cov.row k hk), (Fr.turned ht' (h.covM b rfl)).trans (Fr.mono (S := fun k => S k ∧ k ≠ b) ⟨hf2.os, hf2.tape, hf2.output, hf2.size, hf2.block⟩ (fun _ q => q.1)), _, hl2⟩
end Go.Proofs.Ytmehdhjelggkpaa
