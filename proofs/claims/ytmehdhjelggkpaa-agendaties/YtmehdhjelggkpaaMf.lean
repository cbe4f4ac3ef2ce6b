/- The walk of the agenda's Set, both ways. -/
import Derived.Test.YtmehdhjelggkpaaMe
namespace Go.Proofs.Ytmehdhjelggkpaa
open Go.RowKit Go.Maps

section
variable {w : World} {A c n : Nat} {S : Nat → Prop} {R : List Ti} {v mv : Value} {f : Nat → Th}
theorem Ags.mapNe (h : Ags w A S c R v mv f n) {b : Nat} (hb : mv = .map (some b)) : A ≠ b := by
  obtain ⟨es, clock, hbb⟩ := h.mp.block hb
  exact map_ne h.q.ag hbb
theorem Ags.covN (h : Ags w A S c R v mv f n) : Cov (fun k => S k ∧ mv ≠ .map (some k)) v f n := by
  refine ⟨fun k hk => ⟨h.cov.row k hk, fun e => ?_⟩, fun i hi => ⟨h.cov.th i hi, fun e => ?_⟩⟩
  · obtain ⟨es, clock, hbb⟩ := h.mp.block e
    obtain ⟨cur, hg⟩ := h.q.rowTag k hk
    exact map_ne hg hbb rfl
  · obtain ⟨es, clock, hbb⟩ := h.mp.block e
    exact map_ne (h.q.th i hi) hbb rfl
theorem Ags.mp1 (h : Ags w A S c R v mv f n) (u : Value) : Mp (w.setCell ⟨A, 2, none⟩ u) mv c (row f n) := h.mp.stays (fun _ hb => set_other _ (Ne.symm (h.mapNe hb)))
end

set_option maxHeartbeats 2000000 in
set_option maxRecDepth 100000 in
theorem set_again {w : World} {A c n i : Nat} {S : Nat → Prop} {R : List Ti} {v mv : Value} {f : Nat → Th} {d : Int} (hS : ∀ k, S k → k < w.heap.size) (h : Ags w A S c R v mv f n) (hc9 : c < 900000) (hi : i < n) :
    Calls Try.prog 16 #[.pointer (some ⟨A, 0, none⟩), .int .i64 (f i).what, .int .i64 d] w fun e w' => e = .returned (.tuple #[]) ∧ Agd w' A (Gro S w w') (c + 1) (setL R (f i).what d) ∧ Fr w w' S := by
  obtain ⟨g, cap, rfl⟩ := h.q.form (by omega)
  obtain ⟨o, rfl⟩ := h.mp.form
  have hcA1 : w.cell? ⟨A, 1, none⟩ = some (.map o) := by rw [cell_blk h.q.ag]; rfl
  have hcA2 : w.cell? ⟨A, 2, none⟩ = some (.int .i64 c) := by rw [cell_blk h.q.ag]; rfl
  have hfA2 : w.frozen? ⟨A, 2, none⟩ = false := frozen_blk h.q.ag 2
  have hb1 : w.cell? ⟨(f i).blk, 1, none⟩ = some (.int .i64 (f i).due) := by rw [cell_blk (h.q.th i hi)]; rfl
  have hb2 : w.cell? ⟨(f i).blk, 2, none⟩ = some (.int .i64 (f i).seq) := by rw [cell_blk (h.q.th i hi)]; rfl
  have hb3 : w.cell? ⟨(f i).blk, 3, none⟩ = some (.int .i64 i) := by rw [cell_blk (h.q.th i hi)]; rfl
  have hf1 : w.frozen? ⟨(f i).blk, 1, none⟩ = false := frozen_blk (h.q.th i hi) 1
  have hf2 : w.frozen? ⟨(f i).blk, 2, none⟩ = false := frozen_blk (h.q.th i hi) 2
  have hAb : A ≠ (f i).blk := h.q.agNe hi
  have hbA : (f i).blk ≠ A := Ne.symm hAb
  have c0 : (0 : Int) ≤ c := by omega
  have c1 : (c : Int) ≤ 900000 := by omega
  have hlk := (h.mp1 (.int .i64 ((c : Int) + 1))).yes (mem_row.2 ⟨i, hi, rfl⟩) (fun y hy e => by
    obtain ⟨j, hj, rfl⟩ := mem_row.1 hy
    rw [h.uniq hj hi e]) (h.inI hi)
  have hq2 := ((h.q.count (D := (c : Int) + 1)).turn (d := d) (s := (c : Int) + 1) hi).drewN 1
  have hcv := h.covN
  have hcv2 : Cov (fun k => S k ∧ Value.map o ≠ .map (some k)) (.slice (some ⟨g, 0, none⟩) n cap) (put f i ⟨(f i).what, d, (c : Int) + 1, (f i).blk⟩) n := ⟨hcv.row, fun k hk => by rw [(put_blk f i d ((c : Int) + 1) k).1]; exact hcv.th k hk⟩
  go_enter Try.func16, Try.ntmps16
  go_wp2
  go_region_with (go_at_call 23; refine (fix_any hq2 hcv2 hi (down_put h.heap i _)).mono ?_; rintro e w2 ⟨rfl, f', hq3, hh3, hs3, hf3⟩)
  all_goals
    go_wp2
    refine bodyPost_ret (results_none rfl _ _ _) rfl ?_
    have hfr1 : Fr w (((w.setCell ⟨A, 2, none⟩ (.int .i64 ((c : Int) + 1))).setCell ⟨(f i).blk, 1, none⟩ (.int .i64 d)).setCell ⟨(f i).blk, 2, none⟩ (.int .i64 ((c : Int) + 1))) (fun k => S k ∧ Value.map o ≠ .map (some k)) :=
      (((Fr.refl w _).set (.inl ⟨h.covA, fun e => h.mapNe e rfl⟩) _).set (.inl (hcv.th i hi)) _).set (.inl (hcv.th i hi)) _
    exact ⟨rfl, h.again hS hc9 hi hfr1 hq3 hh3 hs3 ⟨hf3.os, hf3.tape, hf3.output, hf3.size, hf3.block⟩⟩

set_option maxHeartbeats 2000000 in
set_option maxRecDepth 100000 in
theorem set_anew {w : World} {A c n : Nat} {S : Nat → Prop} {R : List Ti} {v mv : Value} {f : Nat → Th} {what d : Int} (hS : ∀ k, S k → k < w.heap.size) (h : Ags w A S c R v mv f n) (hc9 : c < 900000) (hw : what ∉ whats R) (hiw : inI what) :
    Calls Try.prog 16 #[.pointer (some ⟨A, 0, none⟩), .int .i64 what, .int .i64 d] w fun e w' => e = .returned (.tuple #[]) ∧ Agd w' A (Gro S w w') (c + 1) (setL R what d) ∧ Fr w w' S := by
  obtain ⟨o, rfl⟩ := h.mp.form
  have hcA1 : w.cell? ⟨A, 1, none⟩ = some (.map o) := by rw [cell_blk h.q.ag]; rfl
  have hcA2 : w.cell? ⟨A, 2, none⟩ = some (.int .i64 c) := by rw [cell_blk h.q.ag]; rfl
  have hfA2 : w.frozen? ⟨A, 2, none⟩ = false := frozen_blk h.q.ag 2
  have c0 : (0 : Int) ≤ c := by omega
  have c1 : (c : Int) ≤ 900000 := by omega
  have hno : ∀ y ∈ row f n, y.what ≠ what := fun y hy e => by
    obtain ⟨j, hj, rfl⟩ := mem_row.1 hy
    exact hw ((h.rep.mem what).2 ⟨j, hj, e⟩)
  have hlk := (h.mp1 (.int .i64 ((c : Int) + 1))).no hno hiw
  have hAlt := blk_lt h.q.ag
  obtain ⟨x, hx⟩ : ∃ x : Th, x = ⟨what, d, (c : Int) + 1, w.heap.size⟩ := ⟨_, rfl⟩
  have hfr1 : Fr w (w.setCell ⟨A, 2, none⟩ (.int .i64 ((c : Int) + 1))) S := (Fr.refl w S).set (.inl h.covA) _
  have hfr2 := hfr1.alloc (thO x 0)
  have hfrx : Fr (w.setCell ⟨A, 2, none⟩ (.int .i64 ((c : Int) + 1))) ((w.setCell ⟨A, 2, none⟩ (.int .i64 ((c : Int) + 1))).alloc (thO x 0)) (fun k => w.heap.size ≤ k) := (Fr.refl _ _).alloc _
  have hq1 := h.q.count (D := (c : Int) + 1)
  have hq2 : Qs ((w.setCell ⟨A, 2, none⟩ (.int .i64 ((c : Int) + 1))).alloc (thO x 0)) A v (.map o) ((c : Int) + 1) f n := hq1.stays hfrx (by omega) (fun b hb => by have := (h.q.own.lt b hb).2; omega) (fun i hi => by have := blk_lt (h.q.th i hi); omega)
  have hmp2 : Mp ((w.setCell ⟨A, 2, none⟩ (.int .i64 ((c : Int) + 1))).alloc (thO x 0)) (.map o) c (row f n) := (h.mp1 (.int .i64 ((c : Int) + 1))).stays (fun b hb => Below.heap_alloc _ _ b (by have := h.mp.lt hb; simpa using this))
  have hxb : x.blk = w.heap.size := by rw [hx]
  have hxx : ((w.setCell ⟨A, 2, none⟩ (.int .i64 ((c : Int) + 1))).alloc (thO x 0)).heap[x.blk]? = some (thO x 0) := by
    have := heap_alloc_new (w.setCell ⟨A, 2, none⟩ (.int .i64 ((c : Int) + 1))) (thO x 0)
    rw [show (w.setCell ⟨A, 2, none⟩ (.int .i64 ((c : Int) + 1))).heap.size = x.blk by rw [hxb]; simp] at this
    exact this
  have hsz2 : w.heap.size < ((w.setCell ⟨A, 2, none⟩ (.int .i64 ((c : Int) + 1))).alloc (thO x 0)).heap.size := by simp
  have hcall := add_any (S := fun k => S k ∨ k = w.heap.size) (x := x) hq2 h.heap hmp2 ⟨fun k hk => .inl (h.cov.row k hk), fun i hi => .inl (h.cov.th i hi)⟩ (.inl h.covA) (fun b hb => .inl (h.covM b hb)) hxx (.inr hxb) (by have := h.few; omega) (by omega)
    (fun i hi => by have := blk_lt (h.q.th i hi); omega) (by rw [hx]; exact hiw) (by rw [hx]; exact hno)
  have hend : ∀ w3, Added ((w.setCell ⟨A, 2, none⟩ (.int .i64 ((c : Int) + 1))).alloc (thO x 0)) A c n (fun k => S k ∨ k = w.heap.size) ((c : Int) + 1) f x w3 → Agd w3 A (Gro S w w3) (c + 1) (setL R what d) ∧ Fr w w3 S := fun w3 ha => by
    have := h.anew (x := x) hS hc9 (by rw [hx]; exact hw) (by rw [hx]; exact hiw) (by rw [hx]) hxb hfr2 hsz2 ha
    rw [hx] at this
    exact this
  subst hx
  have HC := Lib.hid hcall
  have HE := Lib.hid hend
  clear hcall hend hxx hmp2 hq2 hfrx hfr2 hsz2 hq1 hxb
  go_enter Try.func16, Try.ntmps16
  go_wp2_with fail
  refine HC.out.mono ?_
  rintro e w3 ⟨rfl, ha⟩
  go_wp2
  go_end0
  exact ⟨rfl, HE.out _ ha⟩

theorem set_any {w : World} {A c : Nat} {S : Nat → Prop} {R : List Ti} {what d : Int} (h : Agd w A S c R) (hc9 : c < 900000) (hiw : inI what) :
    Calls Try.prog 16 #[.pointer (some ⟨A, 0, none⟩), .int .i64 what, .int .i64 d] w fun e w' => e = .returned (.tuple #[]) ∧ Agd w' A (Gro S w w') (c + 1) (setL R what d) ∧ Fr w w' S := by
  obtain ⟨hS, v, mv, f, n, h⟩ := h
  by_cases hw : what ∈ whats R
  · obtain ⟨i, hi, rfl⟩ := (h.rep.mem what).1 hw
    exact set_again hS h hc9 hi
  · exact set_anew hS h hc9 hw hiw
end Go.Proofs.Ytmehdhjelggkpaa
