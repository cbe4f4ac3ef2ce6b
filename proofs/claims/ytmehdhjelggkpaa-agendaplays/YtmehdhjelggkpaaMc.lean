/- The walks of the agenda's Pop, Drop and add. -/
import Derived.Test.YtmehdhjelggkpaaMb
namespace Go.Proofs.Ytmehdhjelggkpaa
open Go.RowKit Go.Maps

set_option maxHeartbeats 1000000 in
theorem pop_none {w : World} {A c : Nat} {S : Nat → Prop} {now : Int} (h : Agd w A S c []) : Calls Try.prog 14 #[.pointer (some ⟨A, 0, none⟩), .int .i64 now] w fun e w' => e = .returned (.tuple #[.int .i64 0, .bool false]) ∧ w' = w := by
  go_enter Try.func14, Try.ntmps14
  go_wp2_with fail
  refine (alen_any h).mono ?_
  rintro e w' ⟨rfl, rfl⟩
  go_wp2
  go_ret2
  exact ⟨rfl, rfl⟩

set_option maxHeartbeats 1000000 in
set_option maxRecDepth 100000 in
theorem pop_late {w : World} {A c : Nat} {S : Nat → Prop} {R : List Ti} {t : Ti} {now : Int} (h : Agd w A S c R) (ht : nextL R = some t) (hd : now < t.due) : Calls Try.prog 14 #[.pointer (some ⟨A, 0, none⟩), .int .i64 now] w fun e w' => e = .returned (.tuple #[.int .i64 0, .bool false]) ∧ w' = w := by
  have h' := h
  obtain ⟨hS, v, mv, f, n, h⟩ := h
  have hn : 0 < n := by
    rw [← h.len]
    cases R with
    | nil => cases ht
    | cons a b => simp
  obtain ⟨g, cap, rfl⟩ := h.q.form hn
  have hcl := h.q.slot
  have hr := h.q.rowAt hn
  have h1 : w.cell? ⟨(f 0).blk, 1, none⟩ = some (.int .i64 (f 0).due) := by rw [cell_blk (h.q.th 0 hn)]; rfl
  have hx := h.rep.next h.heap hn
  rw [ht] at hx
  have e1 : t.due = (f 0).due := by cases hx; rfl
  rw [e1] at hd
  have hl := h.len
  have hlen : ¬ R = [] := by intro e; rw [e] at hl; simp at hl; omega
  have n0 : (0 : Int) < n := by omega
  clear e1 hx hl
  go_enter Try.func14, Try.ntmps14
  go_wp2_with fail
  refine (alen_any h').mono ?_
  rintro e w' ⟨rfl, rfl⟩
  go_wp2
  go_ret2
  exact ⟨rfl, rfl⟩

set_option maxHeartbeats 1000000 in
set_option maxRecDepth 100000 in
theorem pop_due {w : World} {A c : Nat} {S : Nat → Prop} {R : List Ti} {t : Ti} {now : Int} (h : Agd w A S c R) (ht : nextL R = some t) (hd : t.due ≤ now) : Calls Try.prog 14 #[.pointer (some ⟨A, 0, none⟩), .int .i64 now] w fun e w' => e = .returned (.tuple #[.int .i64 t.what, .bool true]) ∧ Agd w' A S c (dropL R t.what) ∧ Fr w w' S := by
  have h' := h
  obtain ⟨hS, v, mv, f, n, h⟩ := h
  have hn : 0 < n := by
    rw [← h.len]
    cases R with
    | nil => cases ht
    | cons a b => simp
  obtain ⟨g, cap, rfl⟩ := h.q.form hn
  have hcl := h.q.slot
  have hr := h.q.rowAt hn
  have h1 : w.cell? ⟨(f 0).blk, 1, none⟩ = some (.int .i64 (f 0).due) := by rw [cell_blk (h.q.th 0 hn)]; rfl
  have hx := h.rep.next h.heap hn
  rw [ht] at hx
  have e0 : t.what = (f 0).what := by cases hx; rfl
  have e1 : t.due = (f 0).due := by cases hx; rfl
  rw [e1] at hd
  rw [e0]
  have hl := h.len
  have hlen : ¬ R = [] := by intro e; rw [e] at hl; simp at hl; omega
  have n0 : (0 : Int) < n := by omega
  have hd' : ¬ now < (f 0).due := by omega
  have hd2 : decide (now < (f 0).due) = false := by simpa using hd'
  have hd3 : ((R.length : Int) == 0) = false := by simp; exact hlen
  clear e1 e0 hx hl
  go_enter Try.func14, Try.ntmps14
  go_wp2_with fail
  refine (alen_any h').mono ?_
  rintro e w' ⟨rfl, rfl⟩
  go_wp2_with fail
  refine (rem_any hS h hn).mono ?_
  rintro e w1 ⟨rfl, ha, hf, pl, hb⟩
  have hb0 : w1.cell? ⟨(f 0).blk, 0, none⟩ = some (.int .i64 (f 0).what) := by rw [cell_blk hb]; rfl
  go_wp2
  go_ret2
  exact ⟨rfl, ha, hf⟩

set_option maxHeartbeats 1000000 in
set_option maxRecDepth 100000 in
theorem drop_any {w : World} {A c : Nat} {S : Nat → Prop} {R : List Ti} {what : Int} (h : Agd w A S c R) (hw : inI what) : Calls Try.prog 17 #[.pointer (some ⟨A, 0, none⟩), .int .i64 what] w fun e w' => e = .returned (.tuple #[]) ∧ Agd w' A S c (dropL R what) ∧ Fr w w' S := by
  have h' := h
  obtain ⟨hS, v, mv, f, n, h⟩ := h
  obtain ⟨o, rfl⟩ := h.mp.form
  have hcA : w.cell? ⟨A, 1, none⟩ = some (.map o) := by rw [cell_blk h.q.ag]; rfl
  by_cases hm : what ∈ whats R
  · obtain ⟨i, hi, rfl⟩ := (h.rep.mem what).1 hm
    have hlk := h.found hi
    go_enter Try.func17, Try.ntmps17
    go_wp2_with fail
    refine (rem_any hS h hi).mono ?_
    rintro e w1 ⟨rfl, ha, hf, pl, hb⟩
    go_wp2
    go_end0
    exact ⟨rfl, ha, hf⟩
  · have hlk := h.lost hm hw
    have e0 := dropL_none hm
    rw [e0]
    clear e0
    go_enter Try.func17, Try.ntmps17
    go_wp2
    go_end0
    exact ⟨rfl, h', Fr.refl _ _⟩

theorem map_some (b : Nat) (w : World) : (binOp .eql 51 (.map (some b)) (.map none)).run Try.prog w = .ok (.bool false) w := by kernel_rfl
theorem map_none (w : World) : (binOp .eql 51 (.map none) (.map none)).run Try.prog w = .ok (.bool true) w := by kernel_rfl
/-- What add leaves. -/
def Added (w : World) (A c n : Nat) (S : Nat → Prop) (C : Int) (f : Nat → Th) (x : Th) (w' : World) : Prop :=
  ∃ v' mv' f', Qs w' A v' mv' C f' (n + 1) ∧ Heap f' (n + 1) ∧ (row f' (n + 1)).Perm (x :: row f n) ∧ Mp w' mv' (c + 1) (row f' (n + 1)) ∧ Fr w w' S ∧ (∀ k, v'.ownBlock = some k → S k ∨ w.heap.size ≤ k) ∧ (∀ b, mv' = .map (some b) → S b ∨ w.heap.size ≤ b)

set_option maxHeartbeats 2000000 in
set_option maxRecDepth 100000 in
theorem add_some {w : World} {A c n b : Nat} {S : Nat → Prop} {C : Int} {v : Value} {f : Nat → Th} {x : Th} (hq : Qs w A v (.map (some b)) C f n) (hh : Heap f n) (hmp : Mp w (.map (some b)) c (row f n)) (hc : Cov S v f n) (hA : S A) (hb : S b) (hx : w.heap[x.blk]? = some (thO x 0)) (hxS : S x.blk) (hn : n < 1000000) (hc9 : c ≤ 900000)
    (hne : ∀ i, i < n → (f i).blk ≠ x.blk) (hi : inI x.what) (hw : ∀ y ∈ row f n, y.what ≠ x.what) :
    Calls Try.prog 24 #[.pointer (some ⟨A, 0, none⟩), .pointer (some ⟨x.blk, 0, none⟩)] w fun e w' => e = .returned (.tuple #[]) ∧ Added w A c n S C f x w' := by
  obtain ⟨w1, hrun, hmp1, ht⟩ := (hmp.stays (w' := w.drew) (fun _ _ => rfl)).put (by unfold maxLen; omega) hi hw
  obtain ⟨es, clock, hbb⟩ := hmp.block rfl
  have hg : w.grownBy w1 (some b) := undrew ht.grown
  have hcA : w.cell? ⟨A, 1, none⟩ = some (.map (some b)) := by rw [cell_blk hq.ag]; rfl
  have hc0 : w.cell? ⟨x.blk, 0, none⟩ = some (.int .i64 x.what) := by rw [cell_blk hx]; rfl
  have hfr1 : Fr w w1 (fun k => k = b) := (Fr.refl w _).grown hg (fun k hk => .inl (by cases hk; rfl))
  have hq1 : Qs w1 A v (.map (some b)) C f n := hq.stays hfr1 (map_ne hq.ag hbb) (fun k hk => by
    obtain ⟨cur, hgk⟩ := hq.rowTag k hk
    exact map_ne hgk hbb) (fun i hi => map_ne (hq.th i hi) hbb)
  have hx1 : w1.heap[x.blk]? = some (thO x 0) := (hfr1.block _ (blk_lt hx) (map_ne hx hbb)).trans hx
  have hc1 : Cov (fun k => S k ∧ k ≠ b) v f n := ⟨fun k hk => ⟨hc.row k hk, by
    obtain ⟨cur, hgk⟩ := hq.rowTag k hk
    exact map_ne hgk hbb⟩, fun i hi => ⟨hc.th i hi, map_ne (hq.th i hi) hbb⟩⟩
  have hm0 := map_some b w
  go_enter Try.func24, Try.ntmps24
  go_wp2
  go_region
  clear hrun
  go_wp2_with fail
  refine (push_any hq1 hx1 hc1 ⟨hA, map_ne hq.ag hbb⟩ ⟨hxS, map_ne hx hbb⟩ hn hne hh).mono ?_
  rintro e w2 ⟨rfl, v', f', hq2, hh2, hp2, hf2, hl2⟩
  go_wp2
  go_end0
  refine ⟨rfl, v', _, f', hq2, hh2, hp2, (hmp1.perm hp2).stays (fun b' e => by cases e; exact hf2.block b (hmp1.lt rfl) (fun q => q.2 rfl)), ?_, ?_, fun b' e => by cases e; exact .inl hb⟩
  · exact (hfr1.mono (fun k hk => by rw [hk]; exact hb)).trans (hf2.mono (fun _ q => q.1))
  · intro k hk
    rcases hl2 k hk with q | q
    · exact .inl q.1
    · exact .inr (Nat.le_trans hg.size q)
end Go.Proofs.Ytmehdhjelggkpaa
