/- The walk of the program's Take, a newer term. -/
import Derived.Test.YtmiagjcihmenfaaXi
namespace Go.Proofs.Ytmiagjcihmenfaa
open Go.RowKit

section
variable {w w' : World} {A : Nat} {S T : Nat → Prop} {b : Bs} {lv : Value} {pf : Int}
set_option maxHeartbeats 40000000 in
set_option maxRecDepth 100000 in
theorem take_new (h : Pb w A S b) (ok : Ok b) (m : Ms) {mad : Option Addr} {mcap : Nat} (hE : Es w S m.list (.slice mad m.list.length mcap)) (hz : b.log.length + m.list.length + 1 ≤ 900000) (hs : ¬ b.strange m) (ht : b.term < m.term) : Calls Try.prog 26 #[.pointer (some ⟨A, 0, none⟩), msV m (.slice mad m.list.length mcap)] w fun e w' => ∃ ov, e = .returned ov ∧ Po w w' A S (b.take m).1 (b.take m).2 ov := by
  have HTT := Lib.hid ht
  have HS := Lib.hid hs
  have hlt := h.lt
  obtain ⟨W, hB⟩ := Bx.mk' h m (.slice mad m.list.length mcap)
  have hA := hB.pb
  have HW := Lib.hid hB.eq
  have hfw : Fr w W S := Fr.ofBelow S hB.bel
  have hlb := letsBy_p hA m (.slice mad m.list.length mcap)
  have hmW := hB.blk
  have m0 : W.cell? ⟨w.heap.size, 0, none⟩ = some (.int .i64 m.kind) := cell_blk hB.blk 0
  have m1 : W.cell? ⟨w.heap.size, 1, none⟩ = some (.int .i64 m.fr) := cell_blk hB.blk 1
  have m2 : W.cell? ⟨w.heap.size, 2, none⟩ = some (.int .i64 m.tgt) := cell_blk hB.blk 2
  have m3 : W.cell? ⟨w.heap.size, 3, none⟩ = some (.int .i64 m.term) := cell_blk hB.blk 3
  have m4 : W.cell? ⟨w.heap.size, 4, none⟩ = some (.int .i64 m.index) := cell_blk hB.blk 4
  have m5 : W.cell? ⟨w.heap.size, 5, none⟩ = some (.int .i64 m.prev) := cell_blk hB.blk 5
  have m6 : W.cell? ⟨w.heap.size, 6, none⟩ = some (.int .i64 m.commit) := cell_blk hB.blk 6
  have m7 : W.cell? ⟨w.heap.size, 7, none⟩ = some (.bool m.good) := cell_blk hB.blk 7
  have m8 : W.cell? ⟨w.heap.size, 8, none⟩ = some (.slice mad m.list.length mcap) := cell_blk hB.blk 8
  have m9 : W.cell? ⟨w.heap.size, 9, none⟩ = some (.string m.snap) := cell_blk hB.blk 9
  rw [decide_eq_false hs] at hlb
  have HB := Lib.hid hB
  have okY := newer_ok ok m
  clear hB h hs ht
  go_enter Try.func26, Try.ntmps26
  go_upto_region 1 with fail
  rw [← HW.out]
  go_wp2_with fail
  refine hlb.mono ?_
  rintro e1 w1 ⟨rfl, hb1⟩
  clear hlb
  have hs : ¬ b.strange m := fun q => HS.out q
  have ht : b.term < m.term := by have := HTT.out; omega
  have hm1 := (hb1.block _ (blk_lt hmW)).trans hmW
  have p1 := hA.on hb1
  have f1 : Fr w w1 S := hfw.below hb1
  obtain ⟨lv1, pf1, hv1⟩ := p1
  have p1 : Pb w1 A S b := ⟨lv1, pf1, hv1⟩
  have c0 : w1.cell? ⟨A, 0, none⟩ = some (.int .i64 b.term) := hv1.cell 0
  have k3 : w1.cell? ⟨w.heap.size, 3, none⟩ = some (.int .i64 m.term) := cell_blk hm1 3
  clear m0 m1 m2 m3 m4 m5 m6 m7 m8 m9 hv1 hb1
  have hd : decide (b.term < m.term) = true := decide_eq_true ht
  have eN : b.newer m = { b with term := m.term, vote := -1, role := 0, lead := -1, touched := true } := if_pos ht
  have hen := fun n => enter_any (p1.drewN n) m.term (-1) 0
  go_wp2
  go_quiet (fail)
  go_wp2_with fail
  refine (hen _).mono ?_
  rintro e2 V ⟨rfl, pV, fV'⟩
  clear hen
  rw [← eN] at pV
  have fV : Fr w V S := (f1.drewN nq).trans fV'
  have hmV := (fV'.block _ (blk_lt (show (w1.drewN nq).heap[w.heap.size]? = _ from hm1)) (fun q => by have := hlt _ q; omega)).trans hm1
  clear eN p1 f1 hm1 fV' c0 k3 hA hfw hmW ht hd
  obtain ⟨Y, hY⟩ : ∃ Y, b.newer m = Y := ⟨_, rfl⟩
  rw [hY] at pV okY
  have hYsz : Y.size = b.size ∧ Y.id = b.id ∧ Y.log = b.log := by
    rw [← hY]
    unfold Bs.newer
    split <;> exact ⟨rfl, rfl, rfl⟩
  have hsY : ¬ Y.strange m := by
    unfold Bs.strange at hs ⊢
    rw [hYsz.1, hYsz.2.1]
    exact hs
  obtain ⟨lvV, pfV, hvV⟩ := pV
  have pV : Pb V A S Y := ⟨lvV, pfV, hvV⟩
  have t0 : V.cell? ⟨A, 0, none⟩ = some (.int .i64 Y.term) := hvV.cell 0
  have hEV := hE.stays (S' := S) fV (fun _ q => .inl q)
  have n0 : V.cell? ⟨w.heap.size, 0, none⟩ = some (.int .i64 m.kind) := cell_blk hmV 0
  have n1 : V.cell? ⟨w.heap.size, 1, none⟩ = some (.int .i64 m.fr) := cell_blk hmV 1
  have n2 : V.cell? ⟨w.heap.size, 2, none⟩ = some (.int .i64 m.tgt) := cell_blk hmV 2
  have n3 : V.cell? ⟨w.heap.size, 3, none⟩ = some (.int .i64 m.term) := cell_blk hmV 3
  have n4 : V.cell? ⟨w.heap.size, 4, none⟩ = some (.int .i64 m.index) := cell_blk hmV 4
  have n5 : V.cell? ⟨w.heap.size, 5, none⟩ = some (.int .i64 m.prev) := cell_blk hmV 5
  have n6 : V.cell? ⟨w.heap.size, 6, none⟩ = some (.int .i64 m.commit) := cell_blk hmV 6
  have n7 : V.cell? ⟨w.heap.size, 7, none⟩ = some (.bool m.good) := cell_blk hmV 7
  have n8 : V.cell? ⟨w.heap.size, 8, none⟩ = some (.slice mad m.list.length mcap) := cell_blk hmV 8
  have n9 : V.cell? ⟨w.heap.size, 9, none⟩ = some (.string m.snap) := cell_blk hmV 9
  have etk : b.take m = if m.term < Y.term then (Y.old m).sent else (Y.act m).sent := by
    unfold Bs.take
    rw [if_neg hs, hY]
  have HBX : Hid (∀ k w8, Below (V.drewN k).heap.size (V.drewN k) w8 → Below V.heap.size V w8) := fun k w8 q => ⟨q.os, q.tape, q.output, q.size, q.block⟩
  by_cases hl : m.term < Y.term
  · rw [if_pos hl] at etk
    have hd : decide (m.term < Y.term) = true := decide_eq_true hl
    have HC : Hid (∀ n, Calls Try.prog 48 #[.pointer (some ⟨A, 0, none⟩), msV m (.slice mad m.list.length mcap)] (V.drewN n) fun e w' => ∃ ov, e = .returned ov ∧ Po w w' A S (b.take m).1 (b.take m).2 ov) := by
      intro n
      refine (refuse_p (pV.drewN n) okY.out m _ (by unfold Bs.strange at hs; omega) (by unfold Bs.strange at hs; omega)).mono ?_
      rintro e w' ⟨ov, rfl, q⟩
      rw [etk]
      exact ⟨ov, rfl, Po.step (fV.drewN n) q⟩
    clear etk hvV pV hEV hmV fV hsY hYsz hY okY hs hE ok
    go_wp2
    go_quiet (fail)
    go_wp2_with fail
    refine (HC.out _).mono ?_
    rintro e' w' ⟨ov, rfl, q⟩
    have HQ := Lib.hid q
    clear q HC
    go_wp2
    go_ret
    exact ⟨ov, rfl, HQ.out⟩
  · rw [if_neg hl] at etk
    have hd : decide (m.term < Y.term) = false := decide_eq_false hl
    have HACT : Hid (∀ K, (m.kind = 1 ∧ K = 74) ∨ (m.kind = 2 ∧ K = 75) ∨ (m.kind = 3 ∧ K = 76) ∨ (m.kind = 4 ∧ K = 77) ∨ (m.kind = 5 ∧ K = 78) → ∀ V', Below V.heap.size V V' → Calls Try.prog K #[.pointer (some ⟨A, 0, none⟩), msV m (.slice mad m.list.length mcap)] V' fun e w' => ∃ ov, e = .returned ov ∧ Po w w' A S (b.take m).1 (b.take m).2 ov) := by
      intro K hK V' hV'
      refine (act_p (pV.on hV') okY m (hEV.on hV') (by rw [hYsz.2.2]; exact hz) hsY K hK).mono ?_
      rintro e w' ⟨ov, rfl, q⟩
      rw [etk]
      exact ⟨ov, rfl, Po.step (fV.below hV') q⟩
    have HCE : Hid (∀ V', Below V.heap.size V V' → V'.cell? ⟨w.heap.size, 0, none⟩ = some (.int .i64 m.kind) ∧ V'.cell? ⟨w.heap.size, 1, none⟩ = some (.int .i64 m.fr) ∧ V'.cell? ⟨w.heap.size, 2, none⟩ = some (.int .i64 m.tgt) ∧ V'.cell? ⟨w.heap.size, 3, none⟩ = some (.int .i64 m.term) ∧ V'.cell? ⟨w.heap.size, 4, none⟩ = some (.int .i64 m.index) ∧ V'.cell? ⟨w.heap.size, 5, none⟩ = some (.int .i64 m.prev) ∧ V'.cell? ⟨w.heap.size, 6, none⟩ = some (.int .i64 m.commit) ∧ V'.cell? ⟨w.heap.size, 7, none⟩ = some (.bool m.good) ∧ V'.cell? ⟨w.heap.size, 8, none⟩ = some (.slice mad m.list.length mcap) ∧ V'.cell? ⟨w.heap.size, 9, none⟩ = some (.string m.snap)) := by
      intro V' hV'
      have hb := (hV'.block _ (blk_lt hmV)).trans hmV
      exact ⟨cell_blk hb 0, cell_blk hb 1, cell_blk hb 2, cell_blk hb 3, cell_blk hb 4, cell_blk hb 5, cell_blk hb 6, cell_blk hb 7, cell_blk hb 8, cell_blk hb 9⟩
    have hk : m.kind = 1 ∨ m.kind = 2 ∨ m.kind = 3 ∨ m.kind = 4 ∨ m.kind = 5 := by unfold Bs.strange at hs; omega
    clear etk hvV pV hEV hmV fV hsY hYsz hY okY hs hE ok
    have hbx := HBX.out
    clear HBX
    go_wp2
    go_quiet (fail)
    rcases hk with ek | ek | ek | ek | ek
    · have hix : ∀ w, (Instr.index 97 (.agg #[.nilFunc, .func (.func 74) #[] #[], .func (.func 75) #[] #[], .func (.func 76) #[] #[], .func (.func 77) #[] #[], .func (.func 78) #[] #[]]) (.int .i64 1)).run Try.prog w = .ok (.func (.func 74) #[] #[]) w := fun _ => by kernel_rfl
      have hcell := HCE.out
      rw [ek] at n0 hcell
      have HC : Hid (∀ V', Below V.heap.size V V' → Calls Try.prog 74 #[.pointer (some ⟨A, 0, none⟩), .agg #[.int .i64 1, .int .i64 m.fr, .int .i64 m.tgt, .int .i64 m.term, .int .i64 m.index, .int .i64 m.prev, .int .i64 m.commit, .bool m.good, .slice mad m.list.length mcap, .string m.snap]] V' fun e w' => ∃ ov, e = .returned ov ∧ Po w w' A S (b.take m).1 (b.take m).2 ov) := by
        intro V' hV'
        have := HACT.out 74 (.inl ⟨ek, rfl⟩) V' hV'
        rwa [show msV m (.slice mad m.list.length mcap) = .agg #[.int .i64 1, .int .i64 m.fr, .int .i64 m.tgt, .int .i64 m.term, .int .i64 m.index, .int .i64 m.prev, .int .i64 m.commit, .bool m.good, .slice mad m.list.length mcap, .string m.snap] by unfold msV; rw [ek]] at this
      have HCL := Lib.hid hcell
      clear ek hcell
      go_wp2
      go_cut [4] (fun v wx => Po w wx A S (b.take m).1 (b.take m).2 v)
      case first =>
        go_region_with (first | (go_at_call 49; refine (takers_p _).mono ?_; rintro e8 w8 ⟨rfl, hb8⟩; have hb9 := hbx _ _ hb8; obtain ⟨jz0, jz1, jz2, jz3, jz4, jz5, jz6, jz7, jz8, jz9⟩ := HCL.out _ hb9; clear hb8) | (go_at_call 74; refine (HC.out _ hb9).mono ?_; rintro e' w' ⟨ov, rfl, q⟩))
        all_goals
          go_wp2_with fail
          go_meet
          exact q
      case rest =>
        have HQ := Lib.hid hcut
        clear hcut HC
        go_wp2
        go_ret
        exact ⟨_, rfl, HQ.out⟩
    · have hix : ∀ w, (Instr.index 97 (.agg #[.nilFunc, .func (.func 74) #[] #[], .func (.func 75) #[] #[], .func (.func 76) #[] #[], .func (.func 77) #[] #[], .func (.func 78) #[] #[]]) (.int .i64 2)).run Try.prog w = .ok (.func (.func 75) #[] #[]) w := fun _ => by kernel_rfl
      have hcell := HCE.out
      rw [ek] at n0 hcell
      have HC : Hid (∀ V', Below V.heap.size V V' → Calls Try.prog 75 #[.pointer (some ⟨A, 0, none⟩), .agg #[.int .i64 2, .int .i64 m.fr, .int .i64 m.tgt, .int .i64 m.term, .int .i64 m.index, .int .i64 m.prev, .int .i64 m.commit, .bool m.good, .slice mad m.list.length mcap, .string m.snap]] V' fun e w' => ∃ ov, e = .returned ov ∧ Po w w' A S (b.take m).1 (b.take m).2 ov) := by
        intro V' hV'
        have := HACT.out 75 (.inr (.inl ⟨ek, rfl⟩)) V' hV'
        rwa [show msV m (.slice mad m.list.length mcap) = .agg #[.int .i64 2, .int .i64 m.fr, .int .i64 m.tgt, .int .i64 m.term, .int .i64 m.index, .int .i64 m.prev, .int .i64 m.commit, .bool m.good, .slice mad m.list.length mcap, .string m.snap] by unfold msV; rw [ek]] at this
      have HCL := Lib.hid hcell
      clear ek hcell
      go_wp2
      go_cut [4] (fun v wx => Po w wx A S (b.take m).1 (b.take m).2 v)
      case first =>
        go_region_with (first | (go_at_call 49; refine (takers_p _).mono ?_; rintro e8 w8 ⟨rfl, hb8⟩; have hb9 := hbx _ _ hb8; obtain ⟨jz0, jz1, jz2, jz3, jz4, jz5, jz6, jz7, jz8, jz9⟩ := HCL.out _ hb9; clear hb8) | (go_at_call 75; refine (HC.out _ hb9).mono ?_; rintro e' w' ⟨ov, rfl, q⟩))
        all_goals
          go_wp2_with fail
          go_meet
          exact q
      case rest =>
        have HQ := Lib.hid hcut
        clear hcut HC
        go_wp2
        go_ret
        exact ⟨_, rfl, HQ.out⟩
    · have hix : ∀ w, (Instr.index 97 (.agg #[.nilFunc, .func (.func 74) #[] #[], .func (.func 75) #[] #[], .func (.func 76) #[] #[], .func (.func 77) #[] #[], .func (.func 78) #[] #[]]) (.int .i64 3)).run Try.prog w = .ok (.func (.func 76) #[] #[]) w := fun _ => by kernel_rfl
      have hcell := HCE.out
      rw [ek] at n0 hcell
      have HC : Hid (∀ V', Below V.heap.size V V' → Calls Try.prog 76 #[.pointer (some ⟨A, 0, none⟩), .agg #[.int .i64 3, .int .i64 m.fr, .int .i64 m.tgt, .int .i64 m.term, .int .i64 m.index, .int .i64 m.prev, .int .i64 m.commit, .bool m.good, .slice mad m.list.length mcap, .string m.snap]] V' fun e w' => ∃ ov, e = .returned ov ∧ Po w w' A S (b.take m).1 (b.take m).2 ov) := by
        intro V' hV'
        have := HACT.out 76 (.inr (.inr (.inl ⟨ek, rfl⟩))) V' hV'
        rwa [show msV m (.slice mad m.list.length mcap) = .agg #[.int .i64 3, .int .i64 m.fr, .int .i64 m.tgt, .int .i64 m.term, .int .i64 m.index, .int .i64 m.prev, .int .i64 m.commit, .bool m.good, .slice mad m.list.length mcap, .string m.snap] by unfold msV; rw [ek]] at this
      have HCL := Lib.hid hcell
      clear ek hcell
      go_wp2
      go_cut [4] (fun v wx => Po w wx A S (b.take m).1 (b.take m).2 v)
      case first =>
        go_region_with (first | (go_at_call 49; refine (takers_p _).mono ?_; rintro e8 w8 ⟨rfl, hb8⟩; have hb9 := hbx _ _ hb8; obtain ⟨jz0, jz1, jz2, jz3, jz4, jz5, jz6, jz7, jz8, jz9⟩ := HCL.out _ hb9; clear hb8) | (go_at_call 76; refine (HC.out _ hb9).mono ?_; rintro e' w' ⟨ov, rfl, q⟩))
        all_goals
          go_wp2_with fail
          go_meet
          exact q
      case rest =>
        have HQ := Lib.hid hcut
        clear hcut HC
        go_wp2
        go_ret
        exact ⟨_, rfl, HQ.out⟩
    · have hix : ∀ w, (Instr.index 97 (.agg #[.nilFunc, .func (.func 74) #[] #[], .func (.func 75) #[] #[], .func (.func 76) #[] #[], .func (.func 77) #[] #[], .func (.func 78) #[] #[]]) (.int .i64 4)).run Try.prog w = .ok (.func (.func 77) #[] #[]) w := fun _ => by kernel_rfl
      have hcell := HCE.out
      rw [ek] at n0 hcell
      have HC : Hid (∀ V', Below V.heap.size V V' → Calls Try.prog 77 #[.pointer (some ⟨A, 0, none⟩), .agg #[.int .i64 4, .int .i64 m.fr, .int .i64 m.tgt, .int .i64 m.term, .int .i64 m.index, .int .i64 m.prev, .int .i64 m.commit, .bool m.good, .slice mad m.list.length mcap, .string m.snap]] V' fun e w' => ∃ ov, e = .returned ov ∧ Po w w' A S (b.take m).1 (b.take m).2 ov) := by
        intro V' hV'
        have := HACT.out 77 (.inr (.inr (.inr (.inl ⟨ek, rfl⟩)))) V' hV'
        rwa [show msV m (.slice mad m.list.length mcap) = .agg #[.int .i64 4, .int .i64 m.fr, .int .i64 m.tgt, .int .i64 m.term, .int .i64 m.index, .int .i64 m.prev, .int .i64 m.commit, .bool m.good, .slice mad m.list.length mcap, .string m.snap] by unfold msV; rw [ek]] at this
      have HCL := Lib.hid hcell
      clear ek hcell
      go_wp2
      go_cut [4] (fun v wx => Po w wx A S (b.take m).1 (b.take m).2 v)
      case first =>
        go_region_with (first | (go_at_call 49; refine (takers_p _).mono ?_; rintro e8 w8 ⟨rfl, hb8⟩; have hb9 := hbx _ _ hb8; obtain ⟨jz0, jz1, jz2, jz3, jz4, jz5, jz6, jz7, jz8, jz9⟩ := HCL.out _ hb9; clear hb8) | (go_at_call 77; refine (HC.out _ hb9).mono ?_; rintro e' w' ⟨ov, rfl, q⟩))
        all_goals
          go_wp2_with fail
          go_meet
          exact q
      case rest =>
        have HQ := Lib.hid hcut
        clear hcut HC
        go_wp2
        go_ret
        exact ⟨_, rfl, HQ.out⟩
    · have hix : ∀ w, (Instr.index 97 (.agg #[.nilFunc, .func (.func 74) #[] #[], .func (.func 75) #[] #[], .func (.func 76) #[] #[], .func (.func 77) #[] #[], .func (.func 78) #[] #[]]) (.int .i64 5)).run Try.prog w = .ok (.func (.func 78) #[] #[]) w := fun _ => by kernel_rfl
      have hcell := HCE.out
      rw [ek] at n0 hcell
      have HC : Hid (∀ V', Below V.heap.size V V' → Calls Try.prog 78 #[.pointer (some ⟨A, 0, none⟩), .agg #[.int .i64 5, .int .i64 m.fr, .int .i64 m.tgt, .int .i64 m.term, .int .i64 m.index, .int .i64 m.prev, .int .i64 m.commit, .bool m.good, .slice mad m.list.length mcap, .string m.snap]] V' fun e w' => ∃ ov, e = .returned ov ∧ Po w w' A S (b.take m).1 (b.take m).2 ov) := by
        intro V' hV'
        have := HACT.out 78 (.inr (.inr (.inr (.inr ⟨ek, rfl⟩)))) V' hV'
        rwa [show msV m (.slice mad m.list.length mcap) = .agg #[.int .i64 5, .int .i64 m.fr, .int .i64 m.tgt, .int .i64 m.term, .int .i64 m.index, .int .i64 m.prev, .int .i64 m.commit, .bool m.good, .slice mad m.list.length mcap, .string m.snap] by unfold msV; rw [ek]] at this
      have HCL := Lib.hid hcell
      clear ek hcell
      go_wp2
      go_cut [4] (fun v wx => Po w wx A S (b.take m).1 (b.take m).2 v)
      case first =>
        go_region_with (first | (go_at_call 49; refine (takers_p _).mono ?_; rintro e8 w8 ⟨rfl, hb8⟩; have hb9 := hbx _ _ hb8; obtain ⟨jz0, jz1, jz2, jz3, jz4, jz5, jz6, jz7, jz8, jz9⟩ := HCL.out _ hb9; clear hb8) | (go_at_call 78; refine (HC.out _ hb9).mono ?_; rintro e' w' ⟨ov, rfl, q⟩))
        all_goals
          go_wp2_with fail
          go_meet
          exact q
      case rest =>
        have HQ := Lib.hid hcut
        clear hcut HC
        go_wp2
        go_ret
        exact ⟨_, rfl, HQ.out⟩
end
end Go.Proofs.Ytmiagjcihmenfaa
