/- The walk of the program's feed where entries go. -/
import Derived.Test.YtmiagjcihmenfaaXf
namespace Go.Proofs.Ytmiagjcihmenfaa
open Go.RowKit

section
variable {w w' : World} {A : Nat} {S T : Nat → Prop} {b : Bs} {lv : Value} {pf : Int}
theorem own_tag {w : World} {B : Nat} {e : TypeId} {c n : Nat} {v : Value} {xs : List Value} (h : w.ownsRow B e c v n xs) : ∀ k, v.ownBlock = some k → ∃ cs, w.heap[k]? = some (.cells cs e (0, 0)) := by
  intro k hk
  rcases h.2 with ⟨hv, _⟩ | ⟨g, cap, cur, hv, _, hg, _⟩
  · rw [hv] at hk; cases hk
  · rw [hv] at hk
    simp only [Value.ownBlock, Option.some.injEq] at hk
    subst hk
    exact ⟨cur, hg⟩
theorem over3n {w W : World} {cs : Array Value} {t : TypeId} (hb : Below w.heap.size w W) (h : W.heap[w.heap.size]? = some (.cells cs t (0, 0))) (i j k : Nat) (x y z : Value) : Below w.heap.size w (((W.setCell ⟨w.heap.size, i, none⟩ x).setCell ⟨w.heap.size, j, none⟩ y).setCell ⟨w.heap.size, k, none⟩ z) ∧ (((W.setCell ⟨w.heap.size, i, none⟩ x).setCell ⟨w.heap.size, j, none⟩ y).setCell ⟨w.heap.size, k, none⟩ z).heap[w.heap.size]? = some (.cells (((cs.setIfInBounds i x).setIfInBounds j y).setIfInBounds k z) t (0, 0)) := by
  have hf : Fr w W (fun _ => False) := Fr.ofBelow _ hb
  exact ⟨(Fr.set (a := ⟨w.heap.size, k, none⟩) (Fr.set (a := ⟨w.heap.size, j, none⟩) (Fr.set (a := ⟨w.heap.size, i, none⟩) hf (Or.inr (Nat.le_refl _)) x) (Or.inr (Nat.le_refl _)) y) (Or.inr (Nat.le_refl _)) z).fresh (fun _ q => q.elim), set_blk (set_blk (set_blk h x) y) z⟩
theorem feed_take (L : List En) (d : Nat) (n : Nat) (h : n = 8 ∨ n = L.length - d) (h8 : n ≤ 8) : (L.drop d).take n = (L.drop d).take 8 := by
  rcases h with rfl | rfl
  · rfl
  · rw [List.take_of_length_le (by simp), List.take_of_length_le (by simp; omega)]
set_option maxHeartbeats 2000000 in
set_option maxRecDepth 100000 in
theorem feed_p1 (h : Pb w A S b) {k : Nat} (hk : k < 5) (hn : ¬ b.next.getD k 0 ≤ b.base) (hl : b.next.getD k 0 ≤ b.last + 1) : Calls Try.prog 50 #[.pointer (some ⟨A, 0, none⟩), .int .i64 k] w fun e w' => ∃ lv, e = .returned (msV (mk b (b.feedM k)) lv) ∧ Below w.heap.size w w' ∧ w'.ownsRow w.heap.size 49 4 lv (b.feedM k).list.length (enC (b.feedM k).list) := by
  obtain ⟨x, hx⟩ : ∃ x, b.next.getD k 0 = x := ⟨_, rfl⟩
  have em : b.feedM k = { ms0 with kind := 3, tgt := k, index := x - 1, prev := b.termAt (x - 1), commit := b.commit, list := (b.log.drop (x - b.base - 1).toNat).take 8 } := by
    unfold Bs.feedM
    rw [if_neg hn, hx]
  rw [em]
  have hb0 : Below w.heap.size w (w.alloc Z34) := (Below.refl _ w).alloc (Nat.le_refl _) _
  have h0 := h.on hb0
  have hm := message_any h0 3 k
  obtain ⟨l1, b0, b1⟩ := h.len
  have HH := Lib.hid h0
  have HB := Lib.hid hb0
  obtain ⟨lv0, pf0, h0v⟩ := h0
  have cn := h0v.nextc hk
  have c4 : (w.alloc Z34).cell? ⟨A, 4, none⟩ = some (.int .i64 b.base) := h0v.cell 4
  rw [hx] at cn hn hl
  have k0 : (0 : Int) ≤ k := by omega
  have k5 : (k : Int) < 5 := by omega
  have hl' : x ≤ b.base + b.log.length + 1 := hl
  obtain ⟨x1, hx1⟩ : ∃ x1, x - 1 = x1 := ⟨_, rfl⟩
  have wx1 : IntKind.i64.wrap (x - 1) = x1 := by rw [IntKind.wrap_i64]; omega
  rw [hx1]
  obtain ⟨tm, htm⟩ : ∃ tm, b.termAt x1 = tm := ⟨_, rfl⟩
  rw [htm]
  obtain ⟨te, hto⟩ : ∃ te, min (x1 + 8) b.last = te := ⟨_, rfl⟩
  have hlst : b.last = b.base + b.log.length := rfl
  have wx8 : IntKind.i64.wrap (x1 + 8) = x1 + 8 := by rw [IntKind.wrap_i64]; omega
  have hcop : ∀ V, Pb V A S b → Calls Try.prog 39 #[.pointer (some ⟨A, 0, none⟩), .int .i64 x, .int .i64 te] V fun e w' => ∃ v, e = .returned v ∧ Below V.heap.size V w' ∧ w'.ownsRow V.heap.size 49 4 v ((b.log.drop (x - b.base - 1).toNat).take 8).length (enC ((b.log.drop (x - b.base - 1).toNat).take 8)) := by
    intro V hV
    have := copied_any hV x te (by omega) (by omega) (by omega)
    rw [feed_take b.log (x - b.base - 1).toNat (te + 1 - x).toNat (by omega) (by omega)] at this
    exact this
  have htr : ∀ V, Pb V A S b → Calls Try.prog 53 #[.pointer (some ⟨A, 0, none⟩), .int .i64 x1] V fun e w' => e = .returned (.int .i64 tm) ∧ ∃ n, w' = V.drewN n := by
    intro V hV
    rw [← htm]
    exact termOf_any hV x1 (by omega) (by omega)
  obtain ⟨L8, hL8⟩ : ∃ L8, (b.log.drop (x - b.base - 1).toNat).take 8 = L8 := ⟨_, rfl⟩
  rw [hL8] at hcop ⊢
  have HTO := Lib.hid hto
  clear h hb0 h0v em hx hL8 htm hl' hl hx1 hto hlst l1 b0 b1
  go_enter Try.func50, Try.ntmps50
  go_wp2_with fail
  refine hm.mono ?_
  rintro e w1 ⟨rfl, hb1⟩
  clear hm
  have h1 := HH.out.on hb1
  have hb1' := HB.out.trans (hb1.mono HB.out.size)
  have H1 := Lib.hid h1
  obtain ⟨lv, pf, h1v⟩ := h1
  have h2v := h1v.alloc (msO { ms0 with kind := 3, fr := b.id, tgt := k, term := b.term } (.slice none 0 0))
  have c6 : (w1.alloc (.cells #[.int .i64 3, .int .i64 b.id, .int .i64 k, .int .i64 b.term, .int .i64 0, .int .i64 0, .int .i64 0, .bool false, .slice none 0 0, .string noT] 34)).cell? ⟨A, 6, none⟩ = some (.int .i64 b.commit) := h2v.cell 6
  have H2 := Lib.hid hb1'
  have hr4 : w1.heap[w.heap.size]? = some Z34 := (hb1.block w.heap.size (by simp)).trans (heap_alloc_new w _)
  have HR := Lib.hid hr4
  have hnA : A ≠ w1.heap.size := Nat.ne_of_lt (h1v.lt A h1v.covA)
  go_wp2
  obtain ⟨W1, hW1⟩ : ∃ W1, W1 = w1.alloc (.cells #[.int .i64 3, .int .i64 b.id, .int .i64 k, .int .i64 b.term, .int .i64 0, .int .i64 0, .int .i64 0, .bool false, .slice none 0 0, .string noT] 34) := ⟨_, rfl⟩
  rw [← hW1]
  rw [← hW1] at c6
  have hbk : W1.heap[w1.heap.size]? = some (.cells #[.int .i64 3, .int .i64 b.id, .int .i64 k, .int .i64 b.term, .int .i64 0, .int .i64 0, .int .i64 0, .bool false, .slice none 0 0, .string noT] 34 (0, 0)) := by rw [hW1]; exact heap_alloc_new w1 _
  have hbw : Below w1.heap.size w1 W1 := by rw [hW1]; exact (Below.refl _ w1).alloc (Nat.le_refl _) _
  have n4 : W1.cell? ⟨w1.heap.size, 4, none⟩ = some (.int .i64 0) := cell_blk hbk 4
  have n5 : W1.cell? ⟨w1.heap.size, 5, none⟩ = some (.int .i64 0) := cell_blk hbk 5
  have n6 : W1.cell? ⟨w1.heap.size, 6, none⟩ = some (.int .i64 0) := cell_blk hbk 6
  have f4 : W1.frozen? ⟨w1.heap.size, 4, none⟩ = false := frozen_blk hbk 4
  have f5 : W1.frozen? ⟨w1.heap.size, 5, none⟩ = false := frozen_blk hbk 5
  have f6 : W1.frozen? ⟨w1.heap.size, 6, none⟩ = false := frozen_blk hbk 6
  have ht : ∀ n, Calls Try.prog 53 #[.pointer (some ⟨A, 0, none⟩), .int .i64 x1] (W1.drewN n) fun e w' => e = .returned (.int .i64 tm) ∧ ∃ n, w' = W1.drewN n := by
    intro n
    refine (htr (W1.drewN n) (Pb.on ⟨lv, pf, h1v⟩ (below_draw hbw n))).mono ?_
    rintro e w' ⟨rfl, n', rfl⟩
    exact ⟨rfl, _, World.drewN_drewN ..⟩
  have HBK := Lib.hid hbk
  have HBW := Lib.hid hbw
  clear hb1 hb1' h1v h2v hr4 cn htr hbk hbw hW1
  go_cut [] (fun wx => Below w1.heap.size w1 wx ∧ wx.heap[w1.heap.size]? = some (msO { ms0 with kind := 3, fr := b.id, tgt := k, term := b.term, index := x1, prev := tm, commit := b.commit } (.slice none 0 0)))
  case first =>
    go_region_with (go_at_call 53; refine (ht _).mono ?_; rintro e1 w2 ⟨rfl, n2, rfl⟩)
    all_goals
      go_wp2_with fail
      go_meet
      exact over3n (below_draw HBW.out n2) HBK.out _ _ _ _ _ _
  case rest =>
    obtain ⟨hbc, hmc⟩ := hcut
    have hr := (hbc.block w.heap.size (blk_lt HR.out)).trans HR.out
    have hne : w.heap.size ≠ w1.heap.size := by have := blk_lt HR.out; omega
    have m40 : wc.cell? ⟨w1.heap.size, 4, none⟩ = some (.int .i64 x1) := cell_blk hmc 4
    have m80 : wc.cell? ⟨w1.heap.size, 8, none⟩ = some (.slice none 0 0) := cell_blk hmc 8
    have g8 : wc.frozen? ⟨w1.heap.size, 8, none⟩ = false := frozen_blk hmc 8
    have hPc := H1.out.on hbc
    have hR1 : w1.heap.size < wc.heap.size := blk_lt hmc
    have hcp : ∀ n, Calls Try.prog 39 #[.pointer (some ⟨A, 0, none⟩), .int .i64 x, .int .i64 te] (wc.drewN n) fun e w' => ∃ ad8 cap8, e = .returned (.slice ad8 L8.length cap8) ∧ w'.cell? ⟨w1.heap.size, 8, none⟩ = some (.slice none 0 0) ∧ w'.frozen? ⟨w1.heap.size, 8, none⟩ = false ∧ Hid (Below wc.heap.size wc w' ∧ w'.ownsRow wc.heap.size 49 4 (.slice ad8 L8.length cap8) L8.length (enC L8)) := by
      intro n
      refine (hcop (wc.drewN n) (hPc.on (below_draw (Below.refl _ _) n))).mono ?_
      rintro e w' ⟨v, rfl, q1, q2⟩
      obtain ⟨ad8, cap8, rfl⟩ := own_shape q2
      have q3 : Below wc.heap.size wc w' := ⟨q1.os, q1.tape, q1.output, q1.size, q1.block⟩
      have q4 := (q3.block w1.heap.size hR1).trans hmc
      exact ⟨ad8, cap8, rfl, cell_blk q4 8, frozen_blk q4 8, ⟨q3, q2⟩⟩
    obtain ⟨lvc, pfc, hvc⟩ := hPc
    have c5 : wc.cell? ⟨A, 5, none⟩ = some (.int .i64 b.last) := hvc.cell 5
    clear hcop hvc
    have hzz : w.heap.size ≤ wc.heap.size := Nat.le_trans H2.out.size hbc.size
    have HMC := Lib.hid hmc
    have HBC := Lib.hid hbc
    have hRR := Lib.hid hr
    clear hbc hmc hr
    go_wp2
    go_cut [] (fun wx => ∃ ad8 cap8 w2, wx = w2.setCell ⟨w1.heap.size, 8, none⟩ (.slice ad8 L8.length cap8) ∧ Below wc.heap.size wc w2 ∧ w2.ownsRow wc.heap.size 49 4 (.slice ad8 L8.length cap8) L8.length (enC L8))
    case first =>
      by_cases hmin : b.last < x1 + 8
      · have ete : te = b.last := by have := HTO.out; omega
        rw [ete] at hcp
        go_region_with (go_at_call 39; refine (hcp _).mono ?_; rintro e1 w2 ⟨ad8, cap8, rfl, z8, zf, hx8⟩)
        all_goals
          go_wp2_with fail
          go_meet
          exact ⟨ad8, cap8, w2, rfl, hx8.out.1, hx8.out.2⟩
      · have ete : te = x1 + 8 := by have := HTO.out; omega
        rw [ete] at hcp
        go_region_with (go_at_call 39; refine (hcp _).mono ?_; rintro e1 w2 ⟨ad8, cap8, rfl, z8, zf, hx8⟩)
        all_goals
          go_wp2_with fail
          go_meet
          exact ⟨ad8, cap8, w2, rfl, hx8.out.1, hx8.out.2⟩
    case rest =>
      obtain ⟨ad8, cap8, w2, hwd, B8, O8⟩ := hcut
      have hm2 := (B8.block w1.heap.size hR1).trans HMC.out
      have hr2 := (B8.block w.heap.size (blk_lt hRR.out)).trans hRR.out
      obtain ⟨wd, hwd2⟩ : ∃ wd, w2.setCell ⟨w1.heap.size, 8, none⟩ (.slice ad8 L8.length cap8) = wd := ⟨_, rfl⟩
      have hmd : wd.heap[w1.heap.size]? = some (msO { ms0 with kind := 3, fr := b.id, tgt := k, term := b.term, index := x1, prev := tm, commit := b.commit } (.slice ad8 L8.length cap8)) := by rw [← hwd2]; exact set_blk (i := 8) hm2 _
      have hrd : wd.heap[w.heap.size]? = some Z34 := by rw [← hwd2, set_other _ hne]; exact hr2
      have hfd : Fr w wd (fun _ => False) := by
        rw [← hwd2]
        exact Fr.set (a := ⟨w1.heap.size, 8, none⟩) (((Fr.ofBelow (fun _ => False) H2.out).below HBC.out).below B8) (Or.inr H2.out.size) _
      have hod : wd.ownsRow w.heap.size 49 4 (.slice ad8 L8.length cap8) L8.length (enC L8) := by
        rw [← hwd2]
        exact own_mono (own_like O8 (fun q hq => set_other _ (fun e => by have := (O8.lt q hq).1; have e' : q = w1.heap.size := e; omega))) hzz
      rw [hwd, hwd2]
      have m0 : wd.cell? ⟨w1.heap.size, 0, none⟩ = some (.int .i64 3) := cell_blk hmd 0
      have m1 : wd.cell? ⟨w1.heap.size, 1, none⟩ = some (.int .i64 b.id) := cell_blk hmd 1
      have m2 : wd.cell? ⟨w1.heap.size, 2, none⟩ = some (.int .i64 k) := cell_blk hmd 2
      have m3 : wd.cell? ⟨w1.heap.size, 3, none⟩ = some (.int .i64 b.term) := cell_blk hmd 3
      have m4 : wd.cell? ⟨w1.heap.size, 4, none⟩ = some (.int .i64 x1) := cell_blk hmd 4
      have m5 : wd.cell? ⟨w1.heap.size, 5, none⟩ = some (.int .i64 tm) := cell_blk hmd 5
      have m6 : wd.cell? ⟨w1.heap.size, 6, none⟩ = some (.int .i64 b.commit) := cell_blk hmd 6
      have m7 : wd.cell? ⟨w1.heap.size, 7, none⟩ = some (.bool false) := cell_blk hmd 7
      have m8 : wd.cell? ⟨w1.heap.size, 8, none⟩ = some (.slice ad8 L8.length cap8) := cell_blk hmd 8
      have m9 : wd.cell? ⟨w1.heap.size, 9, none⟩ = some (.string ⟨#[]⟩) := cell_blk hmd 9
      have r0 : wd.cell? ⟨w.heap.size, 0, none⟩ = some (.int .i64 0) := cell_blk hrd 0
      have q0 : wd.frozen? ⟨w.heap.size, 0, none⟩ = false := frozen_blk hrd 0
      have r1 : wd.cell? ⟨w.heap.size, 1, none⟩ = some (.int .i64 0) := cell_blk hrd 1
      have q1 : wd.frozen? ⟨w.heap.size, 1, none⟩ = false := frozen_blk hrd 1
      have r2 : wd.cell? ⟨w.heap.size, 2, none⟩ = some (.int .i64 0) := cell_blk hrd 2
      have q2 : wd.frozen? ⟨w.heap.size, 2, none⟩ = false := frozen_blk hrd 2
      have r3 : wd.cell? ⟨w.heap.size, 3, none⟩ = some (.int .i64 0) := cell_blk hrd 3
      have q3 : wd.frozen? ⟨w.heap.size, 3, none⟩ = false := frozen_blk hrd 3
      have r4 : wd.cell? ⟨w.heap.size, 4, none⟩ = some (.int .i64 0) := cell_blk hrd 4
      have q4 : wd.frozen? ⟨w.heap.size, 4, none⟩ = false := frozen_blk hrd 4
      have r5 : wd.cell? ⟨w.heap.size, 5, none⟩ = some (.int .i64 0) := cell_blk hrd 5
      have q5 : wd.frozen? ⟨w.heap.size, 5, none⟩ = false := frozen_blk hrd 5
      have r6 : wd.cell? ⟨w.heap.size, 6, none⟩ = some (.int .i64 0) := cell_blk hrd 6
      have q6 : wd.frozen? ⟨w.heap.size, 6, none⟩ = false := frozen_blk hrd 6
      have r7 : wd.cell? ⟨w.heap.size, 7, none⟩ = some (.bool false) := cell_blk hrd 7
      have q7 : wd.frozen? ⟨w.heap.size, 7, none⟩ = false := frozen_blk hrd 7
      have r8 : wd.cell? ⟨w.heap.size, 8, none⟩ = some (.slice none 0 0) := cell_blk hrd 8
      have q8 : wd.frozen? ⟨w.heap.size, 8, none⟩ = false := frozen_blk hrd 8
      have r9 : wd.cell? ⟨w.heap.size, 9, none⟩ = some (.string ⟨#[]⟩) := cell_blk hrd 9
      have q9 : wd.frozen? ⟨w.heap.size, 9, none⟩ = false := frozen_blk hrd 9
      have HRD := Lib.hid hrd
      have HFD := Lib.hid hfd
      have HOD := Lib.hid hod
      clear hmd hrd hfd hod B8 O8 hm2 hr2 hwd hwd2 hcp c4 c5 m40 m80 g8
      go_wp2
      obtain ⟨e1, e2⟩ := setMs_blk { ms0 with kind := 3, fr := b.id, tgt := k, term := b.term, index := x1, prev := tm, commit := b.commit } (.slice ad8 L8.length cap8) HRD.out
      refine bodyPost_ret (ret_ms rfl _ rfl e1) rfl ⟨.slice ad8 L8.length cap8, rfl, ?_, ?_⟩
      · exact (HFD.out.step e2 (fun j q => .inr (by have q' : j = w.heap.size := q; omega))).fresh (fun _ q => q.elim)
      · exact own_like HOD.out (fun q hq => e2.block q (HOD.out.lt q hq).2 (fun e => by
          obtain ⟨cs, hc⟩ := own_tag HOD.out q hq
          have e' : q = w.heap.size := e
          subst e'
          exact tag_ne HRD.out hc (by decide) rfl))
end
end Go.Proofs.Ytmiagjcihmenfaa
