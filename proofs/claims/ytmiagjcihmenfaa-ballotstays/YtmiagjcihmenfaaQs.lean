/- The walk of the program's takeFed where the log is the same. -/
import Derived.Test.YtmiagjcihmenfaaQn
namespace Go.Proofs.Ytmiagjcihmenfaa
open Go.RowKit

section
variable {w w' : World} {A : Nat} {S T : Nat → Prop} {b : Bs} {lv : Value} {pf : Int}
theorem settleC_same (b : Bs) : b.settleC.mat = b.mat ∧ b.settleC.next = b.next ∧ b.settleC.last = b.last ∧ b.settleC.id = b.id ∧ b.settleC.term = b.term ∧ b.settleC.size = b.size := by
  unfold Bs.settleC
  split <;> exact ⟨rfl, rfl, rfl, rfl, rfl, rfl⟩
theorem heard_more (ok : Ok b) (hr : b.role = 2) (m : Ms) (hg : m.good = true) {f : Nat} (hft : m.fr.toNat = f) {X : Bs} (hX : b.more f m.index = X) {x : Int} (hx : max (b.mat.getD f 0) (min m.index b.last) = x) (hf : f < 5) : (b.heard m).sent = (X.settleC, X.settleM ++ if b.mat.getD f 0 < x ∧ x + 1 ≤ b.last then [mk X.settleC (X.settleC.feedM f)] else []) := by
  have hXo : X.out = [] := by rw [← hX]; exact ok.out
  have hs := settleC_same X
  have hCo : X.settleC.out = [] := (Bs.settleC_sz X).trans hXo
  have hm : X.mat.getD f 0 = x := by
    rw [← hX]
    show (b.mat.set f _).getD f 0 = x
    rw [getD_setI _ _ _ _ (by rw [ok.inv.mt]; exact hf), if_pos rfl, hx]
  have hn : X.next.getD f 0 = x + 1 := by
    rw [← hX]
    show (b.next.set f _).getD f 0 = x + 1
    rw [getD_setI _ _ _ _ (by rw [ok.inv.nx]; exact hf), if_pos rfl, hx]
  have hl : X.last = b.last := by rw [← hX]; rfl
  have e1 : X.settle = { X.settleC with out := X.settleM } := by rw [Bs.settle_eq, hXo, List.nil_append]
  unfold Bs.heard
  rw [if_pos hr, if_pos hg, hft, hX, e1]
  have c1 : ({ X.settleC with out := X.settleM } : Bs).mat.getD f 0 = x := by show X.settleC.mat.getD f 0 = x; rw [hs.1]; exact hm
  have c2 : ({ X.settleC with out := X.settleM } : Bs).next.getD f 0 = x + 1 := by show X.settleC.next.getD f 0 = x + 1; rw [hs.2.1]; exact hn
  have c3 : ({ X.settleC with out := X.settleM } : Bs).last = b.last := by show X.settleC.last = b.last; rw [hs.2.2.1]; exact hl
  rw [c1, c2, c3]
  by_cases h : b.mat.getD f 0 < x ∧ x + 1 ≤ b.last
  · rw [if_pos h, if_pos h]
    unfold Bs.feed Bs.sent Bs.send
    simp only
    rw [out_self hCo]
    rfl
  · rw [if_neg h, if_neg h]
    unfold Bs.sent
    simp only [List.append_nil]
    rw [out_self hCo]
set_option maxHeartbeats 1000000 in
set_option maxRecDepth 100000 in
theorem takeFed_p1 (h : Pb w A S b) (ok : Ok b) (m : Ms) (mv : Value) (h0 : 0 ≤ m.fr) (h1 : m.fr < b.size) (hi0 : -1 ≤ m.index) (hi1 : m.index ≤ 1099511627776) (hr : b.role = 2) (hg : m.good = true) : Calls Try.prog 77 #[.pointer (some ⟨A, 0, none⟩), msV m mv] w fun e w' => ∃ ov, e = .returned ov ∧ Po w w' A S (b.heard m).sent.1 (b.heard m).sent.2 ov := by
  have hlt := h.lt
  obtain ⟨W, hB⟩ := Bx.mk' h m mv
  have hA := hB.pb
  have HW := Lib.hid hB.eq
  have hfw : Fr w W S := Fr.ofBelow S hB.bel
  obtain ⟨f, hf⟩ : ∃ f : Nat, m.fr = f := ⟨m.fr.toNat, by omega⟩
  have hfs : f < b.size := by omega
  have hf5 : f < 5 := by have := ok.inv.sz; omega
  have hft : m.fr.toNat = f := by omega
  have hnA : A ≠ w.heap.size := Nat.ne_of_lt (hlt A (by obtain ⟨_, _, q⟩ := h; exact q.covA))
  have m1 : W.cell? ⟨w.heap.size, 1, none⟩ = some (.int .i64 m.fr) := cell_blk hB.blk 1
  have m4 : W.cell? ⟨w.heap.size, 4, none⟩ = some (.int .i64 m.index) := cell_blk hB.blk 4
  have m7 : W.cell? ⟨w.heap.size, 7, none⟩ = some (.bool m.good) := cell_blk hB.blk 7
  obtain ⟨lv, pf, hv⟩ := hA
  have hA : Pb W A S b := ⟨lv, pf, hv⟩
  have c2 : W.cell? ⟨A, 2, none⟩ = some (.int .i64 b.role) := hv.cell 2
  have c5 : W.cell? ⟨A, 5, none⟩ = some (.int .i64 b.last) := hv.cell 5
  have cn := hv.nextc hf5
  have cm := hv.matc hf5
  have fn : W.frozen? ⟨A, 20 + f * 2, none⟩ = false := frozen_blk hv.ob _
  have fm : W.frozen? ⟨A, 20 + f * 2 + 1, none⟩ = false := frozen_blk hv.ob _
  have hXL := more_ld ok hr hfs m.index
  have hl3 := (ok.ld hr).lo f hfs
  have hl2 := (ok.ld hr).mt f hfs
  obtain ⟨ll1, bb0, bb1⟩ := h.len
  have hll : b.last ≤ 4398047411104 := by unfold Bs.last; omega
  obtain ⟨X, hX⟩ : ∃ X, b.more f m.index = X := ⟨_, rfl⟩
  obtain ⟨x, hx⟩ : ∃ x, max (b.mat.getD f 0) (min m.index b.last) = x := ⟨_, rfl⟩
  have heq := heard_more ok hr m hg hft hX hx hf5
  have hXn : X = { b with mat := b.mat.set f x, next := b.next.set f (x + 1) } := by rw [← hX, ← hx]; rfl
  obtain ⟨nx, hnxx⟩ : ∃ nx, b.next.getD f 0 = nx := ⟨_, rfl⟩
  obtain ⟨mt, hmtt⟩ : ∃ mt, b.mat.getD f 0 = mt := ⟨_, rfl⟩
  rw [hnxx] at cn hl3
  rw [hmtt] at cm hl2 hl3 hx heq
  rw [hX] at hXL
  have hXI : X.base ≤ X.commit ∧ X.commit ≤ X.last ∧ X.last = b.last ∧ X.size = b.size := by rw [hXn]; exact ⟨ok.inv.bc, ok.inv.cl, rfl, rfl⟩
  have hPX : ∀ n, Pb (((W.drewN n).setCell ⟨A, 20 + f * 2 + 1, none⟩ (.int .i64 x)).setCell ⟨A, 20 + f * 2, none⟩ (.int .i64 (x + 1))) A S X ∧ Fr w (((W.drewN n).setCell ⟨A, 20 + f * 2 + 1, none⟩ (.int .i64 x)).setCell ⟨A, 20 + f * 2, none⟩ (.int .i64 (x + 1))) S := by
    intro n
    obtain ⟨r1, r2⟩ := (hA.drewN n).mat1 hf5 ok.inv.mt x
    obtain ⟨r3, r4⟩ := r1.next1 hf5 ok.inv.nx (x + 1)
    rw [hXn]
    exact ⟨r3, ((hfw.drewN n).trans ⟨r2.os, r2.tape, r2.output, r2.size, r2.block⟩).trans r4⟩
  have hmbW := hB.blk
  have hsame := settleC_same X
  have hCn : X.settleC.next.getD f 0 = x + 1 := by
    rw [hsame.2.1, hXn]
    show (b.next.set f _).getD f 0 = x + 1
    rw [getD_setI _ _ _ _ (by rw [ok.inv.nx]; exact hf5), if_pos rfl]
  have hCm : X.settleC.mat.getD f 0 = x := by
    rw [hsame.1, hXn]
    show (b.mat.set f _).getD f 0 = x
    rw [getD_setI _ _ _ _ (by rw [ok.inv.mt]; exact hf5), if_pos rfl]
  have hset : ∀ n, Calls Try.prog 79 #[.pointer (some ⟨A, 0, none⟩)] (((W.drewN n).setCell ⟨A, 20 + f * 2 + 1, none⟩ (.int .i64 x)).setCell ⟨A, 20 + f * 2, none⟩ (.int .i64 (x + 1))) fun e w' => ∃ ad cap O, e = .returned (.slice ad O cap) ∧ w'.cell? ⟨A, 20 + f * 2, none⟩ = some (.int .i64 (x + 1)) ∧ w'.cell? ⟨A, 20 + f * 2 + 1, none⟩ = some (.int .i64 x) ∧ w'.cell? ⟨A, 5, none⟩ = some (.int .i64 b.last) ∧ w'.cell? ⟨w.heap.size, 1, none⟩ = some (.int .i64 f) ∧ Hid (Pb w' A S X.settleC ∧ Fr w w' S ∧ ∃ Ol : List (Ms × Value), O = Ol.length ∧ Ol.map Prod.fst = X.settleM ∧ Ou w' w.heap.size Ol (.slice ad O cap)) := by
    intro n
    obtain ⟨p1, p2⟩ := hPX n
    refine (settle_p p1 hXL hXI.1 hXI.2.1).mono ?_
    rintro e w' ⟨ov, rfl, q1, q2, Ol, q3, q4⟩
    obtain ⟨ad, cap, rfl⟩ := own_shape q4.own
    have hfa := p2.trans q2
    have hmb : w'.heap[w.heap.size]? = some (msO m mv) := by
      have e1 : (((W.drewN n).setCell ⟨A, 20 + f * 2 + 1, none⟩ (.int .i64 x)).setCell ⟨A, 20 + f * 2, none⟩ (.int .i64 (x + 1))).heap[w.heap.size]? = some (msO m mv) := by
        rw [set_other _ (Ne.symm hnA), set_other _ (Ne.symm hnA)]
        exact hmbW
      exact (q2.block _ (blk_lt e1) (fun q => by have := hlt _ q; omega)).trans e1
    obtain ⟨lv1, pf1, hv1⟩ := q1
    refine ⟨ad, cap, Ol.length, rfl, ?_, ?_, ?_, ?_, ⟨⟨lv1, pf1, hv1⟩, hfa, Ol, rfl, q3, q4.mono p2.size⟩⟩
    · rw [← hCn]; exact hv1.nextc hf5
    · rw [← hCm]; exact hv1.matc hf5
    · rw [← hXI.2.2.1, ← hsame.2.2.1]; exact hv1.cell 5
    · rw [← hf]; exact cell_blk hmb 1
  have hCl := hsame.2.2.1
  have HEQ := Lib.hid heq
  have i3 : IntKind.i64.wrap (x + 1) = x + 1 := by rw [IntKind.wrap_i64]; omega
  have i3' : wrap64 (x + 1) = x + 1 := IntWalk.wrap64_in _ ⟨by omega, by omega⟩
  have f0 : (0 : Int) ≤ f := by omega
  have f5 : (f : Int) < 5 := by omega
  have hlf : X.settleC.next.getD f 0 ≤ X.settleC.last + 1 := by rw [hCn, hCl, hXI.2.2.1]; omega
  rw [hf] at m1
  rw [hg] at m7
  rw [hr] at c2
  have HC := Lib.hid hset
  have HX := Lib.hid hx
  have HLF := Lib.hid hlf
  have hzS : X.size ≤ 5 := by rw [hXI.2.2.2]; exact ok.inv.sz
  clear hv hB hA hfw heq hX hXn hnxx hmtt hPX hset hr hg hf hft h hx ok hmbW hsame hCn hCm hCl hlf hXL hXI
  go_enter Try.func77, Try.ntmps77
  go_upto_region 1 with fail
  rw [← HW.out]
  go_wp2
  go_quiet (fail)
  go_wp2
  go_cut [] (fun wx => ∃ n, wx = (W.drewN n).setCell ⟨A, 20 + f * 2 + 1, none⟩ (.int .i64 x))
  case first =>
    by_cases q1 : b.last < m.index
    · by_cases q2 : mt < b.last
      · have ex : x = b.last := by have := HX.out; omega
        have HEX := Lib.hid ex
        clear ex
        go_region
        go_wp2_with fail
        go_meet
        exact ⟨nq + 1, by rw [HEX.out]⟩
      · have ex : x = mt := by have := HX.out; omega
        have HEX := Lib.hid ex
        clear ex
        go_region
        go_wp2_with fail
        go_meet
        exact ⟨nq + 1, by rw [HEX.out]⟩
    · by_cases q2 : mt < m.index
      · have ex : x = m.index := by have := HX.out; omega
        have HEX := Lib.hid ex
        clear ex
        go_region
        go_wp2_with fail
        go_meet
        exact ⟨nq + 1, by rw [HEX.out]⟩
      · have ex : x = mt := by have := HX.out; omega
        have HEX := Lib.hid ex
        clear ex
        go_region
        go_wp2_with fail
        go_meet
        exact ⟨nq + 1, by rw [HEX.out]⟩
  case rest =>
    obtain ⟨n, rfl⟩ := hcut
    go_wp2_with fail
    refine (HC.out n).mono ?_
    rintro e2 w2 ⟨ad, cap, O, rfl, j0, j1, j5, j6, HP⟩
    clear HC
    by_cases q1 : mt < x
    · have hd : decide (mt < x) = true := decide_eq_true q1
      by_cases q2 : x + 1 ≤ b.last
      · have q1' := q1
        have q2'' := q2
        obtain ⟨M, hM⟩ : ∃ M, mk X.settleC (X.settleC.feedM f) = M := ⟨_, rfl⟩
        have hcall : ∀ n, Calls Try.prog 50 #[.pointer (some ⟨A, 0, none⟩), .int .i64 f] (w2.drewN n) fun e w' => ∃ lv, e = .returned (msV M lv) ∧ ∃ ad' cap' w'', (Builtin.append_ #[37, 37] 37 #[.slice ad O cap, .slice (some ⟨w'.heap.size, 0, none⟩) 1 1]).run Try.prog (w'.alloc (msO M lv)) = .ok (.slice ad' (O + 1) cap') w'' ∧ Hid (Po w w'' A S (b.heard m).sent.1 (b.heard m).sent.2 (.slice ad' (O + 1) cap')) := by
          intro n
          obtain ⟨a1, a2, Ol, rfl, a4, a5⟩ := HP.out
          have hlen : Ol.length ≤ X.size := by rw [← List.length_map (f := Prod.fst), a4]; exact settleM_len X
          refine (feed_p (a1.drewN n) hf5 HLF.out).mono ?_
          rintro e w' ⟨lv, rfl, q1, q2⟩
          rw [hM]
          have hb : Below w2.heap.size w2 w' := ⟨q1.os, q1.tape, q1.output, q1.size, q1.block⟩
          have q2' : w'.ownsRow w2.heap.size 49 4 lv M.list.length (enC M.list) := by rw [← hM]; exact q2
          obtain ⟨ad', cap', w'', hrun, r1, r2⟩ := (a5.on hb).snoc (m := M) (Nat.le_trans a2.size hb.size) (own_mono q2' a2.size) (by omega)
          refine ⟨lv, rfl, ad', cap', w'', hrun, ?_⟩
          have hS2 : ∀ k, S k → ¬ w.heap.size ≤ k := fun k hk q => by have := hlt k hk; omega
          rw [HEQ.out, if_pos ⟨q1', q2''⟩]
          refine Po.of (O := Ol ++ [(M, lv)]) ((a1.on hb).stays r2 hS2) ?_ hlt ?_ r1
          · exact (a2.below hb).step r2 (fun k q => .inr q)
          · rw [List.map_append, a4, hM]
            rfl
        have HCC := Lib.hid hcall
        clear hcall HP hM
        go_wp2
        go_quiet (fail)
        go_wp2_with fail
        refine (HCC.out _).mono ?_
        rintro e3 w3 ⟨lv3, rfl, ad3, cap3, w4, hrun, HPo⟩
        clear HCC
        go_wp2_with (at_builtin; refine wpl_run2 _ _ rfl (by simp [Act.eval]) (by simp [Act.eval]) hrun ?_)
        go_ret
        exact ⟨_, rfl, HPo.out⟩
      · have HPo : Hid (∀ n, Po w (w2.drewN n) A S (b.heard m).sent.1 (b.heard m).sent.2 (.slice ad O cap)) := by
          intro n
          obtain ⟨a1, a2, Ol, rfl, a4, a5⟩ := HP.out
          rw [HEQ.out, if_neg (fun q => q2 q.2), List.append_nil]
          exact Po.of (a1.drewN n) (a2.drewN n) hlt a4 (a5.on (below_draw (Below.refl _ _) n))
        clear HP
        go_wp2
        go_quiet (fail)
        go_wp2
        go_ret
        exact ⟨_, rfl, HPo.out nq⟩
    · have hd : decide (mt < x) = false := decide_eq_false q1
      have HPo : Hid (∀ n, Po w (w2.drewN n) A S (b.heard m).sent.1 (b.heard m).sent.2 (.slice ad O cap)) := by
        intro n
        obtain ⟨a1, a2, Ol, rfl, a4, a5⟩ := HP.out
        rw [HEQ.out, if_neg (fun q => q1 q.1), List.append_nil]
        exact Po.of (a1.drewN n) (a2.drewN n) hlt a4 (a5.on (below_draw (Below.refl _ _) n))
      clear HP
      go_wp2
      go_quiet (fail)
      go_wp2
      go_ret
      exact ⟨_, rfl, HPo.out nq⟩
end
end Go.Proofs.Ytmiagjcihmenfaa
