/- The walks of the program's New, Cut, Entry; a ballot that is none. -/
import Derived.Test.YtmiagjcihmenfaaXh
import Derived.Test.YtmiagjcihmenfaaXc
import Derived.Test.YtmiagjcihmenfaaXi
import Derived.Test.YtmiagjcihmenfaaXf
import Derived.Deep.DeepCutAuto
namespace Go.Proofs.Ytmiagjcihmenfaa
open Go.RowKit

section
variable {w w' : World} {A : Nat} {S T : Nat → Prop} {b : Bs} {lv : Value} {pf : Int}
theorem new_no (w : World) (id size : Int) (h : ¬ (1 ≤ size ∧ size ≤ 5 ∧ 0 ≤ id ∧ id < size)) : Calls Try.prog 11 #[.int .i64 id, .int .i64 size] w fun e w' => e = .returned (.tuple #[.pointer none, .int .i64 1]) ∧ w' = w := by
  have h1 := within_any w size 1 5
  have h2 := within_any w id 0 (size - 1)
  by_cases q1 : 1 ≤ size ∧ size ≤ 5
  · rw [decide_eq_true q1.1, decide_eq_true q1.2] at h1
    have hb : (decide (0 ≤ id) && decide (id ≤ size - 1)) = false := by
      by_cases z : 0 ≤ id
      · rw [decide_eq_false (show ¬ id ≤ size - 1 by omega), Bool.and_false]
      · rw [decide_eq_false z, Bool.false_and]
    rw [hb] at h2
    obtain ⟨q1a, q1b⟩ := q1
    clear hb h
    go_enter Try.func11, Try.ntmps11
    go_wp2_with fail
    refine h1.mono ?_
    rintro e1 w1 ⟨rfl, rfl⟩
    go_wp2_with fail
    refine h2.mono ?_
    rintro e2 w2 ⟨rfl, rfl⟩
    clear h1 h2
    go_wp2
    refine bodyPost_ret (v := .tuple #[.pointer none, .int .i64 1]) (by simp [results, Try.results11, go_sem]) rfl ?_
    exact ⟨rfl, rfl⟩
  · have hb : (decide (1 ≤ size) && decide (size ≤ 5)) = false := by
      by_cases z : 1 ≤ size
      · rw [decide_eq_false (show ¬ size ≤ 5 from fun y => q1 ⟨z, y⟩), Bool.and_false]
      · rw [decide_eq_false z, Bool.false_and]
    rw [hb] at h1
    clear hb h q1
    go_enter Try.func11, Try.ntmps11
    go_wp2_with fail
    refine h1.mono ?_
    rintro e1 w1 ⟨rfl, rfl⟩
    clear h1 h2
    go_wp2
    refine bodyPost_ret (v := .tuple #[.pointer none, .int .i64 1]) (by simp [results, Try.results11, go_sem]) rfl ?_
    exact ⟨rfl, rfl⟩
theorem new_ok (id size : Nat) (h1 : 1 ≤ size) (h2 : size ≤ 5) (h3 : id < size) : Ok (Bs.new id size) := by
  refine ⟨⟨h3, h2, rfl, rfl, rfl, Int.le_refl _, Int.le_refl _, Int.le_refl _, Int.le_refl _, ?_, Int.le_refl _⟩, ?_, (fun q => by cases q), rfl⟩
  · show (-1 : Int) < size
    omega
  · intro k _
    show (List.replicate 5 false).getD k false = false
    rw [List.getD_eq_getElem?_getD, List.getElem?_replicate]
    split <;> rfl
theorem new_yes (w : World) (id size : Nat) (h1 : 1 ≤ size) (h2 : size ≤ 5) (h3 : id < size) : Calls Try.prog 11 #[.int .i64 id, .int .i64 size] w fun e w' => e = .returned (.tuple #[.pointer (some ⟨w.heap.size, 0, none⟩), .int .i64 0]) ∧ Pb w' w.heap.size (fun k => k = w.heap.size) (Bs.new id size) ∧ Below w.heap.size w w' := by
  have c1 := within_any w size 1 5
  have c2 := within_any w id 0 (size - 1)
  rw [decide_eq_true (show (1 : Int) ≤ size by omega), decide_eq_true (show (size : Int) ≤ 5 by omega)] at c1
  rw [decide_eq_true (show (0 : Int) ≤ id by omega), decide_eq_true (show (id : Int) ≤ size - 1 by omega)] at c2
  have s1 : (1 : Int) ≤ size := by omega
  have s5 : (size : Int) ≤ 5 := by omega
  have hP : Pb (w.alloc (.cells (pC (Bs.new id size) (.slice none 0 0) 0) 78)) w.heap.size (fun k => k = w.heap.size) (Bs.new id size) := by
    refine ⟨.slice none 0 0, 0, ⟨heap_alloc_new w _, Lg.nil _, rfl, fun k hk => (by rw [lgB_zero] at hk; cases hk), fun k hk => ?_, Nat.zero_le _, Int.le_refl _, by show (0 : Int) ≤ _; omega, .inr (.inl ⟨rfl, rfl⟩), h3, h2⟩⟩
    rw [show k = w.heap.size from hk]
    simp
  have HP := Lib.hid hP
  clear hP
  go_enter Try.func11, Try.ntmps11
  go_wp2_with fail
  refine c1.mono ?_
  rintro e1 w1 ⟨rfl, rfl⟩
  go_wp2_with fail
  refine c2.mono ?_
  rintro e2 w2 ⟨rfl, rfl⟩
  clear c1 c2
  go_wp2
  refine bodyPost_ret (v := .tuple #[.pointer (some ⟨w2.heap.size, 0, none⟩), .int .i64 0]) (by simp [results, Try.results11, go_sem]) rfl ?_
  exact ⟨rfl, HP.out, (Below.refl _ _).alloc (Nat.le_refl _) _⟩
set_option maxHeartbeats 1000000 in
theorem cut_p (h : Pb w A S b) (hI : b.Inv) (hbl : b.last ≤ 4398046511104) (i : Int) (snap : ByteArray) : Calls Try.prog 31 #[.pointer (some ⟨A, 0, none⟩), .int .i64 i, .string snap] w fun e w' => e = .returned (.bool (b.cut i snap).1) ∧ Pt w w' A S (b.cut i snap).2 := by
  have hbc := hI.bc
  have hcl := hI.cl
  by_cases hi : b.base < i ∧ i ≤ b.commit
  · have ec : b.cut i snap = (true, b.rebase i (b.termAt i) snap (b.log.drop (i - b.base).toNat)) := if_pos hi
    have ht := termOf_any h i (by omega) (by omega)
    have hlt := h.lt
    obtain ⟨lv, pf, hv⟩ := h
    have c4 : w.cell? ⟨A, 4, none⟩ = some (.int .i64 b.base) := hv.cell 4
    have c6 : w.cell? ⟨A, 6, none⟩ = some (.int .i64 b.commit) := hv.cell 6
    have hbe := fun n => behind_any (hv.on (below_draw (Below.refl _ w) n)) (i := i) (by omega) (by omega)
    have hl : (b.log.drop (i - b.base).toNat).length = b.log.length - (i - b.base).toNat := by simp
    obtain ⟨tm, htm⟩ : ∃ tm, b.termAt i = tm := ⟨_, rfl⟩
    rw [htm] at ht ec
    have b1 := hv.b1
    have b0 := hv.b0
    have hlast : b.last ≤ 4398047411104 := by have := hv.len; unfold Bs.last; omega
    have hreb : ∀ n, Calls Try.prog 54 #[.pointer (some ⟨A, 0, none⟩), .int .i64 i] (w.drewN n) fun e w' => ∃ ad cap, e = .returned (.slice ad (b.log.drop (i - b.base).toNat).length cap) ∧ Calls Try.prog 52 #[.pointer (some ⟨A, 0, none⟩), .int .i64 i, .int .i64 tm, .string snap, .slice ad (b.log.drop (i - b.base).toNat).length cap] w' fun e w' => e = .returned (.tuple #[]) ∧ Pt w w' A S (b.cut i snap).2 := by
      intro n
      refine (hbe n).mono ?_
      rintro e w' ⟨ad, cap, rfl, q1, q2, q3⟩
      have hfS : Fr w w' S := ((Fr.refl w S).drewN n).step (q2.mono (fun k hk => hv.cov k hk)) (fun k hk => .inl hk)
      rw [← hl] at q1 q3 ⊢
      refine ⟨ad, cap, rfl, (rebase_p (tm := tm) (snap := snap) ((q2.block A (hlt A hv.covA) (fun q => hv.neA A q rfl)).trans hv.ob) q1 hv.covA (fun k hk => hv.cov k (q3 k hk)) (fun k hk => Nat.lt_of_lt_of_le (hlt k hk) hfS.size) (by have := hv.len; rw [hl]; omega) (by omega) ?_ hv.idl hv.sz).mono ?_⟩
      · omega
      · rintro e w'' ⟨rfl, r1, r2⟩
        refine ⟨rfl, ?_⟩
        rw [ec]
        have em : ({ b.rebase i tm snap (b.log.drop (i - b.base).toNat) with commit := max b.commit i } : Bs) = b.rebase i tm snap (b.log.drop (i - b.base).toNat) := by
          rw [show max b.commit i = b.commit by omega]
          rfl
        rw [em] at r1
        exact Pt.start r1 (hfS.trans r2)
    have e1 : (b.cut i snap).1 = true := by rw [ec]
    rw [e1]
    obtain ⟨L, hL⟩ : ∃ L, (b.log.drop (i - b.base).toNat).length = L := ⟨_, rfl⟩
    rw [hL] at hreb
    have HR := Lib.hid hreb
    obtain ⟨hi1, hi2⟩ := hi
    clear hv hbe hl ec e1 hreb hL htm hlt hI
    go_enter Try.func31, Try.ntmps31
    go_wp2_with fail
    refine ht.mono ?_
    rintro e2 w2 ⟨rfl, n2, rfl⟩
    clear ht
    go_wp2_with fail
    refine (HR.out n2).mono ?_
    rintro e3 w3 ⟨ad, cap, rfl, hc3⟩
    go_wp2_with fail
    refine hc3.mono ?_
    rintro e4 w4 ⟨rfl, q⟩
    have HQ := Lib.hid q
    clear q hc3
    go_wp2
    go_ret
    exact ⟨rfl, HQ.out⟩
  · have ec : b.cut i snap = (false, b) := if_neg hi
    rw [ec]
    have HH := Lib.hid h
    obtain ⟨lv, pf, hv⟩ := h
    have c4 : w.cell? ⟨A, 4, none⟩ = some (.int .i64 b.base) := hv.cell 4
    have c6 : w.cell? ⟨A, 6, none⟩ = some (.int .i64 b.commit) := hv.cell 6
    clear hv ec
    by_cases q1 : i ≤ b.base
    · go_enter Try.func31, Try.ntmps31
      go_wp2
      go_ret
      exact ⟨rfl, Pt.same HH.out (Below.refl _ _)⟩
    · have q2 : b.commit < i := by omega
      go_enter Try.func31, Try.ntmps31
      go_wp2
      go_ret
      exact ⟨rfl, Pt.same HH.out (Below.refl _ _)⟩
abbrev en0 : En := ⟨0, 0, 0, noT⟩
set_option maxHeartbeats 1000000 in
set_option maxRecDepth 100000 in
theorem entry_p (h : Pb w A S b) (i : Int) : Calls Try.prog 24 #[.pointer (some ⟨A, 0, none⟩), .int .i64 i] w fun e w' => e = .returned (.tuple #[enV ((b.at? i).getD en0), .bool (b.at? i).isSome]) ∧ Below w.heap.size w w' := by
  obtain ⟨lv, pf, hv⟩ := h
  have hal : Below w.heap.size w (w.alloc (enO en0)) := (Below.refl _ w).alloc (Nat.le_refl _) _
  have hv1 := hv.alloc (enO en0)
  have b1 := hv.b1
  have b0 := hv.b0
  have l1 := hv.len
  have c4 : (w.alloc (.cells #[.int .i64 0, .int .i64 0, .int .i64 0, .string ⟨#[]⟩] 49)).cell? ⟨A, 4, none⟩ = some (.int .i64 b.base) := hv1.cell 4
  have c5 : (w.alloc (.cells #[.int .i64 0, .int .i64 0, .int .i64 0, .string ⟨#[]⟩] 49)).cell? ⟨A, 5, none⟩ = some (.int .i64 b.last) := hv1.cell 5
  have c11 : (w.alloc (.cells #[.int .i64 0, .int .i64 0, .int .i64 0, .string ⟨#[]⟩] 49)).cell? ⟨A, 11, none⟩ = some (lv) := hv1.cell 11
  by_cases hi : b.base < i ∧ i ≤ b.last
  · obtain ⟨k, hk⟩ : ∃ k : Nat, i = b.base + 1 + k := ⟨(i - b.base - 1).toNat, by omega⟩
    have hi2 : i ≤ b.base + b.log.length := hi.2
    have hkl : k < b.log.length := by omega
    have ea : b.at? i = some b.log[k] := by
      unfold Bs.at?
      rw [if_pos hi.1, show (i - b.base - 1).toNat = k by omega, List.getElem?_eq_getElem hkl]
    rw [ea]
    obtain ⟨g, o, cap, rfl, x0, x1, x2, x3⟩ := hv1.log.get hkl
    obtain ⟨y, hy⟩ : ∃ y, b.log[k] = y := ⟨_, rfl⟩
    rw [hy] at x0 x1 x2 x3 ⊢
    obtain ⟨k1, hk1⟩ : ∃ k1 : Nat, k + 1 = k1 := ⟨_, rfl⟩
    have i1 : IntKind.i64.wrap (i - b.base) = (k1 : Int) := by rw [IntKind.wrap_i64]; omega
    have i5 : IntKind.i64.wrap ((k1 : Int) - 1) = (k : Int) := by rw [IntKind.wrap_i64]; omega
    have w2 : (0 : Int) ≤ k := by omega
    have w3 : (k : Int) < b.log.length := by omega
    obtain ⟨hi1, hi3⟩ := hi
    have hg : g ≠ w.heap.size := by
      intro e
      have h1 := hv1.log.lt g
      rcases hv.log with ⟨z, _⟩ | ⟨g', o', cap', cur, z, z1, _, _, z3, _⟩
      · rw [z] at hkl; simp at hkl
      · cases z
        have := blk_lt z3
        omega
    clear hv hv1 ea hy hk hk1 hi2
    go_enter Try.func24, Try.ntmps24
    go_wp2
    go_region
    go_wp2
    refine bodyPost_ret (v := .tuple #[enV y, .bool true]) (by simp [results, Try.results24, go_sem]) rfl ?_
    exact ⟨rfl, ((Below.refl _ _).alloc (Nat.le_refl _) _).drew⟩
  · have ea : b.at? i = none := Bs.at_none (by omega)
    rw [ea]
    clear hv hv1 ea
    by_cases q1 : i ≤ b.base
    · go_enter Try.func24, Try.ntmps24
      go_wp2
      refine bodyPost_ret (v := .tuple #[enV en0, .bool false]) (by simp [results, Try.results24, go_sem]) rfl ?_
      exact ⟨rfl, hal⟩
    · have q2 : b.last < i := by omega
      go_enter Try.func24, Try.ntmps24
      go_wp2
      refine bodyPost_ret (v := .tuple #[enV en0, .bool false]) (by simp [results, Try.results24, go_sem]) rfl ?_
      exact ⟨rfl, hal⟩
end
end Go.Proofs.Ytmiagjcihmenfaa
/- What holds between calls, call by call. -/
namespace Go.Proofs.Ytmiagjcihmenfaa

theorem settleC_has (b : Bs) : b.settleC.has = b.has ∧ b.settleC.role = b.role := by
  unfold Bs.settleC
  split <;> exact ⟨rfl, rfl⟩
theorem Ld.settle {b : Bs} (h : b.Ld) : b.settleC.Ld := by
  have s := settleC_same b
  refine ⟨fun k hk => ?_, fun k hk => ?_, fun k hk => ?_⟩
  · rw [s.2.1, s.2.2.1]; rw [s.2.2.2.2.2] at hk; exact h.nx k hk
  · rw [s.1, s.2.2.1]; rw [s.2.2.2.2.2] at hk; exact h.mt k hk
  · rw [s.1, s.2.1]; rw [s.2.2.2.2.2] at hk; exact h.lo k hk
theorem Hs.settle {b : Bs} (h : b.Hs) : b.settleC.Hs := by
  intro k hk
  rw [(settleC_has b).1]
  rw [(settleC_same b).2.2.2.2.2] at hk
  exact h k hk
theorem inv_settleC {b : Bs} (h : b.Inv) : b.settleC.Inv := by
  have := (Bs.settle_stays h).2.1
  rw [Bs.settle_eq] at this
  exact ⟨this.idl, this.sz, this.hs, this.nx, this.mt, this.b0, this.bc, this.cl, this.v0, this.v1, this.t0⟩
theorem inv_out {b : Bs} (h : b.Inv) (o : List Ms) : ({ b with out := o } : Bs).Inv := ⟨h.idl, h.sz, h.hs, h.nx, h.mt, h.b0, h.bc, h.cl, h.v0, h.v1, h.t0⟩
theorem ok_settled {X : Bs} (hI : X.Inv) (hH : X.Hs) (hL : X.Ld) : Ok { X.settleC with out := [] } :=
  ⟨inv_out (inv_settleC hI) [], Hs.settle hH, fun _ => ⟨(Ld.settle hL).nx, (Ld.settle hL).mt, (Ld.settle hL).lo⟩, rfl⟩
theorem put_inv {b : Bs} (h : b.Inv) (e : En) : (b.put (b.last + 1) [e]).Inv := (Bs.put_stays [e] h (by have := h.cl; omega) (Int.le_refl _) (.inl rfl)).2
theorem base_last (b : Bs) : b.base ≤ b.last := by unfold Bs.last; omega
theorem ok_led {X : Bs} (hI : X.Inv) (hH : X.Hs) : Ok { (led X).settleC with out := [] } :=
  ok_settled (put_inv (b := X.leads) (Bs.leads_stays hI).2 _) hH (Ld.put (b := X.leads) (led_ok hI) (base_last X))
section
variable {b : Bs}
theorem timeout_ok (ok : Ok b) : Ok b.timeout.1 := by
  by_cases hr : b.role = 2
  · rw [show b.timeout = (b, []) from if_pos hr]
    exact ok
  · have hIs : b.stand.Inv := by
      have h := ok.inv
      have hi := h.idl
      have ht := h.t0
      exact ⟨h.idl, h.sz, by simp [Bs.stand], h.nx, h.mt, h.b0, h.bc, h.cl, by show -1 ≤ (b.id : Int); omega, by show (b.id : Int) < b.size; omega, by show 0 ≤ b.term + 1; omega⟩
    have hHs := stand_hs ok.inv.idl ok.inv.sz
    rw [timeout_eq ok hr]
    split
    · exact ok_led hIs hHs
    · exact ⟨hIs, hHs, (fun q => by cases q), ok.out⟩
theorem beat_ok (ok : Ok b) : Ok b.beat.1 := by
  have : b.beat.1 = b := by
    unfold Bs.beat
    split
    · rw [Bs.feedAll_eq]
      exact out_self ok.out
    · exact out_self ok.out
  rw [this]
  exact ok
theorem propose_ok (ok : Ok b) (a c : Int) (t : ByteArray) : Ok (b.propose a c t).2.1 := by
  unfold Bs.propose
  split
  · rename_i hr
    rw [Bs.all_sent (b.put (b.last + 1) [⟨b.term, a, c, t⟩]) ok.out]
    exact ok_settled (put_inv ok.inv _) ok.hs (Ld.put (ok.ld hr) (base_last b))
  · exact ok
theorem cut_ok (ok : Ok b) (i : Int) (t : ByteArray) : Ok (b.cut i t).2 := by
  have hI := (Bs.cut_stays ok.inv i t).2
  unfold Bs.cut at *
  split
  · rename_i h
    rw [if_pos h] at hI
    refine ⟨hI, ok.hs, fun hr => ?_, ok.out⟩
    have hl : (b.rebase i (b.termAt i) t (b.log.drop (i - b.base).toNat)).last = b.last := by
      have := ok.inv.cl
      unfold Bs.rebase Bs.last at *
      simp only [List.length_drop]
      omega
    have h := ok.ld hr
    refine ⟨fun k hk => ?_, fun k hk => ?_, h.lo⟩
    · rw [hl]; exact h.nx k hk
    · rw [hl]; exact h.mt k hk
  · exact ok
theorem ask_ok (ok : Ok b) {m : Ms} (h0 : 0 ≤ m.fr) (h1 : m.fr < b.size) : Ok (b.ask m).sent.1 := by
  have hI := (Bs.ask_stays ok.inv h0 h1).2
  rw [ask_eq] at hI ⊢
  have hI' := inv_out hI []
  show Ok { askC b m with out := [] }
  unfold askC at *
  split
  · rename_i h
    rw [if_pos h] at hI'
    exact ⟨hI', ok.hs, fun hr => ⟨(ok.ld hr).nx, (ok.ld hr).mt, (ok.ld hr).lo⟩, rfl⟩
  · exact ⟨inv_out ok.inv [], ok.hs, fun hr => ⟨(ok.ld hr).nx, (ok.ld hr).mt, (ok.ld hr).lo⟩, rfl⟩
theorem vote_ok (ok : Ok b) {m : Ms} (h0 : 0 ≤ m.fr) (h1 : m.fr < b.size) : Ok (b.vote' m).sent.1 := by
  unfold Bs.vote'
  split
  · rename_i hq
    have hs := ok.inv.sz
    obtain ⟨X, hX⟩ : ∃ X, ({ b with has := b.has.set m.fr.toNat true } : Bs) = X := ⟨_, rfl⟩
    rw [hX]
    have hXI : X.Inv := by
      rw [← hX]
      have h := ok.inv
      exact ⟨h.idl, h.sz, by simpa using h.hs, h.nx, h.mt, h.b0, h.bc, h.cl, h.v0, h.v1, h.t0⟩
    have hXH : X.Hs := by
      rw [← hX]
      intro k hk
      have hk' : b.size ≤ k := hk
      show (b.has.set m.fr.toNat true).getD k false = false
      rw [getD_setB _ _ _ _ (by rw [ok.inv.hs]; omega), if_neg (by omega)]
      exact ok.hs k hk'
    have hXo : X.out = [] := by rw [← hX]; exact ok.out
    have hXr : X.role = 1 := by rw [← hX]; exact hq.1
    unfold Bs.count
    split
    · rw [Bs.sent_so X hXo]
      exact ⟨hXI, hXH, (fun q => by rw [hXr] at q; cases q), hXo⟩
    · have := Bs.all_sent (led X) hXo
      show Ok ((led X).feedAll.settle.sent).1
      rw [this]
      exact ok_led hXI hXH
  · rw [Bs.sent_so b ok.out]
    exact ok
theorem heard_ok (ok : Ok b) {m : Ms} (h0 : 0 ≤ m.fr) (h1 : m.fr < b.size) : Ok (b.heard m).sent.1 := by
  by_cases hr : b.role = 2
  · have hs := ok.inv.sz
    have hI := (Bs.heard_stays (m := m) ok.inv).2
    cases hg : m.good with
    | false =>
      rw [heard_less ok hr m hg]
      have hn := (Bs.nums_stays ok.inv (b.next.set m.fr.toNat (max (min (m.index + 1) (b.next.getD m.fr.toNat 0 - 1)) (b.mat.getD m.fr.toNat 0 + 1))) b.mat (by simpa using ok.inv.nx) ok.inv.mt).2
      exact ⟨hn, ok.hs, fun _ => (less_ld ok hr (f := m.fr.toNat) (by omega) m.index).1, ok.out⟩
    | true =>
      rw [heard_more ok hr m hg rfl rfl rfl (by omega)]
      have hXL := more_ld ok hr (f := m.fr.toNat) (by omega) m.index
      have hn := (Bs.nums_stays ok.inv (b.next.set m.fr.toNat (max (b.mat.getD m.fr.toNat 0) (min m.index b.last) + 1)) (b.mat.set m.fr.toNat (max (b.mat.getD m.fr.toNat 0) (min m.index b.last))) (by simpa using ok.inv.nx) (by simpa using ok.inv.mt)).2
      have hX : (b.more m.fr.toNat m.index).out = [] := ok.out
      exact ⟨inv_settleC (b := b.more m.fr.toNat m.index) hn, Hs.settle (b := b.more m.fr.toNat m.index) ok.hs, fun _ => Ld.settle hXL, (Bs.settleC_sz _).trans hX⟩
  · unfold Bs.heard
    rw [if_neg hr, Bs.sent_so b ok.out]
    exact ok
theorem lay_has (X : Bs) : ∀ (l : List En) (i : Int), (X.lay i l).has = X.has ∧ (X.lay i l).role = X.role ∧ (X.lay i l).size = X.size
  | [], i => ⟨rfl, rfl, rfl⟩
  | e :: l, i => by
    unfold Bs.lay
    split
    · exact ⟨rfl, rfl, rfl⟩
    · exact lay_has X l (i + 1)
theorem reach_has (X : Bs) (c : Int) : (X.reach c).has = X.has ∧ (X.reach c).role = X.role ∧ (X.reach c).size = X.size := by
  unfold Bs.reach
  split <;> exact ⟨rfl, rfl, rfl⟩
theorem entries_ok (ok : Ok b) {m : Ms} (hp : 0 ≤ m.prev) : Ok (b.entries m).sent.1 := by
  have hI : (b.entries m).sent.1.Inv := (Bs.entries_stays ok.inv hp).2.so (Bs.so_sent _)
  by_cases hr : b.role = 2
  · rw [show (b.entries m) = b from if_pos hr, Bs.sent_so b ok.out]
    exact ok
  · have key : (b.entries m).has = b.has ∧ (b.entries m).role = 0 ∧ (b.entries m).size = b.size := by
      unfold Bs.entries
      rw [if_neg hr]
      simp only
      split
      · exact ⟨rfl, rfl, rfl⟩
      · split
        · exact ⟨rfl, rfl, rfl⟩
        · have h1 := lay_has ({ b with role := 0, lead := m.fr } : Bs) m.list (m.index + 1)
          have h2 := reach_has (({ b with role := 0, lead := m.fr } : Bs).lay (m.index + 1) m.list) (min m.commit (m.index + m.list.length))
          exact ⟨h2.1.trans h1.1, h2.2.1.trans h1.2.1, h2.2.2.trans h1.2.2⟩
    refine ⟨hI, fun k hk => ?_, fun q => ?_, rfl⟩
    · show (b.entries m).has.getD k false = false
      rw [key.1]
      exact ok.hs k (by rw [← key.2.2]; exact hk)
    · have q' : (b.entries m).role = 2 := q
      rw [key.2.1] at q'
      cases q'
theorem given_ok (ok : Ok b) {m : Ms} : Ok (b.given m).sent.1 := by
  have hI : (b.given m).sent.1.Inv := (Bs.given_stays (m := m) ok.inv).2.so (Bs.so_sent _)
  by_cases hr : b.role = 2
  · rw [show (b.given m) = b from if_pos hr, Bs.sent_so b ok.out]
    exact ok
  · rw [given_eq b m ok.out hr] at hI ⊢
    split
    · rename_i h
      rw [if_pos h] at hI
      exact ⟨hI, ok.hs, (fun q => by cases q), ok.out⟩
    · rename_i h
      rw [if_neg h] at hI
      exact ⟨hI, ok.hs, (fun q => by cases q), ok.out⟩
theorem take_ok (ok : Ok b) (m : Ms) : Ok (b.take m).1 := by
  unfold Bs.take
  split
  · exact ok
  · rename_i hs
    have okY := newer_ok ok m
    have hYs : (b.newer m).size = b.size := by
      unfold Bs.newer
      split <;> rfl
    unfold Bs.strange at hs
    have h0 : 0 ≤ m.fr := by omega
    have h1 : m.fr < (b.newer m).size := by rw [hYs]; omega
    have hp : 0 ≤ m.prev := by omega
    split
    · have : ((b.newer m).old m).sent.1 = b.newer m := by
        unfold Bs.old
        split
        · rw [sent_one _ _ okY.out]
        · split
          · rw [sent_one _ _ okY.out]
          · rw [Bs.sent_so _ okY.out]
      rw [this]
      exact okY
    · unfold Bs.act
      split
      · exact ask_ok okY h0 h1
      · split
        · exact vote_ok okY h0 h1
        · split
          · exact entries_ok okY hp
          · split
            · exact heard_ok okY h0 h1
            · exact given_ok okY
end
end Go.Proofs.Ytmiagjcihmenfaa
/- The walk of the law's copied. -/
namespace Go.Proofs.Ytmiagjcihmenfaa
open Go.RowKit

section
variable {w w' : World} {A : Nat} {S T : Nat → Prop} {b : Bs} {lv : Value} {pf : Int}
theorem own_emptyP (w : World) : (w.alloc (.cells #[] 49)).ownsRow w.heap.size 49 4 (.slice (some ⟨w.heap.size, 0, none⟩) 0 0) 0 [] :=
  ⟨rfl, .inr ⟨w.heap.size, 0, #[], rfl, Nat.le_refl _, heap_alloc_new w _, Nat.le_refl _, Nat.zero_le _, rfl, rfl⟩⟩
set_option maxHeartbeats 1000000 in
set_option maxRecDepth 100000 in
theorem copiedL_p {m : Ms} {mad : Option Addr} {mcap : Nat} (hE : Es w S m.list (.slice mad m.list.length mcap)) (hS : ∀ k, S k → k < w.heap.size) (hz : m.list.length * 40 ≤ 140737488355328) : Calls Try.prog 30 #[msV m (.slice mad m.list.length mcap)] w fun e w' => ∃ ad cap, e = .returned (msV m (.slice ad m.list.length cap)) ∧ Below w.heap.size w w' ∧ Es w' S m.list (.slice ad m.list.length cap) := by
  -- the box, then the result
  obtain ⟨W1, hW1⟩ : ∃ W1, W1 = w.alloc (.cells #[.int .i64 m.kind, .int .i64 m.fr, .int .i64 m.tgt, .int .i64 m.term, .int .i64 m.index, .int .i64 m.prev, .int .i64 m.commit, .bool m.good, .slice mad m.list.length mcap, .string m.snap] 34) := ⟨_, rfl⟩
  have hb1 : Below w.heap.size w W1 := by rw [hW1]; exact (Below.refl _ w).alloc (Nat.le_refl _) _
  have k1 : W1.heap[w.heap.size]? = some (msO m (.slice mad m.list.length mcap)) := by rw [hW1]; exact heap_alloc_new w _
  obtain ⟨W2, hW2⟩ : ∃ W2, W2 = W1.alloc Z34 := ⟨_, rfl⟩
  have hb2' : Below W1.heap.size W1 W2 := by rw [hW2]; exact (Below.refl _ W1).alloc (Nat.le_refl _) _
  have hb2 : Below w.heap.size w W2 := hb1.trans (hb2'.mono hb1.size)
  have k2 : W2.heap[w.heap.size]? = some (msO m (.slice mad m.list.length mcap)) := (hb2'.block _ (blk_lt k1)).trans k1
  have r2 : W2.heap[W1.heap.size]? = some Z34 := by rw [hW2]; exact heap_alloc_new W1 _
  -- the copy
  have hE2 := hE.on hb2
  have hal : Below W2.heap.size W2 (W2.alloc (.cells #[] 49)) := (Below.refl _ W2).alloc (Nat.le_refl _) _
  obtain ⟨v, w3, hrun, ho, hg, _⟩ := ens_run (w := W2.alloc (.cells #[] 49)) (own_emptyP W2) hal.size (hE2.on hal).src (enC_one _) (by omega)
  simp only [Nat.zero_add, List.nil_append] at ho
  have hb3' : Below W2.heap.size W2 w3 := hal.grown hg hal.size (fun k hk => ((own_emptyP W2).lt k hk).1)
  obtain ⟨ad, cap, rfl⟩ := own_shape ho
  have k3 : w3.heap[w.heap.size]? = some (msO m (.slice mad m.list.length mcap)) := (hb3'.block _ (blk_lt k2)).trans k2
  have r3 : w3.heap[W1.heap.size]? = some Z34 := (hb3'.block _ (blk_lt r2)).trans r2
  have hne : W1.heap.size ≠ w.heap.size := by have := blk_lt k1; omega
  have e8 : (W2.alloc (.cells #[] 49)).cell? ⟨w.heap.size, 8, none⟩ = some (.slice mad m.list.length mcap) := by
    rw [cell_blk ((hal.block _ (blk_lt k2)).trans k2)]; rfl
  have d8 : w3.cell? ⟨w.heap.size, 8, none⟩ = some (.slice mad m.list.length mcap) := cell_blk k3 8
  have f8 : w3.frozen? ⟨w.heap.size, 8, none⟩ = false := frozen_blk k3 8
  obtain ⟨W4, hW4⟩ : ∃ W4, W4 = w3.setCell ⟨w.heap.size, 8, none⟩ (.slice ad m.list.length cap) := ⟨_, rfl⟩
  have k4 : W4.heap[w.heap.size]? = some (msO m (.slice ad m.list.length cap)) := by rw [hW4]; exact set_blk (i := 8) k3 _
  have r4 : W4.heap[W1.heap.size]? = some Z34 := by rw [hW4, set_other _ hne]; exact r3
  have hsz1 : W1.heap.size = w.heap.size + 1 := by rw [hW1]; simp
  rw [hsz1] at r4
  have hf4 : Fr w W4 (fun _ => False) := by
    rw [hW4]
    exact Fr.set (a := ⟨w.heap.size, 8, none⟩) ((Fr.ofBelow (fun _ => False) hb2).below hb3') (Or.inr (Nat.le_refl _)) _
  have ho4 : W4.ownsRow W2.heap.size 49 4 (.slice ad m.list.length cap) m.list.length (enC m.list) := by
    rw [hW4]
    exact own_like ho (fun q hq => set_other _ (fun e => by have := (ho.lt q hq).1; have := blk_lt k2; have e' : q = w.heap.size := e; omega))
  have m0 : W4.cell? ⟨w.heap.size, 0, none⟩ = some (.int .i64 m.kind) := cell_blk k4 0
  have m1 : W4.cell? ⟨w.heap.size, 1, none⟩ = some (.int .i64 m.fr) := cell_blk k4 1
  have m2 : W4.cell? ⟨w.heap.size, 2, none⟩ = some (.int .i64 m.tgt) := cell_blk k4 2
  have m3 : W4.cell? ⟨w.heap.size, 3, none⟩ = some (.int .i64 m.term) := cell_blk k4 3
  have m4 : W4.cell? ⟨w.heap.size, 4, none⟩ = some (.int .i64 m.index) := cell_blk k4 4
  have m5 : W4.cell? ⟨w.heap.size, 5, none⟩ = some (.int .i64 m.prev) := cell_blk k4 5
  have m6 : W4.cell? ⟨w.heap.size, 6, none⟩ = some (.int .i64 m.commit) := cell_blk k4 6
  have m7 : W4.cell? ⟨w.heap.size, 7, none⟩ = some (.bool m.good) := cell_blk k4 7
  have m8 : W4.cell? ⟨w.heap.size, 8, none⟩ = some (.slice ad m.list.length cap) := cell_blk k4 8
  have m9 : W4.cell? ⟨w.heap.size, 9, none⟩ = some (.string m.snap) := cell_blk k4 9
  have r00 : W4.cell? ⟨w.heap.size + 1, 0, none⟩ = some (.int .i64 0) := cell_blk r4 0
  have q00 : W4.frozen? ⟨w.heap.size + 1, 0, none⟩ = false := frozen_blk r4 0
  have r10 : W4.cell? ⟨w.heap.size + 1, 1, none⟩ = some (.int .i64 0) := cell_blk r4 1
  have q10 : W4.frozen? ⟨w.heap.size + 1, 1, none⟩ = false := frozen_blk r4 1
  have r20 : W4.cell? ⟨w.heap.size + 1, 2, none⟩ = some (.int .i64 0) := cell_blk r4 2
  have q20 : W4.frozen? ⟨w.heap.size + 1, 2, none⟩ = false := frozen_blk r4 2
  have r30 : W4.cell? ⟨w.heap.size + 1, 3, none⟩ = some (.int .i64 0) := cell_blk r4 3
  have q30 : W4.frozen? ⟨w.heap.size + 1, 3, none⟩ = false := frozen_blk r4 3
  have r40 : W4.cell? ⟨w.heap.size + 1, 4, none⟩ = some (.int .i64 0) := cell_blk r4 4
  have q40 : W4.frozen? ⟨w.heap.size + 1, 4, none⟩ = false := frozen_blk r4 4
  have r50 : W4.cell? ⟨w.heap.size + 1, 5, none⟩ = some (.int .i64 0) := cell_blk r4 5
  have q50 : W4.frozen? ⟨w.heap.size + 1, 5, none⟩ = false := frozen_blk r4 5
  have r60 : W4.cell? ⟨w.heap.size + 1, 6, none⟩ = some (.int .i64 0) := cell_blk r4 6
  have q60 : W4.frozen? ⟨w.heap.size + 1, 6, none⟩ = false := frozen_blk r4 6
  have r70 : W4.cell? ⟨w.heap.size + 1, 7, none⟩ = some (.bool false) := cell_blk r4 7
  have q70 : W4.frozen? ⟨w.heap.size + 1, 7, none⟩ = false := frozen_blk r4 7
  have r80 : W4.cell? ⟨w.heap.size + 1, 8, none⟩ = some (.slice none 0 0) := cell_blk r4 8
  have q80 : W4.frozen? ⟨w.heap.size + 1, 8, none⟩ = false := frozen_blk r4 8
  have r90 : W4.cell? ⟨w.heap.size + 1, 9, none⟩ = some (.string ⟨#[]⟩) := cell_blk r4 9
  have q90 : W4.frozen? ⟨w.heap.size + 1, 9, none⟩ = false := frozen_blk r4 9
  have HW1 := Lib.hid hW1
  have HW2 := Lib.hid hW2
  have HW4 := Lib.hid hW4
  have HR4 := Lib.hid r4
  have HF4 := Lib.hid hf4
  have HO4 := Lib.hid ho4
  have HLT : Hid (∀ k, S k → k < W2.heap.size) := fun k hk => Nat.lt_of_lt_of_le (hS k hk) hb2.size
  clear hsz1 hne hW1 hW2 hW4 hb1 hb2 hb2' k1 k2 r2 hE2 hal hg ho hb3' k3 r3 k4 r4 hf4 ho4 hE
  go_enter Try.func30, Try.ntmps30
  go_upto_region 1 with fail
  rw [← HW1.out, ← HW2.out]
  go_upto_region 2 with (at_builtin; refine wpl_run2 _ _ rfl (by simp [Act.eval]) (by simp [Act.eval]) hrun ?_)
  rw [← HW4.out]
  clear hrun d8 f8 e8
  go_wp2
  obtain ⟨e1, e2⟩ := setMs_blk m (.slice ad m.list.length cap) HR4.out
  refine bodyPost_ret (ret_ms rfl _ rfl e1) rfl ⟨ad, cap, rfl, ?_, ?_⟩
  · exact (HF4.out.step e2 (fun j q => .inr (by have q' : j = w.heap.size + 1 := q; omega))).fresh (fun _ q => q.elim)
  · have ho5 := own_like HO4.out (fun q hq => e2.block q (HO4.out.lt q hq).2 (fun e => by
      obtain ⟨cs, hc⟩ := own_tag2 HO4.out q hq
      have e' : q = w.heap.size + 1 := e
      subst e'
      exact tag_ne HR4.out hc (by decide) rfl))
    exact Es.own ho5 (fun q hq hs => by have := HLT.out q hs; have := (HO4.out.lt q hq).1; omega)
end
end Go.Proofs.Ytmiagjcihmenfaa
/- The walks of the program's fits and of slices.Clone over entries. -/
namespace Go.Proofs.Ytmiagjcihmenfaa
open Go.RowKit

/-- A change as a value. -/
abbrev deV (d : De) (v : Value) : Value := .agg #[.int .i64 d.term, .int .i64 d.vote, .bool d.whole, .int .i64 d.base, .int .i64 d.baseTerm, .string d.snap, .int .i64 d.fr, v]
abbrev deO (d : De) (v : Value) : Obj := .cells #[.int .i64 d.term, .int .i64 d.vote, .bool d.whole, .int .i64 d.base, .int .i64 d.baseTerm, .string d.snap, .int .i64 d.fr, v] 44
abbrev deB (d : De) (v : Value) : Obj := .cells #[.int .i64 d.term, .int .i64 d.vote, .bool d.whole, .int .i64 d.base, .int .i64 d.baseTerm, .string d.snap, .int .i64 d.fr, v] 44 (0, 0)
theorem may_w {b : Bs} {d : De} (h : d.whole = true) : b.may d ↔ 0 ≤ d.term ∧ d.term ≤ 2199023255552 ∧ -1 ≤ d.vote ∧ d.vote < b.size ∧ 0 ≤ d.base ∧ d.base ≤ 2199023255552 ∧ 0 ≤ d.baseTerm ∧ d.baseTerm ≤ 2199023255552 := by
  unfold Bs.may
  rw [if_pos h]
theorem may_n {b : Bs} {d : De} (h : d.whole = false) : b.may d ↔ 0 ≤ d.term ∧ d.term ≤ 2199023255552 ∧ -1 ≤ d.vote ∧ d.vote < b.size ∧ b.base + 1 ≤ d.fr ∧ d.fr ≤ b.last + 1 := by
  unfold Bs.may
  rw [if_neg (by rw [h]; decide)]
section
variable {w w' : World} {A : Nat} {S T : Nat → Prop} {b : Bs} {lv : Value} {pf : Int}
set_option maxHeartbeats 1000000 in
set_option maxRecDepth 100000 in
theorem clone_p {L : List En} {ad : Option Addr} {cap : Nat} (hE : Es w S L (.slice ad L.length cap)) (hz : L.length * 40 ≤ 140737488355328) : Calls Try.prog 69 #[.slice ad L.length cap] w fun e w' => ∃ ad' cap', e = .returned (.slice ad' L.length cap') ∧ Below w.heap.size w w' ∧ Lg w' L (.slice ad' L.length cap') ∧ ∀ k, lgB (.slice ad' L.length cap') = some k → w.heap.size ≤ k := by
  cases ad with
  | none =>
    obtain ⟨ad1, cap1, e, h0, h1, _⟩ := hE
    cases e
    have hc := h0 rfl
    subst hc
    have hl : L = [] := List.eq_nil_of_length_eq_zero (by omega)
    subst hl
    clear h0 h1 hz
    have hq : ∀ w, (binOp BinOp.eql 32 (.slice none 0 0) (.slice none 0 0)).run Try.prog w = .ok (.bool true) w := fun _ => by kernel_rfl
    go_enter Try.func69, Try.ntmps69
    go_wp2
    refine bodyPost_ret (v := .slice none 0 0) (by simp [results, Try.results69, go_sem]) rfl ?_
    exact ⟨none, 0, rfl, Below.refl _ _, Lg.nil _, fun k hk => by cases hk⟩
  | some a =>
    have hal : Below w.heap.size w (w.alloc (.cells #[] 49)) := (Below.refl _ w).alloc (Nat.le_refl _) _
    obtain ⟨v, w3, hrun, ho, hg, _⟩ := ens_run (w := w.alloc (.cells #[] 49)) (own_emptyP w) hal.size (hE.on hal).src (enC_one _) (by omega)
    simp only [Nat.zero_add, List.nil_append] at ho
    have hb3 : Below w.heap.size w w3 := hal.grown hg hal.size (fun k hk => ((own_emptyP w).lt k hk).1)
    obtain ⟨ad', cap', rfl⟩ := own_shape ho
    have HO := Lib.hid ho
    have HB := Lib.hid hb3
    clear ho hb3 hg hal hE
    have hq : ∀ w, (binOp BinOp.eql 32 (.slice (some a) L.length cap) (.slice none 0 0)).run Try.prog w = .ok (.bool false) w := fun _ => by kernel_rfl
    go_enter Try.func69, Try.ntmps69
    go_wp2_with (at_builtin; refine wpl_run2 _ _ rfl (by simp [Act.eval]) (by simp [Act.eval]) hrun ?_)
    refine bodyPost_ret (v := .slice ad' L.length cap') (by simp [results, Try.results69, go_sem]) rfl ?_
    refine ⟨ad', cap', rfl, HB.out, Lg.own HO.out, fun k hk => ?_⟩
    have hq : (Value.slice ad' L.length cap').ownBlock = some k := by
      cases ad' with
      | none => cases hk
      | some a' =>
        cases cap' with
        | zero => cases hk
        | succ c => exact hk
    exact (HO.out.lt k hq).1
set_option maxHeartbeats 2000000 in
set_option maxRecDepth 100000 in
theorem fits_p (h : Pb w A S b) (d : De) (dv : Value) : Calls Try.prog 41 #[.pointer (some ⟨A, 0, none⟩), deV d dv] w fun e w' => e = .returned (.bool (decide (b.may d))) ∧ Below w.heap.size w w' := by
  obtain ⟨W, hW⟩ : ∃ W, W = w.alloc (deO d dv) := ⟨_, rfl⟩
  have hb : Below w.heap.size w W := by rw [hW]; exact (Below.refl _ w).alloc (Nat.le_refl _) _
  have hblk : W.heap[w.heap.size]? = some (deB d dv) := by rw [hW]; exact heap_alloc_new w _
  have hA := h.on hb
  have HW := Lib.hid hW
  have HB := Lib.hid hb
  have d0 : W.cell? ⟨w.heap.size, 0, none⟩ = some (.int .i64 d.term) := cell_blk hblk 0
  have d1 : W.cell? ⟨w.heap.size, 1, none⟩ = some (.int .i64 d.vote) := cell_blk hblk 1
  have d2 : W.cell? ⟨w.heap.size, 2, none⟩ = some (.bool d.whole) := cell_blk hblk 2
  have d3 : W.cell? ⟨w.heap.size, 3, none⟩ = some (.int .i64 d.base) := cell_blk hblk 3
  have d4 : W.cell? ⟨w.heap.size, 4, none⟩ = some (.int .i64 d.baseTerm) := cell_blk hblk 4
  have d6 : W.cell? ⟨w.heap.size, 6, none⟩ = some (.int .i64 d.fr) := cell_blk hblk 6
  have hnode := isNode_any hA d.vote
  have hw1 := within_any W d.term 0 2199023255552
  have hw2 := within_any W d.base 0 2199023255552
  have hw3 := within_any W d.baseTerm 0 2199023255552
  obtain ⟨lv, pf, hv⟩ := hA
  have c4 : W.cell? ⟨A, 4, none⟩ = some (.int .i64 b.base) := hv.cell 4
  have c5 : W.cell? ⟨A, 5, none⟩ = some (.int .i64 b.last) := hv.cell 5
  have z0 := hv.b0
  have z1 := hv.b1
  have z2 := hv.len
  have z3 : b.last ≤ b.base + 900000 := by unfold Bs.last; omega
  have z4 : b.base ≤ b.last := by unfold Bs.last; omega
  have hw4 : ∀ n, Calls Try.prog 27 #[.int .i64 d.fr, .int .i64 (b.base + 1), .int .i64 (b.last + 1)] (W.drewN n) fun e w' => e = .returned (.bool (decide (b.base + 1 ≤ d.fr) && decide (d.fr ≤ b.last + 1))) ∧ ∃ k, w' = (W.drewN n).drewN k := fun n => by
    refine (within_any _ d.fr (b.base + 1) (b.last + 1)).mono ?_
    rintro e w' ⟨rfl, rfl⟩
    exact ⟨rfl, 0, rfl⟩
  obtain ⟨x1, hx1⟩ : ∃ x, b.base + 1 = x := ⟨_, rfl⟩
  obtain ⟨x2, hx2⟩ : ∃ x, b.last + 1 = x := ⟨_, rfl⟩
  have hwa : IntKind.i64.wrap (b.base + 1) = x1 := by rw [IntKind.wrap_i64]; omega
  have hwb : IntKind.i64.wrap (b.last + 1) = x2 := by rw [IntKind.wrap_i64]; omega
  obtain ⟨fb, hfb⟩ : ∃ fb, decide (b.may d) = fb := ⟨_, rfl⟩
  rw [hfb]
  rw [hx1, hx2] at hw4
  have HX1 := Lib.hid hx1
  have HX2 := Lib.hid hx2
  have HFB := Lib.hid hfb
  obtain ⟨gb, hgb⟩ : ∃ gb, decide (¬ (0 ≤ d.term ∧ d.term ≤ 2199023255552) ∨ ¬ (-1 ≤ d.vote ∧ d.vote < b.size)) = gb := ⟨_, rfl⟩
  have HGB := Lib.hid hgb
  clear hv h hfb hgb hW hblk hb hx1 hx2
  go_enter Try.func41, Try.ntmps41
  go_upto_region 1 with fail
  rw [← HW.out]
  go_cut [20] (fun v wx => v = .bool gb ∧ wx = W)
  case first =>
    by_cases t1 : 0 ≤ d.term ∧ d.term ≤ 2199023255552
    · rw [decide_eq_true t1.1, decide_eq_true t1.2] at hw1
      by_cases t2 : d.vote = -1
      · have hg : gb = false := HGB.out.symm.trans (decide_eq_false (by omega))
        subst hg
        have e2 : (d.vote != -1) = false := by simpa using t2
        clear t1 t2
        go_wp2_with fail
        refine hw1.mono ?_
        rintro e w1 ⟨rfl, rfl⟩
        go_wp2_with fail
        go_meet
        exact ⟨rfl, rfl⟩
      · have e2 : (d.vote != -1) = true := by simpa using t2
        by_cases t3 : 0 ≤ d.vote ∧ d.vote ≤ b.size - 1
        · rw [decide_eq_true t3.1, decide_eq_true t3.2] at hnode
          have hg : gb = false := HGB.out.symm.trans (decide_eq_false (by omega))
          subst hg
          clear t1 t2 t3
          go_wp2_with fail
          refine hw1.mono ?_
          rintro e w1 ⟨rfl, rfl⟩
          go_wp2_with fail
          refine hnode.mono ?_
          rintro e w1 ⟨rfl, rfl⟩
          go_wp2_with fail
          go_meet
          exact ⟨rfl, rfl⟩
        · have e3 : (decide (0 ≤ d.vote) && decide (d.vote ≤ (b.size : Int) - 1)) = false := by
            rw [Bool.and_eq_false_iff]
            by_cases q : 0 ≤ d.vote
            · exact .inr (decide_eq_false (by omega))
            · exact .inl (decide_eq_false q)
          rw [e3] at hnode
          have hg : gb = true := HGB.out.symm.trans (decide_eq_true (by omega))
          subst hg
          clear t1 t2 t3 e3
          go_wp2_with fail
          refine hw1.mono ?_
          rintro e w1 ⟨rfl, rfl⟩
          go_wp2_with fail
          refine hnode.mono ?_
          rintro e w1 ⟨rfl, rfl⟩
          go_wp2_with fail
          go_meet
          exact ⟨rfl, rfl⟩
    · have e1 : (decide (0 ≤ d.term) && decide (d.term ≤ 2199023255552)) = false := by
        rw [Bool.and_eq_false_iff]
        by_cases q : 0 ≤ d.term
        · exact .inr (decide_eq_false (by omega))
        · exact .inl (decide_eq_false q)
      rw [e1] at hw1
      have hg : gb = true := HGB.out.symm.trans (decide_eq_true (.inl t1))
      subst hg
      clear t1 e1
      go_wp2_with fail
      refine hw1.mono ?_
      rintro e w1 ⟨rfl, rfl⟩
      go_wp2_with fail
      go_meet
      exact ⟨rfl, rfl⟩
  case rest =>
    obtain ⟨hcv, hwc⟩ := hcut
    subst hwc
    subst hcv
    cases gb with
    | true =>
      have q := of_decide_eq_true HGB.out
      have hf : fb = false := HFB.out.symm.trans (decide_eq_false (by
        intro m
        unfold Bs.may at m
        omega))
      subst hf
      clear q
      go_wp2
      go_ret
      exact ⟨rfl, HB.out⟩
    | false =>
      have q := of_decide_eq_false HGB.out
      cases hwh : d.whole with
      | true =>
        rw [hwh] at d2
        by_cases t4 : 0 ≤ d.base ∧ d.base ≤ 2199023255552
        · rw [decide_eq_true t4.1, decide_eq_true t4.2] at hw2
          have hf : fb = (decide (0 ≤ d.baseTerm) && decide (d.baseTerm ≤ 2199023255552)) := by
            rw [← HFB.out, ← Bool.decide_and]
            exact decide_eq_decide.2 ((may_w hwh).trans ⟨fun m => ⟨m.2.2.2.2.2.2.1, m.2.2.2.2.2.2.2⟩, fun m => by omega⟩)
          rw [← hf] at hw3
          clear hf t4 q hwh
          go_wp2_with fail
          refine hw2.mono ?_
          rintro e w1 ⟨rfl, rfl⟩
          go_wp2_with fail
          refine hw3.mono ?_
          rintro e w1 ⟨rfl, rfl⟩
          go_wp2
          go_ret
          exact ⟨rfl, HB.out⟩
        · have e3 : (decide (0 ≤ d.base) && decide (d.base ≤ 2199023255552)) = false := by
            rw [Bool.and_eq_false_iff]
            by_cases q : 0 ≤ d.base
            · exact .inr (decide_eq_false (by omega))
            · exact .inl (decide_eq_false q)
          rw [e3] at hw2
          have hf : fb = false := HFB.out.symm.trans (decide_eq_false (fun m => by have := (may_w hwh).1 m; omega))
          subst hf
          clear t4 q hwh e3
          go_wp2_with fail
          refine hw2.mono ?_
          rintro e w1 ⟨rfl, rfl⟩
          go_wp2
          go_ret
          exact ⟨rfl, HB.out⟩
      | false =>
        rw [hwh] at d2
        have hf : fb = (decide (x1 ≤ d.fr) && decide (d.fr ≤ x2)) := by
          rw [← HFB.out, ← Bool.decide_and, ← HX1.out, ← HX2.out]
          exact decide_eq_decide.2 ((may_n hwh).trans ⟨fun m => ⟨m.2.2.2.2.1, m.2.2.2.2.2⟩, fun m => by omega⟩)
        rw [← hf] at hw4
        clear hf q hwh
        go_wp2
        go_quiet ((go_at_call 27; exact Calls.quiet_of (hw4 _)))
        go_wp2
        go_ret
        exact ⟨rfl, below_draw HB.out _⟩
end
end Go.Proofs.Ytmiagjcihmenfaa
/- The walk of the program's redo, a change that isn't whole. -/
namespace Go.Proofs.Ytmiagjcihmenfaa
open Go.RowKit

/-- But for what Load sets at its end, c is b. -/
def Like (b c : Bs) : Prop := c = { b with commit := c.commit, touched := c.touched, whole := c.whole, fr := c.fr }
section
variable {w w' : World} {A : Nat} {S T : Nat → Prop} {b : Bs} {lv : Value} {pf : Int}
set_option maxHeartbeats 2000000 in
set_option maxRecDepth 100000 in
theorem redo_n (h : Pb w A S b) (d : De) {dad : Option Addr} {dcap : Nat} (hE : Es w S d.list (.slice dad d.list.length dcap)) (hm : b.may d) (hw0 : d.whole = false) (hz : b.log.length + d.list.length ≤ 900000) :
    Calls Try.prog 42 #[.pointer (some ⟨A, 0, none⟩), deV d (.slice dad d.list.length dcap)] w fun e w' => e = .returned (.tuple #[]) ∧ ∃ c, Like (b.over d) c ∧ Pt w w' A S c := by
  have hlt := h.lt
  obtain ⟨W, hW⟩ : ∃ W, W = w.alloc (deO d (.slice dad d.list.length dcap)) := ⟨_, rfl⟩
  have hb : Below w.heap.size w W := by rw [hW]; exact (Below.refl _ w).alloc (Nat.le_refl _) _
  have hblk : W.heap[w.heap.size]? = some (deB d (.slice dad d.list.length dcap)) := by rw [hW]; exact heap_alloc_new w _
  have hA := h.on hb
  have hEW := hE.on hb
  have hfw : Fr w W S := Fr.ofBelow S hb
  have HW := Lib.hid hW
  have d0 : W.cell? ⟨w.heap.size, 0, none⟩ = some (.int .i64 d.term) := cell_blk hblk 0
  have d1 : W.cell? ⟨w.heap.size, 1, none⟩ = some (.int .i64 d.vote) := cell_blk hblk 1
  have HS : Hid (∀ n, Pb (((W.drewN n).setCell ⟨A, 0, none⟩ (.int .i64 d.term)).setCell ⟨A, 1, none⟩ (.int .i64 d.vote)) A S { b with term := d.term, vote := d.vote } ∧ Fr W (((W.drewN n).setCell ⟨A, 0, none⟩ (.int .i64 d.term)).setCell ⟨A, 1, none⟩ (.int .i64 d.vote)) S) := by
    intro n
    obtain ⟨a1, f1⟩ := (hA.drewN n).setf (i := 0) (v := .int .i64 d.term) (b' := { b with term := d.term }) (fun _ _ => rfl) rfl rfl (fun _ q => q) rfl rfl
    obtain ⟨a2, f2⟩ := a1.setf (i := 1) (v := .int .i64 d.vote) (b' := { b with term := d.term, vote := d.vote }) (fun _ _ => rfl) rfl rfl (fun _ q => q) rfl rfl
    exact ⟨a2, (Fr.ofBelow S (below_draw (Below.refl W.heap.size W) n)).trans (f1.trans f2)⟩
  obtain ⟨lv, pf, hv⟩ := hA
  have hidl := hv.idl
  have hszz := hv.sz
  have c0 : W.cell? ⟨A, 0, none⟩ = some (.int .i64 b.term) := hv.cell 0
  have c1 : W.cell? ⟨A, 1, none⟩ = some (.int .i64 b.vote) := hv.cell 1
  have g0 : W.frozen? ⟨A, 0, none⟩ = false := frozen_blk hv.ob 0
  have g1 : W.frozen? ⟨A, 1, none⟩ = false := frozen_blk hv.ob 1
  have HB := Lib.hid hblk
  have HFW := Lib.hid hfw
  have HEW := Lib.hid hEW
  have HM := Lib.hid hm
  have HWH := Lib.hid hw0
  clear hw0
  clear hv h hE hEW hW hblk hfw hb hm
  go_enter Try.func42, Try.ntmps42
  go_upto_region 1 with fail
  rw [← HW.out]
  go_cut [] (fun wx => ∃ n, wx = ((W.drewN n).setCell ⟨A, 0, none⟩ (.int .i64 d.term)).setCell ⟨A, 1, none⟩ (.int .i64 d.vote))
  case first =>
    go_region
    go_wp2_with fail
    go_meet
    exact ⟨_, rfl⟩
  case rest =>
    obtain ⟨n, hwc⟩ := hcut
    obtain ⟨p1, f1⟩ := HS.out n
    rw [← hwc] at p1 f1
    have hnS : ¬ S w.heap.size := fun q => by have := hlt _ q; omega
    have jd := (f1.block _ (blk_lt HB.out) hnS).trans HB.out
    have hE1 := HEW.out.stays f1 (fun k q => .inl q)
    have hf1 := HFW.out.trans f1
    have e2 : wc.cell? ⟨w.heap.size, 2, none⟩ = some (.bool d.whole) := cell_blk jd 2
    have e3 : wc.cell? ⟨w.heap.size, 3, none⟩ = some (.int .i64 d.base) := cell_blk jd 3
    have e4 : wc.cell? ⟨w.heap.size, 4, none⟩ = some (.int .i64 d.baseTerm) := cell_blk jd 4
    have e5 : wc.cell? ⟨w.heap.size, 5, none⟩ = some (.string d.snap) := cell_blk jd 5
    have e6 : wc.cell? ⟨w.heap.size, 6, none⟩ = some (.int .i64 d.fr) := cell_blk jd 6
    have e7 : wc.cell? ⟨w.heap.size, 7, none⟩ = some (.slice dad d.list.length dcap) := cell_blk jd 7
    have hm := HM.out
    have hwh := HWH.out
    have hm2 := (may_n hwh).1 hm
    rw [hwh] at e2
    have hput := put_p (b := { b with term := d.term, vote := d.vote }) p1 (i := d.fr) (by show b.base < d.fr; omega) (by show d.fr ≤ b.last + 1; omega) hE1 hz
    have HP : Hid (Calls Try.prog 70 #[.pointer (some ⟨A, 0, none⟩), .int .i64 d.fr, .slice dad d.list.length dcap] wc fun e w' => e = .returned (.tuple #[]) ∧ ∃ c, Like (b.over d) c ∧ Pt w w' A S c) := by
      refine hput.mono ?_
      rintro e w' ⟨rfl, q⟩
      refine ⟨rfl, _, ?_, Pt.step hf1 q⟩
      unfold Like Bs.over
      rw [if_neg (by rw [hwh]; decide)]
      rfl
    clear hput hm2 hm jd p1 f1 hE1 hf1 hwc hwh
    go_wp2_with fail
    refine HP.out.mono ?_
    rintro e' w' ⟨rfl, q⟩
    have HQ := Lib.hid q
    clear q HP
    go_wp2
    go_end0
    exact ⟨rfl, HQ.out⟩
end
end Go.Proofs.Ytmiagjcihmenfaa
/- The program's Delta of a ballot that wasn't touched; the document's New. -/
namespace Go.Proofs.Ytmiagjcihmenfaa
open Go.RowKit

abbrev de0 : De := ⟨0, 0, false, 0, 0, noT, 0, []⟩
section
variable {w w' : World} {A : Nat} {S T : Nat → Prop} {b : Bs} {lv : Value} {pf : Int}
theorem delta_no (h : Pb w A S b) (ht : b.touched = false) : Calls Try.prog 17 #[.pointer (some ⟨A, 0, none⟩)] w fun e w' => e = .returned (.tuple #[.agg #[.int .i64 0, .int .i64 0, .bool false, .int .i64 0, .int .i64 0, .string ⟨#[]⟩, .int .i64 0, .slice none 0 0], .bool false]) ∧ Below w.heap.size w w' := by
  obtain ⟨W, hW⟩ : ∃ W, W = w.alloc (.cells #[.int .i64 0, .int .i64 0, .bool false, .int .i64 0, .int .i64 0, .string ⟨#[]⟩, .int .i64 0, .slice none 0 0] 44) := ⟨_, rfl⟩
  obtain ⟨lv, pf, hv⟩ := h
  have hv1 := hv.alloc (.cells #[.int .i64 0, .int .i64 0, .bool false, .int .i64 0, .int .i64 0, .string ⟨#[]⟩, .int .i64 0, .slice none 0 0] 44)
  rw [← hW] at hv1
  have hb : Below w.heap.size w W := by rw [hW]; exact (Below.refl _ w).alloc (Nat.le_refl _) _
  have c12 : W.cell? ⟨A, 12, none⟩ = some (.bool false) := by rw [← ht]; exact hv1.cell 12
  have jd : W.heap[w.heap.size]? = some (.cells #[.int .i64 0, .int .i64 0, .bool false, .int .i64 0, .int .i64 0, .string ⟨#[]⟩, .int .i64 0, .slice none 0 0] 44 (0, 0)) := by rw [hW]; exact heap_alloc_new w _
  have HW := Lib.hid hW
  have HB := Lib.hid hb
  clear hv hv1 hW hb ht jd
  go_enter Try.func17, Try.ntmps17
  go_upto_region 1 with fail
  rw [← HW.out]
  go_upto_region 2 with fail
  rw [HW.out]
  go_wp2
  refine bodyPost_ret (v := .tuple #[.agg #[.int .i64 0, .int .i64 0, .bool false, .int .i64 0, .int .i64 0, .string ⟨#[]⟩, .int .i64 0, .slice none 0 0], .bool false]) (by simp [results, Try.results17, go_sem]) rfl ?_
  exact ⟨rfl, HW.out ▸ HB.out⟩
theorem refnew_no (w : World) (id size : Int) (h : ¬ (1 ≤ size ∧ size ≤ 5 ∧ 0 ≤ id ∧ id < size)) : Calls Try.prog 12 #[.int .i64 id, .int .i64 size] w fun e w' => e = .returned (.tuple #[.pointer none, .bool false]) ∧ w' = w := by
  by_cases q1 : size < 1
  · clear h
    go_enter Try.func12, Try.ntmps12
    go_wp2
    refine bodyPost_ret (v := .tuple #[.pointer none, .bool false]) (by simp [results, Try.results12, go_sem]) rfl ?_
    exact ⟨rfl, rfl⟩
  · by_cases q2 : 5 < size
    · clear h
      go_enter Try.func12, Try.ntmps12
      go_wp2
      refine bodyPost_ret (v := .tuple #[.pointer none, .bool false]) (by simp [results, Try.results12, go_sem]) rfl ?_
      exact ⟨rfl, rfl⟩
    · by_cases q3 : id < 0
      · clear h
        go_enter Try.func12, Try.ntmps12
        go_wp2
        refine bodyPost_ret (v := .tuple #[.pointer none, .bool false]) (by simp [results, Try.results12, go_sem]) rfl ?_
        exact ⟨rfl, rfl⟩
      · have q4 : size ≤ id := by omega
        clear h
        go_enter Try.func12, Try.ntmps12
        go_wp2
        refine bodyPost_ret (v := .tuple #[.pointer none, .bool false]) (by simp [results, Try.results12, go_sem]) rfl ?_
        exact ⟨rfl, rfl⟩
theorem refnew_yes (w : World) (id size : Nat) (h1 : 1 ≤ size) (h2 : size ≤ 5) (h3 : id < size) : Calls Try.prog 12 #[.int .i64 id, .int .i64 size] w fun e w' => e = .returned (.tuple #[.pointer (some ⟨w.heap.size, 0, none⟩), .bool true]) ∧ Rb w' w.heap.size (fun k => k = w.heap.size) (Bs.new id size) ∧ Below w.heap.size w w' := by
  have s1 : ¬ (size : Int) < 1 := by omega
  have s5 : ¬ (5 : Int) < size := by omega
  have i0 : ¬ (id : Int) < 0 := by omega
  have i1 : ¬ (size : Int) ≤ id := by omega
  have hP : Rb (w.alloc (.cells (bC (Bs.new id size) (.slice none 0 0) (.slice none 0 0)) 81)) w.heap.size (fun k => k = w.heap.size) (Bs.new id size) := by
    refine ⟨.slice none 0 0, .slice none 0 0, [], ⟨heap_alloc_new w _, Es.nil _ _, rfl, World.ownsRow_nil _ _ _ _, fun p hp => (by cases hp), rfl, fun k hk => (by cases hk), fun k hk => ?_, Nat.zero_le _, Nat.zero_le _, Int.le_refl _, by show (0 : Int) ≤ _; omega, fun k hk => (show False from hk).elim⟩⟩
    rw [show k = w.heap.size from hk]
    simp
  have HP := Lib.hid hP
  clear hP h1 h2 h3
  go_enter Try.func12, Try.ntmps12
  go_wp2
  refine bodyPost_ret (v := .tuple #[.pointer (some ⟨w.heap.size, 0, none⟩), .bool true]) (by simp [results, Try.results12, go_sem]) rfl ?_
  exact ⟨rfl, HP.out, (Below.refl _ _).alloc (Nat.le_refl _) _⟩
end
end Go.Proofs.Ytmiagjcihmenfaa
