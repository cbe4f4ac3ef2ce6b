/- The walks of the program's Beat, Propose, Timeout. -/
import Derived.Test.YtmiagjcihmenfaaQg
import Derived.Test.YtmiagjcihmenfaaQh
namespace Go.Proofs.Ytmiagjcihmenfaa
open Go.RowKit

/-- What holds of a ballot between calls. -/
structure Ok (b : Bs) : Prop where
  inv : b.Inv
  hs : b.Hs
  ld : b.role = 2 → b.Ld
  out : b.out = []
theorem out_self {b : Bs} (h : b.out = []) : ({ b with out := [] } : Bs) = b := by
  cases b
  simp only at h
  subst h
  rfl
section
variable {w w' : World} {A : Nat} {S T : Nat → Prop} {b : Bs} {lv : Value} {pf : Int}
theorem Pb.unsay (h : Pb w A S b) (o : List Ms) : Pb w A S { b with out := o } := by
  obtain ⟨lv, pf, h⟩ := h
  exact ⟨lv, pf, ⟨h.ob, h.log, h.covA, h.cov, h.lt, h.len, h.b0, h.b1, h.fm, h.idl, h.sz⟩⟩
theorem Po.unsay {M : List Ms} {ov : Value} (h : Po w w' A S b M ov) (o : List Ms) : Po w w' A S { b with out := o } M ov := by
  obtain ⟨S2, B, O, k1, k2, k3, k4, k5, k6, k7⟩ := h
  exact ⟨S2, B, O, k1.unsay o, k2, k3, k4, k5, k6, k7⟩
theorem Po.none (h : Pb w A S b) : Po w w A S b [] (.slice none 0 0) := Po.of h (Fr.refl _ _) h.lt rfl (Ou.nil _ _)
theorem beat_p (h : Pb w A S b) (ok : Ok b) : Calls Try.prog 28 #[.pointer (some ⟨A, 0, none⟩)] w fun e w' => ∃ ov, e = .returned ov ∧ Po w w' A S b.beat.1 b.beat.2 ov := by
  have hlt := h.lt
  by_cases hr : b.role = 2
  · have eb : b.beat = (b, b.feeds) := by
      unfold Bs.beat
      rw [if_pos hr, Bs.feedAll_eq, ok.out]
      unfold Bs.sent
      simp only [List.nil_append]
      rw [out_self ok.out]
    have hf := feeds_p h (ok.ld hr)
    rw [eb]
    have HH := Lib.hid h
    obtain ⟨lv, pf, hv⟩ := h
    have c2 : w.cell? ⟨A, 2, none⟩ = some (.int .i64 b.role) := hv.cell 2
    have hmf : ∀ (fn : Fn) (first cap : Array Value) (w : World), (Instr.makeFunc fn first cap).run Try.prog w = .ok (.func fn first cap) w := fun _ _ _ _ => rfl
    clear hv eb
    go_enter Try.func28, Try.ntmps28
    go_wp2_with fail
    refine hf.mono ?_
    rintro e w1 ⟨ov, rfl, O, q1, q2, q3⟩
    have HQ : Hid (Po w w1 A S b b.feeds ov) := Po.of (HH.out.on q3) (Fr.ofBelow S q3) hlt q1 q2
    clear hf q1 q2 q3
    go_wp2
    go_ret
    exact ⟨ov, rfl, HQ.out⟩
  · have eb : b.beat = (b, []) := by
      unfold Bs.beat
      rw [if_neg hr]
      exact Bs.sent_so b ok.out
    rw [eb]
    have HH := Lib.hid h
    obtain ⟨lv, pf, hv⟩ := h
    have c2 : w.cell? ⟨A, 2, none⟩ = some (.int .i64 b.role) := hv.cell 2
    clear hv eb
    go_enter Try.func28, Try.ntmps28
    go_wp2
    go_ret
    exact ⟨_, rfl, Po.none HH.out⟩
set_option maxHeartbeats 1000000 in
theorem propose_p (h : Pb w A S b) (ok : Ok b) (hz : b.log.length + 1 ≤ 900000) (at' born : Int) (text : ByteArray) : Calls Try.prog 29 #[.pointer (some ⟨A, 0, none⟩), .int .i64 at', .int .i64 born, .string text] w fun e w' => ∃ ov, e = .returned (.tuple #[.int .i64 (b.propose at' born text).1, ov]) ∧ Po w w' A S (b.propose at' born text).2.1 (b.propose at' born text).2.2 ov := by
  by_cases hr : b.role = 2
  · have hwr := write_p h ok.inv (ok.ld hr) hz ⟨b.term, at', born, text⟩
    obtain ⟨X, hX⟩ : ∃ X, b.put (b.last + 1) [⟨b.term, at', born, text⟩] = X := ⟨_, rfl⟩
    have hXo : X.out = [] := by rw [← hX]; exact ok.out
    have eb : b.propose at' born text = (X.last, { X.settleC with out := [] }, X.feeds ++ X.settleM) := by
      unfold Bs.propose
      rw [if_pos hr, hX, Bs.all_sent X hXo]
    rw [eb]
    rw [hX] at hwr
    obtain ⟨lv, pf, hv⟩ := h
    have c0 : w.cell? ⟨A, 0, none⟩ = some (.int .i64 b.term) := hv.cell 0
    have c2 : w.cell? ⟨A, 2, none⟩ = some (.int .i64 b.role) := hv.cell 2
    clear hv eb
    go_enter Try.func29, Try.ntmps29
    go_wp2_with fail
    refine hwr.mono ?_
    rintro e w1 ⟨ov, rfl, hP⟩
    obtain ⟨S2, B, O, k1, k2, k3, k4, k5, k6, k7⟩ := hP
    have HQ : Hid (Po w w1 A S { X.settleC with out := [] } (X.feeds ++ X.settleM) ov) := Po.unsay ⟨S2, B, O, k1, k2, k3, k4, k5, k6, k7⟩ _
    obtain ⟨lv1, pf1, hv1⟩ := k1
    have e5 : X.settleC.last = X.last := by unfold Bs.settleC; split <;> rfl
    have d5 : w1.cell? ⟨A, 5, none⟩ = some (.int .i64 X.last) := by rw [← e5]; exact hv1.cell 5
    obtain ⟨ad, cap, hov⟩ := own_shape k7.own
    subst hov
    clear hwr hv1 k2 k3 k4 k5 k6 k7 e5 c0 c2
    go_wp2
    refine bodyPost_ret (v := .tuple #[.int .i64 X.last, .slice ad O.length cap]) (by simp [results, Try.results29, go_sem]) rfl ?_
    exact ⟨_, rfl, HQ.out⟩
  · have eb : b.propose at' born text = (0, b, []) := if_neg hr
    rw [eb]
    have HH := Lib.hid h
    obtain ⟨lv, pf, hv⟩ := h
    have c2 : w.cell? ⟨A, 2, none⟩ = some (.int .i64 b.role) := hv.cell 2
    clear hv eb
    go_enter Try.func29, Try.ntmps29
    go_wp2
    refine bodyPost_ret (v := .tuple #[.int .i64 0, .slice none 0 0]) (by simp [results, Try.results29, go_sem]) rfl ?_
    exact ⟨_, rfl, Po.none HH.out⟩
theorem st_has (i n : Nat) (hi : i < 5) : ((List.replicate 5 false).set i true).getD n false = decide (n = i) := by
  rw [List.getD_eq_getElem?_getD]
  by_cases h : n = i
  · subst h
    rw [List.getElem?_set_self (by simpa using hi)]
    simp
  · rw [List.getElem?_set_ne (Ne.symm h), List.getElem?_replicate, decide_eq_false h]
    split <;> rfl
/-- Its own vote alone. -/
theorem stand_votes {b : Bs} (hid : b.id < b.size) (hs : b.size ≤ 5) : b.stand.votes b.size = 1 := by
  have key : ∀ n, n ≤ b.size → b.stand.votes n = if b.id < n then 1 else 0 := by
    intro n
    induction n with
    | zero => intro _; rfl
    | succ n ih =>
      intro hn
      show b.stand.votes n + (if ((List.replicate 5 false).set b.id true).getD n false then 1 else 0) = _
      rw [ih (by omega), st_has b.id n (by omega)]
      by_cases h : n = b.id
      · rw [if_neg (show ¬ b.id < n by omega), if_pos (show b.id < n + 1 by omega), decide_eq_true h]
        rfl
      · rw [decide_eq_false h]
        by_cases q : b.id < n
        · rw [if_pos q, if_pos (show b.id < n + 1 by omega)]; rfl
        · rw [if_neg q, if_neg (show ¬ b.id < n + 1 by omega)]; rfl
  rw [key b.size (Nat.le_refl _), if_pos hid]
theorem stand_hs {b : Bs} (hid : b.id < b.size) (hs : b.size ≤ 5) : b.stand.Hs := by
  intro k hk
  have hk' : b.size ≤ k := hk
  show ((List.replicate 5 false).set b.id true).getD k false = false
  rw [st_has b.id k (by omega), decide_eq_false (by omega)]
theorem timeout_eq {b : Bs} (ok : Ok b) (hr : b.role ≠ 2) : b.timeout = if b.size = 1 then ({ (led b.stand).settleC with out := [] }, (led b.stand).feeds ++ (led b.stand).settleM) else (b.stand, oth b.id (fun k => mk b.stand (askM b.stand k)) b.size) := by
  have hid := ok.inv.idl
  have hv := stand_votes hid ok.inv.sz
  have hso : b.stand.out = [] := ok.out
  unfold Bs.timeout
  rw [if_neg hr, Bs.askTo_eq, hso, List.nil_append]
  have hvY : ({ b.stand with out := oth b.stand.id (fun k => mk b.stand (askM b.stand k)) b.size } : Bs).votes b.size = 1 := (Bs.votes_out b.stand _ b.size).trans hv
  by_cases h1 : b.size = 1
  · have h0 : b.id = 0 := by omega
    have eo : oth b.stand.id (fun k => mk b.stand (askM b.stand k)) b.size = [] := by
      rw [h1]
      show (if 0 = b.id then [] else _) = []
      rw [if_pos h0.symm]
    rw [if_pos h1, eo, show ({ b.stand with out := [] } : Bs) = b.stand from out_self hso]
    have ec : b.stand.count = (led b.stand).feedAll.settle := by
      unfold Bs.count
      rw [if_neg (show ¬ 2 * b.stand.votes b.stand.size ≤ b.stand.size by show ¬ 2 * b.stand.votes b.size ≤ b.size; omega)]
      rfl
    rw [ec]
    exact Bs.all_sent (led b.stand) hso
  · rw [if_neg h1]
    obtain ⟨Y, hY⟩ : ∃ Y, ({ b.stand with out := oth b.stand.id (fun k => mk b.stand (askM b.stand k)) b.size } : Bs) = Y := ⟨_, rfl⟩
    rw [hY] at hvY ⊢
    have hYs : Y.size = b.size := by rw [← hY]; rfl
    have ec : Y.count = Y := by
      unfold Bs.count
      rw [if_pos (show 2 * Y.votes Y.size ≤ Y.size by rw [hYs, hvY]; omega)]
    rw [ec, ← hY]
    unfold Bs.sent
    simp only
    rw [show ({ b.stand with out := [] } : Bs) = b.stand from out_self hso]
    rfl
end
end Go.Proofs.Ytmiagjcihmenfaa
