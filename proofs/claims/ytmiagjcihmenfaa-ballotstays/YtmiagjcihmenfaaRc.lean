/- What holds between calls, call by call. -/
import Derived.Test.YtmiagjcihmenfaaQv
import Derived.Test.YtmiagjcihmenfaaRa
namespace Go.Proofs.Ytmiagjcihmenfaa

theorem settleC_has (b : Bs) : b.settleC.has = b.has ∧ b.settleC.role = b.role := by
  unfold Bs.settleC
  split <;> exact ⟨rfl, rfl⟩
theorem Ld.settle {b : Bs} (h : b.Ld) : b.settleC.Ld := by
  have s := settleC_same b
  refine ⟨fun k hk => ?_, fun k hk => ?_, fun k hk => ?_⟩
  · rw [s.2.1, s.2.2.1]; rw [s.2.2.2.2.2] at hk; exact h.nx k hk
  · rw [s.1, s.2.2.1]; rw [s.2.2.2.2.2] at hk; exact h.mt k hk
  · rw [s.1, s.2.1]; rw [s.2.2.2.2.2] at hk; exact h.lo k hk
theorem Hs.settle {b : Bs} (h : b.Hs) : b.settleC.Hs := by
  intro k hk
  rw [(settleC_has b).1]
  rw [(settleC_same b).2.2.2.2.2] at hk
  exact h k hk
theorem inv_settleC {b : Bs} (h : b.Inv) : b.settleC.Inv := by
  have := (Bs.settle_stays h).2.1
  rw [Bs.settle_eq] at this
  exact ⟨this.idl, this.sz, this.hs, this.nx, this.mt, this.b0, this.bc, this.cl, this.v0, this.v1, this.t0⟩
theorem inv_out {b : Bs} (h : b.Inv) (o : List Ms) : ({ b with out := o } : Bs).Inv := ⟨h.idl, h.sz, h.hs, h.nx, h.mt, h.b0, h.bc, h.cl, h.v0, h.v1, h.t0⟩
theorem ok_settled {X : Bs} (hI : X.Inv) (hH : X.Hs) (hL : X.Ld) : Ok { X.settleC with out := [] } :=
  ⟨inv_out (inv_settleC hI) [], Hs.settle hH, fun _ => ⟨(Ld.settle hL).nx, (Ld.settle hL).mt, (Ld.settle hL).lo⟩, rfl⟩
theorem put_inv {b : Bs} (h : b.Inv) (e : En) : (b.put (b.last + 1) [e]).Inv := (Bs.put_stays [e] h (by have := h.cl; omega) (Int.le_refl _) (.inl rfl)).2
theorem base_last (b : Bs) : b.base ≤ b.last := by unfold Bs.last; omega
theorem ok_led {X : Bs} (hI : X.Inv) (hH : X.Hs) : Ok { (led X).settleC with out := [] } :=
  ok_settled (put_inv (b := X.leads) (Bs.leads_stays hI).2 _) hH (Ld.put (b := X.leads) (led_ok hI) (base_last X))
section
variable {b : Bs}
theorem timeout_ok (ok : Ok b) : Ok b.timeout.1 := by
  by_cases hr : b.role = 2
  · rw [show b.timeout = (b, []) from if_pos hr]
    exact ok
  · have hIs : b.stand.Inv := by
      have h := ok.inv
      have hi := h.idl
      have ht := h.t0
      exact ⟨h.idl, h.sz, by simp [Bs.stand], h.nx, h.mt, h.b0, h.bc, h.cl, by show -1 ≤ (b.id : Int); omega, by show (b.id : Int) < b.size; omega, by show 0 ≤ b.term + 1; omega⟩
    have hHs := stand_hs ok.inv.idl ok.inv.sz
    rw [timeout_eq ok hr]
    split
    · exact ok_led hIs hHs
    · exact ⟨hIs, hHs, (fun q => by cases q), ok.out⟩
theorem beat_ok (ok : Ok b) : Ok b.beat.1 := by
  have : b.beat.1 = b := by
    unfold Bs.beat
    split
    · rw [Bs.feedAll_eq]
      exact out_self ok.out
    · exact out_self ok.out
  rw [this]
  exact ok
theorem propose_ok (ok : Ok b) (a c : Int) (t : ByteArray) : Ok (b.propose a c t).2.1 := by
  unfold Bs.propose
  split
  · rename_i hr
    rw [Bs.all_sent (b.put (b.last + 1) [⟨b.term, a, c, t⟩]) ok.out]
    exact ok_settled (put_inv ok.inv _) ok.hs (Ld.put (ok.ld hr) (base_last b))
  · exact ok
theorem cut_ok (ok : Ok b) (i : Int) (t : ByteArray) : Ok (b.cut i t).2 := by
  have hI := (Bs.cut_stays ok.inv i t).2
  unfold Bs.cut at *
  split
  · rename_i h
    rw [if_pos h] at hI
    refine ⟨hI, ok.hs, fun hr => ?_, ok.out⟩
    have hl : (b.rebase i (b.termAt i) t (b.log.drop (i - b.base).toNat)).last = b.last := by
      have := ok.inv.cl
      unfold Bs.rebase Bs.last at *
      simp only [List.length_drop]
      omega
    have h := ok.ld hr
    refine ⟨fun k hk => ?_, fun k hk => ?_, h.lo⟩
    · rw [hl]; exact h.nx k hk
    · rw [hl]; exact h.mt k hk
  · exact ok
theorem ask_ok (ok : Ok b) {m : Ms} (h0 : 0 ≤ m.fr) (h1 : m.fr < b.size) : Ok (b.ask m).sent.1 := by
  have hI := (Bs.ask_stays ok.inv h0 h1).2
  rw [ask_eq] at hI ⊢
  have hI' := inv_out hI []
  show Ok { askC b m with out := [] }
  unfold askC at *
  split
  · rename_i h
    rw [if_pos h] at hI'
    exact ⟨hI', ok.hs, fun hr => ⟨(ok.ld hr).nx, (ok.ld hr).mt, (ok.ld hr).lo⟩, rfl⟩
  · exact ⟨inv_out ok.inv [], ok.hs, fun hr => ⟨(ok.ld hr).nx, (ok.ld hr).mt, (ok.ld hr).lo⟩, rfl⟩
theorem vote_ok (ok : Ok b) {m : Ms} (h0 : 0 ≤ m.fr) (h1 : m.fr < b.size) : Ok (b.vote' m).sent.1 := by
  unfold Bs.vote'
  split
  · rename_i hq
    have hs := ok.inv.sz
    obtain ⟨X, hX⟩ : ∃ X, ({ b with has := b.has.set m.fr.toNat true } : Bs) = X := ⟨_, rfl⟩
    rw [hX]
    have hXI : X.Inv := by
      rw [← hX]
      have h := ok.inv
      exact ⟨h.idl, h.sz, by simpa using h.hs, h.nx, h.mt, h.b0, h.bc, h.cl, h.v0, h.v1, h.t0⟩
    have hXH : X.Hs := by
      rw [← hX]
      intro k hk
      have hk' : b.size ≤ k := hk
      show (b.has.set m.fr.toNat true).getD k false = false
      rw [getD_setB _ _ _ _ (by rw [ok.inv.hs]; omega), if_neg (by omega)]
      exact ok.hs k hk'
    have hXo : X.out = [] := by rw [← hX]; exact ok.out
    have hXr : X.role = 1 := by rw [← hX]; exact hq.1
    unfold Bs.count
    split
    · rw [Bs.sent_so X hXo]
      exact ⟨hXI, hXH, (fun q => by rw [hXr] at q; cases q), hXo⟩
    · have := Bs.all_sent (led X) hXo
      show Ok ((led X).feedAll.settle.sent).1
      rw [this]
      exact ok_led hXI hXH
  · rw [Bs.sent_so b ok.out]
    exact ok
theorem heard_ok (ok : Ok b) {m : Ms} (h0 : 0 ≤ m.fr) (h1 : m.fr < b.size) : Ok (b.heard m).sent.1 := by
  by_cases hr : b.role = 2
  · have hs := ok.inv.sz
    have hI := (Bs.heard_stays (m := m) ok.inv).2
    cases hg : m.good with
    | false =>
      rw [heard_less ok hr m hg]
      have hn := (Bs.nums_stays ok.inv (b.next.set m.fr.toNat (max (min (m.index + 1) (b.next.getD m.fr.toNat 0 - 1)) (b.mat.getD m.fr.toNat 0 + 1))) b.mat (by simpa using ok.inv.nx) ok.inv.mt).2
      exact ⟨hn, ok.hs, fun _ => (less_ld ok hr (f := m.fr.toNat) (by omega) m.index).1, ok.out⟩
    | true =>
      rw [heard_more ok hr m hg rfl rfl rfl (by omega)]
      have hXL := more_ld ok hr (f := m.fr.toNat) (by omega) m.index
      have hn := (Bs.nums_stays ok.inv (b.next.set m.fr.toNat (max (b.mat.getD m.fr.toNat 0) (min m.index b.last) + 1)) (b.mat.set m.fr.toNat (max (b.mat.getD m.fr.toNat 0) (min m.index b.last))) (by simpa using ok.inv.nx) (by simpa using ok.inv.mt)).2
      have hX : (b.more m.fr.toNat m.index).out = [] := ok.out
      exact ⟨inv_settleC (b := b.more m.fr.toNat m.index) hn, Hs.settle (b := b.more m.fr.toNat m.index) ok.hs, fun _ => Ld.settle hXL, (Bs.settleC_sz _).trans hX⟩
  · unfold Bs.heard
    rw [if_neg hr, Bs.sent_so b ok.out]
    exact ok
theorem lay_has (X : Bs) : ∀ (l : List En) (i : Int), (X.lay i l).has = X.has ∧ (X.lay i l).role = X.role ∧ (X.lay i l).size = X.size
  | [], i => ⟨rfl, rfl, rfl⟩
  | e :: l, i => by
    unfold Bs.lay
    split
    · exact ⟨rfl, rfl, rfl⟩
    · exact lay_has X l (i + 1)
theorem reach_has (X : Bs) (c : Int) : (X.reach c).has = X.has ∧ (X.reach c).role = X.role ∧ (X.reach c).size = X.size := by
  unfold Bs.reach
  split <;> exact ⟨rfl, rfl, rfl⟩
theorem entries_ok (ok : Ok b) {m : Ms} (hp : 0 ≤ m.prev) : Ok (b.entries m).sent.1 := by
  have hI : (b.entries m).sent.1.Inv := (Bs.entries_stays ok.inv hp).2.so (Bs.so_sent _)
  by_cases hr : b.role = 2
  · rw [show (b.entries m) = b from if_pos hr, Bs.sent_so b ok.out]
    exact ok
  · have key : (b.entries m).has = b.has ∧ (b.entries m).role = 0 ∧ (b.entries m).size = b.size := by
      unfold Bs.entries
      rw [if_neg hr]
      simp only
      split
      · exact ⟨rfl, rfl, rfl⟩
      · split
        · exact ⟨rfl, rfl, rfl⟩
        · have h1 := lay_has ({ b with role := 0, lead := m.fr } : Bs) m.list (m.index + 1)
          have h2 := reach_has (({ b with role := 0, lead := m.fr } : Bs).lay (m.index + 1) m.list) (min m.commit (m.index + m.list.length))
          exact ⟨h2.1.trans h1.1, h2.2.1.trans h1.2.1, h2.2.2.trans h1.2.2⟩
    refine ⟨hI, fun k hk => ?_, fun q => ?_, rfl⟩
    · show (b.entries m).has.getD k false = false
      rw [key.1]
      exact ok.hs k (by rw [← key.2.2]; exact hk)
    · have q' : (b.entries m).role = 2 := q
      rw [key.2.1] at q'
      cases q'
theorem given_ok (ok : Ok b) {m : Ms} : Ok (b.given m).sent.1 := by
  have hI : (b.given m).sent.1.Inv := (Bs.given_stays (m := m) ok.inv).2.so (Bs.so_sent _)
  by_cases hr : b.role = 2
  · rw [show (b.given m) = b from if_pos hr, Bs.sent_so b ok.out]
    exact ok
  · rw [given_eq b m ok.out hr] at hI ⊢
    split
    · rename_i h
      rw [if_pos h] at hI
      exact ⟨hI, ok.hs, (fun q => by cases q), ok.out⟩
    · rename_i h
      rw [if_neg h] at hI
      exact ⟨hI, ok.hs, (fun q => by cases q), ok.out⟩
theorem take_ok (ok : Ok b) (m : Ms) : Ok (b.take m).1 := by
  unfold Bs.take
  split
  · exact ok
  · rename_i hs
    have okY := newer_ok ok m
    have hYs : (b.newer m).size = b.size := by
      unfold Bs.newer
      split <;> rfl
    unfold Bs.strange at hs
    have h0 : 0 ≤ m.fr := by omega
    have h1 : m.fr < (b.newer m).size := by rw [hYs]; omega
    have hp : 0 ≤ m.prev := by omega
    split
    · have : ((b.newer m).old m).sent.1 = b.newer m := by
        unfold Bs.old
        split
        · rw [sent_one _ _ okY.out]
        · split
          · rw [sent_one _ _ okY.out]
          · rw [Bs.sent_so _ okY.out]
      rw [this]
      exact okY
    · unfold Bs.act
      split
      · exact ask_ok okY h0 h1
      · split
        · exact vote_ok okY h0 h1
        · split
          · exact entries_ok okY hp
          · split
            · exact heard_ok okY h0 h1
            · exact given_ok okY
end
end Go.Proofs.Ytmiagjcihmenfaa
