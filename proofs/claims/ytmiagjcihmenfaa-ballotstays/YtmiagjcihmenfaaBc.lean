/- What stays of a ballot, call by call. -/
import Derived.Test.YtmiagjcihmenfaaBb
namespace Go.Proofs.Ytmiagjcihmenfaa
namespace Bs

theorem fill_len {α : Type} (l : List α) (n : Nat) (x : α) (h : n ≤ l.length) : (fill l n x).length = l.length := by
  unfold fill
  simp
  omega
theorem leads_stays {b : Bs} (h : Inv b) : Stays b b.leads ∧ Inv b.leads :=
  ⟨⟨rfl, rfl, Int.le_refl _, Int.le_refl _, Int.le_refl _, fun _ _ _ => rfl, fun _ _ _ _ _ _ => rfl, fun _ _ _ => Int.le_refl _⟩,
   ⟨h.idl, h.sz, h.hs, (fill_len _ _ _ (by rw [h.nx]; exact h.sz)).trans h.nx, (fill_len _ _ _ (by rw [h.mt]; exact h.sz)).trans h.mt, h.b0, h.bc, h.cl, h.v0, h.v1, h.t0⟩⟩
theorem count_stays {b : Bs} (h : Inv b) : Stays b b.count ∧ Inv b.count ∧ (b.count.role = b.role ∨ b.count.role = 2) := by
  unfold count
  split
  · exact ⟨Stays.refl b, h, .inl rfl⟩
  · obtain ⟨s1, i1⟩ := leads_stays h
    have hc := h.cl
    obtain ⟨s2, i2⟩ := put_stays (b := b.leads) (i := b.last + 1) [⟨b.term, 0, 0, noT⟩] i1 (by show b.commit < _; omega) (Int.le_refl _) (.inl rfl)
    have so := so_feedAll (b.leads.put (b.last + 1) [⟨b.term, 0, 0, noT⟩])
    obtain ⟨s3, i3, r3⟩ := settle_stays (i2.so so)
    have hr : (b.leads.put (b.last + 1) [⟨b.term, 0, 0, noT⟩]).feedAll.role = 2 := by
      unfold So at so
      rw [so]
      rfl
    refine ⟨((s1.trans s2 (fun _ _ _ => rfl)).then so).trans s3 (fun _ _ _ => hr), i3, .inr (r3.trans hr)⟩
theorem timeout_stays {b : Bs} (h : Inv b) : Stays b b.timeout.1 ∧ Inv b.timeout.1 := by
  unfold timeout
  split
  · exact ⟨Stays.refl b, h⟩
  · rename_i hr
    have hi := h.idl
    have ht := h.t0
    have s1 : Stays b b.stand := ⟨rfl, rfl, by show b.term ≤ b.term + 1; omega, Int.le_refl _, Int.le_refl _, fun _ _ _ => rfl, fun q => absurd q hr, fun q => absurd q hr⟩
    have i1 : Inv b.stand := ⟨h.idl, h.sz, by simp [stand], h.nx, h.mt, h.b0, h.bc, h.cl, by show -1 ≤ (b.id : Int); omega, by show (b.id : Int) < b.size; omega, by show 0 ≤ b.term + 1; omega⟩
    have so := so_askTo b.stand b.size
    obtain ⟨s2, i2, _⟩ := count_stays (i1.so so)
    exact ⟨(((s1.then so).trans s2 (fun q => absurd q hr))).then (so_sent _), i2.so (so_sent _)⟩
theorem beat_stays {b : Bs} (h : Inv b) : Stays b b.beat.1 ∧ Inv b.beat.1 := by
  unfold beat
  split
  · have so := (so_feedAll b).trans (so_sent _)
    exact ⟨Stays.so so, h.so so⟩
  · exact ⟨Stays.so (so_sent b), h.so (so_sent b)⟩
theorem propose_stays {b : Bs} (h : Inv b) (at' born : Int) (text : ByteArray) : Stays b (b.propose at' born text).2.1 ∧ Inv (b.propose at' born text).2.1 := by
  unfold propose
  split
  · rename_i hr
    have hc := h.cl
    obtain ⟨s1, i1⟩ := put_stays (b := b) (i := b.last + 1) [⟨b.term, at', born, text⟩] h (by omega) (Int.le_refl _) (.inl rfl)
    have so := so_feedAll (b.put (b.last + 1) [⟨b.term, at', born, text⟩])
    obtain ⟨s2, i2, _⟩ := settle_stays (i1.so so)
    have hr2 : (b.put (b.last + 1) [⟨b.term, at', born, text⟩]).feedAll.role = 2 := by
      unfold So at so
      rw [so]
      exact hr
    exact ⟨((s1.then so).trans s2 (fun _ _ _ => hr2)).then (so_sent _), i2.so (so_sent _)⟩
  · exact ⟨Stays.refl b, h⟩
theorem newer_stays {b : Bs} {m : Ms} (h : Inv b) : Stays b (b.newer m) ∧ Inv (b.newer m) ∧ (b.newer m = b ∨ b.term < (b.newer m).term) ∧ (b.term < m.term → (b.newer m).term = m.term) := by
  unfold newer
  split
  · rename_i ht
    have h0 := h.t0
    have hi := h.idl
    exact ⟨⟨rfl, rfl, by show b.term ≤ m.term; omega, Int.le_refl _, Int.le_refl _, fun _ _ _ => rfl, fun _ q => (by cases q), fun _ q => (by cases q)⟩, ⟨h.idl, h.sz, h.hs, h.nx, h.mt, h.b0, h.bc, h.cl, Int.le_refl _, by show (-1 : Int) < b.size; omega, by show 0 ≤ m.term; omega⟩, .inr ht, fun _ => rfl⟩
  · exact ⟨Stays.refl b, h, .inl rfl, fun q => absurd q (by assumption)⟩
theorem ask_stays {b : Bs} {m : Ms} (h : Inv b) (h0 : 0 ≤ m.fr) (h1 : m.fr < b.size) : Stays b (b.ask m) ∧ Inv (b.ask m) := by
  unfold ask
  split
  · exact ⟨⟨rfl, rfl, Int.le_refl _, Int.le_refl _, Int.le_refl _, fun _ _ _ => rfl, fun _ _ _ _ _ _ => rfl, fun _ _ _ => Int.le_refl _⟩, ⟨h.idl, h.sz, h.hs, h.nx, h.mt, h.b0, h.bc, h.cl, by show -1 ≤ m.fr; omega, h1, h.t0⟩⟩
  · exact ⟨Stays.so (so_send _ _), h.so (so_send _ _)⟩
theorem lay_stays {b : Bs} (h : Inv b) (hr : b.role ≠ 2) : ∀ (l : List En) (i : Int), i ≤ b.last + 1 → Stays b (b.lay i l) ∧ Inv (b.lay i l) ∧ i - 1 + l.length ≤ (b.lay i l).last ∧ (b.lay i l).role = b.role ∧ (b.lay i l).commit = b.commit
  | [], i, hi => by
    unfold lay
    exact ⟨Stays.refl b, h, by simp; omega, rfl, rfl⟩
  | e :: l, i, hi => by
    unfold lay
    split
    · rename_i hc
      have hb := h.bc
      obtain ⟨s1, i1⟩ := put_stays (e :: l) h hc.1 hi (.inr hr)
      refine ⟨s1, i1, ?_, rfl, rfl⟩
      rw [put_last _ (by omega) hi]
      exact Int.le_refl _
    · rename_i hc
      have hcl := h.cl
      have hi2 : i + 1 ≤ b.last + 1 := by
        by_cases q : b.commit < i
        · have := fun z => hc ⟨q, .inl z⟩
          omega
        · omega
      obtain ⟨s1, i1, l1, r1, c1⟩ := lay_stays h hr l (i + 1) hi2
      exact ⟨s1, i1, by simp only [List.length_cons]; omega, r1, c1⟩
theorem reach_stays {b : Bs} (h : Inv b) {c : Int} (hc : c ≤ b.last) : Stays b (b.reach c) ∧ Inv (b.reach c) ∧ (b.reach c).role = b.role := by
  unfold reach
  split
  · have hb := h.bc
    exact ⟨⟨rfl, rfl, Int.le_refl _, by show b.commit ≤ c; omega, Int.le_refl _, fun _ _ _ => rfl, fun _ _ _ _ _ _ => rfl, fun _ _ _ => Int.le_refl _⟩, ⟨h.idl, h.sz, h.hs, h.nx, h.mt, h.b0, by show b.base ≤ c; omega, hc, h.v0, h.v1, h.t0⟩, rfl⟩
  · exact ⟨Stays.refl b, h, rfl⟩
theorem follow_stays {b : Bs} (h : Inv b) (hr : b.role ≠ 2) (l : Int) : Stays b { b with role := 0, lead := l } ∧ Inv { b with role := 0, lead := l } :=
  ⟨⟨rfl, rfl, Int.le_refl _, Int.le_refl _, Int.le_refl _, fun _ _ _ => rfl, fun q => absurd q hr, fun q => absurd q hr⟩, ⟨h.idl, h.sz, h.hs, h.nx, h.mt, h.b0, h.bc, h.cl, h.v0, h.v1, h.t0⟩⟩
theorem entries_stays {b : Bs} {m : Ms} (h : Inv b) (hp : 0 ≤ m.prev) : Stays b (b.entries m) ∧ Inv (b.entries m) := by
  unfold entries
  split
  · exact ⟨Stays.refl b, h⟩
  · rename_i hr
    obtain ⟨s0, i0⟩ := follow_stays h hr m.fr
    simp only
    split
    · exact ⟨s0.then (so_send _ _), i0.so (so_send _ _)⟩
    · split
      · exact ⟨s0.then (so_send _ _), i0.so (so_send _ _)⟩
      · rename_i he hq
        have hcl := h.cl
        have hi : m.index + 1 ≤ b.last + 1 := by
          by_cases q : b.commit ≤ m.index
          · by_cases z : m.index ≤ b.last
            · omega
            · have e := termAt_none (b := b) (i := m.index) (.inr (by omega))
              exact absurd ⟨q, by rw [e]; omega⟩ hq
          · omega
        obtain ⟨s1, i1, l1, r1, c1⟩ := lay_stays i0 (by show (0 : Int) ≠ 2; decide) m.list (m.index + 1) hi
        obtain ⟨s2, i2, r2⟩ := reach_stays i1 (c := min m.commit (m.index + m.list.length)) (by omega)
        exact ⟨((s0.trans s1 (fun q => absurd q hr)).trans s2 (fun q => absurd q hr)).then (so_send _ _), i2.so (so_send _ _)⟩
theorem nums_stays {b : Bs} (h : Inv b) (nx mt : List Int) (hn : nx.length = 5) (hm : mt.length = 5) : Stays b { b with next := nx, mat := mt } ∧ Inv { b with next := nx, mat := mt } :=
  ⟨⟨rfl, rfl, Int.le_refl _, Int.le_refl _, Int.le_refl _, fun _ _ _ => rfl, fun _ _ _ _ _ _ => rfl, fun _ _ _ => Int.le_refl _⟩, ⟨h.idl, h.sz, h.hs, hn, hm, h.b0, h.bc, h.cl, h.v0, h.v1, h.t0⟩⟩
theorem heard_stays {b : Bs} {m : Ms} (h : Inv b) : Stays b (b.heard m) ∧ Inv (b.heard m) := by
  unfold heard
  split
  · rename_i hr
    split
    · obtain ⟨s1, i1⟩ := nums_stays h (b.next.set m.fr.toNat (max (b.mat.getD m.fr.toNat 0) (min m.index b.last) + 1)) (b.mat.set m.fr.toNat (max (b.mat.getD m.fr.toNat 0) (min m.index b.last))) (by simpa using h.nx) (by simpa using h.mt)
      obtain ⟨s2, i2, r2⟩ := settle_stays (b := b.more m.fr.toNat m.index) i1
      have s3 : Stays b (b.more m.fr.toNat m.index).settle := Stays.trans (b := b.more m.fr.toNat m.index) s1 s2 (fun _ _ _ => hr)
      split
      · exact ⟨s3.then (so_feed _ _), i2.so (so_feed _ _)⟩
      · exact ⟨s3, i2⟩
    · obtain ⟨s1, i1⟩ := nums_stays h (b.next.set m.fr.toNat (max (min (m.index + 1) (b.next.getD m.fr.toNat 0 - 1)) (b.mat.getD m.fr.toNat 0 + 1))) b.mat (by simpa using h.nx) h.mt
      exact ⟨Stays.then (b := b.less m.fr.toNat m.index) s1 (so_feed _ _), Inv.so (b := b.less m.fr.toNat m.index) i1 (so_feed _ _)⟩
  · exact ⟨Stays.refl b, h⟩
theorem given_stays {b : Bs} {m : Ms} (h : Inv b) : Stays b (b.given m) ∧ Inv (b.given m) := by
  unfold given
  split
  · exact ⟨Stays.refl b, h⟩
  · rename_i hr
    simp only
    split
    · rename_i hc
      have hb := h.bc
      have h0 := h.b0
      refine ⟨⟨rfl, rfl, Int.le_refl _, by show b.commit ≤ m.index; omega, by show b.base ≤ m.index; omega, fun i hi hic => ?_, fun q => absurd q hr, fun q => absurd q hr⟩, ⟨h.idl, h.sz, h.hs, h.nx, h.mt, by show 0 ≤ m.index; omega, Int.le_refl _, ?_, h.v0, h.v1, h.t0⟩⟩
      · have hi' : m.index < i := hi
        omega
      · show m.index ≤ m.index + _
        omega
    · obtain ⟨s0, i0⟩ := follow_stays h hr m.fr
      exact ⟨s0.then (so_send _ _), i0.so (so_send _ _)⟩
theorem vote_stays {b : Bs} {m : Ms} (h : Inv b) : Stays b (b.vote' m) ∧ Inv (b.vote' m) := by
  unfold vote'
  split
  · rename_i hr
    have hr2 : b.role ≠ 2 := by rw [hr.1]; decide
    have s1 : Stays b { b with has := b.has.set m.fr.toNat true } := ⟨rfl, rfl, Int.le_refl _, Int.le_refl _, Int.le_refl _, fun _ _ _ => rfl, fun _ _ _ _ _ _ => rfl, fun _ _ _ => Int.le_refl _⟩
    have i1 : Inv { b with has := b.has.set m.fr.toNat true } := ⟨h.idl, h.sz, by simpa using h.hs, h.nx, h.mt, h.b0, h.bc, h.cl, h.v0, h.v1, h.t0⟩
    obtain ⟨s2, i2, _⟩ := count_stays i1
    exact ⟨s1.trans s2 (fun q => absurd q hr2), i2⟩
  · exact ⟨Stays.refl b, h⟩
theorem old_so (b : Bs) (m : Ms) : So b (b.old m) := by
  unfold old
  split
  · exact so_send _ _
  · split
    · exact so_send _ _
    · exact So.refl b
theorem act_stays {b : Bs} {m : Ms} (h : Inv b) (hp : 0 ≤ m.prev) (h0 : 0 ≤ m.fr) (h1 : m.fr < b.size) : Stays b (b.act m) ∧ Inv (b.act m) := by
  unfold act
  split
  · exact ask_stays h h0 h1
  · split
    · exact vote_stays h
    · split
      · exact entries_stays h hp
      · split
        · exact heard_stays h
        · exact given_stays h
theorem take_stays {b : Bs} (h : Inv b) (m : Ms) : Stays b (b.take m).1 ∧ Inv (b.take m).1 := by
  unfold take
  split
  · exact ⟨Stays.refl b, h⟩
  · rename_i hs
    obtain ⟨s1, i1, c1, _⟩ := newer_stays (m := m) h
    have hp : 0 ≤ m.prev := by
      by_cases q : m.prev < 0
      · exact absurd (by unfold strange; omega) hs
      · omega
    have h0 : 0 ≤ m.fr := by
      by_cases q : m.fr < 0
      · exact absurd (by unfold strange; omega) hs
      · omega
    have h1 : m.fr < b.size := by
      by_cases q : (b.size : Int) ≤ m.fr
      · exact absurd (by unfold strange; omega) hs
      · omega
    split
    · have so := (old_so (b.newer m) m).trans (so_sent _)
      exact ⟨s1.then so, i1.so so⟩
    · obtain ⟨s2, i2⟩ := act_stays (b := b.newer m) i1 hp h0 (by rw [s1.size]; exact h1)
      refine ⟨(s1.trans s2 (fun q _ ht => ?_)).then (so_sent _), i2.so (so_sent _)⟩
      rcases c1 with e | e
      · rw [e]; exact q
      · have := s2.term
        omega
theorem cut_stays {b : Bs} (h : Inv b) (i : Int) (snap : ByteArray) : Stays b (b.cut i snap).2 ∧ Inv (b.cut i snap).2 := by
  unfold cut
  split
  · rename_i hi
    have hb := h.b0
    have hcl := h.cl
    have hl : (b.rebase i (b.termAt i) snap (b.log.drop (i - b.base).toNat)).last = b.last := by
      unfold rebase last at *
      simp only [List.length_drop]
      omega
    have ha : ∀ j, i < j → (b.rebase i (b.termAt i) snap (b.log.drop (i - b.base).toNat)).at? j = b.at? j := by
      intro j hj
      unfold rebase at?
      simp only
      rw [if_pos hj, if_pos (by omega), List.getElem?_drop]
      congr 1
      omega
    refine ⟨⟨rfl, rfl, Int.le_refl _, Int.le_refl _, by show b.base ≤ i; omega, fun j hj _ => ha j hj, fun _ _ _ j hj _ => ha j hj, fun _ _ _ => by show b.last ≤ Bs.last _; rw [hl]; exact Int.le_refl _⟩, ⟨h.idl, h.sz, h.hs, h.nx, h.mt, by show 0 ≤ i; omega, hi.2, by show b.commit ≤ Bs.last _; rw [hl]; exact hcl, h.v0, h.v1, h.t0⟩⟩
  · exact ⟨Stays.refl b, h⟩
theorem delta_stays {b : Bs} (h : Inv b) : Stays b b.delta.2 ∧ Inv b.delta.2 := by
  unfold delta
  split
  · exact ⟨⟨rfl, rfl, Int.le_refl _, Int.le_refl _, Int.le_refl _, fun _ _ _ => rfl, fun _ _ _ _ _ _ => rfl, fun _ _ _ => Int.le_refl _⟩, ⟨h.idl, h.sz, h.hs, h.nx, h.mt, h.b0, h.bc, h.cl, h.v0, h.v1, h.t0⟩⟩
  · exact ⟨Stays.refl b, h⟩
end Bs
end Go.Proofs.Ytmiagjcihmenfaa
