/- What a ballot keeps from call to call besides: where its log was changed, and how far it counts. Plain. -/
import Derived.Test.YtmiagjcihmenfaaXn
import Derived.Test.YtmiagjcihmenfaaXe
namespace Go.Proofs.Ytmiagjcihmenfaa
open Go.RowKit

/-- Where the log was changed lies within the log; what is matched, and what comes next, is at most M. -/
structure Kp (M : Int) (b : Bs) : Prop where
  fw : b.whole = false → b.base < b.fr ∧ b.fr ≤ b.last + 1
  mt : ∀ k, b.mat.getD k 0 ≤ M
  nx : ∀ k, b.next.getD k 0 ≤ M + 1
section
variable {M : Int} {b c : Bs}
theorem Kp.same (h : Kp M b) (hw : c.whole = b.whole) (hb : c.base = b.base) (hf : c.fr = b.fr) (hl : c.log = b.log) (hn : c.next = b.next) (hm : c.mat = b.mat) : Kp M c :=
  ⟨fun q => by rw [hb, hf]; unfold Bs.last; rw [hb, hl]; exact h.fw (hw ▸ q), fun k => by rw [hm]; exact h.mt k, fun k => by rw [hn]; exact h.nx k⟩
theorem Kp.so (h : Kp M b) (so : Bs.So b c) : Kp M c := by
  unfold Bs.So at so
  exact h.same (by rw [so]) (by rw [so]) (by rw [so]) (by rw [so]) (by rw [so]) (by rw [so])
theorem Kp.new (hM : 0 ≤ M) (id size : Nat) : Kp M (Bs.new id size) := by
  have hz : ∀ k, (List.replicate 5 (0 : Int)).getD k 0 = 0 := by
    intro k
    rw [List.getD_eq_getElem?_getD, List.getElem?_replicate]
    split <;> rfl
  refine ⟨fun _ => ⟨by show (0 : Int) < 1; decide, by show (1 : Int) ≤ 0 + ((0 : Nat) : Int) + 1; decide⟩, fun k => ?_, fun k => ?_⟩
  · show (List.replicate 5 (0 : Int)).getD k 0 ≤ M
    rw [hz]; exact hM
  · show (List.replicate 5 (0 : Int)).getD k 0 ≤ M + 1
    rw [hz]; omega
theorem Kp.put (h : Kp M b) {i : Int} (l : List En) (h1 : b.base < i) (h2 : i ≤ b.last + 1) : Kp M (b.put i l) := by
  have e := Bs.put_last l h1 h2
  refine ⟨fun q => ?_, h.mt, h.nx⟩
  have hf := h.fw q
  show b.base < min b.fr i ∧ min b.fr i ≤ (b.put i l).last + 1
  rw [e]
  omega
theorem Kp.settle (h : Kp M b) : Kp M b.settle := by
  unfold Bs.settle
  split
  · exact Kp.so (b := { b with commit := b.best (b.last - b.commit).toNat }) (h.same rfl rfl rfl rfl rfl rfl) (Bs.so_feedAll _)
  · exact h
theorem Kp.leads (h : Kp M b) (hM : 0 ≤ M) (hl : b.last ≤ M) : Kp M b.leads := by
  refine ⟨h.fw, fun k => ?_, fun k => ?_⟩
  · show (Bs.fill b.mat b.size 0).getD k 0 ≤ M
    rw [fill_getD]
    split
    · exact hM
    · exact h.mt k
  · show (Bs.fill b.next b.size (b.last + 1)).getD k 0 ≤ M + 1
    rw [fill_getD]
    split
    · omega
    · exact h.nx k
theorem base_le (b : Bs) : b.base ≤ b.last := by unfold Bs.last; omega
theorem Kp.count (h : Kp M b) (hM : 0 ≤ M) (hl : b.last ≤ M) : Kp M b.count := by
  unfold Bs.count
  split
  · exact h
  · have h1 := (h.leads hM hl).put (i := b.last + 1) [⟨b.term, 0, 0, noT⟩] (by have := base_le b; show b.base < b.last + 1; omega) (by show b.last + 1 ≤ b.last + 1; omega)
    exact (h1.so (Bs.so_feedAll _)).settle
theorem Kp.timeout (h : Kp M b) (hM : 0 ≤ M) (hl : b.last ≤ M) : Kp M b.timeout.1 := by
  unfold Bs.timeout
  split
  · exact h
  · have h1 : Kp M b.stand := h.same rfl rfl rfl rfl rfl rfl
    have so := Bs.so_askTo b.stand b.size
    have el : (b.stand.askTo b.size).last = b.last := by unfold Bs.So at so; rw [so]; rfl
    exact ((h1.so so).count hM (by rw [el]; exact hl)).so (Bs.so_sent _)
theorem Kp.beat (h : Kp M b) : Kp M b.beat.1 := by
  unfold Bs.beat
  split
  · exact h.so ((Bs.so_feedAll b).trans (Bs.so_sent _))
  · exact h.so (Bs.so_sent b)
theorem Kp.propose (h : Kp M b) (x y : Int) (t : ByteArray) : Kp M (b.propose x y t).2.1 := by
  unfold Bs.propose
  split
  · have h1 := h.put (i := b.last + 1) [⟨b.term, x, y, t⟩] (by have := base_le b; omega) (Int.le_refl _)
    exact ((h1.so (Bs.so_feedAll _)).settle).so (Bs.so_sent _)
  · exact h
theorem Kp.newer (h : Kp M b) (m : Ms) : Kp M (b.newer m) := by
  unfold Bs.newer
  split
  · exact h.same rfl rfl rfl rfl rfl rfl
  · exact h
theorem Kp.ask (h : Kp M b) (m : Ms) : Kp M (b.ask m) := by
  unfold Bs.ask
  split
  · exact Kp.so (b := { b with vote := m.fr, touched := true }) (h.same rfl rfl rfl rfl rfl rfl) (Bs.so_send _ _)
  · exact h.so (Bs.so_send _ _)
theorem Kp.lay (h : Kp M b) (hI : b.Inv) : ∀ (l : List En) (i : Int), i ≤ b.last + 1 → Kp M (b.lay i l)
  | [], i, _ => h
  | e :: l, i, hi => by
    unfold Bs.lay
    split
    · rename_i hc
      have := hI.bc
      exact h.put (e :: l) (by omega) hi
    · rename_i hc
      have hcl := hI.cl
      have hi2 : i + 1 ≤ b.last + 1 := by
        by_cases q : b.commit < i
        · have := fun z => hc ⟨q, .inl z⟩
          omega
        · omega
      exact Kp.lay h hI l (i + 1) hi2
theorem Kp.reach (h : Kp M b) (x : Int) : Kp M (b.reach x) := by
  unfold Bs.reach
  split
  · exact h.same rfl rfl rfl rfl rfl rfl
  · exact h
theorem Kp.entries (h : Kp M b) (hI : b.Inv) {m : Ms} (hp : 0 ≤ m.prev) : Kp M (b.entries m) := by
  unfold Bs.entries
  split
  · exact h
  · rename_i hr
    have h0 : Kp M { b with role := 0, lead := m.fr } := h.same rfl rfl rfl rfl rfl rfl
    obtain ⟨_, i0⟩ := Bs.follow_stays hI hr m.fr
    simp only
    split
    · exact h0.so (Bs.so_send _ _)
    · split
      · exact h0.so (Bs.so_send _ _)
      · rename_i he hq
        have hcl := hI.cl
        have hi : m.index + 1 ≤ b.last + 1 := by
          by_cases q : b.commit ≤ m.index
          · by_cases z : m.index ≤ b.last
            · omega
            · have e := Bs.termAt_none (b := b) (i := m.index) (.inr (by omega))
              exact absurd ⟨q, by rw [e]; omega⟩ hq
          · omega
        exact ((h0.lay i0 m.list (m.index + 1) hi).reach _).so (Bs.so_send _ _)
theorem getD_seto (l : List Int) (f k : Nat) (x : Int) : (l.set f x).getD k 0 = l.getD k 0 ∨ (l.set f x).getD k 0 = x := by
  rw [List.getD_eq_getElem?_getD, List.getD_eq_getElem?_getD, List.getElem?_set]
  split
  · split
    · exact .inr rfl
    · rename_i q1 q2
      subst q1
      exact .inl (by rw [List.getElem?_eq_none (by omega)])
  · exact .inl rfl
theorem Kp.less (h : Kp M b) (f : Nat) (i : Int) : Kp M (b.less f i) := by
  refine ⟨h.fw, h.mt, fun k => ?_⟩
  show (b.next.set f (max (min (i + 1) (b.next.getD f 0 - 1)) (b.mat.getD f 0 + 1))).getD k 0 ≤ M + 1
  have h1 := h.nx f
  have h2 := h.mt f
  rcases getD_seto b.next f k (max (min (i + 1) (b.next.getD f 0 - 1)) (b.mat.getD f 0 + 1)) with e | e
  · rw [e]; exact h.nx k
  · rw [e]; omega
theorem Kp.more (h : Kp M b) (hl : b.last ≤ M) (f : Nat) (i : Int) : Kp M (b.more f i) := by
  have h2 := h.mt f
  refine ⟨h.fw, fun k => ?_, fun k => ?_⟩
  · show (b.mat.set f (max (b.mat.getD f 0) (min i b.last))).getD k 0 ≤ M
    rcases getD_seto b.mat f k (max (b.mat.getD f 0) (min i b.last)) with e | e
    · rw [e]; exact h.mt k
    · rw [e]; omega
  · show (b.next.set f (max (b.mat.getD f 0) (min i b.last) + 1)).getD k 0 ≤ M + 1
    rcases getD_seto b.next f k (max (b.mat.getD f 0) (min i b.last) + 1) with e | e
    · rw [e]; exact h.nx k
    · rw [e]; omega
theorem Kp.heard (h : Kp M b) (hl : b.last ≤ M) (m : Ms) : Kp M (b.heard m) := by
  unfold Bs.heard
  split
  · split
    · have h1 := (h.more hl m.fr.toNat m.index).settle
      split
      · exact h1.so (Bs.so_feed _ _)
      · exact h1
    · exact (h.less _ _).so (Bs.so_feed _ _)
  · exact h
theorem Kp.given (h : Kp M b) (m : Ms) : Kp M (b.given m) := by
  unfold Bs.given
  split
  · exact h
  · simp only
    split
    · refine Kp.so (b := { ({ b with role := 0, lead := m.fr } : Bs).rebase m.index m.prev m.snap (if b.termAt m.index = m.prev then b.log.drop (m.index - b.base).toNat else []) with commit := m.index }) ⟨fun q => ?_, h.mt, h.nx⟩ (Bs.so_send _ _)
      cases q
    · exact Kp.so (b := { b with role := 0, lead := m.fr }) (h.same rfl rfl rfl rfl rfl rfl) (Bs.so_send _ _)
theorem Kp.vote (h : Kp M b) (hM : 0 ≤ M) (hl : b.last ≤ M) (m : Ms) : Kp M (b.vote' m) := by
  unfold Bs.vote'
  split
  · exact Kp.count (b := { b with has := b.has.set m.fr.toNat true }) (h.same rfl rfl rfl rfl rfl rfl) hM hl
  · exact h
theorem Kp.act (h : Kp M b) (hI : b.Inv) (hM : 0 ≤ M) (hl : b.last ≤ M) {m : Ms} (hp : 0 ≤ m.prev) : Kp M (b.act m) := by
  unfold Bs.act
  split
  · exact h.ask m
  · split
    · exact h.vote hM hl m
    · split
      · exact h.entries hI hp
      · split
        · exact h.heard hl m
        · exact h.given m
theorem Kp.take (h : Kp M b) (hI : b.Inv) (hM : 0 ≤ M) (hl : b.last ≤ M) (m : Ms) : Kp M (b.take m).1 := by
  unfold Bs.take
  split
  · exact h
  · rename_i hs
    have hp : 0 ≤ m.prev := by
      by_cases q : m.prev < 0
      · exact absurd (by unfold Bs.strange; omega) hs
      · omega
    obtain ⟨_, i1, _, _⟩ := Bs.newer_stays (m := m) hI
    have el : (b.newer m).last = b.last := by unfold Bs.newer; split <;> rfl
    split
    · exact (h.newer m).so ((Bs.old_so _ _).trans (Bs.so_sent _))
    · exact ((h.newer m).act i1 hM (by rw [el]; exact hl) hp).so (Bs.so_sent _)
theorem Kp.cut (h : Kp M b) (i : Int) (t : ByteArray) : Kp M (b.cut i t).2 := by
  unfold Bs.cut
  split
  · exact ⟨fun q => (by cases q), h.mt, h.nx⟩
  · exact h
theorem Kp.did (h : Kp M b) (hI : b.Inv) (hM : 0 ≤ M) (hl : b.last ≤ M) (o : Op) : Kp M (didR b o).1 := by
  unfold didR
  split
  · exact h.timeout hM hl
  · split
    · exact h.beat
    · split
      · exact h.propose _ _ _
      · split
        · exact h.take hI hM hl _
        · split
          · exact h.cut _ _
          · exact h
theorem Kp.told (h : Kp M b) : Kp M { b with touched := false, whole := false, fr := b.last + 1 } :=
  ⟨fun _ => ⟨by have := base_le b; show b.base < b.last + 1; omega, Int.le_refl _⟩, h.mt, h.nx⟩
theorem Kp.nb (h : Kp M b) (hM : M ≤ 4398046511104) : Nb b := fun k => by have := h.nx k; omega
end
end Go.Proofs.Ytmiagjcihmenfaa
