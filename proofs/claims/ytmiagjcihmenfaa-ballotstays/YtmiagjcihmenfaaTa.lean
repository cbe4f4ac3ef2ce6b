/- How far a ballot grows, call by call. -/
import Derived.Test.YtmiagjcihmenfaaRe
namespace Go.Proofs.Ytmiagjcihmenfaa
open Go.RowKit

/-- So far a ballot has grown at most. -/
structure Bd (b : Bs) (N : Nat) : Prop where
  log : b.log.length ≤ N
  last : b.last ≤ 1099511627776 + N
  term : b.term ≤ 1099511627776 + N
section
variable {b b' : Bs} {N M : Nat}
theorem Bd.up (h : Bd b N) (hM : N ≤ M) : Bd b M := ⟨Nat.le_trans h.log hM, by have := h.last; omega, by have := h.term; omega⟩
theorem Bd.so (h : Bd b N) (so : Bs.So b b') : Bd b' N := by
  unfold Bs.So at so
  rw [so]
  exact ⟨h.log, h.last, h.term⟩
theorem Bd.put (h : Bd b N) {i : Int} (l : List En) : Bd (b.put i l) (N + l.length) := by
  have h1 := h.log
  have h2 := h.last
  have h3 := h.term
  unfold Bs.last at h2
  refine ⟨?_, ?_, ?_⟩
  · simp only [Bs.put, List.length_append, List.length_take]
    omega
  · simp only [Bs.last, Bs.put, List.length_append, List.length_take]
    omega
  · show b.term ≤ _
    omega
theorem Bd.settle (h : Bd b N) : Bd b.settle N := by
  unfold Bs.settle
  split
  · exact Bd.so (b := { b with commit := b.best (b.last - b.commit).toNat }) ⟨h.log, h.last, h.term⟩ (Bs.so_feedAll _)
  · exact h
theorem Bd.count (h : Bd b N) : Bd b.count (N + 1) := by
  unfold Bs.count
  split
  · exact h.up (Nat.le_succ N)
  · have h1 : Bd b.leads N := ⟨h.log, h.last, h.term⟩
    exact ((h1.put (i := b.last + 1) [⟨b.term, 0, 0, noT⟩]).so (Bs.so_feedAll _)).settle
theorem Bd.timeout (h : Bd b N) : Bd b.timeout.1 (N + 2) := by
  unfold Bs.timeout
  split
  · exact h.up (by omega)
  · have h1 : Bd b.stand (N + 1) := ⟨Nat.le_succ_of_le h.log, by have := h.last; show b.last ≤ _; omega, by have := h.term; show b.term + 1 ≤ _; omega⟩
    exact ((h1.so (Bs.so_askTo _ _)).count).so (Bs.so_sent _)
theorem Bd.beat (h : Bd b N) : Bd b.beat.1 N := by
  unfold Bs.beat
  split
  · exact (h.so (Bs.so_feedAll _)).so (Bs.so_sent _)
  · exact h.so (Bs.so_sent _)
theorem Bd.propose (h : Bd b N) (x y : Int) (t : ByteArray) : Bd (b.propose x y t).2.1 (N + 1) := by
  unfold Bs.propose
  split
  · exact (((h.put (i := b.last + 1) [⟨b.term, x, y, t⟩]).so (Bs.so_feedAll _)).settle).so (Bs.so_sent _)
  · exact h.up (Nat.le_succ N)
theorem Bd.newer (h : Bd b N) {m : Ms} (hm : m.term ≤ 1099511627776) : Bd (b.newer m) N := by
  unfold Bs.newer
  split
  · exact ⟨h.log, h.last, by show m.term ≤ _; omega⟩
  · exact h
theorem Bd.lay (h : Bd b N) : ∀ (l : List En) (i : Int), Bd (b.lay i l) (N + l.length)
  | [], i => h.up (Nat.le_add_right _ _)
  | e :: l, i => by
    unfold Bs.lay
    split
    · exact h.put _
    · exact (Bd.lay h l (i + 1)).up (by simp only [List.length_cons]; omega)
theorem Bd.reach (h : Bd b N) (c : Int) : Bd (b.reach c) N := by
  unfold Bs.reach
  split
  · exact ⟨h.log, h.last, h.term⟩
  · exact h
theorem Bd.entries (h : Bd b N) (m : Ms) : Bd (b.entries m) (N + m.list.length) := by
  unfold Bs.entries
  split
  · exact h.up (Nat.le_add_right _ _)
  · have h1 : Bd { b with role := 0, lead := m.fr } N := ⟨h.log, h.last, h.term⟩
    simp only
    split
    · exact (h1.so (Bs.so_send _ _)).up (Nat.le_add_right _ _)
    · split
      · exact (h1.so (Bs.so_send _ _)).up (Nat.le_add_right _ _)
      · exact ((h1.lay m.list (m.index + 1)).reach _).so (Bs.so_send _ _)
theorem Bd.heard (h : Bd b N) (m : Ms) : Bd (b.heard m) N := by
  have h1 : Bd (b.more m.fr.toNat m.index) N := ⟨h.log, h.last, h.term⟩
  have h2 : Bd (b.less m.fr.toNat m.index) N := ⟨h.log, h.last, h.term⟩
  unfold Bs.heard
  split
  · split
    · split
      · exact h1.settle.so (Bs.so_feed _ _)
      · exact h1.settle
    · exact h2.so (Bs.so_feed _ _)
  · exact h
theorem Bd.given (h : Bd b N) {m : Ms} (hm : m.index ≤ 1099511627776) (hi : b.base ≤ b.commit) : Bd (b.given m) N := by
  unfold Bs.given
  split
  · exact h
  · simp only
    split
    · refine Bd.so (b := { ({ b with role := 0, lead := m.fr } : Bs).rebase m.index m.prev m.snap (if b.termAt m.index = m.prev then b.log.drop (m.index - b.base).toNat else []) with commit := m.index }) ?_ (Bs.so_send _ _)
      have h1 := h.log
      have h2 := h.last
      unfold Bs.last at h2
      refine ⟨?_, ?_, h.term⟩
      · show (if b.termAt m.index = m.prev then b.log.drop (m.index - b.base).toNat else []).length ≤ N
        split
        · rw [List.length_drop]; omega
        · exact Nat.zero_le _
      · show m.index + ((if b.termAt m.index = m.prev then b.log.drop (m.index - b.base).toNat else []).length : Nat) ≤ _
        split
        · rw [List.length_drop]; omega
        · simp only [List.length_nil]; omega
    · exact Bd.so (b := { b with role := 0, lead := m.fr }) ⟨h.log, h.last, h.term⟩ (Bs.so_send _ _)
theorem Bd.vote (h : Bd b N) (m : Ms) : Bd (b.vote' m) (N + 1) := by
  unfold Bs.vote'
  split
  · exact Bd.count (b := { b with has := b.has.set m.fr.toNat true }) ⟨h.log, h.last, h.term⟩
  · exact h.up (Nat.le_succ N)
theorem Bd.ask (h : Bd b N) (m : Ms) : Bd (b.ask m) N := by
  unfold Bs.ask
  split
  · exact Bd.so (b := { b with vote := m.fr, touched := true }) ⟨h.log, h.last, h.term⟩ (Bs.so_send _ _)
  · exact h.so (Bs.so_send _ _)
theorem Bd.take (h : Bd b N) (hI : b.Inv) (m : Ms) : Bd (b.take m).1 (N + 1 + m.list.length) := by
  unfold Bs.take
  split
  · exact h.up (by omega)
  · rename_i hs
    have hs := hs
    have ht : m.term ≤ 1099511627776 := by
      by_cases q : 1099511627776 < m.term
      · exact absurd (by unfold Bs.strange; omega) hs
      · omega
    have hi : m.index ≤ 1099511627776 := by
      by_cases q : 1099511627776 < m.index
      · exact absurd (by unfold Bs.strange; omega) hs
      · omega
    have h1 := h.newer ht
    have i1 := (Bs.newer_stays (m := m) hI).2.1
    split
    · exact ((h1.so (Bs.old_so _ m)).so (Bs.so_sent _)).up (by omega)
    · refine Bd.so ?_ (Bs.so_sent _)
      unfold Bs.act
      split
      · exact (h1.ask m).up (by omega)
      · split
        · exact (h1.vote m).up (by omega)
        · split
          · exact (h1.entries m).up (by omega)
          · split
            · exact (h1.heard m).up (by omega)
            · exact (h1.given hi i1.bc).up (by omega)
theorem Bd.cut (h : Bd b N) (hI : b.Inv) (i : Int) (t : ByteArray) : Bd (b.cut i t).2 N := by
  unfold Bs.cut
  split
  · rename_i hi
    have h1 := h.log
    have h2 := h.last
    unfold Bs.last at h2
    refine ⟨?_, ?_, h.term⟩
    · show (b.log.drop (i - b.base).toNat).length ≤ N
      rw [List.length_drop]; omega
    · show i + ((b.log.drop (i - b.base).toNat).length : Nat) ≤ _
      rw [List.length_drop]
      have := hI.cl
      unfold Bs.last at this
      omega
  · exact h
theorem Bd.did (h : Bd b N) (hI : b.Inv) (o : Op) : Bd (didR b o).1 (N + 2 + o.m.list.length) := by
  unfold didR
  split
  · exact h.timeout.up (by omega)
  · split
    · exact h.beat.up (by omega)
    · split
      · exact (h.propose _ _ _).up (by omega)
      · split
        · exact (h.take hI _).up (by omega)
        · split
          · exact (h.cut hI _ _).up (by omega)
          · exact h.up (by omega)
theorem did_stays (hI : b.Inv) (o : Op) : Bs.Stays b (didR b o).1 := by
  unfold didR
  split
  · exact (Bs.timeout_stays hI).1
  · split
    · exact (Bs.beat_stays hI).1
    · split
      · exact (Bs.propose_stays hI _ _ _).1
      · split
        · exact (Bs.take_stays hI _).1
        · split
          · exact (Bs.cut_stays hI _ _).1
          · exact Bs.Stays.refl b
end
end Go.Proofs.Ytmiagjcihmenfaa
