/- What a ballot does hangs not on the blocks that its log keeps off. Plain. -/
import Derived.Test.YtmiagjcihmenfaaWp
namespace Go.Proofs.Ytmiagjcihmenfaa
open Go.RowKit
namespace Bs
def wav (b : Bs) (Q : Nat → Prop) : Bs := { b with av := Q }
section
variable {b : Bs} {Q : Nat → Prop}
theorem wav_feed (b : Bs) (n : Nat) : (b.wav Q).feed n = (b.feed n).wav Q := rfl
theorem wav_feedTo (b : Bs) : ∀ n, (b.wav Q).feedTo n = (b.feedTo n).wav Q
  | 0 => rfl
  | n + 1 => by
    unfold feedTo
    by_cases h : n = b.id
    · rw [if_pos (show n = (b.wav Q).id from h), if_pos h, wav_feedTo b n]
    · rw [if_neg (show ¬ n = (b.wav Q).id from h), if_neg h, wav_feedTo b n]
      rfl
theorem wav_feedAll (b : Bs) : (b.wav Q).feedAll = b.feedAll.wav Q := wav_feedTo b _
theorem wav_matched (b : Bs) (i : Int) : ∀ n, (b.wav Q).matched i n = b.matched i n
  | 0 => rfl
  | n + 1 => by
    unfold matched
    rw [wav_matched b i n]
    rfl
theorem wav_most (b : Bs) (i : Int) : (b.wav Q).most i ↔ b.most i := by
  show ((b.size : Int) < 2 * (1 + (b.wav Q).matched i b.size) ∧ b.termAt i = b.term) ↔ _
  rw [wav_matched]
theorem wav_best (b : Bs) : ∀ k, (b.wav Q).best k = b.best k
  | 0 => rfl
  | k + 1 => by
    unfold best
    by_cases h : b.most (b.commit + 1 + k)
    · rw [if_pos h, if_pos (show (b.wav Q).most ((b.wav Q).commit + 1 + k) from (wav_most b _).2 h)]
      rfl
    · rw [if_neg h, if_neg (show ¬ (b.wav Q).most ((b.wav Q).commit + 1 + k) from fun q => h ((wav_most b _).1 q)), wav_best b k]
theorem wav_settle (b : Bs) : (b.wav Q).settle = b.settle.wav Q := by
  unfold settle
  have e : (b.wav Q).best ((b.wav Q).last - (b.wav Q).commit).toNat = b.best (b.last - b.commit).toNat := wav_best b _
  rw [e]
  by_cases h : 0 < b.best (b.last - b.commit).toNat
  · rw [if_pos h, if_pos h]
    exact wav_feedAll { b with commit := b.best (b.last - b.commit).toNat }
  · rw [if_neg h, if_neg h]
theorem wav_votes (b : Bs) : ∀ n, (b.wav Q).votes n = b.votes n
  | 0 => rfl
  | n + 1 => by
    unfold votes
    rw [wav_votes b n]
    rfl
theorem wav_count (b : Bs) : (b.wav Q).count = b.count.wav Q := by
  unfold count
  have e : (b.wav Q).votes (b.wav Q).size = b.votes b.size := wav_votes b _
  rw [e]
  by_cases h : 2 * b.votes b.size ≤ b.size
  · rw [if_pos (show 2 * b.votes b.size ≤ (b.wav Q).size from h), if_pos h]
  · rw [if_neg (show ¬ 2 * b.votes b.size ≤ (b.wav Q).size from h), if_neg h]
    have e1 : ((b.wav Q).leads.put ((b.wav Q).last + 1) [⟨(b.wav Q).term, 0, 0, noT⟩]).feedAll = ((b.leads.put (b.last + 1) [⟨b.term, 0, 0, noT⟩]).feedAll).wav Q := wav_feedAll (b.leads.put (b.last + 1) [⟨b.term, 0, 0, noT⟩])
    rw [e1, wav_settle]
theorem wav_askTo (b : Bs) : ∀ n, (b.wav Q).askTo n = (b.askTo n).wav Q
  | 0 => rfl
  | n + 1 => by
    unfold askTo
    by_cases h : n = b.id
    · rw [if_pos (show n = (b.wav Q).id from h), if_pos h, wav_askTo b n]
    · rw [if_neg (show ¬ n = (b.wav Q).id from h), if_neg h, wav_askTo b n]
      rfl
theorem wav_timeout (b : Bs) : (b.wav Q).timeout = (b.timeout.1.wav Q, b.timeout.2) := by
  unfold timeout
  by_cases h : b.role = 2
  · rw [if_pos (show (b.wav Q).role = 2 from h), if_pos h]
  · rw [if_neg (show ¬ (b.wav Q).role = 2 from h), if_neg h]
    have e1 : (b.wav Q).stand.askTo (b.wav Q).size = (b.stand.askTo b.size).wav Q := wav_askTo b.stand _
    rw [e1, wav_count]
    rfl
theorem wav_beat (b : Bs) : (b.wav Q).beat = (b.beat.1.wav Q, b.beat.2) := by
  unfold beat
  by_cases h : b.role = 2
  · rw [if_pos (show (b.wav Q).role = 2 from h), if_pos h, wav_feedAll]
    rfl
  · rw [if_neg (show ¬ (b.wav Q).role = 2 from h), if_neg h]
    rfl
theorem wav_propose (b : Bs) (x y : Int) (t : ByteArray) : (b.wav Q).propose x y t = ((b.propose x y t).1, (b.propose x y t).2.1.wav Q, (b.propose x y t).2.2) := by
  unfold propose
  by_cases h : b.role = 2
  · rw [if_pos (show (b.wav Q).role = 2 from h), if_pos h]
    have e1 : ((b.wav Q).put ((b.wav Q).last + 1) [⟨(b.wav Q).term, x, y, t⟩]).feedAll = ((b.put (b.last + 1) [⟨b.term, x, y, t⟩]).feedAll).wav Q := wav_feedAll (b.put (b.last + 1) [⟨b.term, x, y, t⟩])
    rw [e1, wav_settle]
    rfl
  · rw [if_neg (show ¬ (b.wav Q).role = 2 from h), if_neg h]
theorem wav_newer (b : Bs) (m : Ms) : (b.wav Q).newer m = (b.newer m).wav Q := by
  unfold newer
  by_cases h : b.term < m.term
  · rw [if_pos (show (b.wav Q).term < m.term from h), if_pos h]
    rfl
  · rw [if_neg (show ¬ (b.wav Q).term < m.term from h), if_neg h]
theorem wav_ask (b : Bs) (m : Ms) : (b.wav Q).ask m = (b.ask m).wav Q := by
  unfold ask
  by_cases h : b.grants m
  · rw [if_pos (show (b.wav Q).grants m from h), if_pos h]
    rfl
  · rw [if_neg (show ¬ (b.wav Q).grants m from h), if_neg h]
    rfl
theorem wav_lay (b : Bs) : ∀ (l : List En) (i : Int), (b.wav Q).lay i l = (b.lay i l).wav Q
  | [], _ => rfl
  | e :: l, i => by
    unfold lay
    by_cases h : b.commit < i ∧ (b.last < i ∨ b.termAt i ≠ e.term)
    · rw [if_pos (show (b.wav Q).commit < i ∧ ((b.wav Q).last < i ∨ (b.wav Q).termAt i ≠ e.term) from h), if_pos h]
      rfl
    · rw [if_neg (show ¬ ((b.wav Q).commit < i ∧ ((b.wav Q).last < i ∨ (b.wav Q).termAt i ≠ e.term)) from h), if_neg h, wav_lay b l (i + 1)]
theorem wav_reach (b : Bs) (x : Int) : (b.wav Q).reach x = (b.reach x).wav Q := by
  unfold reach
  by_cases h : b.commit < x
  · rw [if_pos (show (b.wav Q).commit < x from h), if_pos h]
    rfl
  · rw [if_neg (show ¬ (b.wav Q).commit < x from h), if_neg h]
theorem wav_entries (b : Bs) (m : Ms) : (b.wav Q).entries m = (b.entries m).wav Q := by
  unfold entries
  by_cases h : b.role = 2
  · rw [if_pos (show (b.wav Q).role = 2 from h), if_pos h]
  · rw [if_neg (show ¬ (b.wav Q).role = 2 from h), if_neg h]
    simp only
    by_cases h2 : m.index + m.list.length ≤ b.commit
    · rw [if_pos (show m.index + m.list.length ≤ (b.wav Q).commit from h2), if_pos h2]
      rfl
    · rw [if_neg (show ¬ m.index + m.list.length ≤ (b.wav Q).commit from h2), if_neg h2]
      by_cases h3 : b.commit ≤ m.index ∧ b.termAt m.index ≠ m.prev
      · rw [if_pos (show (b.wav Q).commit ≤ m.index ∧ (b.wav Q).termAt m.index ≠ m.prev from h3), if_pos h3]
        rfl
      · rw [if_neg (show ¬ ((b.wav Q).commit ≤ m.index ∧ (b.wav Q).termAt m.index ≠ m.prev) from h3), if_neg h3]
        have e1 : Bs.lay { b.wav Q with role := 0, lead := m.fr } (m.index + 1) m.list = (Bs.lay { b with role := 0, lead := m.fr } (m.index + 1) m.list).wav Q := wav_lay { b with role := 0, lead := m.fr } m.list (m.index + 1)
        rw [e1, wav_reach]
        rfl
theorem wav_heard (b : Bs) (m : Ms) : (b.wav Q).heard m = (b.heard m).wav Q := by
  unfold heard
  have e1 : ((b.wav Q).more m.fr.toNat m.index).settle = ((b.more m.fr.toNat m.index).settle).wav Q := wav_settle (b.more m.fr.toNat m.index)
  rw [e1]
  by_cases h : b.role = 2
  · rw [if_pos (show (b.wav Q).role = 2 from h), if_pos h]
    by_cases h2 : m.good = true
    · rw [if_pos h2, if_pos h2]
      by_cases h3 : b.mat.getD m.fr.toNat 0 < ((b.more m.fr.toNat m.index).settle).mat.getD m.fr.toNat 0 ∧ ((b.more m.fr.toNat m.index).settle).next.getD m.fr.toNat 0 ≤ ((b.more m.fr.toNat m.index).settle).last
      · rw [if_pos h3]
        refine (if_pos ?_).trans rfl
        exact h3
      · rw [if_neg h3]
        refine (if_neg ?_).trans rfl
        exact h3
    · rw [if_neg h2, if_neg h2]
      rfl
  · rw [if_neg (show ¬ (b.wav Q).role = 2 from h), if_neg h]
theorem wav_given (b : Bs) (m : Ms) : (b.wav Q).given m = (b.given m).wav Q := by
  unfold given
  by_cases h : b.role = 2
  · rw [if_pos (show (b.wav Q).role = 2 from h), if_pos h]
  · rw [if_neg (show ¬ (b.wav Q).role = 2 from h), if_neg h]
    simp only
    by_cases h2 : b.commit < m.index
    · rw [if_pos (show (b.wav Q).commit < m.index from h2), if_pos h2]
      rfl
    · rw [if_neg (show ¬ (b.wav Q).commit < m.index from h2), if_neg h2]
      rfl
theorem wav_vote (b : Bs) (m : Ms) : (b.wav Q).vote' m = (b.vote' m).wav Q := by
  unfold vote'
  by_cases h : b.role = 1 ∧ m.good = true
  · rw [if_pos (show (b.wav Q).role = 1 ∧ m.good = true from h), if_pos h]
    exact wav_count { b with has := b.has.set m.fr.toNat true }
  · rw [if_neg (show ¬ ((b.wav Q).role = 1 ∧ m.good = true) from h), if_neg h]
theorem wav_old (b : Bs) (m : Ms) : (b.wav Q).old m = (b.old m).wav Q := by
  unfold old
  split
  · rfl
  · split
    · rfl
    · rfl
theorem wav_act (b : Bs) (m : Ms) : (b.wav Q).act m = (b.act m).wav Q := by
  unfold act
  split
  · exact wav_ask b m
  · split
    · exact wav_vote b m
    · split
      · exact wav_entries b m
      · split
        · exact wav_heard b m
        · exact wav_given b m
theorem wav_take (b : Bs) (m : Ms) : (b.wav Q).take m = ((b.take m).1.wav Q, (b.take m).2) := by
  unfold take
  rw [wav_newer]
  by_cases h : b.strange m
  · rw [if_pos (show (b.wav Q).strange m from h), if_pos h]
  · rw [if_neg (show ¬ (b.wav Q).strange m from h), if_neg h]
    by_cases h2 : m.term < (b.newer m).term
    · rw [if_pos (show m.term < ((b.newer m).wav Q).term from h2), if_pos h2, wav_old]
      rfl
    · rw [if_neg (show ¬ m.term < ((b.newer m).wav Q).term from h2), if_neg h2, wav_act]
      rfl
theorem wav_cut (b : Bs) (i : Int) (t : ByteArray) : (b.wav Q).cut i t = ((b.cut i t).1, (b.cut i t).2.wav Q) := by
  unfold cut
  by_cases h : b.base < i ∧ i ≤ b.commit
  · rw [if_pos (show (b.wav Q).base < i ∧ i ≤ (b.wav Q).commit from h), if_pos h]
    rfl
  · rw [if_neg (show ¬ ((b.wav Q).base < i ∧ i ≤ (b.wav Q).commit) from h), if_neg h]
end
end Bs
theorem wav_did (b : Bs) (Q : Nat → Prop) (o : Op) : didR (b.wav Q) o = ((didR b o).1.wav Q, (didR b o).2.1, (didR b o).2.2) := by
  unfold didR
  split
  · rw [Bs.wav_timeout]
  · split
    · rw [Bs.wav_beat]
    · split
      · rw [Bs.wav_propose]
      · split
        · rw [Bs.wav_take]
        · split
          · rw [Bs.wav_cut]
          · rfl
theorem Ok.wav {b : Bs} (h : Ok b) (Q : Nat → Prop) : Ok (b.wav Q) := ⟨⟨h.inv.idl, h.inv.sz, h.inv.hs, h.inv.nx, h.inv.mt, h.inv.b0, h.inv.bc, h.inv.cl, h.inv.v0, h.inv.v1, h.inv.t0⟩, h.hs, fun r => ⟨(h.ld r).nx, (h.ld r).mt, (h.ld r).lo⟩, h.out⟩
end Go.Proofs.Ytmiagjcihmenfaa
