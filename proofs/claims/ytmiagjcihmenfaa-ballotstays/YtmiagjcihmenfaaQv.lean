/- The walk of the program's Take. -/
import Derived.Test.YtmiagjcihmenfaaQo
import Derived.Test.YtmiagjcihmenfaaQr
import Derived.Test.YtmiagjcihmenfaaQs
import Derived.Test.YtmiagjcihmenfaaQt
import Derived.Test.YtmiagjcihmenfaaQu
import Derived.Laws.EntriesVeiled
namespace Go.Proofs.Ytmiagjcihmenfaa
open Go.RowKit

theorem info97 : (Try.prog.info? 97).map (·.size) = some 6 := by kernel_rfl
theorem takers_p (w : World) : Calls Try.prog 49 #[] w fun e w' => e = .returned (.agg #[.nilFunc, .func (.func 74) #[] #[], .func (.func 75) #[] #[], .func (.func 76) #[] #[], .func (.func 77) #[] #[], .func (.func 78) #[] #[]]) ∧ Below w.heap.size w w' := by
  go_enter Try.func49, Try.ntmps49
  go_wp2
  exact bodyPost_ret (v := .agg #[.nilFunc, .func (.func 74) #[] #[], .func (.func 75) #[] #[], .func (.func 76) #[] #[], .func (.func 77) #[] #[], .func (.func 78) #[] #[]]) (by simp [results, Try.results49, go_sem]) rfl ⟨rfl, (Below.refl _ _).alloc (Nat.le_refl _) _⟩
section
variable {w w' : World} {A : Nat} {S T : Nat → Prop} {b : Bs} {lv : Value} {pf : Int}
theorem takeFeed_p (h : Pb w A S b) (ok : Ok b) (m : Ms) {mad : Option Addr} {mcap : Nat} (hE : Es w S m.list (.slice mad m.list.length mcap)) (hz : b.log.length + m.list.length ≤ 900000) (hi0 : 0 ≤ m.index) (hi1 : m.index ≤ 1099511627776) (hp0 : 0 ≤ m.prev) : Calls Try.prog 76 #[.pointer (some ⟨A, 0, none⟩), msV m (.slice mad m.list.length mcap)] w fun e w' => ∃ ov, e = .returned ov ∧ Po w w' A S (b.entries m).sent.1 (b.entries m).sent.2 ov := by
  by_cases hr : b.role = 2
  · exact takeFeed_a h ok m hE hz hi0 hi1 (.inl hr)
  · by_cases h1 : m.index + m.list.length ≤ b.commit
    · exact takeFeed_a h ok m hE hz hi0 hi1 (.inr h1)
    · by_cases h2 : b.commit ≤ m.index ∧ b.termAt m.index ≠ m.prev
      · exact takeFeed_r h ok m hE hz hi0 hi1 hr h1 h2
      · exact takeFeed_e h ok m hE hz hi0 hi1 hp0 hr h1 h2
theorem takeFed_p (h : Pb w A S b) (ok : Ok b) (m : Ms) (mv : Value) (h0 : 0 ≤ m.fr) (h1 : m.fr < b.size) (hi0 : -1 ≤ m.index) (hi1 : m.index ≤ 1099511627776) : Calls Try.prog 77 #[.pointer (some ⟨A, 0, none⟩), msV m mv] w fun e w' => ∃ ov, e = .returned ov ∧ Po w w' A S (b.heard m).sent.1 (b.heard m).sent.2 ov := by
  by_cases hr : b.role = 2
  · cases hg : m.good with
    | true => exact takeFed_p1 h ok m mv h0 h1 hi0 hi1 hr hg
    | false => exact takeFed_p0 h ok m mv h0 h1 hi0 hi1 hr hg
  · obtain ⟨W, hB⟩ := Bx.mk' h m mv
    have hA := hB.pb
    have HW := Lib.hid hB.eq
    have hfw : Fr w W S := Fr.ofBelow S hB.bel
    obtain ⟨lv, pf, hv⟩ := hA
    have hA : Pb W A S b := ⟨lv, pf, hv⟩
    have c2 : W.cell? ⟨A, 2, none⟩ = some (.int .i64 b.role) := hv.cell 2
    have eg : (b.heard m).sent = (b, []) := by
      unfold Bs.heard
      rw [if_neg hr]
      exact Bs.sent_so b ok.out
    have HP : Hid (Po w W A S (b.heard m).sent.1 (b.heard m).sent.2 (.slice none 0 0)) := by
      rw [eg]
      exact Po.step hfw (Po.none hA)
    clear hv hB hA hfw eg h
    go_enter Try.func77, Try.ntmps77
    go_upto_region 1 with fail
    rw [← HW.out]
    go_wp2
    go_ret
    exact ⟨_, rfl, HP.out⟩
/-- What is done with a message of its own term. -/
theorem act_p (h : Pb w A S b) (ok : Ok b) (m : Ms) {mad : Option Addr} {mcap : Nat} (hE : Es w S m.list (.slice mad m.list.length mcap)) (hz : b.log.length + m.list.length + 1 ≤ 900000) (hs : ¬ b.strange m) : ∀ K, (m.kind = 1 ∧ K = 74) ∨ (m.kind = 2 ∧ K = 75) ∨ (m.kind = 3 ∧ K = 76) ∨ (m.kind = 4 ∧ K = 77) ∨ (m.kind = 5 ∧ K = 78) → Calls Try.prog K #[.pointer (some ⟨A, 0, none⟩), msV m (.slice mad m.list.length mcap)] w fun e w' => ∃ ov, e = .returned ov ∧ Po w w' A S (b.act m).sent.1 (b.act m).sent.2 ov := by
  unfold Bs.strange at hs
  intro K hK
  rcases hK with ⟨hk, rfl⟩ | ⟨hk, rfl⟩ | ⟨hk, rfl⟩ | ⟨hk, rfl⟩ | ⟨hk, rfl⟩
  · have e : b.act m = b.ask m := if_pos hk
    have es : (b.ask m).sent = (askC b m, [askA b m]) := by
      rw [ask_eq, ok.out]
      unfold Bs.sent
      simp only [List.nil_append]
      have : (askC b m).out = [] := by unfold askC; split <;> exact ok.out
      rw [out_self this]
    rw [e, es]
    exact takeAsk_p h m _
  · have e : b.act m = b.vote' m := by unfold Bs.act; rw [if_neg (by omega), if_pos hk]
    rw [e]
    exact takeVote_p h ok (by omega) m _ (by omega) (by omega)
  · have e : b.act m = b.entries m := by unfold Bs.act; rw [if_neg (by omega), if_neg (by omega), if_pos hk]
    rw [e]
    exact takeFeed_p h ok m hE (by omega) (by omega) (by omega) (by omega)
  · have e : b.act m = b.heard m := by unfold Bs.act; rw [if_neg (by omega), if_neg (by omega), if_neg (by omega), if_pos hk]
    rw [e]
    exact takeFed_p h ok m _ (by omega) (by omega) (by omega) (by omega)
  · have e : b.act m = b.given m := by unfold Bs.act; rw [if_neg (by omega), if_neg (by omega), if_neg (by omega), if_neg (by omega)]
    rw [e]
    exact takeGive_p h ok m _ (by omega) (by omega)
theorem newer_ok (ok : Ok b) (m : Ms) : Ok (b.newer m) := by
  have hi := (Bs.newer_stays (m := m) ok.inv).2.1
  unfold Bs.newer at *
  split
  · rename_i h
    rw [if_pos h] at hi
    exact ⟨hi, ok.hs, (fun q => by cases q), ok.out⟩
  · exact ok
end
end Go.Proofs.Ytmiagjcihmenfaa
