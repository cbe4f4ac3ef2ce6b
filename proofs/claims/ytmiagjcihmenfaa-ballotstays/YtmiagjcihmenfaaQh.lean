/- Plain: what the calls answer, where nothing was said before. -/
import Derived.Test.YtmiagjcihmenfaaQd
namespace Go.Proofs.Ytmiagjcihmenfaa
namespace Bs
theorem matched_out (b : Bs) (o : List Ms) (i : Int) : ∀ n, ({ b with out := o } : Bs).matched i n = b.matched i n
  | 0 => rfl
  | n + 1 => by
    unfold matched
    rw [matched_out b o i n]
theorem best_out (b : Bs) (o : List Ms) : ∀ k, ({ b with out := o } : Bs).best k = b.best k
  | 0 => rfl
  | k + 1 => by
    unfold best most
    rw [best_out b o k, matched_out]
    rfl
theorem top_out (b : Bs) (o : List Ms) : ({ b with out := o } : Bs).top = b.top := best_out b o _
theorem settleC_out (b : Bs) (o : List Ms) : ({ b with out := o } : Bs).settleC = { b.settleC with out := o } := by
  unfold settleC
  rw [top_out]
  split <;> rfl
theorem settleM_out (b : Bs) (o : List Ms) : ({ b with out := o } : Bs).settleM = b.settleM := by
  unfold settleM
  rw [top_out]
  rfl
theorem settle_out (b : Bs) (o : List Ms) : ({ b with out := o } : Bs).settle = { b.settleC with out := o ++ b.settleM } := by
  rw [settle_eq, settleC_out, settleM_out]
/-- All are fed, then it settles. -/
theorem all_sent (X : Bs) (h : X.out = []) : X.feedAll.settle.sent = ({ X.settleC with out := [] }, X.feeds ++ X.settleM) := by
  rw [feedAll_eq, settle_out, h]
  rfl
theorem sent_so (b : Bs) (h : b.out = []) : b.sent = (b, []) := by
  unfold sent
  rw [h]
  have : ({ b with out := [] } : Bs) = b := by
    cases b
    simp only at h
    subst h
    rfl
  rw [this]
theorem settleC_sz (b : Bs) : b.settleC.out = b.out := by unfold settleC; split <;> rfl
theorem votes_out (b : Bs) (o : List Ms) : ∀ n, ({ b with out := o } : Bs).votes n = b.votes n
  | 0 => rfl
  | n + 1 => by
    unfold votes
    rw [votes_out b o n]
/-- Nobody outside the group has a vote to give. -/
def Hs (b : Bs) : Prop := ∀ k, b.size ≤ k → b.has.getD k false = false
theorem votes_more (b : Bs) (h : b.Hs) : ∀ k, b.votes (b.size + k) = b.votes b.size
  | 0 => rfl
  | k + 1 => by
    show b.votes (b.size + k) + (if b.has.getD (b.size + k) false then 1 else 0) = _
    rw [votes_more b h k, h (b.size + k) (by omega)]
    rfl
end Bs
end Go.Proofs.Ytmiagjcihmenfaa
