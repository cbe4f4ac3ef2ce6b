/- What settling and feeding all say, plain, apart from what was said before. -/
import Derived.Test.YtmiagjcihmenfaaPl
import Derived.Test.YtmiagjcihmenfaaQb
import Derived.Test.YtmiagjcihmenfaaPk
namespace Go.Proofs.Ytmiagjcihmenfaa
open Go.RowKit

namespace Bs
def feeds (b : Bs) : List Ms := oth b.id (fun k => Go.Proofs.Ytmiagjcihmenfaa.mk b (b.feedM k)) b.size
theorem feedTo_eq (b : Bs) : ∀ n, b.feedTo n = { b with out := b.out ++ oth b.id (fun k => Go.Proofs.Ytmiagjcihmenfaa.mk b (b.feedM k)) n }
  | 0 => by simp [feedTo, oth]
  | n + 1 => by
    unfold feedTo oth
    by_cases h : n = b.id
    · rw [if_pos h, if_pos h]
      exact feedTo_eq b n
    · rw [if_neg h, if_neg h, feedTo_eq b n, ← List.append_assoc]
      rfl
theorem feedAll_eq (b : Bs) : b.feedAll = { b with out := b.out ++ b.feeds } := feedTo_eq b b.size
theorem askTo_eq (b : Bs) : ∀ n, b.askTo n = { b with out := b.out ++ oth b.id (fun k => Go.Proofs.Ytmiagjcihmenfaa.mk b (askM b k)) n }
  | 0 => by simp [askTo, oth]
  | n + 1 => by
    unfold askTo oth
    by_cases h : n = b.id
    · rw [if_pos h, if_pos h]
      exact askTo_eq b n
    · rw [if_neg h, if_neg h, askTo_eq b n, ← List.append_assoc]
      rfl
/-- The greatest number that may be committed; 0: none. -/
def top (b : Bs) : Int := b.best (b.last - b.commit).toNat
def settleC (b : Bs) : Bs := if 0 < b.top then { b with commit := b.top } else b
def settleM (b : Bs) : List Ms := if 0 < b.top then ({ b with commit := b.top } : Bs).feeds else []
theorem settle_eq (b : Bs) : b.settle = { b.settleC with out := b.out ++ b.settleM } := by
  unfold settle settleC settleM top
  split
  · rw [feedAll_eq]
  · simp
/-- What a leader knows of others fits its log. -/
structure Ld (b : Bs) : Prop where
  nx : ∀ k, k < b.size → b.next.getD k 0 ≤ b.last + 1
  mt : ∀ k, k < b.size → b.mat.getD k 0 ≤ b.last
  lo : ∀ k, k < b.size → 0 ≤ b.mat.getD k 0 ∧ b.mat.getD k 0 < b.next.getD k 0
theorem ends_le {b : Bs} (h : Ld b) : ∀ n, n ≤ b.size → ∀ x ∈ b.endsTo n, x ≤ b.last
  | 0, _, x, hx => by cases hx
  | n + 1, hn, x, hx => by
    unfold endsTo at hx
    rcases List.mem_append.1 hx with q | q
    · exact ends_le h n (by omega) x q
    · rw [List.mem_singleton.1 q]
      split
      · exact Int.le_refl _
      · exact h.mt n (by omega)
end Bs
section
variable {w w' : World} {A : Nat} {S T : Nat → Prop} {b : Bs} {lv : Value} {pf : Int}
theorem feed_p (h : Pb w A S b) {k : Nat} (hk : k < 5) (hl : b.next.getD k 0 ≤ b.last + 1) : Calls Try.prog 50 #[.pointer (some ⟨A, 0, none⟩), .int .i64 k] w fun e w' => ∃ lv, e = .returned (msV (mk b (b.feedM k)) lv) ∧ Below w.heap.size w w' ∧ w'.ownsRow w.heap.size 49 4 lv (b.feedM k).list.length (enC (b.feedM k).list) := by
  by_cases q : b.next.getD k 0 ≤ b.base
  · exact feed_p0 h hk q
  · exact feed_p1 h hk q hl
theorem feeds_p (h : Pb w A S b) (hl : b.Ld) : Calls Try.prog 45 #[.pointer (some ⟨A, 0, none⟩), .func (.func 50) #[.pointer (some ⟨A, 0, none⟩)] #[]] w fun e w' => ∃ ov, e = .returned ov ∧ ∃ O : List (Ms × Value), O.map Prod.fst = b.feeds ∧ Ou w' w.heap.size O ov ∧ Below w.heap.size w w' := by
  have hsz : b.size ≤ 5 := by obtain ⟨_, _, q⟩ := h; exact q.sz
  exact toOthers_50 h (fun k => mk b (b.feedM k)) (fun k hk _ V hV => feed_p hV (by omega) (hl.nx k hk))
theorem asks_p (h : Pb w A S b) : Calls Try.prog 45 #[.pointer (some ⟨A, 0, none⟩), .func (.func 46) #[.pointer (some ⟨A, 0, none⟩)] #[]] w fun e w' => ∃ ov, e = .returned ov ∧ ∃ O : List (Ms × Value), O.map Prod.fst = oth b.id (fun k => mk b (askM b k)) b.size ∧ Ou w' w.heap.size O ov ∧ Below w.heap.size w w' :=
  toOthers_46 h (fun k => mk b (askM b k)) (fun k _ _ V hV => ask_p hV k (by unfold Bs.last; omega))
end
end Go.Proofs.Ytmiagjcihmenfaa
