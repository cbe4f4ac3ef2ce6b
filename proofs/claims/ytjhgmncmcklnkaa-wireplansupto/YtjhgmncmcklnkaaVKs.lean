/- A whole struct, read at once where it is asked for on a condition. -/
import Derived.Test.YtjhgmncmcklnkaaVKr
namespace Go.Proofs.Ytjhgmncmcklnkaa
open Go.RowKit

theorem wpl_load_g {P : Program} {w : World} {ops : Array Oper} {rest : List Oper} {o : Oper} {a : Act} {Q : Exit → Act → World → Prop} {t : TypeId} {v p : Value} (x : Operand)
    (ho : o.op = .load t x) (hw : Region.wanted o (yielded ops a.tmps) = true) (hx : a.eval x = p) (hld : (Instr.loadAt t p).run P w = .ok v w)
    (h : wpList P ops Q rest (a.put o.dst v) w) : wpList P ops Q (o :: rest) a w := by
  subst hx
  refine wpList_step fun K hK => ?_
  rw [if_pos hw]
  unfold Oper.wp execOp
  simp only [ho, Sem.run_bind, Sem.run_pure, Result.andThen_ok, hld]
  exact hK _ _ h
theorem enc_in {a : At} : ∀ {x : List At}, a ∈ x → a.enc.length ≤ (encS x).length
  | b :: q, h => by
    simp only [encS, List.length_append]
    rcases List.mem_cons.1 h with e | e
    · rw [e]; omega
    · have := enc_in e; omega
theorem list_in {n : List (List At)} {x : List At} (hm : At.list n ∈ x) (hl : (encS x).length ≤ 1000000000) (h : n.length ≤ (encL n).length) : n.length ≤ 1000000000 ∧ (encL n).length ≤ 1000000000 := by
  have := enc_in hm
  simp only [At.enc, List.length_append] at this
  omega
end Go.Proofs.Ytjhgmncmcklnkaa
