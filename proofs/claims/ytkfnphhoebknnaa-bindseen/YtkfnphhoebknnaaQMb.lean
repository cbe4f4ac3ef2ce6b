import Derived.Test.YtkfnphhoebknnaaQSc
import Derived.Test.YtkfnphhoebknnaaQNb
import Derived.Test.YtkfnphhoebknnaaQBy
import Derived.Test.YtkfnphhoebknnaaQUg
namespace Go.Proofs.Ytkfnphhoebknnaa
open Go.RowKit
section
variable {ρ : Operand → Value} {X : World} {d : Option Tmp} {ty : TypeId} {ps : String} {af : Array Edge} {g : Option (Nat × Bool)}
theorem op_add3m {x y : Operand} {n m r : Int} (e : ρ x = .int .i64 n) (e2 : ρ y = .int .i64 m) (h : n + m = r) (h1 : -9223372036854775808 ≤ r) (h2 : r ≤ 9223372036854775807) : (execOp ρ ⟨d, .binOp .add 3 x y 3, ty, ps, af, g⟩).run Try.prog X = .ok (.value (.int .i64 r)) X := by
  subst h
  simp only [execOp, e, e2]
  go_simp
  rw [IntKind.wrap_i64]
  omega
end
/-- Tables that were put one behind the other: the list lies from B on, what they list from B0 on. -/
structure WL (B B0 : Nat) (w : World) (R : List Gt) (lv : Value) : Prop where
  row : w.ownsRow B 54 5 lv R.length (R.flatMap gL)
  c : ∀ g ∈ R, w.ownsRow B0 65 7 g.2.1 g.1.cols.length (g.1.cols.flatMap colL)
  i : ∀ g ∈ R, w.ownsRow B0 70 5 g.2.2.1 g.1.ixs.length (g.1.ixs.flatMap ixL)
  k : ∀ g ∈ R, w.ownsRow B0 73 5 g.2.2.2 g.1.fks.length (g.1.fks.flatMap fkL)
theorem WL.nil (B B0 : Nat) (w : World) : WL B B0 w [] (.slice none 0 0) := ⟨World.ownsRow_nil _ _ 54 5, by simp, by simp, by simp⟩
theorem WL.reads {B B0 : Nat} {w : World} {R : List Gt} {lv : Value} (h : WL B B0 w R lv) : Lr tbE 5 w (R.map Prod.fst) lv := by
  obtain ⟨ad, cap, e, h0, h1, h2, h3⟩ := Lr.own gL_len h.row
  refine ⟨ad, cap, by rw [List.length_map]; exact e, h0, by rw [List.length_map]; exact h1, h2, fun i hi => ?_⟩
  rw [List.length_map] at hi
  obtain ⟨b, o, cs, ha, hl, hE, hc, hh⟩ := h3 i hi
  refine ⟨b, o, cs, ha, hl, ?_, hc, hh⟩
  rw [List.getElem_map]
  exact ⟨_, _, _, hE, ⟨Lr.own colL_len (h.c _ (List.getElem_mem hi)), Lr.own ixL_len (h.i _ (List.getElem_mem hi)), Lr.own fkL_len (h.k _ (List.getElem_mem hi))⟩⟩
theorem WL.keep {B B0 : Nat} {w w' : World} {R : List Gt} {lv : Value} {T : Nat → Prop} (h : WL B B0 w R lv) (hf : Fr w w' T) (ht : ∀ k, T k → ∀ cs e, w.heap[k]? = some (.cells cs e (0, 0)) → e ≠ 54 ∧ e ≠ 65 ∧ e ≠ 70 ∧ e ≠ 73) : WL B B0 w' R lv :=
  ⟨keep_rowB h.row hf (fun k hk cs q => (ht k hk cs _ q).1 rfl), fun g hg => keep_rowB (h.c g hg) hf (fun k hk cs q => (ht k hk cs _ q).2.1 rfl), fun g hg => keep_rowB (h.i g hg) hf (fun k hk cs q => (ht k hk cs _ q).2.2.1 rfl), fun g hg => keep_rowB (h.k g hg) hf (fun k hk cs q => (ht k hk cs _ q).2.2.2 rfl)⟩
theorem WL.below {B B0 : Nat} {w w' : World} {R : List Gt} {lv : Value} (h : WL B B0 w R lv) (hb : Below w.heap.size w w') : WL B B0 w' R lv := ⟨own_below h.row hb, fun g hg => own_below (h.c g hg) hb, fun g hg => own_below (h.i g hg) hb, fun g hg => own_below (h.k g hg) hb⟩
theorem WL.push {B B0 : Nat} {X : World} {R : List Gt} {lv : Value} (h : WL B B0 X R lv) (hB : B ≤ X.heap.size) (t : Tb) {ca ia ka : Option Addr} {cn cc im ic kn kc : Nat} (hc : X.ownsRow B0 65 7 (.slice ca cn cc) t.cols.length (t.cols.flatMap colL)) (hi : X.ownsRow B0 70 5 (.slice ia im ic) t.ixs.length (t.ixs.flatMap ixL)) (hk : X.ownsRow B0 73 5 (.slice ka kn kc) t.fks.length (t.fks.flatMap fkL)) (hz : R.length ≤ 1000000) :
    ∃ ad cap w', (Builtin.append_ #[22, 22] 22 #[lv, .slice (some ⟨X.heap.size, 0, none⟩) 1 1]).run Try.prog (X.alloc (.cells (tbA t (.slice ca cn cc) (.slice ia im ic) (.slice ka kn kc)) 54)) = .ok (.slice ad (R.length + 1) cap) w' ∧ WL B B0 w' (R ++ [((t, .slice ca cn cc, .slice ia im ic, .slice ka kn kc) : Gt)]) (.slice ad (R.length + 1) cap) ∧ Below B X w' := by
  obtain ⟨ad, cap, w', hrun, s1, s2, s3⟩ := pushT (own_mono h.row (Nat.zero_le _)) t (ca := ca) (cn := cn) (cc := cc) (ia := ia) (im := im) (ic := ic) (ka := ka) (kn := kn) (kc := kc) hz
  have up : ∀ {e : TypeId} {c n B9 : Nat} {v : Value} {xs : List Value}, e ≠ 54 → X.ownsRow B9 e c v n xs → w'.ownsRow B9 e c v n xs := fun he q => keep_rowB q s2 (fun k hk cs tg => by
    obtain ⟨cs2, t2⟩ := own_tag h.row k hk
    rw [t2] at tg
    simp only [Option.some.injEq, Obj.cells.injEq] at tg
    exact he tg.2.1.symm)
  refine ⟨ad, cap, w', hrun, ⟨?_, ?_, ?_, ?_⟩, s2.toBelow (fun k hk q => by
    have := (own_ge h.row k q).1
    omega) hB⟩
  · rw [List.length_append]
    exact own_base s1 (fun k hk => by
      rcases s3 k hk with z | z
      · exact (own_ge h.row k z).1
      · omega)
  · intro g hg
    rcases List.mem_append.1 hg with q | q
    · exact up (by decide) (h.c g q)
    · rw [List.mem_singleton] at q
      subst q
      exact up (by decide) hc
  · intro g hg
    rcases List.mem_append.1 hg with q | q
    · exact up (by decide) (h.i g q)
    · rw [List.mem_singleton] at q
      subst q
      exact up (by decide) hi
  · intro g hg
    rcases List.mem_append.1 hg with q | q
    · exact up (by decide) (h.k g q)
    · rw [List.mem_singleton] at q
      subst q
      exact up (by decide) hk
end Go.Proofs.Ytkfnphhoebknnaa
