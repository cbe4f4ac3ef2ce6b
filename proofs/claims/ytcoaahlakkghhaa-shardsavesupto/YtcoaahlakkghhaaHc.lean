/- Shards, plain: a state that was come to may be loaded; two shards in one memory. -/
import Derived.Test.YtcoaahlakkghhaaHb
namespace Go.Proofs.Ytcoaahlakkghhaa
open Go.RowKit
structure MayP (s : Sh) : Prop where
  hi : 0 ≤ s.high
  rt : ∀ r ∈ s.recs, 0 ≤ r.2
  lk : (s.locks.map (fun x : Lk => x.txn)).Nodup
  rc : (s.recs.map (fun x : Rc => x.1)).Nodup
  ov : (s.over.map (fun x : Td => x)).Nodup
theorem MayP.is {s : Sh} (h : MayP s) : mayS s = true := by
  unfold mayS
  have h1 : (s.recs.any fun r => decide (r.2 < 0)) = false := by
    rw [List.any_eq_false]
    intro r hr
    have := h.rt r hr
    simp
    omega
  rw [h1, decide_eq_false (show ¬ s.high < 0 by have := h.hi; omega), decide_eq_false (fun q => q h.lk), decide_eq_false (fun q => q h.rc), decide_eq_false (fun q => q h.ov)]
  rfl
theorem nodup_snoc {α : Type} {l : List α} {x : α} (h : l.Nodup) (hx : ¬ x ∈ l) : (l ++ [x]).Nodup := by
  rw [List.nodup_append]
  refine ⟨h, by simp, fun a ha b hb q => ?_⟩
  rw [List.mem_singleton.1 hb] at q
  rw [q] at ha
  exact hx ha
theorem rec_none {R : List Rc} {t : Td} (h : recOf R t = none) : ¬ t ∈ R.map (fun x : Rc => x.1) := by
  unfold recOf at h
  rw [Option.map_eq_none_iff, List.find?_eq_none] at h
  intro q
  obtain ⟨r, hr, e⟩ := List.mem_map.1 q
  exact h r hr (decide_eq_true e)
theorem may_enter {s : Sh} (h : MayP s) {t : Td} {n : Int} (hn : recOf s.recs t = none) (h0 : 0 ≤ n) : MayP (s.enter (t, n)) :=
  ⟨h.hi, fun r hr => by
    rcases List.mem_append.1 (show r ∈ s.recs ++ [(t, n)] from hr) with q | q
    · exact h.rt r q
    · rw [List.mem_singleton.1 q]
      exact h0, h.lk, by
    show ((s.recs ++ [(t, n)]).map (fun x : Rc => x.1)).Nodup
    rw [List.map_append]
    exact nodup_snoc h.rc (rec_none hn), h.ov⟩
theorem may_act {s : Sh} (h : MayP s) (a : Int) (c : Cm) : MayP (s.act a c).1 := by
  rcases act_kind a c with ⟨_, e⟩ | ⟨_, e⟩ | ⟨_, e⟩ | ⟨_, e⟩ | e
  · rw [e]
    unfold Sh.prepare
    split
    · exact h
    · split
      · exact h
      · split
        · exact h
        · rename_i _ h2 _
          refine ⟨h.hi, h.rt, ?_, h.rc, h.ov⟩
          show ((s.locks ++ [newL c]).map (fun x : Lk => x.txn)).Nodup
          rw [List.map_append]
          refine nodup_snoc h.lk (fun q => ?_)
          rcases lockI_cases s.locks c.txn with ⟨_, z⟩ | ⟨i, _, z, _⟩
          · obtain ⟨l, hl, el⟩ := List.mem_map.1 q
            exact z l hl el
          · rw [z] at h2
            exact h2 (Int.natCast_nonneg i)
  · rw [e]
    unfold Sh.commit
    split
    · exact h
    · rename_i hn
      split
      · exact may_enter h hn (Int.le_refl 0)
      · refine may_enter h hn ?_
        unfold mx3
        by_cases hm : c.mn < a
        · rw [if_pos hm]
          split <;> omega
        · rw [if_neg hm]
          split <;> omega
  · rw [e]
    unfold Sh.abort
    split
    · exact h
    · rename_i hn
      exact may_enter h hn (Int.le_refl 0)
  · rw [e]
    by_cases h2 : c.txn ∈ s.over
    · rw [resolve_over s c h2]
      exact h
    · obtain ⟨p1, p2, _, _, _⟩ := resolve_parts s c h2
      refine ⟨?_, by rw [p1]; exact h.rt, ?_, by rw [p1]; exact h.rc, ?_⟩
      · have hh := h.hi
        unfold Sh.resolve
        rw [if_neg h2]
        have hu : ((s.ended c.txn).unlock c.txn).1.high = s.high := by
          rcases unlock_cases (s.ended c.txn) c.txn with ⟨e, _⟩ | ⟨i, _, _, e⟩ <;> (rw [e]; rfl)
        split
        · rename_i hp
          show 0 ≤ (if (((s.ended c.txn).unlock c.txn).1.puts ((s.ended c.txn).unlock c.txn).2 c.ts).high < c.ts then c.ts else (((s.ended c.txn).unlock c.txn).1.puts ((s.ended c.txn).unlock c.txn).2 c.ts).high)
          have hv : (((s.ended c.txn).unlock c.txn).1.puts ((s.ended c.txn).unlock c.txn).2 c.ts).high = s.high := hu
          rw [hv]
          split <;> omega
        · rw [hu]
          exact hh
      · rcases resolve_locks s c with q | ⟨i, hi, _, q⟩
        · rw [q]
          exact h.lk
        · rw [q]
          exact h.lk.sublist ((List.eraseIdx_sublist _ _).map _)
      · rw [p2, List.map_append]
        refine nodup_snoc h.ov (fun q => ?_)
        simp only [List.map_id'] at q
        exact h2 q
  · rw [e]
    exact h
theorem may_acts {s : Sh} (h : MayP s) : ∀ L : List Oq, MayP (s.acts L) := by
  intro L
  induction L generalizing s with
  | nil => exact h
  | cons q L ih => exact ih (may_act h q.1 q.2)
theorem may_nil : MayP Sh.nil := ⟨Int.le_refl 0, fun _ h => (by cases h), List.nodup_nil, List.nodup_nil, List.nodup_nil⟩
/-! ### Two shards -/
structure Tw (w V : World) (A B : Nat) (SA SB : Nat → Prop) (s t : Sh) : Prop where
  a : Sy V A SA s
  b : Sy V B SB t
  off : ∀ k, SA k → ¬ SB k
  la : ∀ k, SA k → w.heap.size ≤ k
  lb : ∀ k, SB k → w.heap.size ≤ k
  bl : Below w.heap.size w V
section
variable {w V X : World} {A B : Nat} {SA SB : Nat → Prop} {s t s' : Sh}
theorem Tw.on (h : Tw w V A B SA SB s t) (hb : Below V.heap.size V X) : Tw w X A B SA SB s t :=
  ⟨h.a.on hb, h.b.on hb, h.off, h.la, h.lb, h.bl.trans (hb.mono h.bl.size)⟩
theorem Tw.flip (h : Tw w V A B SA SB s t) : Tw w V B A SB SA t s := ⟨h.b, h.a, fun k hk q => h.off k q hk, h.lb, h.la, h.bl⟩
theorem Tw.stepA (h : Tw w V A B SA SB s t) (st : Step V A SA s' X) : ∃ SA', Tw w X A B SA' SB s' t := by
  obtain ⟨S', hy, hg, hf⟩ := st
  refine ⟨S', hy, h.b.stays hf (fun k hk q => h.off k q hk), fun k hk q => ?_, fun k hk => ?_, h.lb, h.bl.trans (hf.toBelow (fun k hk q => by have := h.la k q; omega) h.bl.size)⟩
  · rcases hg k hk with z | z
    · exact h.off k z q
    · have := h.b.lt k q
      omega
  · rcases hg k hk with z | z
    · exact h.la k z
    · have := h.bl.size
      omega
/-- A command done by the first. -/
theorem Tw.goA {U : World} {q : Oq} {Y : Nat} {os : Array Value} (h : Tw w X A B SA SB s t) (hA : ∀ k, SA k → k < U.heap.size) (jY : X.heap[Y]? = some (.cells os 49 (0, 0))) (hy : ¬ SA Y) (hU : U.heap.size ≤ X.heap.size) (htd : TdOk q.2.txn) (hkd : I64 q.2.kind) {Tb n : Nat} (hbd : Bd s Tb n) (h1 : Tb < 800000) (h2 : n < 800000) (h3 : q.2.reads.length ≤ 800000) (h4 : q.2.writes.length ≤ 800000) {cs' : Array Value} (ho : OwnV U X q.2 cs') :
    Calls Try.prog 13 #[.pointer (some ⟨A, 0, none⟩), .int .i64 q.1, .agg cs'] X fun e w' => e = .returned (rzV (s.act q.1 q.2).2) ∧ (∃ SA', Tw w w' A B SA' SB (s.act q.1 q.2).1 t) ∧ w'.heap[Y]? = some (.cells os 49 (0, 0)) ∧ U.heap.size ≤ w'.heap.size ∧ Sm' U X w' := by
  obtain ⟨N, ra', rc', wa', wc', K, hN, ho⟩ := ho
  refine (do_any h.a (ho.apart (fun k hk => Nat.lt_of_lt_of_le (hA k hk) hN)) htd hkd (hbd.room h1 h2 h3 h4) q.1).mono ?_
  rintro e w' ⟨rfl, hst⟩
  refine ⟨rfl, h.stepA hst, ?_, ?_, ?_⟩
  · obtain ⟨_, _, _, hf⟩ := hst
    exact (hf.block Y (blk_lt jY) hy).trans jY
  · obtain ⟨_, _, _, hf⟩ := hst
    exact Nat.le_trans hU hf.size
  · obtain ⟨_, _, _, hf⟩ := hst
    exact ⟨SA, hA, hf⟩
end
end Go.Proofs.Ytcoaahlakkghhaa
/- t -/
namespace Go.Proofs.Ytcoaahlakkghhaa
open Go.RowKit
section
variable {ρ : Operand → Value} {X : World} {d : Option Tmp} {ty : TypeId} {ps : String} {af : Array Edge} {g : Option (Nat × Bool)}
theorem op_neq52 {x y : Operand} {r : Rz} (e : ρ x = rzV r) (e2 : ρ y = rzV r) : (execOp ρ ⟨d, .binOp .neq 52 x y 52, ty, ps, af, g⟩).run Try.prog X = .ok (.value (.bool false)) X := by
  simp only [execOp, e, e2]
  go_simp
end
end Go.Proofs.Ytcoaahlakkghhaa
