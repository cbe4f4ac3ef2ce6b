/- Two boxes made and filled in a drawn order; what a list of writes that is gathered keeps. -/
import Derived.Test.YtbepekgaipipjaaRl
import Derived.Test.YtbepekgaipipjaaUg
import Derived.Test.YtbepekgaipipjaaRi
namespace Go.Proofs.Ytbepekgaipipjaa
open Go.RowKit
abbrev zV : Array Value := #[.int .i64 0, .int .i64 0, .string ⟨#[]⟩]
/-- Two boxes, amid a region that makes and fills them. -/
structure G15 (V : World) (v u : Go.Proofs.Ytbepekgaipipjaa.V) (a b c d : Bool) (p q : Value) (X : World) : Prop where
  hb : Below V.heap.size V X
  hp : a = true → ∃ F, p = .pointer (some ⟨F, 0, none⟩) ∧ V.heap.size ≤ F ∧ X.heap[F]? = some (.cells (bif c then vlA v else zV) 23 (0, 0))
  hq : b = true → ∃ F, q = .pointer (some ⟨F, 0, none⟩) ∧ V.heap.size ≤ F ∧ X.heap[F]? = some (.cells (bif d then vlA u else zV) 23 (0, 0))
  ne : a = true → b = true → p ≠ q
section
variable {V X X' : World} {v u : Go.Proofs.Ytbepekgaipipjaa.V} {a b c d : Bool} {p q p' q' : Value}
theorem G15.same (h : G15 V v u a b c d p q X) (hb : Below X.heap.size X X') (e1 : p' = p) (e2 : q' = q) : G15 V v u a b c d p' q' X' := by
  subst e1 e2
  refine ⟨h.hb.trans (hb.mono h.hb.size), fun e => ?_, fun e => ?_, h.ne⟩
  · obtain ⟨F, e1, e2, e3⟩ := h.hp e
    exact ⟨F, e1, e2, (hb.block F (blk_lt e3)).trans e3⟩
  · obtain ⟨F, e1, e2, e3⟩ := h.hq e
    exact ⟨F, e1, e2, (hb.block F (blk_lt e3)).trans e3⟩
theorem G15.new1 (h : G15 V v u a b c d p q X) (hc : c = false) (e1 : p' = .pointer (some ⟨X.heap.size, 0, none⟩)) (e2 : q' = q) : G15 V v u true b c d p' q' (X.alloc (.cells zV 23)) := by
  subst e1 e2 hc
  have k := h.same (p' := p) (q' := q') (bnew X (.cells zV 23)) rfl rfl
  refine ⟨k.hb, fun _ => ⟨_, rfl, h.hb.size, heap_alloc_new X _⟩, k.hq, fun _ e => ?_⟩
  obtain ⟨F, e1, _, e3⟩ := h.hq e
  rw [e1]
  intro q
  cases q
  exact absurd (blk_lt e3) (Nat.lt_irrefl _)
theorem G15.new2 (h : G15 V v u a b c d p q X) (hd : d = false) (e1 : p' = p) (e2 : q' = .pointer (some ⟨X.heap.size, 0, none⟩)) : G15 V v u a true c d p' q' (X.alloc (.cells zV 23)) := by
  subst e1 e2 hd
  have k := h.same (p' := p') (q' := q) (bnew X (.cells zV 23)) rfl rfl
  refine ⟨k.hb, k.hp, fun _ => ⟨_, rfl, h.hb.size, heap_alloc_new X _⟩, fun e _ => ?_⟩
  obtain ⟨F, e1, _, e3⟩ := h.hp e
  rw [e1]
  intro q
  cases q
  exact absurd (blk_lt e3) (Nat.lt_irrefl _)
theorem G15.st1 (h : G15 V v u true b false d p q X) : ∃ F, p = .pointer (some ⟨F, 0, none⟩) ∧ ∃ X', (Instr.storeAt 23 (.pointer (some ⟨F, 0, none⟩)) (vlV v)).run Try.prog X = .ok () X' ∧ G15 V v u true b true d p q X' := by
  obtain ⟨F, e1, e2, e3⟩ := h.hp rfl
  obtain ⟨X', hst, j', f'⟩ := st_row e3 (us := vlA v) rfl size23 (by simp [Value.oneCell'])
  refine ⟨F, e1, X', hst, h.hb.trans (f'.toBelow (fun k hk q => by omega) h.hb.size), fun _ => ⟨F, e1, e2, j'⟩, fun e => ?_, h.ne⟩
  obtain ⟨F', d1, d2, d3⟩ := h.hq e
  refine ⟨F', d1, d2, (f'.block F' (blk_lt d3) (fun q => ?_)).trans d3⟩
  have := h.ne rfl e
  rw [e1, d1, q] at this
  exact this rfl
theorem G15.st2 (h : G15 V v u a true c false p q X) : ∃ F, q = .pointer (some ⟨F, 0, none⟩) ∧ ∃ X', (Instr.storeAt 23 (.pointer (some ⟨F, 0, none⟩)) (vlV u)).run Try.prog X = .ok () X' ∧ G15 V v u a true c true p q X' := by
  obtain ⟨F, e1, e2, e3⟩ := h.hq rfl
  obtain ⟨X', hst, j', f'⟩ := st_row e3 (us := vlA u) rfl size23 (by simp [Value.oneCell'])
  refine ⟨F, e1, X', hst, h.hb.trans (f'.toBelow (fun k hk q => by omega) h.hb.size), fun e => ?_, fun _ => ⟨F, e1, e2, j'⟩, h.ne⟩
  obtain ⟨F', d1, d2, d3⟩ := h.hp e
  refine ⟨F', d1, d2, (f'.block F' (blk_lt d3) (fun q => ?_)).trans d3⟩
  have := h.ne e rfl
  rw [e1, d1, q] at this
  exact this rfl
end
section
variable {ρ : Operand → Value} {X : World} {d : Option Tmp} {ty : TypeId} {ps : String} {af : Array Edge} {g : Option (Nat × Bool)}
theorem op_alloc23 : (execOp ρ ⟨d, .alloc 23, ty, ps, af, g⟩).run Try.prog X = .ok (.value (.pointer (some ⟨X.heap.size, 0, none⟩))) (X.alloc (.cells zV 23)) := by
  simp only [execOp]
  go_simp
end
/-- Amid Changes: the table's box, the key value's, the writes that have been gathered. -/
structure Cs (w X : World) (Y0 K D : Nat) (ta : Array Value) (k : Go.Proofs.Ytbepekgaipipjaa.V) (Ws : List Wr) : Prop where
  hb : Below w.heap.size w X
  out : Out X w.heap.size D Ws
  jt : X.heap[Y0]? = some (.cells ta 55 (0, 0))
  jk : X.heap[K]? = some (.cells (vlA k) 23 (0, 0))
  hD : w.heap.size ≤ D
section
variable {w X X' : World} {Y0 K D : Nat} {ta : Array Value} {k : Go.Proofs.Ytbepekgaipipjaa.V} {Ws Ws' : List Wr}
theorem Cs.below (h : Cs w X Y0 K D ta k Ws) (b : Below X.heap.size X X') : Cs w X' Y0 K D ta k Ws :=
  ⟨h.hb.trans (b.mono h.hb.size), h.out.below b, (b.block _ (blk_lt h.jt)).trans h.jt, (b.block _ (blk_lt h.jk)).trans h.jk, h.hD⟩
theorem Cs.clo (h : Cs w X Y0 K D ta k Ws) (ho : Out X' w.heap.size D Ws') (b : Below w.heap.size X X') (hk : Kp X X') : Cs w X' Y0 K D ta k Ws' :=
  ⟨h.hb.trans b, ho, hk _ _ _ h.jt (by decide) (by decide), hk _ _ _ h.jk (by decide) (by decide), h.hD⟩
end
theorem fit_of {L : List Ce} (hf : ∀ c ∈ L, FitC c) (id : Int) : Fit (ofP L id).n := by
  unfold ofP
  cases h : L.find? (fun c => c.id == id) with
  | none => exact ⟨by decide, by decide⟩
  | some c => exact (hf c (List.mem_of_find?_eq_some h)).2
theorem fit_key {t : Tb} {old new : List Ce} (ho : ∀ c ∈ old, FitC c) (hn : ∀ c ∈ new, FitC c) : Fit (chgK t old new).n := by
  unfold chgK
  split
  · exact ⟨by decide, by decide⟩
  · unfold keyV
    split
    · exact fit_of hn _
    · exact fit_of ho _
theorem lr_nil {α : Type} {E : World → α → List Value → Prop} {c : Nat} {w : World} : Lr E c w [] (.slice none 0 0) := ⟨none, 0, rfl, fun _ => rfl, Nat.le_refl _, Nat.zero_le _, fun i hi => absurd hi (by simp)⟩
theorem Out.list {X : World} {B D : Nat} {Ws : List Wr} (h : Out X B D Ws) : ∃ ad cap, X.heap[D]? = some (.cells #[.slice ad Ws.length cap] 57 (0, 0)) ∧ Lr wrE 3 X Ws (.slice ad Ws.length cap) := by
  obtain ⟨v, j, ho⟩ := h
  obtain ⟨ad, cap, rfl⟩ := own_shape ho
  exact ⟨ad, cap, j, Lr.own wrL_len ho⟩
end Go.Proofs.Ytbepekgaipipjaa
