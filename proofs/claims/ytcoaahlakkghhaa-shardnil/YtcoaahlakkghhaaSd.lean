/- Maps whose keys are transactions' names. -/
import Derived.Test.YtcoaahlakkghhaaSc
import Derived.Test.YtcoaahlakkghhaaVq
import Derived.DeepKeys4
import Derived.Maps.OwnSet
import Derived.Maps.Keyed
namespace Go.Proofs.Ytcoaahlakkghhaa
open Go.RowKit Go.Maps
/-- An element reads as itself. -/
def itself (v : Value) : Option (DataW Value × List MemPlace) := some (.held v, [])
def TdOk (t : Td) : Prop := I64 t.1 ∧ I64 t.2.1 ∧ I64 t.2.2
theorem key37 : Keyed Try.prog 37 := Keyed.of_law (deep_law_laid laidOut (m := 3) (by decide) (of_decide_eq_true (by kernel_rfl)) (by kernel_rfl) (by kernel_rfl))
def klit (t : Td) : Lit := .string (keyBytes [.int .i64 t.1, .int .i64 t.2.1, .int .i64 t.2.2])
theorem lits3 {n : Int} (h : I64 n) (d : Nat) : Try.prog.keyLits (d + 1) 3 [.int .i64 n] = some [.int .i64 n] := by
  unfold Program.keyLits
  rw [Try.underlying3]
  simp only
  rw [if_pos ⟨trivial, WalkArith.wf_i64 (by omega)⟩]
theorem fields37 : ∃ fs : Array Field, Try.prog.underlying 37 = some (.struct fs) ∧ fs.all (fun f => f.name != "_") = true ∧ fs.toList.map (fun f => (f.type, f.offset)) = [(3, 0), (3, 1), (3, 2)] := ⟨_, Try.underlying37, by kernel_rfl, by kernel_rfl⟩
theorem lits37 (t : Td) (h : TdOk t) (k : Nat) : Try.prog.keyLits (k + 2) 37 (tdL t) = some [.int .i64 t.1, .int .i64 t.2.1, .int .i64 t.2.2] := by
  obtain ⟨⟨l⟩, hu, hn, hf⟩ := fields37
  have l0 := lits3 h.1 k
  have l1 := lits3 h.2.1 k
  have l2 := lits3 h.2.2 k
  have hc : (tdL t).length = Try.prog.cellsOf 37 := (by kernel_rfl : (3 : Nat) = Try.prog.cellsOf 37)
  unfold Program.keyLits
  rw [hu]
  simp only
  rw [if_pos ⟨hc, hn⟩]
  clear hc hu hn
  rcases l with _ | ⟨f0, _ | ⟨f1, _ | ⟨f2, _ | ⟨f3, l⟩⟩⟩⟩
  · simp at hf
  · simp at hf
  · simp at hf
  · simp only [List.map_cons, List.map_nil, List.cons.injEq, Prod.mk.injEq, and_true] at hf
    obtain ⟨⟨a0, b0⟩, ⟨a1, b1⟩, a2, b2⟩ := hf
    simp [a0, a1, a2, b0, b1, b2, cells3, l0, l1, l2]
  · simp at hf
theorem key_of (t : Td) (h : TdOk t) : keyOf Try.prog 37 (tdV t) = some (klit t) := by
  have hl : Try.prog.keyLits (Try.prog.types.size + 1) 37 (tdL t) = some [.int .i64 t.1, .int .i64 t.2.1, .int .i64 t.2.2] :=
    (congrArg (fun n => Try.prog.keyLits n 37 (tdL t)) (by kernel_rfl : Try.prog.types.size + 1 = 206)).trans (lits37 t h 204)
  obtain ⟨fs, hu, _, _⟩ := fields37
  unfold keyOf klit
  rw [hu]
  simp only
  have h1 : Try.prog.keyType 37 = true := by kernel_rfl
  have h2 : (tdV t).formed Try.prog 37 = true := by
    unfold Value.formed
    rw [hu]
    exact beq_iff_eq.2 (by kernel_rfl : (3 : Nat) = Try.prog.cellsOf 37)
  rw [h1, h2]
  simp only [Bool.and_self, if_true]
  have : (tdV t).cells.toList = tdL t := rfl
  rw [this, hl]
  rfl
theorem klit_key {t : Td} (h : TdOk t) : WideAt.IsKeyLit (klit t) := key37.key (key_of t h)
theorem klit_inj {a b : Td} (ha : TdOk a) (hb : TdOk b) (e : klit a = klit b) : a = b := by
  have h1 := key_of a ha
  have h2 := key_of b hb
  rw [e] at h1
  have h3 := key37.inj h1 h2
  have h4 : tdL a = tdL b := by
    have := congrArg (fun v => v.cells.toList) h3
    exact this
  simp only [tdL, List.cons.injEq, Value.int.injEq, true_and, and_true] at h4
  obtain ⟨x, y, z⟩ := a
  obtain ⟨x', y', z'⟩ := b
  simp only at h4
  obtain ⟨rfl, rfl, rfl⟩ := h4
  rfl
/-- Block B is a map of at most n entries that holds what f says. -/
def Mt (w : World) (B n : Nat) (f : Td → Option Value) : Prop := ∃ D : DataW Value, w.ownsMap Try.prog 37 itself B n D ∧ ∀ t, TdOk t → has D (klit t) = (f t).isSome ∧ ∀ v, f t = some v → ∀ z, D.atKey (klit t) z = .held v
section
variable {w w' : World} {B n : Nat} {f : Td → Option Value} {T e : TypeId} {z : Value}
theorem Mt.made (w : World) : Mt (w.alloc (.map #[] 0)) w.heap.size 0 (fun _ => none) :=
  ⟨_, World.ownsMap_made w _ _ _, fun t _ => ⟨rfl, fun e h => by cases h⟩⟩
theorem Mt.lt (h : Mt w B n f) : B < w.heap.size := by
  obtain ⟨D, h1, _⟩ := h
  exact h1.lt
theorem Mt.isMap (h : Mt w B n f) : ∃ es clock, w.heap[B]? = some (.map es clock) := by
  obtain ⟨D, ⟨es, clock, h1, _⟩, _⟩ := h
  exact ⟨es, clock, h1⟩
theorem Mt.like (h : Mt w B n f) (hb : w'.heap[B]? = w.heap[B]?) : Mt w' B n f := by
  obtain ⟨D, ⟨es, clock, h1, h2⟩, h3⟩ := h
  exact ⟨D, ⟨es, clock, hb.trans h1, h2⟩, h3⟩
theorem Mt.on (h : Mt w B n f) (hb : Below w.heap.size w w') : Mt w' B n f := h.like (hb.block _ h.lt)
theorem Mt.mono (h : Mt w B n f) {m : Nat} (hm : n ≤ m) : Mt w B m f := by
  obtain ⟨D, h1, h2⟩ := h
  exact ⟨D, h1.mono hm, h2⟩
/-- What is looked up. -/
theorem Mt.look (h : Mt w B n f) (ht : Try.prog.underlying T = some (.map 37 e)) (hz : (zeroValue e).run Try.prog w = .ok z w) {t : Td} (hi : TdOk t) : (Instr.lookup T (.map (some B)) (tdV t) true).run Try.prog w = .ok (.tuple #[(f t).getD z, .bool (f t).isSome]) w := by
  obtain ⟨D, h1, h2⟩ := h
  obtain ⟨v, ps, hr, hv⟩ := h1.look_ok key37 ht hz (zd := .held z) (zp := []) rfl (key_of t hi)
  rw [hr, (h2 t hi).1]
  have hv : DataW.held v = D.atKey (klit t) (.held z) := by
    have := congrArg (Option.map Prod.fst) hv
    simpa [itself] using this
  cases hf : f t with
  | none =>
    have h3 := (h2 t hi).1
    rw [hf] at h3
    rw [atKey_of_not_has h3] at hv
    cases hv
    rfl
  | some x =>
    rw [(h2 t hi).2 x hf] at hv
    cases hv
    rfl
/-- What is put. -/
theorem Mt.put (h : Mt w B n f) (ht : Try.prog.underlying T = some (.map 37 e)) (hn : n < maxLen) {t : Td} (hi : TdOk t) (x : Value) : ∃ w', (Instr.mapUpdate T (.map (some B)) (tdV t) x).run Try.prog w = .ok () w' ∧ Mt w' B (n + 1) (fun j => if j = t then some x else f j) ∧ w.grownBy w' (some B) := by
  obtain ⟨D, h1, h2⟩ := h
  obtain ⟨w', hr, h3, h4⟩ := h1.update key37 ht hn (val := x) (d := .held x) (ps := []) (key_of t hi) rfl
  refine ⟨w', hr, ⟨_, h3, fun j hj => ?_⟩, h4⟩
  dsimp only
  by_cases e : j = t
  · subst e
    rw [if_pos rfl]
    refine ⟨has_put_same h1.isMap (klit_key hj) _, fun v he z => ?_⟩
    cases he
    exact atKey_put_same h1.isMap (klit_key hj) _ _
  · have hne : klit j ≠ klit t := fun q => e (klit_inj hj hi q)
    rw [if_neg e]
    refine ⟨by rw [has_put_other hne]; exact (h2 j hj).1, fun v he z => ?_⟩
    rw [atKey_put_other hne]
    exact (h2 j hj).2 v he z
end
end Go.Proofs.Ytcoaahlakkghhaa
