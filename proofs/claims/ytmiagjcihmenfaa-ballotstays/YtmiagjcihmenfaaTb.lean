/- The map from numbers to entries that the law keeps. -/
import Derived.Test.YtmiagjcihmenfaaSa
import Derived.Maps.OwnSet
import Derived.Maps.OwnOps
import Derived.Maps.Views
namespace Go.Proofs.Ytmiagjcihmenfaa
open Go.RowKit Go.Maps

/-- An element reads as itself. -/
def itself (v : Value) : Option (DataW Value × List MemPlace) := some (.held v, [])
theorem key3 : Keyed Try.prog 3 := int_keyed Try.underlying3
theorem zero49 (w : World) : (zeroValue 49).run Try.prog w = .ok (enV en0) w := by kernel_rfl
theorem isKey (i : Int) : WideAt.IsKeyLit (.int .i64 i) := by first | trivial | exact Or.inr (Or.inl ⟨_, _, rfl⟩) | simp [WideAt.IsKeyLit]
theorem key_of {i : Int} (h : I64 i) : keyOf Try.prog 3 (.int .i64 i) = some (.int .i64 i) := keyOf_int_mk Try.underlying3 (WalkArith.wf_i64 (by omega))
/-- Block B is a map of at most n entries that holds what f says. -/
def Wm (w : World) (B n : Nat) (f : Int → Option En) : Prop := ∃ D : DataW Value, w.ownsMap Try.prog 3 itself B n D ∧ ∀ i, has D (.int .i64 i) = (f i).isSome ∧ ∀ e, f i = some e → ∀ z, D.atKey (.int .i64 i) z = .held (enV e)
section
variable {w w' : World} {B n : Nat} {f : Int → Option En}
theorem Wm.made (w : World) : Wm (w.alloc (.map #[] 0)) w.heap.size 0 (fun _ => none) :=
  ⟨_, World.ownsMap_made w _ _ _, fun i => ⟨rfl, fun e h => by cases h⟩⟩
theorem Wm.lt (h : Wm w B n f) : B < w.heap.size := by
  obtain ⟨D, h1, _⟩ := h
  exact h1.lt
theorem Wm.like (h : Wm w B n f) (hb : w'.heap[B]? = w.heap[B]?) : Wm w' B n f := by
  obtain ⟨D, ⟨es, clock, h1, h2⟩, h3⟩ := h
  exact ⟨D, ⟨es, clock, hb.trans h1, h2⟩, h3⟩
theorem Wm.on (h : Wm w B n f) (hb : Below w.heap.size w w') : Wm w' B n f := h.like (hb.block _ h.lt)
/-- What is looked up. -/
theorem Wm.look (h : Wm w B n f) {i : Int} (hi : I64 i) : (Instr.lookup 66 (.map (some B)) (.int .i64 i) true).run Try.prog w = .ok (.tuple #[enV ((f i).getD en0), .bool (f i).isSome]) w := by
  obtain ⟨D, h1, h2⟩ := h
  obtain ⟨v, ps, hr, hv⟩ := h1.look_ok key3 Try.underlying66 (zero49 w) (zd := .held (enV en0)) (zp := []) rfl (key_of hi)
  rw [hr, (h2 i).1]
  have hv : DataW.held v = D.atKey (.int .i64 i) (.held (enV en0)) := by
    have := congrArg (Option.map Prod.fst) hv
    simpa [itself] using this
  cases hf : f i with
  | none =>
    have h3 := (h2 i).1
    rw [hf] at h3
    rw [atKey_of_not_has h3] at hv
    cases hv
    rfl
  | some e =>
    rw [(h2 i).2 e hf] at hv
    cases hv
    rfl
/-- What is put. -/
theorem Wm.put (h : Wm w B n f) (hn : n < maxLen) {i : Int} (hi : I64 i) (e : En) : ∃ w', (Instr.mapUpdate 66 (.map (some B)) (.int .i64 i) (enV e)).run Try.prog w = .ok () w' ∧ Wm w' B (n + 1) (fun j => if j = i then some e else f j) ∧ w.grownBy w' (some B) := by
  obtain ⟨D, h1, h2⟩ := h
  obtain ⟨w', hr, h3, h4⟩ := h1.update key3 Try.underlying66 hn (val := enV e) (d := .held (enV e)) (ps := []) (key_of hi) rfl
  refine ⟨w', hr, ⟨_, h3, fun j => ?_⟩, h4⟩
  dsimp only
  by_cases hj : j = i
  · subst hj
    rw [if_pos rfl]
    refine ⟨has_put_same h1.isMap (isKey j) _, fun e' he z => ?_⟩
    cases he
    exact atKey_put_same h1.isMap (isKey j) _ z
  · rw [if_neg hj]
    have hne : (Lit.int .i64 j) ≠ .int .i64 i := fun q => hj (by injection q)
    refine ⟨by rw [has_put_other hne]; exact (h2 j).1, fun e' he z => ?_⟩
    rw [atKey_put_other hne]
    exact (h2 j).2 e' he z
end
end Go.Proofs.Ytmiagjcihmenfaa
