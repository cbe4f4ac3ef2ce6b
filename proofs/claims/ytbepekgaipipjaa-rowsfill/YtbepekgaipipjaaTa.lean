/- The law's map of entries: a set of texts. -/
import Derived.Test.YtbepekgaipipjaaBo
import Derived.Maps.OwnSet
import Derived.Maps.RangeWalk
import Derived.Carry
namespace Go.Proofs.Ytbepekgaipipjaa
open Go.RowKit Go.Maps
abbrev keyS (n : ByteArray) : Lit := .string n.data.toList
theorem law9 : Keyed Try.prog 9 := string_keyed Try.underlying9
theorem key9 {n : ByteArray} (h : n.size ≤ maxLen) : keyOf Try.prog 9 (.string n) = some (keyS n) := WideMaps.keyOf_string_mk Try.underlying9 h
theorem isKeyS {n : ByteArray} : WideAt.IsKeyLit (keyS n) := by simp [WideAt.IsKeyLit]
theorem keyS_ne {a b : ByteArray} (h : a ≠ b) : keyS a ≠ keyS b := fun e => h (key_inj (by simpa [keyS] using e))
theorem zero4 (w : World) : (zeroValue 4).run Try.prog w = .ok (.bool false) w := by kernel_rfl
/-- The map[string]bool at block M has the m texts of P. -/
def Es (w : World) (M N m : Nat) (P : ByteArray → Prop) : Prop := ∃ D : DataW Unit, w.ownsMap Try.prog 9 (plainElem Try.prog 4) M N D ∧ (∀ k : ByteArray, k.size ≤ maxLen → (has D (keyS k) = true ↔ P k)) ∧ (∀ k : ByteArray, k.size ≤ maxLen → P k → ∀ z, D.atKey (keyS k) z = .lit (.bool true)) ∧ size D = m
section
variable {w w' : World} {M N m : Nat} {P Q : ByteArray → Prop}
theorem own_map {k : TypeId} {H : Type} {R : Value → Option (DataW H × List MemPlace)} {b n : Nat} {D : DataW H} (h : w.ownsMap Try.prog k R b n D) (he : w'.heap[b]? = w.heap[b]?) : w'.ownsMap Try.prog k R b n D := by
  obtain ⟨es, clock, hb, r⟩ := h
  exact ⟨es, clock, he.trans hb, r⟩
theorem Es.made (w : World) : Es (w.alloc (.map #[] 0)) w.heap.size 0 0 (fun _ => False) := ⟨.map [], World.ownsMap_made _ _ _ _, fun k _ => by simp [has], fun k _ h => absurd h id, rfl⟩
theorem Es.stays (h : Es w M N m P) (he : w'.heap[M]? = w.heap[M]?) : Es w' M N m P := by
  obtain ⟨D, ho, r⟩ := h
  exact ⟨D, own_map ho he, r⟩
theorem Es.lt (h : Es w M N m P) : M < w.heap.size := by
  obtain ⟨D, ho, _⟩ := h
  exact ho.lt
theorem Es.block (h : Es w M N m P) : ∃ es clock, w.heap[M]? = some (.map es clock) := by
  obtain ⟨D, ⟨es, clock, hb, _⟩, _⟩ := h
  exact ⟨es, clock, hb⟩
theorem Es.mono (h : Es w M N m P) {N' : Nat} (hn : N ≤ N') : Es w M N' m P := by
  obtain ⟨D, ho, r⟩ := h
  exact ⟨D, ho.mono hn, r⟩
theorem Es.len (h : Es w M N m P) (ty : TypeId) : (Builtin.len_ #[63] ty #[.map (some M)]).run Try.prog w = .ok (.int .i64 m) w := by
  obtain ⟨D, ho, _, _, rfl⟩ := h
  exact ho.len Try.underlying63 ty
theorem Es.put (h : Es w M N m P) {k : ByteArray} (hi : k.size ≤ maxLen) (hN : N < maxLen) {m' : Nat} (hm : (P k ∧ m' = m) ∨ (¬ P k ∧ m' = m + 1)) (hQ : ∀ j, Q j ↔ P j ∨ j = k) :
    ∃ w', (Instr.mapUpdate 63 (.map (some M)) (.string k) (.bool true)).run Try.prog w = .ok () w' ∧ Es w' M (N + 1) m' Q ∧ w.grownBy w' (some M) := by
  obtain ⟨D, ho, hP, hV, hs⟩ := h
  obtain ⟨w', hrun, ho', ht⟩ := ho.store law9 Try.underlying63 hN (key9 hi) (plainElem_bool Try.underlying4 true)
  refine ⟨w', hrun, ⟨_, ho', ?_, ?_, ?_⟩, ht.grown⟩
  · intro j hj
    rw [hQ]
    by_cases e : j = k
    · subst e
      rw [has_put_same ho.isMap isKeyS]
      simp
    · rw [has_put_other (keyS_ne e), hP j hj]
      constructor
      · exact .inl
      · rintro (q | q)
        · exact q
        · exact absurd q e
  · intro j hj hq z
    by_cases e : j = k
    · subst e
      exact atKey_put_same ho.isMap isKeyS _ _
    · rw [atKey_put_other (keyS_ne e)]
      refine hV j hj ?_ z
      rcases (hQ j).1 hq with q | q
      · exact q
      · exact absurd q e
  · rw [size_put (ho.tidy law9)]
    rcases hm with ⟨p, rfl⟩ | ⟨p, rfl⟩
    · rw [if_pos ((hP k hi).2 p), hs]
    · rw [if_neg (fun q => p ((hP k hi).1 q)), hs]
set_option maxRecDepth 100000 in
theorem Es.del (h : Es w M N m P) {k : ByteArray} (hi : k.size ≤ maxLen) {m' : Nat} (hm : (P k ∧ m' = m - 1) ∨ (¬ P k ∧ m' = m)) (hQ : ∀ j, Q j ↔ P j ∧ j ≠ k) (ty : TypeId) :
    ∃ w', (Builtin.delete_ #[63, 9] ty #[.map (some M), .string k]).run Try.prog w = .ok (.tuple #[]) w' ∧ Es w' M N m' Q ∧ w.grownBy w' (some M) := by
  obtain ⟨D, ho, hP, hV, hs⟩ := h
  obtain ⟨w', hrun, ho', ht⟩ := ho.drop law9 Try.underlying63 (key9 hi) ty
  refine ⟨w', hrun, ⟨_, ho', ?_, ?_, ?_⟩, ht.grown⟩
  · intro j hj
    rw [hQ]
    by_cases e : j = k
    · subst e
      rw [has_del_same]
      simp
    · rw [has_del_other (keyS_ne e), hP j hj]
      exact ⟨fun q => ⟨q, e⟩, fun q => q.1⟩
  · intro j hj hq z
    have q := (hQ j).1 hq
    rw [atKey_del_other (keyS_ne q.2)]
    exact hV j hj q.1 z
  · have := size_del (k := keyS k) (ho.tidy law9)
    rcases hm with ⟨p, e⟩ | ⟨p, rfl⟩
    · rw [if_pos ((hP k hi).2 p)] at this
      omega
    · rw [if_neg (fun q => p ((hP k hi).1 q))] at this
      omega
set_option maxRecDepth 100000 in
theorem Es.look (h : Es w M N m P) {k : ByteArray} (hi : k.size ≤ maxLen) {r : Bool} (hr : r = true ↔ P k) : (Instr.lookup 63 (.map (some M)) (.string k) false).run Try.prog w = .ok (.bool r) w := by
  obtain ⟨D, ho, hP, hV, _⟩ := h
  obtain ⟨v, ps, hrun, hv⟩ := ho.lookup law9 Try.underlying63 (zero4 w) (plainElem_bool Try.underlying4 false) (key9 hi)
  rw [hrun]
  have key : ∀ b : Bool, plainElem (H := Unit) Try.prog 4 v = some (.lit (.bool b), ps) → v = .bool b := fun b hb => by
    unfold plainElem at hb
    rw [Try.underlying4] at hb
    cases v <;> simp at hb
    obtain ⟨rfl, _⟩ := hb
    rfl
  cases r with
  | true =>
    rw [hV k hi (hr.1 rfl)] at hv
    rw [key true hv]
  | false =>
    have hh : has D (keyS k) = false := by
      cases e : has D (keyS k) with
      | false => rfl
      | true => have := hr.2 ((hP k hi).1 e); cases this
    rw [atKey_of_not_has hh] at hv
    rw [key false hv]
end
end Go.Proofs.Ytbepekgaipipjaa
