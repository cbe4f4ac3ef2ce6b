/- partsOf, of one read and one write. -/
import Derived.Test.YtfokgalgdlajlaaCu
namespace Go.Proofs.Ytfokgalgdlajlaa
open Go.RowKit
def rdOf (r : Rd) (p : Pt) : PP := ⟨(p.sh : Int), [⟨p.lo, p.hi, seenP p.lo p.hi r.seen⟩], []⟩
abbrev ptA (p : Pt) : Array Value := #[.int .i64 (p.sh : Int), .string p.lo, .string p.hi]
theorem op_s22 {ρ : Operand → Value} {X : World} {d : Option Tmp} {ty : TypeId} {ps : String} {af : Array Edge} {g : Option (Nat × Bool)} {x : Operand} {lo hi : ByteArray} {a : Option Addr} {n m : Nat} (e : ρ x = .agg #[.string lo, .string hi, .slice a n m]) : (execOp ρ ⟨d, .buildSlice 22 1 #[(0, x)], ty, ps, af, g⟩).run Try.prog X = .ok (.value (.slice (some ⟨X.heap.size, 0, none⟩) 1 1)) (X.alloc (.cells #[.string lo, .string hi, .slice a n m] 67)) := by
  simp only [execOp]
  simp [e]
  go_simp
theorem op_s23 {ρ : Operand → Value} {X : World} {d : Option Tmp} {ty : TypeId} {ps : String} {af : Array Edge} {g : Option (Nat × Bool)} {x : Operand} {k v : ByteArray} {b : Bool} (e : ρ x = .agg #[.string k, .string v, .bool b]) : (execOp ρ ⟨d, .buildSlice 23 1 #[(0, x)], ty, ps, af, g⟩).run Try.prog X = .ok (.value (.slice (some ⟨X.heap.size, 0, none⟩) 1 1)) (X.alloc (.cells #[.string k, .string v, .bool b] 69)) := by
  simp only [execOp]
  simp [e]
  go_simp
theorem op_b67 {ρ : Operand → Value} {X : World} {d : Option Tmp} {ty : TypeId} {ps : String} {af : Array Edge} {g : Option (Nat × Bool)} {x y : Operand} {lo hi : ByteArray} {a : Option Addr} {n m : Nat} (e : ρ x = .agg #[.string lo, .string hi]) (e1 : ρ y = .slice a n m) : (execOp ρ ⟨d, .build 67 #[(0, x), (1, y)], ty, ps, af, g⟩).run Try.prog X = .ok (.value (.agg #[.string lo, .string hi, .slice a n m])) X := by
  simp only [execOp]
  simp [e, e1]
  go_simp
theorem PS.mono {B B' Pb : Nat} {X : World} {Ls : List PP} {L : List Gp} {v : Value} (h : PS B X Pb Ls L v) (hb : B' ≤ B) : PS B' X Pb Ls L v := ⟨⟨h.pv.blk, own_mono h.pv.row hb, h.pv.few, h.pv.rise⟩, h.ne, h.ln, fun i h1 h2 => ⟨(h.pt i h1 h2).sh, (h.pt i h1 h2).r.mono hb, own_mono (h.pt i h1 h2).w hb, (h.pt i h1 h2).rn, (h.pt i h1 h2).wn⟩⟩
theorem ps_none {X : World} {Pb : Nat} (B : Nat) (h : X.heap[Pb]? = some (.cells #[.slice none 0 0] 79 (0, 0))) : PS B X Pb [] [] (.slice none 0 0) := ⟨⟨h, World.ownsRow_nil _ _ _ _, Nat.zero_le _, fun i j hi => absurd hi (by simp)⟩, fun q => (by cases q), rfl, fun i hi => absurd hi (by simp)⟩
/-- One read more to none, in a new row. -/
theorem push_gr {V : World} {B : Nat} {lo hi : ByteArray} {a : Option Addr} {n m b : Nat} (hb : V.heap[b]? = some (.cells #[.string lo, .string hi, .slice a n m] 67 (0, 0))) (hB : B ≤ V.heap.size) : ∃ ad cap w', (Builtin.append_ #[22, 22] 22 #[.slice none 0 0, .slice (some ⟨b, 0, none⟩) 1 1]).run Try.prog V = .ok (.slice ad 1 cap) w' ∧ w'.ownsRow B 67 3 (.slice ad 1 cap) 1 [.string lo, .string hi, .slice a n m] ∧ Below V.heap.size V w' := by
  obtain ⟨ad, cap, w', hr, ho, hg, _⟩ := run_gr (m := 1) (c := 1) (news := [.string lo, .string hi, .slice a n m]) (World.ownsRow_nil V B 67 3) hB (.inr ⟨⟨b, 0, none⟩, rfl, rfl, fun j u hu => by
    rw [add_at, Nat.zero_add, cell_blk hb, ← hu]
    exact (Array.getElem?_toList (xs := #[Value.string lo, .string hi, .slice a n m]) (i := j)).symm⟩) (by
    intro u hu
    simp at hu
    rcases hu with rfl | rfl | rfl <;> rfl) (by omega)
  have hf : Fr V w' (fun k => (Value.slice none 0 0).ownBlock = some k) := Fr.grown (Fr.refl _ _) hg (fun k hk => .inl hk)
  exact ⟨ad, cap, w', hr, ho, hf.toBelow (fun k hk q => by cases q) (Nat.le_refl _)⟩
theorem push_wr {V : World} {B : Nat} {x : Wr} {b : Nat} (hb : V.heap[b]? = some (.cells #[.string x.key, .string x.val, .bool x.dead] 69 (0, 0))) (hB : B ≤ V.heap.size) : ∃ ad cap w', (Builtin.append_ #[23, 23] 23 #[.slice none 0 0, .slice (some ⟨b, 0, none⟩) 1 1]).run Try.prog V = .ok (.slice ad 1 cap) w' ∧ w'.ownsRow B 69 3 (.slice ad 1 cap) 1 (wrL x) ∧ Below V.heap.size V w' := by
  obtain ⟨ad, cap, w', hr, ho, hg, _⟩ := run_wr (m := 1) (c := 1) (news := wrL x) (World.ownsRow_nil V B 69 3) hB (.inr ⟨⟨b, 0, none⟩, rfl, rfl, fun j u hu => by
    rw [add_at, Nat.zero_add, cell_blk hb, ← hu]
    exact (Array.getElem?_toList (xs := #[Value.string x.key, .string x.val, .bool x.dead]) (i := j)).symm⟩) (by
    intro u hu
    exact wr_one [x] u (by simpa using hu)) (by omega)
  have hf : Fr V w' (fun k => (Value.slice none 0 0).ownBlock = some k) := Fr.grown (Fr.refl _ _) hg (fun k hk => .inl hk)
  exact ⟨ad, cap, w', hr, ho, hf.toBelow (fun k hk q => by cases q) (Nat.le_refl _)⟩
end Go.Proofs.Ytfokgalgdlajlaa
