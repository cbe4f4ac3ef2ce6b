/- The law RowsApart: what its two changes leave. -/
import Derived.Test.YtbepekgaipipjaaTc
namespace Go.Proofs.Ytbepekgaipipjaa
open Go.RowKit Go.Maps
def wrT (Ws : List Wr) : List (Bool × Bool) := Ws.map fun x => (inX x.key, x.dead)
theorem foS_one {Ws : List Wr} (h : wrT Ws = [(false, false), (true, false)]) : (foS Ws (fun _ => False, 0)).2 = 1 := by
  have hl : Ws.length = 2 := by have := congrArg List.length h; simpa [wrT] using this
  obtain ⟨a, b, rfl⟩ : ∃ a b, Ws = [a, b] := by
    rcases Ws with _ | ⟨a, _ | ⟨b, _ | ⟨c, L⟩⟩⟩
    · simp at hl
    · simp at hl
    · exact ⟨a, b, rfl⟩
    · simp at hl
  simp only [wrT, List.map_cons, List.map_nil, List.cons.injEq, Prod.mk.injEq, and_true] at h
  obtain ⟨⟨a1, _⟩, b1, b2⟩ := h
  simp [foS, stS, a1, b1, b2]
theorem foS_none {Ws : List Wr} (h : wrT Ws = [(false, true)]) (s : (ByteArray → Prop) × Nat) : foS Ws s = s := by
  have hl : Ws.length = 1 := by have := congrArg List.length h; simpa [wrT] using this
  obtain ⟨a, rfl⟩ := List.length_eq_one_iff.1 hl
  simp only [wrT, List.map_cons, List.map_nil, List.cons.injEq, Prod.mk.injEq, and_true] at h
  simp [foS, stS, h.1]
theorem apart1 {k v : Nat} (hk : k < 4) (hv : v < 3) : wrT (changesP (tab 2) [] (rowC k v)) = [(false, false), (true, false)] := by
  rcases (show k = 0 ∨ k = 1 ∨ k = 2 ∨ k = 3 by omega) with rfl | rfl | rfl | rfl <;> rcases (show v = 0 ∨ v = 1 ∨ v = 2 by omega) with rfl | rfl | rfl <;> kernel_rfl
theorem apart2 {k v : Nat} (hk : k < 4) (hv : v < 3) : wrT (changesP (tab 0) (rowC k v) []) = [(false, true)] := by
  rcases (show k = 0 ∨ k = 1 ∨ k = 2 ∨ k = 3 by omega) with rfl | rfl | rfl | rfl <;> rcases (show v = 0 ∨ v = 1 ∨ v = 2 by omega) with rfl | rfl | rfl <;> kernel_rfl
section
variable {ρ : Operand → Value} {X : World} {d : Option Tmp} {ty : TypeId} {ps : String} {af : Array Edge} {g : Option (Nat × Bool)}
theorem op_len63 {x : Operand} {v u : Value} (e : ρ x = v) (h : (Builtin.len_ #[63] ty #[v]).run Try.prog X = .ok u X) : (execOp ρ ⟨d, .call { callee := .builtin .len, args := #[x], argTypes := #[63] }, ty, ps, af, g⟩).run Try.prog X = .ok (.value u) X := by
  simp only [execOp, resolve, invoke, builtin, Sem.run_bind, Sem.run_pure, Result.andThen_ok, List.map_toArray, List.map_cons, List.map_nil, e, h]
end
set_option maxHeartbeats 4000000 in
set_option maxRecDepth 100000 in
theorem wantedE_any {X : World} {A M N m : Nat} {R : Nat → List Ce} {P : ByteArray → Prop} (h : Wd X A M N m R P) (hR : ∀ j, R j = []) :
    Calls Try.prog 34 #[.pointer (some ⟨A, 0, none⟩)] X fun e w' => ∃ M2, e = .returned (.map (some M2)) ∧ Es w' M2 0 0 (fun _ => False) ∧ Below X.heap.size X w' := by
  obtain ⟨⟨s, ja, ho⟩, _⟩ := h
  have sh : ∀ j, ∃ a c, s j = .slice a 0 c := fun j => by have q := own_shape (ho j); rw [hR j] at q; exact q
  obtain ⟨a0, p0, e0⟩ := sh 0
  obtain ⟨a1, p1, e1⟩ := sh 1
  obtain ⟨a2, p2, e2⟩ := sh 2
  obtain ⟨a3, p3, e3⟩ := sh 3
  rw [e0, e1, e2, e3] at ja
  obtain ⟨W, hW⟩ : ∃ W, W = X.alloc (.map #[] 0) := ⟨_, rfl⟩
  obtain ⟨M2, hM2⟩ : ∃ Y, X.heap.size = Y := ⟨_, rfl⟩
  have hes : Es W M2 0 0 (fun _ => False) := by rw [hW, ← hM2]; exact Es.made X
  have bW : Below X.heap.size X W := by rw [hW]; exact bnew _ _
  have jw := (bW.block A (blk_lt ja)).trans ja
  have c0 : W.cell? ⟨A, 0, none⟩ = some (.slice a0 0 p0) := cell_blk jw 0
  have c1 : W.cell? ⟨A, 1, none⟩ = some (.slice a1 0 p1) := cell_blk jw 1
  have c2 : W.cell? ⟨A, 2, none⟩ = some (.slice a2 0 p2) := cell_blk jw 2
  have c3 : W.cell? ⟨A, 3, none⟩ = some (.slice a3 0 p3) := cell_blk jw 3
  have HES := Lib.hid hes
  have HBW := Lib.hid bW
  have HW := Lib.hid hW
  have HM2 := Lib.hid hM2
  have hmm := @run_makeMap Try.prog
  clear ja jw bW hW hM2 hes sh ho hR e0 e1 e2 e3
  go_enter Try.func34, Try.ntmps34
  go_upto_region 2 with fail
  rw [← HW.out, HM2.out]
  go_wp2
  clear c0 c1 c2 c3
  have i0 : ∀ w : World, (Instr.index 62 (.agg #[.slice a0 0 p0, .slice a1 0 p1, .slice a2 0 p2, .slice a3 0 p3]) (.int .i64 0)).run Try.prog w = .ok (.slice a0 0 p0) w := fun _ => by kernel_rfl
  have i1 : ∀ w : World, (Instr.index 62 (.agg #[.slice a0 0 p0, .slice a1 0 p1, .slice a2 0 p2, .slice a3 0 p3]) (.int .i64 1)).run Try.prog w = .ok (.slice a1 0 p1) w := fun _ => by kernel_rfl
  have i2 : ∀ w : World, (Instr.index 62 (.agg #[.slice a0 0 p0, .slice a1 0 p1, .slice a2 0 p2, .slice a3 0 p3]) (.int .i64 2)).run Try.prog w = .ok (.slice a2 0 p2) w := fun _ => by kernel_rfl
  have i3 : ∀ w : World, (Instr.index 62 (.agg #[.slice a0 0 p0, .slice a1 0 p1, .slice a2 0 p2, .slice a3 0 p3]) (.int .i64 3)).run Try.prog w = .ok (.slice a3 0 p3) w := fun _ => by kernel_rfl
  go_loopw [11] (fun iv wr => wr = W ∧ (iv = .int .i64 0 ∨ iv = .int .i64 1 ∨ iv = .int .i64 2 ∨ iv = .int .i64 3 ∨ iv = .int .i64 4)) (fun iv _ => 4 - (intOf iv).toNat)
  case atStart => exact ⟨rfl, .inl rfl⟩
  case round =>
    obtain ⟨rfl, rfl | rfl | rfl | rfl | rfl⟩ := hrel
    · go_wp2
      go_roundw
      case rel => simp
      case measure => simp [intOf]
    · go_wp2
      go_roundw
      case rel => simp
      case measure => simp [intOf]
    · go_wp2
      go_roundw
      case rel => simp
      case measure => simp [intOf]
    · go_wp2
      go_roundw
      case rel => simp
      case measure => simp [intOf]
    · go_wp2
      go_ret
      exact ⟨_, rfl, HES.out, HBW.out⟩
end Go.Proofs.Ytbepekgaipipjaa
