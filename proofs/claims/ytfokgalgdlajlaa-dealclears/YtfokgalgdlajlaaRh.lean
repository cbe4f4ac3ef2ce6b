/- Clear; are the two the same? -/
import Derived.Test.YtfokgalgdlajlaaRg
namespace Go.Proofs.Ytfokgalgdlajlaa
open Go.RowKit
section
variable {ρ : Operand → Value} {X : World} {d : Option Tmp} {ty : TypeId} {ps : String} {af : Array Edge} {g : Option (Nat × Bool)}
theorem op_neq9s {x y : Operand} {n : ByteArray} (e : ρ x = .string n) (e2 : ρ y = .string n) : (execOp ρ ⟨d, .binOp .neq 9 x y 9, ty, ps, af, g⟩).run Try.prog X = .ok (.value (.bool false)) X := by
  simp only [execOp, e, e2]
  go_simp
theorem op_eql4 {x y : Operand} {n m b : Bool} (e : ρ x = .bool n) (e2 : ρ y = .bool m) (h : decide (n = m) = b) : (execOp ρ ⟨d, .binOp .eql 4 x y 4, ty, ps, af, g⟩).run Try.prog X = .ok (.value (.bool b)) X := by
  subst h
  simp only [execOp, e, e2]
  cases n <;> cases m <;> go_simp
theorem op_i116 {x y : Operand} {B o n m i : Nat} (e : ρ x = .slice (some ⟨B, o, none⟩) n m) (e2 : ρ y = .int .i64 (i : Int)) (h : i < n) : (execOp ρ ⟨d, .indexAddr 116 x y, ty, ps, af, g⟩).run Try.prog X = .ok (.value (.pointer (some ⟨B, o + i, none⟩))) X := by
  have k0 : (0 : Int) ≤ (i : Int) := by omega
  have k1 : (i : Int) < (n : Int) := by omega
  simp only [execOp, e, e2]
  go_simp
theorem op_i117 {x y : Operand} {B o n m i : Nat} (e : ρ x = .slice (some ⟨B, o, none⟩) n m) (e2 : ρ y = .int .i64 (i : Int)) (h : i < n) : (execOp ρ ⟨d, .indexAddr 117 x y, ty, ps, af, g⟩).run Try.prog X = .ok (.value (.pointer (some ⟨B, o + i * 30, none⟩))) X := by
  have k0 : (0 : Int) ≤ (i : Int) := by omega
  have k1 : (i : Int) < (n : Int) := by omega
  simp only [execOp, e, e2]
  go_simp
end
section
variable {w : World}
set_option maxHeartbeats 16000000 in
set_option maxRecDepth 100000 in
theorem clear_any (c : CW) : Calls Try.prog 12 #[.agg #[.int .i64 c.t0, .int .i64 c.t1, .int .i64 c.t2], .int .i64 c.home, .int .i64 c.sh] w fun e w' => ∃ A g, e = .returned (.pointer (some ⟨A, 0, none⟩)) ∧ PD w' A g c ⟨2, 0, 0⟩ ∧ w.heap.size ≤ A ∧ Below w.heap.size w w' := by
  obtain ⟨W, hW⟩ : ∃ W, W = ((w.alloc (.cells #[.int .i64 c.t0, .int .i64 c.t1, .int .i64 c.t2] 37)).alloc (.cells #[.int .i64 c.sh, .slice none 0 0, .slice none 0 0] 84)).alloc (.cells #[.int .i64 c.t0, .int .i64 c.t1, .int .i64 c.t2, .int .i64 0, .int .i64 0, .int .i64 0, .int .i64 c.home, .bool true, .slice (some ⟨w.heap.size + 1, 0, none⟩) 1 1, .int .i64 0, .slice none 0 0, .int .i64 0, .int .i64 0, .int .i64 0] 82) := ⟨_, rfl⟩
  obtain ⟨hb, j1, j2, j3⟩ := box3 hW
  have c0 : (w.alloc (.cells #[.int .i64 c.t0, .int .i64 c.t1, .int .i64 c.t2] 37)).cell? ⟨w.heap.size, 0, none⟩ = some (.int .i64 c.t0) := cell_blk (heap_alloc_new w _) 0
  have c1 : (w.alloc (.cells #[.int .i64 c.t0, .int .i64 c.t1, .int .i64 c.t2] 37)).cell? ⟨w.heap.size, 1, none⟩ = some (.int .i64 c.t1) := cell_blk (heap_alloc_new w _) 1
  have c2 : (w.alloc (.cells #[.int .i64 c.t0, .int .i64 c.t1, .int .i64 c.t2] 37)).cell? ⟨w.heap.size, 2, none⟩ = some (.int .i64 c.t2) := cell_blk (heap_alloc_new w _) 2
  have hd : Dx W (w.heap.size + 2) ⟨c.t0, c.t1, c.t2, 0, 0, 0, c.home, true, [⟨c.sh, .nil, .nil⟩], 0, [], 0, 0, 0⟩ (some ⟨w.heap.size + 1, 0, none⟩) 1 none 0 := by
    refine ⟨j3, fun V h1 h2 => ?_, fun V _ _ => ⟨none, 0, rfl, fun _ => rfl, Nat.le_refl _, Nat.zero_le _, fun i hi => absurd hi (by simp)⟩⟩
    have j := (h2 (w.heap.size + 1) (blk_lt j2) (fun q => by have q' : w.heap.size + 1 = w.heap.size + 2 := q; omega)).trans j2
    refine ⟨_, 1, rfl, fun q => (by cases q), Nat.le_refl _, by decide, fun i hi => ?_⟩
    have hi0 : i = 0 := by simpa using hi
    subst hi0
    refine ⟨w.heap.size + 1, 0, gpL ⟨c.sh, .nil, .nil⟩, rfl, blk_lt j, rfl, rfl, fun i u hu => ?_⟩
    rw [Nat.zero_mul, Nat.zero_add, cell_blk j, ← hu]
    exact (Array.getElem?_toList (xs := gpA ⟨c.sh, .nil, .nil⟩) (i := i)).symm
  have hen := enter_any hd 2
  have HEN := Lib.hid hen
  have HW := Lib.hid hW
  have HX := Lib.hid (And.intro hb j2)
  clear hb j1 j2 j3 hd hen hW
  go_enter Try.func12, Try.ntmps12
  go_upto_region 2 with fail
  have e2 : ((w.alloc (.cells #[.int .i64 c.t0, .int .i64 c.t1, .int .i64 c.t2] 37)).alloc (.cells #[.int .i64 c.sh, .slice none 0 0, .slice none 0 0] 84)).heap.size = w.heap.size + 2 := by simp
  rw [← HW.out]
  go_wp2_with fail
  refine HEN.out.mono ?_
  rintro e w1 ⟨rfl, h1, f1⟩
  have HE : Hid (PD w1 (w.heap.size + 2) (w.heap.size + 1) c ⟨2, 0, 0⟩ ∧ Below w.heap.size w w1) := Lib.hid ⟨⟨h1.blk, (f1.block _ (blk_lt HX.out.2) (fun q => by have q' : w.heap.size + 1 = w.heap.size + 2 := q; omega)).trans HX.out.2⟩, below_put HX.out.1 (Nat.le_refl _) f1 (by omega)⟩
  clear h1 f1 c0 c1 c2 e2
  go_wp2
  refine bodyPost_ret (v := .pointer (some ⟨w.heap.size + 2, 0, none⟩)) (by simp [results, Try.results12, go_sem]) rfl ?_
  exact ⟨_, _, rfl, HE.out.1, by omega, HE.out.2⟩
theorem asks_none {c : CW} {s : CS} : ∀ a ∈ c.asks s, a.r = .nil ∧ a.w = .nil := fun a ha => by
  unfold CW.asks at ha
  split at ha
  · obtain rfl := List.mem_singleton.1 ha
    exact ⟨rfl, rfl⟩
  · split at ha
    · obtain rfl := List.mem_singleton.1 ha
      exact ⟨rfl, rfl⟩
    · cases ha
/-- What the program's Asks answers: the clearing's commands, their lists of their own. -/
def PkAns (w : World) (L : List Ak) (e : Ending) (w' : World) : Prop := ∃ (la : Option Addr) (lc : Nat) (K : List Ak), e = .returned (.slice la L.length lc) ∧ K.length = L.length ∧ w'.ownsRow w.heap.size 78 31 (.slice la L.length lc) L.length (K.flatMap akL) ∧ (∀ i (h : i < L.length) (h' : i < K.length), ∃ ra rc wa wc, K[i] = { L[i] with r := ⟨ra, 0, rc⟩, w := ⟨wa, 0, wc⟩ }) ∧ Below w.heap.size w w'
theorem pasks_any {A g : Nat} {c : CW} {s : CS} (h : PD w A g c s) (hp : s.ph = 2 ∨ s.ph = 3 ∨ s.ph = 4) : Calls Try.prog 17 #[.pointer (some ⟨A, 0, none⟩)] w (PkAns w (c.asks s)) := by
  have hn := asks_none (c := c) (s := s)
  have he := asks_eq c s hp
  have hq : ((c.asks s).map fun a => (⟨a, [], []⟩ : Aq)).map (·.a) = (c.dl s).asks := by
    rw [he, List.map_map]
    exact List.map_id _
  generalize c.asks s = L at *
  refine (asks_any (Q := L.map fun a => ⟨a, [], []⟩) h.dx (dok_c c s hp) hq (fun q hq => ?_)).mono ?_
  · obtain ⟨a, ha, rfl⟩ := List.mem_map.1 hq
    obtain ⟨e1, e2⟩ := hn a ha
    refine ⟨?_, ?_, Nat.zero_le _, (fun x hx => by cases hx), Nat.zero_le _⟩
    · rw [show (⟨a, [], []⟩ : Aq).a.r = .nil from e1]
      exact ⟨none, 0, rfl, fun _ => rfl, Nat.le_refl _, Nat.zero_le _, fun i hi => absurd hi (by simp)⟩
    · rw [show (⟨a, [], []⟩ : Aq).a.w = .nil from e2]
      exact ⟨none, 0, rfl, fun _ => rfl, Nat.le_refl _, Nat.zero_le _, fun i hi => absurd hi (by simp)⟩
  · rintro e w' ⟨ad, cap, Q', rfl, hl, hrow, hpl, hown, hb⟩
    have hll : (L.map fun a => (⟨a, [], []⟩ : Aq)).length = L.length := List.length_map ..
    rw [hll] at hl hrow
    refine ⟨ad, cap, Q'.map (·.a), by rw [hll], by rw [List.length_map, hl], by rw [List.flatMap_map]; exact hrow, fun i h1 h2 => ?_, hb⟩
    rw [List.length_map] at h2
    obtain ⟨r, w2, e2⟩ := hpl i (by rw [hll]; exact h1) h2
    have e3 : Q'[i] = (⟨L[i], [], []⟩ : Aq).with r w2 := by rw [e2, List.getElem_map]
    have ho := hown Q'[i] (List.getElem_mem h2)
    rw [e3] at ho
    obtain ⟨⟨K, k1, k2, _⟩, k4⟩ := ho
    rw [List.getElem_map, e3]
    have k2' : w'.ownsRow w.heap.size 67 3 (.slice r.a r.n r.c) 0 (K.flatMap grL) := k2
    have k4' : w'.ownsRow w.heap.size 69 3 (.slice w2.a w2.n w2.c) 0 [] := k4
    obtain ⟨_, _, q1⟩ := own_shape k2'
    obtain ⟨_, _, q2⟩ := own_shape k4'
    injection q1 with _ q3
    injection q2 with _ q4
    refine ⟨r.a, r.c, w2.a, w2.c, ?_⟩
    obtain ⟨a1, n1, c1⟩ := r
    obtain ⟨a2, n2, c2⟩ := w2
    simp only at q3 q4
    subst q3 q4
    rfl
end
end Go.Proofs.Ytfokgalgdlajlaa
