/- A new shard; the map of what commands do. -/
import Derived.Test.YtcoaahlakkghhaaTb
import Derived.Carry
namespace Go.Proofs.Ytcoaahlakkghhaa
open Go.RowKit Go.Maps
/-! ### Maps whose keys are numbers -/
theorem key3 : Keyed Try.prog 3 := int_keyed Try.underlying3
theorem isKey3 (i : Int) : WideAt.IsKeyLit (.int .i64 i) := by first | trivial | exact Or.inr (Or.inl ⟨_, _, rfl⟩) | simp [WideAt.IsKeyLit]
theorem key3_of {i : Int} (h : I64 i) : keyOf Try.prog 3 (.int .i64 i) = some (.int .i64 i) := keyOf_int_mk Try.underlying3 (WalkArith.wf_i64 (by omega))
theorem zero93 (w : World) : (zeroValue 93).run Try.prog w = .ok .nilFunc w := by kernel_rfl
/-- Block B is a map of at most n entries that holds what f says. -/
def Mi (w : World) (B n : Nat) (f : Int → Option Value) : Prop := ∃ D : DataW Value, w.ownsMap Try.prog 3 itself B n D ∧ ∀ i, has D (.int .i64 i) = (f i).isSome ∧ ∀ e, f i = some e → ∀ z, D.atKey (.int .i64 i) z = .held e
section
variable {w w' : World} {B n : Nat} {f : Int → Option Value} {T e : TypeId} {z : Value}
theorem Mi.made (w : World) : Mi (w.alloc (.map #[] 0)) w.heap.size 0 (fun _ => none) :=
  ⟨_, World.ownsMap_made w _ _ _, fun i => ⟨rfl, fun e h => by cases h⟩⟩
theorem Mi.lt (h : Mi w B n f) : B < w.heap.size := by
  obtain ⟨D, h1, _⟩ := h
  exact h1.lt
theorem Mi.look (h : Mi w B n f) (ht : Try.prog.underlying T = some (.map 3 e)) (hz : (zeroValue e).run Try.prog w = .ok z w) {i : Int} (hi : I64 i) : (Instr.lookup T (.map (some B)) (.int .i64 i) true).run Try.prog w = .ok (.tuple #[(f i).getD z, .bool (f i).isSome]) w := by
  obtain ⟨D, h1, h2⟩ := h
  obtain ⟨v, ps, hr, hv⟩ := h1.look_ok key3 ht hz (zd := .held z) (zp := []) rfl (key3_of hi)
  rw [hr, (h2 i).1]
  have hv : DataW.held v = D.atKey (.int .i64 i) (.held z) := by
    have := congrArg (Option.map Prod.fst) hv
    simpa [itself] using this
  cases hf : f i with
  | none =>
    have h3 := (h2 i).1
    rw [hf] at h3
    rw [atKey_of_not_has h3] at hv
    cases hv
    rfl
  | some x =>
    rw [(h2 i).2 x hf] at hv
    cases hv
    rfl
theorem Mi.put (h : Mi w B n f) (ht : Try.prog.underlying T = some (.map 3 e)) (hn : n < maxLen) {i : Int} (hi : I64 i) (x : Value) : ∃ w', (Instr.mapUpdate T (.map (some B)) (.int .i64 i) x).run Try.prog w = .ok () w' ∧ Mi w' B (n + 1) (fun j => if j = i then some x else f j) ∧ w.grownBy w' (some B) := by
  obtain ⟨D, h1, h2⟩ := h
  obtain ⟨w', hr, h3, h4⟩ := h1.update key3 ht hn (val := x) (d := .held x) (ps := []) (key3_of hi) rfl
  refine ⟨w', hr, ⟨_, h3, fun j => ?_⟩, h4⟩
  dsimp only
  by_cases hj : j = i
  · subst hj
    rw [if_pos rfl]
    refine ⟨has_put_same h1.isMap (isKey3 j) _, fun v he z => ?_⟩
    cases he
    exact atKey_put_same h1.isMap (isKey3 j) _ _
  · rw [if_neg hj]
    have hne : (Lit.int .i64 j) ≠ .int .i64 i := fun q => hj (by injection q)
    refine ⟨by rw [has_put_other hne]; exact (h2 j).1, fun v he z => ?_⟩
    rw [atKey_put_other hne]
    exact (h2 j).2 v he z
end
theorem Fr.low {w w' : World} {B : Nat} (h : Fr w w' (fun k => k = B)) (hB : w.heap.size ≤ B) : Below w.heap.size w w' :=
  ⟨h.os, h.tape, h.output, h.size, fun k hk => h.block k hk (fun e => by have e' : k = B := e; omega)⟩
abbrev fnV (F : Nat) : Value := .func (.func F) #[] #[]
/-- What a command of a kind does. -/
def doF (k : Int) : Option Value := if k = 4 then some (fnV 30) else if k = 3 then some (fnV 29) else if k = 2 then some (fnV 28) else if k = 1 then some (fnV 27) else none
theorem do_map (w : World) : ∃ V0 V1 V2 V3 V4 B, (Instr.makeMap 94 none).run Try.prog w = .ok (.map (some B)) V0 ∧ (Instr.mapUpdate 94 (.map (some B)) (.int .i64 1) (fnV 27)).run Try.prog V0 = .ok () V1 ∧ (Instr.mapUpdate 94 (.map (some B)) (.int .i64 2) (fnV 28)).run Try.prog V1 = .ok () V2 ∧ (Instr.mapUpdate 94 (.map (some B)) (.int .i64 3) (fnV 29)).run Try.prog V2 = .ok () V3 ∧ (Instr.mapUpdate 94 (.map (some B)) (.int .i64 4) (fnV 30)).run Try.prog V3 = .ok () V4
    ∧ (∀ k, I64 k → (Instr.lookup 94 (.map (some B)) (.int .i64 k) true).run Try.prog V4 = .ok (.tuple #[(doF k).getD .nilFunc, .bool (doF k).isSome]) V4) ∧ Below w.heap.size w V4 := by
  have m0 := Mi.made w
  obtain ⟨V1, r1, m1, g1⟩ := m0.put Try.underlying94 (by unfold maxLen; omega) (i := 1) (by unfold I64; omega) (fnV 27)
  obtain ⟨V2, r2, m2, g2⟩ := m1.put Try.underlying94 (by unfold maxLen; omega) (i := 2) (by unfold I64; omega) (fnV 28)
  obtain ⟨V3, r3, m3, g3⟩ := m2.put Try.underlying94 (by unfold maxLen; omega) (i := 3) (by unfold I64; omega) (fnV 29)
  obtain ⟨V4, r4, m4, g4⟩ := m3.put Try.underlying94 (by unfold maxLen; omega) (i := 4) (by unfold I64; omega) (fnV 30)
  refine ⟨_, V1, V2, V3, V4, w.heap.size, run_makeMap 94 w, r1, r2, r3, r4, fun k hk => m4.look Try.underlying94 (zero93 V4) hk, ?_⟩
  have f0 : Fr w (w.alloc (.map #[] 0)) (fun k => k = w.heap.size) := Fr.ofBelow _ ((Below.refl _ w).alloc (Nat.le_refl _) _)
  have f1 := Fr.grown f0 g1 (fun j hj => .inl (Option.some.inj hj).symm)
  have f2 := Fr.grown f1 g2 (fun j hj => .inl (Option.some.inj hj).symm)
  have f3 := Fr.grown f2 g3 (fun j hj => .inl (Option.some.inj hj).symm)
  have f4 := Fr.grown f3 g4 (fun j hj => .inl (Option.some.inj hj).symm)
  exact f4.low (Nat.le_refl _)
/-! ### New -/
theorem newS_any (w : World) : Calls Try.prog 11 #[] w fun e w' => ∃ A S, e = .returned (.pointer (some ⟨A, 0, none⟩)) ∧ Sy w' A S Sh.nil ∧ (∀ k, S k → w.heap.size ≤ k ∧ k < w'.heap.size) ∧ Below w.heap.size w w' := by
  have hn := new_any w
  have hmm := @run_makeMap Try.prog
  go_enter Try.func11, Try.ntmps11
  go_wp2_with fail
  refine hn.mono ?_
  rintro e w1 ⟨rfl, hs, b1⟩
  obtain ⟨W, hW⟩ : ∃ W, W = (w1.alloc (.map #[] 0)).alloc (.map #[] 0) := ⟨_, rfl⟩
  obtain ⟨V, hV⟩ : ∃ V, V = W.alloc (.cells #[.pointer (some ⟨w.heap.size, 0, none⟩), .slice none 0 0, .slice none 0 0, .map (some w1.heap.size), .slice none 0 0, .map (some (w1.heap.size + 1)), .int .i64 0] 92) := ⟨_, rfl⟩
  have bW : Below w1.heap.size w1 W := by rw [hW]; exact ((Below.refl _ w1).alloc (Nat.le_refl _) _).alloc (by simp) _
  have sW : W.heap.size = w1.heap.size + 2 := by rw [hW]; simp
  have bV : Below W.heap.size W V := by rw [hV]; exact (Below.refl _ W).alloc (Nat.le_refl _) _
  have sV : V.heap.size = w1.heap.size + 3 := by rw [hV]; simp [sW]
  have mM : Mt V w1.heap.size 0 (fun _ => none) := by
    have := (Mt.made w1).on ((Below.refl _ (w1.alloc (.map #[] 0))).alloc (Nat.le_refl _) (.map #[] 0))
    rw [← hW] at this
    exact this.on bV
  have mN : Mt V (w1.heap.size + 1) 0 (fun _ => none) := by
    have := Mt.made (w1.alloc (.map #[] 0))
    rw [← hW] at this
    simp only [World.size_alloc] at this
    exact this.on bV
  have ob : V.heap[w1.heap.size + 2]? = some (.cells #[.pointer (some ⟨w.heap.size, 0, none⟩), .slice none 0 0, .slice none 0 0, .map (some w1.heap.size), .slice none 0 0, .map (some (w1.heap.size + 1)), .int .i64 0] 92 (0, 0)) := by
    rw [hV, ← sW]
    exact heap_alloc_new W _
  have hlt : w.heap.size < w1.heap.size := by obtain ⟨_, _, q, _⟩ := hs; exact blk_lt q.ob
  have HX : Hid (Sx V (w1.heap.size + 2) (fun k => k = w.heap.size) (fun k => w1.heap.size ≤ k ∧ k < w1.heap.size + 3) Sh.nil w.heap.size w1.heap.size (w1.heap.size + 1) [] (.slice none 0 0) (.slice none 0 0) (.slice none 0 0)) := {
    ob := ob
    st := (hs.on bW).on bV
    lks := World.ownsRow_nil _ _ _ _
    gl := rfl
    sp := fun g hg => by cases hg
    wr := fun g hg => by cases hg
    rcs := World.ownsRow_nil _ _ _ _
    ovs := World.ownsRow_nil _ _ _ _
    tm := mM
    en := mN
    mn := by omega
    cA := by constructor <;> omega
    cM := by constructor <;> omega
    cN := by constructor <;> omega
    cl := fun k hk => by cases hk
    cr := fun k hk => by cases hk
    co := fun k hk => by cases hk
    cs := fun g hg => by cases hg
    cw := fun g hg => by cases hg
    lt := fun k hk => by rw [sV]; exact hk.2
    off := fun k h1 h2 => by have h1' : k = w.heap.size := h1; have h2' : w1.heap.size ≤ k ∧ k < w1.heap.size + 3 := h2; omega
    fl := Nat.zero_le _
    fr := Nat.zero_le _
    fo := Nat.zero_le _ }
  have HB : Hid (Below w.heap.size w V) := Lib.hid ((b1.trans (bW.mono b1.size)).trans (bV.mono (Nat.le_trans b1.size bW.size)))
  have HV := Lib.hid hV
  have HW := Lib.hid hW
  have HL := Lib.hid hlt
  have HSV := Lib.hid sV
  clear hV hW bW bV mM mN ob hs b1 sW sV hlt
  go_wp2
  refine bodyPost_ret (v := .pointer (some ⟨w1.heap.size + 2, 0, none⟩)) (by simp [results, Try.results11, go_sem]) rfl ?_
  rw [← HW.out, ← HV.out]
  refine ⟨_, fun k => k = w.heap.size ∨ (w1.heap.size ≤ k ∧ k < w1.heap.size + 3), rfl, ⟨_, _, _, _, _, _, _, _, _, HX.out, fun _ => Iff.rfl⟩, fun k hk => ?_, HB.out⟩
  have h1 := HL.out
  have h2 := HSV.out
  rcases hk with hk | hk
  · exact ⟨by omega, by omega⟩
  · exact ⟨by omega, by omega⟩
end Go.Proofs.Ytcoaahlakkghhaa
