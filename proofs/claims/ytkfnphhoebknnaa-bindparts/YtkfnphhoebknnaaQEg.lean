import Derived.Test.YtkfnphhoebknnaaQEe
import Derived.Test.YtkfnphhoebknnaaQOa
namespace Go.Proofs.Ytkfnphhoebknnaa
open Go.RowKit
def rfs (k : Int) : List Nat := if k = 1 then [88] else if k = 2 then [91, 93] else [93]
/-- Functions in a list, each with a box of its own that holds a table. -/
def RB (w : World) (F : Nat) (fs : List Nat) (tA : Array Value) : Prop := ∃ cs, w.heap[F]? = some (.cells cs 83 (0, 0)) ∧ ∀ i (h : i < fs.length), ∃ Y, cs[i]? = some (.func (.func fs[i]) #[] #[.pointer (some ⟨Y, 0, none⟩)]) ∧ w.heap[Y]? = some (.cells tA 54 (0, 0))
theorem RB.on {w w' : World} {F : Nat} {fs : List Nat} {tA : Array Value} (h : RB w F fs tA) (hb : Below w.heap.size w w') : RB w' F fs tA := by
  obtain ⟨cs, h1, h2⟩ := h
  refine ⟨cs, (hb.block F (blk_lt h1)).trans h1, fun i hi => ?_⟩
  obtain ⟨Y, h3, h4⟩ := h2 i hi
  exact ⟨Y, h3, (hb.block Y (blk_lt h4)).trans h4⟩
theorem RB.fr {w w' : World} {F R : Nat} {fs : List Nat} {tA cs : Array Value} (h : RB w F fs tA) (hR : w.heap[R]? = some (.cells cs 39 (0, 0))) (hf : Fr w w' (fun k => k = R)) : RB w' F fs tA := by
  obtain ⟨cs', h1, h2⟩ := h
  have ne : ∀ {k : Nat} {ds : Array Value} {t : TypeId}, t ≠ 39 → w.heap[k]? = some (.cells ds t (0, 0)) → w'.heap[k]? = some (.cells ds t (0, 0)) := fun ht hk => (hf.block _ (blk_lt hk) (fun e => by
    subst e
    rw [hR] at hk
    simp only [Option.some.injEq, Obj.cells.injEq] at hk
    exact ht hk.2.1.symm)).trans hk
  refine ⟨cs', ne (by decide) h1, fun i hi => ?_⟩
  obtain ⟨Y, h3, h4⟩ := h2 i hi
  exact ⟨Y, h3, ne (by decide) h4⟩
section
variable {ρ : Operand → Value} {X : World} {d : Option Tmp} {ty : TypeId} {ps : String} {af : Array Edge} {g : Option (Nat × Bool)}
theorem op_s80_2 {x y : Operand} {a b : FuncId} {p q : Value} (e : ρ x = .func (.func a) #[] #[p]) (e2 : ρ y = .func (.func b) #[] #[q]) : (execOp ρ ⟨d, .buildSlice 80 2 #[(0, x), (1, y)], ty, ps, af, g⟩).run Try.prog X = .ok (.value (.slice (some ⟨X.heap.size, 0, none⟩) 2 2)) (X.alloc (.cells #[.func (.func a) #[] #[p], .func (.func b) #[] #[q]] 83)) := by
  simp only [execOp]
  simp [e, e2]
  go_simp
end
section
variable {w : World}
set_option maxHeartbeats 1000000 in
set_option maxRecDepth 100000 in
theorem f63_any (t : Tb) (cv iv kv : Value) (w : World) : Calls Try.prog 63 #[tbV t cv iv kv] w fun e w' => e = .returned (.func (.func 88) #[] #[.pointer (some ⟨w.heap.size, 0, none⟩)]) ∧ w' = w.alloc (.cells (tbA t cv iv kv) 54) := by
  go_enter Try.func63, Try.ntmps63
  go_wp2
  go_ret
  exact ⟨rfl, rfl⟩
set_option maxHeartbeats 1000000 in
set_option maxRecDepth 100000 in
theorem f64_any (t : Tb) (cv iv kv : Value) (w : World) : Calls Try.prog 64 #[tbV t cv iv kv] w fun e w' => e = .returned (.func (.func 91) #[] #[.pointer (some ⟨w.heap.size, 0, none⟩)]) ∧ w' = w.alloc (.cells (tbA t cv iv kv) 54) := by
  go_enter Try.func64, Try.ntmps64
  go_wp2
  go_ret
  exact ⟨rfl, rfl⟩
set_option maxHeartbeats 1000000 in
set_option maxRecDepth 100000 in
theorem f65_any (t : Tb) (cv iv kv : Value) (w : World) : Calls Try.prog 65 #[tbV t cv iv kv] w fun e w' => e = .returned (.func (.func 93) #[] #[.pointer (some ⟨w.heap.size, 0, none⟩)]) ∧ w' = w.alloc (.cells (tbA t cv iv kv) 54) := by
  go_enter Try.func65, Try.ntmps65
  go_wp2
  go_ret
  exact ⟨rfl, rfl⟩
theorem alloc2_new (w : World) (o o' : Obj) : ((w.alloc o).alloc o').heap[w.heap.size + 1]? = some o' := by
  have := heap_alloc_new (w.alloc o) o'
  simp only [World.size_alloc] at this
  exact this
theorem RB.one {w : World} {f : Nat} {tA : Array Value} {Y F : Nat} {p : Value} (hp : p = .pointer (some ⟨Y, 0, none⟩)) (hF : w.heap[F]? = some (.cells #[.func (.func f) #[] #[p]] 83 (0, 0))) (hY : w.heap[Y]? = some (.cells tA 54 (0, 0))) : RB w F [f] tA := by
  subst hp
  refine ⟨_, hF, fun i hi => ?_⟩
  obtain rfl : i = 0 := by simp at hi; exact hi
  exact ⟨Y, rfl, hY⟩
theorem RB.two {w : World} {f g : Nat} {tA : Array Value} {Y Z F : Nat} (hF : w.heap[F]? = some (.cells #[.func (.func f) #[] #[.pointer (some ⟨Y, 0, none⟩)], .func (.func g) #[] #[.pointer (some ⟨Z, 0, none⟩)]] 83 (0, 0))) (hY : w.heap[Y]? = some (.cells tA 54 (0, 0))) (hZ : w.heap[Z]? = some (.cells tA 54 (0, 0))) : RB w F [f, g] tA := by
  refine ⟨_, hF, fun i hi => ?_⟩
  have : i = 0 ∨ i = 1 := by simp at hi; omega
  rcases this with rfl | rfl
  · exact ⟨Y, rfl, hY⟩
  · exact ⟨Z, rfl, hZ⟩
set_option maxHeartbeats 4000000 in
set_option maxRecDepth 100000 in
theorem rules_any (t : Tb) (cv iv kv : Value) (k : Int) (w : World) : Calls Try.prog 39 #[tbV t cv iv kv, .int .i64 k] w fun e w' => ∃ F, e = .returned (.slice (some ⟨F, 0, none⟩) (rfs k).length (rfs k).length) ∧ RB w' F (rfs k) (tbA t cv iv kv) ∧ Below w.heap.size w w' := by
  obtain ⟨W, hW⟩ : ∃ W, W = w.alloc (.cells (tbA t cv iv kv) 54) := ⟨_, rfl⟩
  have hb : Below w.heap.size w W := by rw [hW]; exact bnew _ _
  obtain ⟨Y, hY⟩ : ∃ Y, w.heap.size = Y := ⟨_, rfl⟩
  have jY : W.heap[Y]? = some (.cells (tbA t cv iv kv) 54 (0, 0)) := by rw [hW, ← hY]; exact heap_alloc_new w _
  have y0 : W.cell? ⟨Y, 0, none⟩ = some (.int .i64 t.id) := cell_blk jY 0
  have y1 : W.cell? ⟨Y, 1, none⟩ = some (.string t.nm) := cell_blk jY 1
  have y2 : W.cell? ⟨Y, 2, none⟩ = some cv := cell_blk jY 2
  have y3 : W.cell? ⟨Y, 3, none⟩ = some iv := cell_blk jY 3
  have y4 : W.cell? ⟨Y, 4, none⟩ = some kv := cell_blk jY 4
  have HW := Lib.hid hW
  have HY := Lib.hid hY
  have HB := Lib.hid hb
  have JY := Lib.hid jY
  have HR : Hid (rfs k = if k = 1 then [88] else if k = 2 then [91, 93] else [93]) := Lib.hid rfl
  clear hW hY hb jY
  by_cases h1 : k = 1
  · subst h1
    have HR1 : Hid (rfs 1 = [88]) := Lib.hid rfl
    go_enter Try.func39, Try.ntmps39
    go_upto_region 1 with fail
    rw [← HW.out, HY.out]
    go_wp2_with (go_at_call 63; refine (f63_any t cv iv kv _).mono ?_; rintro e w1 ⟨rfl, rfl⟩; refine Hid.out ?_)
    refine Lib.hid ?_
    go_wp2
    go_ret
    refine ⟨_, by rw [HR1.out]; rfl, ?_, bgo HB.out (bgo (bnew _ _) (bnew _ _))⟩
    rw [HR1.out]
    exact RB.one rfl (alloc2_new _ _ _) (((bnew _ _).block _ (by simp)).trans (heap_alloc_new W _))
  · have g1 : (k == 1) = false := by rw [beq_eq_false_iff_ne]; exact h1
    by_cases h2 : k = 2
    · subst h2
      have HR1 : Hid (rfs 2 = [91, 93]) := Lib.hid rfl
      clear h1
      have HRY : Hid (W.rangeAt Y 0 (tbL t cv iv kv)) := Lib.hid (range_blk JY.out)
      go_enter Try.func39, Try.ntmps39
      go_upto_region 1 with fail
      rw [← HW.out, HY.out]
      clear y0 y1 y2 y3 y4
      go_upto_region 5 with fail
      refine wp_region_fb (fun _ X9 => Below W.heap.size W X9) (fun X9 X8 => Below X9.heap.size X9 X8) [
        fun v9 _ => v9 = tbV t cv iv kv,
        fun v9 X9 => ∃ Y9, v9 = .func (.func 91) #[] #[.pointer (some ⟨Y9, 0, none⟩)] ∧ X9.heap[Y9]? = some (.cells (tbA t cv iv kv) 54 (0, 0)),
        fun v9 _ => v9 = tbV t cv iv kv,
        fun v9 X9 => ∃ Y9, v9 = .func (.func 93) #[] #[.pointer (some ⟨Y9, 0, none⟩)] ∧ X9.heap[Y9]? = some (.cells (tbA t cv iv kv) 54 (0, 0)),
        fun v9 X9 => ∃ F9, v9 = .slice (some ⟨F9, 0, none⟩) 2 2 ∧ RB X9 F9 [91, 93] (tbA t cv iv kv),
        fun v9 X9 => ∃ F9, v9 = .slice (some ⟨F9, 0, none⟩) 2 2 ∧ RB X9 F9 [91, 93] (tbA t cv iv kv)]
        (by kernel_rfl) (by kernel_rfl) (by kernel_rfl) ?st ?g0 ?os ?en
      case st => exact ⟨fun _ _ _ _ h => h, (fun _ _ _ hb h => by obtain ⟨Y9, e9, h9⟩ := h; exact ⟨Y9, e9, (hb.block Y9 (blk_lt h9)).trans h9⟩), fun _ _ _ _ h => h, (fun _ _ _ hb h => by obtain ⟨Y9, e9, h9⟩ := h; exact ⟨Y9, e9, (hb.block Y9 (blk_lt h9)).trans h9⟩), (fun _ _ _ hb h => by obtain ⟨F9, e9, h9⟩ := h; exact ⟨F9, e9, h9.on hb⟩), (fun _ _ _ hb h => by obtain ⟨F9, e9, h9⟩ := h; exact ⟨F9, e9, h9.on hb⟩), trivial⟩
      case g0 => exact ⟨rfl, rfl, rfl, Nat.le_refl _, fun _ _ => rfl⟩
      case os =>
        refine ⟨?_, ?_, ?_, ?_, ?_, ?_, trivial⟩
        · exact fun ρ X9 fl hg hn hl hp ho hc hf hr => .inl ⟨rfl, Runs.val _ (op_loadAt (show ρ (.tmp 2) = .pointer (some ⟨Y, 0, none⟩) from ho 2 rfl) (run_loadAt_mid X9 Y (0) 54 (tbL t cv iv kv) _ (range_on hg HRY.out) Try.underlying54 rfl size54)) ⟨hg, Below.refl _ _, rfl⟩⟩
        · intro ρ X9 fl hg hn hl hp ho hc hf hr
          refine .inl ⟨rfl, ?_⟩
          refine Runs.goes 64 #[tbV t cv iv kv] (op_call1 hf (by go_simp) (show ρ (.tmp 13) = tbV t cv iv kv from hr 0 13 rfl rfl)) ((f64_any t cv iv kv _).mono ?_)
          rintro e7 w7 ⟨rfl, rfl⟩
          exact ⟨_, rfl, bgo hg (bnew _ _), bnew _ _, _, rfl, heap_alloc_new _ _⟩
        · exact fun ρ X9 fl hg hn hl hp ho hc hf hr => .inl ⟨rfl, Runs.val _ (op_loadAt (show ρ (.tmp 2) = .pointer (some ⟨Y, 0, none⟩) from ho 2 rfl) (run_loadAt_mid X9 Y (0) 54 (tbL t cv iv kv) _ (range_on hg HRY.out) Try.underlying54 rfl size54)) ⟨hg, Below.refl _ _, rfl⟩⟩
        · intro ρ X9 fl hg hn hl hp ho hc hf hr
          refine .inl ⟨rfl, ?_⟩
          refine Runs.goes 65 #[tbV t cv iv kv] (op_call1 hf (by go_simp) (show ρ (.tmp 15) = tbV t cv iv kv from hr 2 15 rfl rfl)) ((f65_any t cv iv kv _).mono ?_)
          rintro e7 w7 ⟨rfl, rfl⟩
          exact ⟨_, rfl, bgo hg (bnew _ _), bnew _ _, _, rfl, heap_alloc_new _ _⟩
        · intro ρ X9 fl hg hn hl hp ho hc hf hr
          obtain ⟨Y9, e1, h1⟩ : ∃ Y9, ρ (.tmp 14) = .func (.func 91) #[] #[.pointer (some ⟨Y9, 0, none⟩)] ∧ X9.heap[Y9]? = some (.cells (tbA t cv iv kv) 54 (0, 0)) := hr 1 14 rfl rfl
          obtain ⟨Z9, e2, h2⟩ : ∃ Y9, ρ (.tmp 16) = .func (.func 93) #[] #[.pointer (some ⟨Y9, 0, none⟩)] ∧ X9.heap[Y9]? = some (.cells (tbA t cv iv kv) 54 (0, 0)) := hr 3 16 rfl rfl
          refine .inl ⟨rfl, ?_⟩
          exact Runs.val _ (op_s80_2 e1 e2) ⟨bgo hg (bnew _ _), bnew _ _, _, rfl, RB.two (heap_alloc_new _ _) (((bnew _ _).block Y9 (blk_lt h1)).trans h1) (((bnew _ _).block Z9 (blk_lt h2)).trans h2)⟩
        · intro ρ X9 fl hg hn hl hp ho hc hf hr
          obtain ⟨F9, e1, h1⟩ : ∃ F9, ρ (.tmp 17) = .slice (some ⟨F9, 0, none⟩) 2 2 ∧ RB X9 F9 [91, 93] (tbA t cv iv kv) := hr 4 17 rfl rfl
          refine .inl ⟨rfl, ?_⟩
          exact Runs.val _ (op_assign e1) ⟨hg, Below.refl _ _, _, rfl, h1⟩
      case en =>
        intro a9 w6 fl hfl b6 hs9 hd9 ho9 hr9
        obtain ⟨x9, hx, hxt⟩ := act_put hs9 hd9 ho9
        obtain ⟨F, q4, hF⟩ := hr9 5 4 rfl
        have x4 : x9 4 = .slice (some ⟨F, 0, none⟩) 2 2 := (hxt 4).symm.trans q4
        change a9 = putAll _ x9 [13, 14, 15, 16, 17, 4] at hx
        simp only [putAll, Act.put, List.setIfInBounds_toArray, List.set_cons_zero, List.set_cons_succ, x4] at hx
        subst hx
        clear hs9 hd9 ho9 hr9 hfl x4 q4
        generalize x9 13 = z13, x9 14 = z14, x9 15 = z15, x9 16 = z16, x9 17 = z17
        have HF := Lib.hid hF
        have HB6 := Lib.hid b6
        clear hF b6
        go_wp2
        go_ret
        refine ⟨F, by rw [HR1.out]; rfl, ?_, bgo HB.out HB6.out⟩
        rw [HR1.out]
        exact HF.out
    · have g2 : (k == 2) = false := by rw [beq_eq_false_iff_ne]; exact h2
      have HR1 : Hid (rfs k = [93]) := Lib.hid (by rw [HR.out, if_neg h1, if_neg h2])
      clear h1 h2
      go_enter Try.func39, Try.ntmps39
      go_upto_region 1 with fail
      rw [← HW.out, HY.out]
      go_wp2_with (go_at_call 65; refine (f65_any t cv iv kv _).mono ?_; rintro e w1 ⟨rfl, rfl⟩; refine Hid.out ?_)
      refine Lib.hid ?_
      go_wp2
      go_ret
      refine ⟨_, by rw [HR1.out]; rfl, ?_, bgo HB.out (bgo (bnew _ _) (bnew _ _))⟩
      rw [HR1.out]
      exact RB.one rfl (alloc2_new _ _ _) (((bnew _ _).block _ (by simp)).trans (heap_alloc_new W _))
def ruleE1 (f : Nat) (t : Tb) (x : St) : Int := if f = 88 then valE t x else if f = 91 then setE t x else whereE t x
def ruleB1 (f : Nat) (t : Tb) (x : St) (b : Bd) : Bd := if f = 88 then valB x b else if f = 91 then setB t x b else whereB t x b
theorem whereB_vals (t : Tb) (x : St) (b : Bd) : (whereB t x b).vals = b.vals := by unfold whereB; split <;> rfl
theorem rule_any {w0 : World} {x : St} {t : Tb} {cv iv kv vv dv bv : Value} {b : Bd} {R Y f : Nat} (hf : f = 88 ∨ f = 91 ∨ f = 93) (h3 : Three w0 t cv iv kv) (hv : Lr valsE 3 w0 x.vals vv) (hz : x.vals.length ≤ 1000000) (h0 : Below w0.heap.size w0 w) (hRl : w0.heap.size ≤ R) (hY : w.heap[Y]? = some (.cells (tbA t cv iv kv) 54 (0, 0))) (hR : w.heap[R]? = some (.cells (bdA b bv) 39 (0, 0))) (hO : w.ownsRow w0.heap.size 37 3 bv b.vals.length (b.vals.flatMap vlL)) :
    Calls Try.prog f #[.agg (stmtA x vv dv), .pointer (some ⟨R, 0, none⟩), .pointer (some ⟨Y, 0, none⟩)] w fun e w' => ∃ cs', e = .returned (.int .i64 (ruleE1 f t x)) ∧ w'.heap[R]? = some (.cells cs' 39 (0, 0)) ∧ (ruleE1 f t x = 0 → ∃ bv', cs' = bdA (ruleB1 f t x b) bv' ∧ w'.ownsRow w0.heap.size 37 3 bv' (ruleB1 f t x b).vals.length ((ruleB1 f t x b).vals.flatMap vlL)) ∧ Fr w w' (fun k => k = R) := by
  have keep : ∀ {w' : World}, Fr w w' (fun k => k = R) → w'.ownsRow w0.heap.size 37 3 bv b.vals.length (b.vals.flatMap vlL) := fun hf => keep_rowB hO hf (fun k hk cs hc => by
    subst hk
    rw [hR] at hc
    simp only [Option.some.injEq, Obj.cells.injEq] at hc
    exact absurd hc.2.1 (by decide))
  rcases hf with rfl | rfl | rfl
  · refine (vals_any h3 hv hz h0 hRl hY hR).mono ?_
    rintro e w' ⟨bv', rfl, h1, h2, h3⟩
    exact ⟨_, rfl, h1, fun e => ⟨bv', rfl, own_mono (h2 e) h0.size⟩, h3⟩
  · refine (set_any h3 h0 hRl hY hR).mono ?_
    rintro e w' ⟨b', rfl, h1, h2, h3, h4⟩
    exact ⟨_, rfl, h1, fun e => ⟨bv, by rw [h2 e]; rfl, keep h4⟩, h4⟩
  · refine (where_any h3 h0 hRl hY hR).mono ?_
    rintro e w' ⟨b', rfl, h1, h2, h3, h4⟩
    refine ⟨_, rfl, h1, fun e => ⟨bv, by rw [h2 e]; rfl, ?_⟩, h4⟩
    have : (ruleB1 93 t x b).vals = b.vals := whereB_vals t x b
    rw [this]
    exact keep h4
end
end Go.Proofs.Ytkfnphhoebknnaa
