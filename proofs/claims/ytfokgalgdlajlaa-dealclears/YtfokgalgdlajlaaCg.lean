/- each: a command for each shard that hasn't answered. -/
import Derived.Test.YtfokgalgdlajlaaCf
import Derived.Test.YtfokgalgdlajlaaCe
namespace Go.Proofs.Ytfokgalgdlajlaa
open Go.RowKit
section
variable {ρ : Operand → Value} {X : World} {d : Option Tmp} {ty : TypeId} {ps : String} {af : Array Edge} {g : Option (Nat × Bool)}
theorem op_b78 {x y : Operand} {n : Int} {a : Ak} (e0 : ρ x = .int .i64 n) (e1 : ρ y = .agg (cmA a)) : (execOp ρ ⟨d, .build 78 #[(0, x), (1, y)], ty, ps, af, g⟩).run Try.prog X = .ok (.value (.agg (akA { a with sh := n }))) X := by
  simp only [execOp]
  simp [e0, e1]
  go_simp
theorem op_s55 {x : Operand} {a : Ak} (e : ρ x = .agg (akA a)) : (execOp ρ ⟨d, .buildSlice 55 1 #[(0, x)], ty, ps, af, g⟩).run Try.prog X = .ok (.value (.slice (some ⟨X.heap.size, 0, none⟩) 1 1)) (X.alloc (.cells (akA a) 78)) := by
  simp only [execOp]
  simp [e]
  go_simp
end
def AkP0 (w : World) (Y : Nat) (g : Gp) (lv : Value) (n : Nat) (xs : List Value) (X : World) : Prop := Below w.heap.size w X ∧ X.heap[Y]? = some (.cells (gpA g) 84 (0, 0)) ∧ X.ownsRow w.heap.size 78 31 lv n xs
def AkP1 (w : World) (lv : Value) (n : Nat) (xs : List Value) (a : Ak) (v : Value) (X : World) : Prop := ∃ b, v = .slice (some ⟨b, 0, none⟩) 1 1 ∧ X.heap[b]? = some (.cells (akA a) 78 (0, 0)) ∧ Below w.heap.size w X ∧ X.ownsRow w.heap.size 78 31 lv n xs
def AkP2 (w : World) (n : Nat) (xs : List Value) (a : Ak) (v : Value) (X : World) : Prop := Below w.heap.size w X ∧ X.ownsRow w.heap.size 78 31 v (n + 1) (xs ++ akL a)
theorem AkP0.box {w X : World} {Y : Nat} {g : Gp} {lv : Value} {n : Nat} {xs : List Value} (h : AkP0 w Y g lv n xs X) (a : Ak) : AkP1 w lv n xs a (.slice (some ⟨X.heap.size, 0, none⟩) 1 1) (X.alloc (.cells (akA a) 78)) :=
  ⟨_, rfl, heap_alloc_new _ _, bgo h.1 (bnew _ _), own_below h.2.2 (bnew _ _)⟩
theorem AkP0.on {w X X' : World} {Y : Nat} {g : Gp} {lv : Value} {n : Nat} {xs : List Value} (h : AkP0 w Y g lv n xs X) (b : Below X.heap.size X X') : AkP0 w Y g lv n xs X' :=
  ⟨bgo h.1 b, (b.block Y (blk_lt h.2.1)).trans h.2.1, own_below h.2.2 b⟩
theorem AkP1.push {w X : World} {lv v : Value} {n : Nat} {xs : List Value} {a : Ak} (h : AkP1 w lv n xs a v X) (hn : n ≤ 900000) : ∃ v' X', (Builtin.append_ #[55, 55] 55 #[lv, v]).run Try.prog X = .ok v' X' ∧ AkP2 w n xs a v' X' := by
  obtain ⟨b, rfl, hb, hbl, ho⟩ := h
  obtain ⟨ad', cap', w', hr, ho', hg, hat⟩ := run_ak (m := 1) (c := 1) (news := akL a) ho hbl.size (.inr ⟨⟨b, 0, none⟩, rfl, rfl, fun j u hu => by
    rw [add_at, Nat.zero_add, cell_blk hb, ← hu]
    exact (Array.getElem?_toList (xs := akA a) (i := j)).symm⟩) (ak_one a) (by omega)
  refine ⟨_, w', hr, ?_, ho'⟩
  have hf : Fr X w' (fun k => lv.ownBlock = some k) := Fr.grown (Fr.refl X _) hg (fun k hk => .inl hk)
  exact hbl.trans (hf.toBelow (fun k hk q => by
    have := (ho.lt k q).1
    omega) hbl.size)
theorem EG.zero {A0 : World → Prop} {A1 A2 : Value → World → Prop} {lv : Value} {f1 f2 f3 : Bool} {v0 v1 v2 : Value} {X : World} (h : EG A0 A1 A2 lv f1 f2 f3 v0 v1 v2 X) (e1 : f1 = false) (e2 : f2 = false) : A0 X := by
  have := h.2.2
  rw [e1, e2] at this
  exact this
theorem EG.mid {A0 : World → Prop} {A1 A2 : Value → World → Prop} {lv : Value} {f1 f2 f3 : Bool} {v0 v1 v2 : Value} {X : World} (h : EG A0 A1 A2 lv f1 f2 f3 v0 v1 v2 X) (e1 : f1 = true) (e2 : f2 = false) : A1 v1 X := by
  have := h.2.2
  rw [e1, e2] at this
  exact this
theorem EG.end {A0 : World → Prop} {A1 A2 : Value → World → Prop} {lv : Value} {f1 f2 f3 : Bool} {v0 v1 v2 : Value} {X : World} (h : EG A0 A1 A2 lv f1 f2 f3 v0 v1 v2 X) (e2 : f2 = true) (e3 : f3 = true) : A2 v0 X := by
  have q := h.2.2
  rw [e2] at q
  rw [h.2.1 e3]
  exact q
theorem EG.move {A0 : World → Prop} {A1 A2 : Value → World → Prop} {lv : Value} {f1 f2 f3 : Bool} {v0 v1 v2 : Value} {X X' : World} (h : EG A0 A1 A2 lv f1 f2 f3 v0 v1 v2 X) (e1 : f1 = false) (e2 : f2 = false) (h0 : A0 X') : EG A0 A1 A2 lv f1 f2 f3 v0 v1 v2 X' := ⟨h.1, h.2.1, by rw [e1, e2]; exact h0⟩
theorem EG.one {A0 : World → Prop} {A1 A2 : Value → World → Prop} {lv : Value} {f1 f2 f3 : Bool} {v0 v1 v2 u1 : Value} {X X' : World} (h : EG A0 A1 A2 lv f1 f2 f3 v0 v1 v2 X) (e3 : f3 = false) (h0 : A1 u1 X') : EG A0 A1 A2 lv true false f3 v0 u1 v2 X' := ⟨h.1, fun q => (by rw [e3] at q; cases q), h0⟩
theorem EG.two {A0 : World → Prop} {A1 A2 : Value → World → Prop} {lv : Value} {f1 f2 f3 : Bool} {v0 v1 v2 u2 : Value} {X X' : World} (h : EG A0 A1 A2 lv f1 f2 f3 v0 v1 v2 X) (e3 : f3 = false) (h0 : A2 u2 X') : EG A0 A1 A2 lv f1 true f3 v0 v1 u2 X' := ⟨h.1, fun q => (by rw [e3] at q; cases q), h0⟩
theorem EG.last {A0 : World → Prop} {A1 A2 : Value → World → Prop} {lv : Value} {f1 f2 f3 : Bool} {v0 v1 v2 : Value} {X : World} (h : EG A0 A1 A2 lv f1 f2 f3 v0 v1 v2 X) (e2 : f2 = true) : EG A0 A1 A2 lv f1 f2 true v2 v1 v2 X := ⟨fun q => (by cases q), fun _ => rfl, by have q := h.2.2; rw [e2] at q ⊢; exact q⟩
/-- What a command's maker answers, wherever it is asked. -/
def Makes (w : World) (L : List Gp) (f : FuncId) (cs : Array Value) (F : Gp → Ak) : Prop := ∀ X, Below w.heap.size w X → ∀ l ∈ L, Calls Try.prog f (#[.agg (gpA l)] ++ cs) X fun e w' => e = .returned (.agg (cmA (F l))) ∧ Below X.heap.size X w'
def AsAns (w : World) (L : List Ak) (e : Ending) (w' : World) : Prop := ∃ ad cap, e = .returned (.slice ad L.length cap) ∧ w'.ownsRow w.heap.size 78 31 (.slice ad L.length cap) L.length (L.flatMap akL) ∧ Below w.heap.size w w'
def shF (F : Gp → Ak) (l : Gp) : Ak := { F l with sh := l.sh }
section
variable {w : World} {A : Nat} {d : Dl} {pa wa : Option Addr} {pc wc : Nat}
set_option maxHeartbeats 4000000 in
set_option maxRecDepth 100000 in
theorem each_any (h : Dx w A d pa pc wa wc) {f : FuncId} {cs : Array Value} {F : Gp → Ak} (hcf : ∀ (X : World) (a : Array Value), Sem.run Try.prog (callFunc f a) X = .ok (.enter f a) X) (hF : Makes w d.wait f cs F) (hz : d.wait.length ≤ 900000) : Calls Try.prog 71 #[.pointer (some ⟨A, 0, none⟩), .func (.func f) #[] cs] w (AsAns w (d.wait.map (shF F))) := by
  have l10 : w.cell? ⟨A, 10, none⟩ = some (.slice wa d.wait.length wc) := h.cell 10
  obtain ⟨ad, cap, e9, _, z1, z2, hX⟩ := h.ws.now
  cases e9
  generalize d.wait = L at *
  have hmx : (L.length : Int) ≤ 9223372036854775807 := by omega
  have HX := Lib.hid hX
  have HF := Lib.hid hF
  have HZ := Lib.hid hz
  have HCF := Lib.hid hcf
  clear hX z1 z2 hF hz h hcf
  go_enter Try.func71, Try.ntmps71
  go_wp2
  go_loopw [5, 13] (fun lv iv wr => ∃ i : Nat, i ≤ L.length ∧ iv = .int .i64 (i : Int) ∧ Below w.heap.size w wr ∧ wr.ownsRow w.heap.size 78 31 lv i (((L.take i).map (shF F)).flatMap akL)) (fun _ iv _ => L.length - (intOf iv).toNat)
  case atStart => exact ⟨0, Nat.zero_le _, rfl, Below.refl _ _, World.ownsRow_nil _ _ _ _⟩
  case round =>
    obtain ⟨i, hi, rfl, hb, ho⟩ := hrel
    obtain ⟨V, rfl⟩ : ∃ V, V = wr := ⟨_, rfl⟩
    obtain ⟨oad, ocap, rfl⟩ := own_shape ho
    have HB := Lib.hid hb
    have HO := Lib.hid ho
    clear ho
    by_cases hlt : i < L.length
    · obtain ⟨b, o, cs', rfl, hbl, hE, _, hcell⟩ := HX.out i hlt
      have hc := fun X hX => HF.out X hX L[i] (List.getElem_mem hlt)
      have htk : ((L.take (i + 1)).map (shF F)).flatMap akL = ((L.take i).map (shF F)).flatMap akL ++ akL (shF F L[i]) := by
        rw [List.take_add_one, List.getElem?_eq_getElem hlt, List.map_append, List.flatMap_append]
        simp
      have hsh : shF F L[i] = { F L[i] with sh := L[i].sh } := rfl
      have HTK := Lib.hid htk
      generalize shF F L[i] = a0 at *
      have ho := HO.out
      generalize ((L.take i).map (shF F)).flatMap akL = xs at *
      generalize F L[i] = a1 at *
      generalize L[i] = g0 at *
      cases hE
      have hld : (Instr.loadAt 84 (.pointer (some ⟨b, o + i * 3, none⟩))).run Try.prog V = .ok (.agg (gpA g0)) V := run_loadAt_mid V b (o + i * 3) 84 (gpL g0) _ (fun j u hu => cell_on hb (hcell j u hu)) Try.underlying84 rfl size84
      obtain ⟨V2, e2, k2, f2⟩ := st_row (heap_alloc_new V (.cells #[.int .i64 0, .slice none 0 0, .slice none 0 0] 84)) (us := gpA g0) rfl size84 (by simp [Value.oneCell'])
      have b2 : Below V.heap.size V V2 := below_put (bnew V _) (Nat.le_refl _) f2 (Nat.le_refl _)
      have k0 : (0 : Int) ≤ i := by omega
      have k1 : (i : Int) < L.length := by omega
      have HLD := Lib.hid hld
      have HS2 := Lib.hid e2
      have HP : Hid (AkP0 w V.heap.size g0 (.slice oad i ocap) i xs V2) := Lib.hid ⟨bgo hb b2, k2, own_below ho b2⟩
      have HC := Lib.hid hc
      have HSH := Lib.hid hsh
      have HI : Hid (i ≤ 900000) := Lib.hid (by have := HZ.out; omega)
      clear hb hcell hld e2 k2 f2 b2 hc hsh htk ho
      go_upto_region 5 with (first | (refine wpl_load _ rfl (by first | rfl | simp [Act.eval]) HLD.out ?_) | (refine wpl_store _ _ rfl (by first | rfl | simp [Act.eval]) (by first | rfl | simp [Act.eval]) HS2.out ?_))
      refine wp_region_gs (fun fl r X9 => EG (AkP0 w V.heap.size g0 (.slice oad i ocap) i xs) (AkP1 w (.slice oad i ocap) i xs a0) (AkP2 w i xs a0) (.slice oad i ocap) (fl 7) (fl 8) (fl 9) (r 5) (r 24) (r 25) X9) (fun _ _ => True) [
        fun v9 _ => v9 = .slice oad i ocap,
        fun v9 _ => v9 = .pointer (some ⟨V.heap.size, 0, none⟩),
        fun v9 _ => v9 = .int .i64 g0.sh,
        fun v9 _ => v9 = .func (.func f) #[] cs,
        fun v9 _ => v9 = .agg (gpA g0),
        fun v9 _ => v9 = .agg (cmA a1),
        fun v9 _ => v9 = .agg (akA a0),
        fun _ _ => True,
        fun _ _ => True,
        fun _ _ => True]
        (by kernel_rfl) (by kernel_rfl) (by kernel_rfl) ?st ?g0 ?os ?en
      case st => exact ⟨fun _ _ _ _ h => h, fun _ _ _ _ h => h, fun _ _ _ _ h => h, fun _ _ _ _ h => h, fun _ _ _ _ h => h, fun _ _ _ _ h => h, fun _ _ _ _ h => h, fun _ _ _ _ h => h, fun _ _ _ _ h => h, fun _ _ _ _ h => h, trivial⟩
      case g0 => exact ⟨fun _ => rfl, fun q => (by cases q), HP.out.on ⟨rfl, rfl, rfl, Nat.le_refl _, fun _ _ => rfl⟩⟩
      case os =>
        refine ⟨?_, ?_, ?_, ?_, ?_, ?_, ?_, ?_, ?_, ?_, trivial⟩
        · intro ρ X9 fl hg hn hl hp ho hc hf hr
          have n8 : fl 8 = false := by
            cases h9 : fl 8 with
            | false => rfl
            | true => exact absurd (hl 8 _ 0 rfl rfl h9) (by rw [hn]; decide)
          have n9 : fl 9 = false := by
            cases h9 : fl 9 with
            | false => rfl
            | true => exact absurd (hl 9 _ 8 rfl rfl h9) (by rw [n8]; decide)
          have h5 : ρ (.tmp 5) = .slice oad i ocap := (show EG _ _ _ _ (fl 7) (fl 8) (fl 9) _ _ _ X9 from hg).1 n9
          exact .inl ⟨rfl, Runs.val _ (op_move h5) ⟨(fun r' h1 h2 => hg.same rfl rfl rfl (h1 5 (by decide)) (h1 24 (by decide)) (h1 25 (by decide))), trivial, rfl⟩⟩
        · intro ρ X9 fl hg hn hl hp ho hc hf hr
          exact .inl ⟨rfl, Runs.val _ (op_f84_0 (show ρ (.tmp 7) = .pointer (some ⟨V.heap.size, 0, none⟩) from ho 7 rfl)) ⟨(fun r' h1 h2 => hg.same rfl rfl rfl (h1 5 (by decide)) (h1 24 (by decide)) (h1 25 (by decide))), trivial, rfl⟩⟩
        · intro ρ X9 fl hg hn hl hp ho hc hf hr
          have n6 : fl 6 = false := by
            cases h9 : fl 6 with
            | false => rfl
            | true => exact absurd (hl 6 _ 2 rfl rfl h9) (by rw [hn]; decide)
          have n7 : fl 7 = false := by
            cases h9 : fl 7 with
            | false => rfl
            | true => exact absurd (hl 7 _ 6 rfl rfl h9) (by rw [n6]; decide)
          have n8 : fl 8 = false := by
            cases h9 : fl 8 with
            | false => rfl
            | true => exact absurd (hl 8 _ 7 rfl rfl h9) (by rw [n7]; decide)
          have hP := (show EG _ _ _ _ (fl 7) (fl 8) (fl 9) _ _ _ X9 from hg).zero n7 n8
          exact .inl ⟨rfl, Runs.val _ (op_load3 (show ρ (.tmp 18) = .pointer (some ⟨V.heap.size, 0, none⟩) from hr 1 18 rfl rfl) (cell_blk hP.2.1 0)) ⟨(fun r' h1 h2 => hg.same rfl rfl rfl (h1 5 (by decide)) (h1 24 (by decide)) (h1 25 (by decide))), trivial, rfl⟩⟩
        · intro ρ X9 fl hg hn hl hp ho hc hf hr
          exact .inl ⟨rfl, Runs.val _ (op_move (show ρ (.tmp 1) = .func (.func f) #[] cs from ho 1 rfl)) ⟨(fun r' h1 h2 => hg.same rfl rfl rfl (h1 5 (by decide)) (h1 24 (by decide)) (h1 25 (by decide))), trivial, rfl⟩⟩
        · intro ρ X9 fl hg hn hl hp ho hc hf hr
          have n5 : fl 5 = false := by
            cases h9 : fl 5 with
            | false => rfl
            | true => exact absurd (hl 5 _ 4 rfl rfl h9) (by rw [hn]; decide)
          have n6 : fl 6 = false := by
            cases h9 : fl 6 with
            | false => rfl
            | true => exact absurd (hl 6 _ 5 rfl rfl h9) (by rw [n5]; decide)
          have n7 : fl 7 = false := by
            cases h9 : fl 7 with
            | false => rfl
            | true => exact absurd (hl 7 _ 6 rfl rfl h9) (by rw [n6]; decide)
          have n8 : fl 8 = false := by
            cases h9 : fl 8 with
            | false => rfl
            | true => exact absurd (hl 8 _ 7 rfl rfl h9) (by rw [n7]; decide)
          have hP := (show EG _ _ _ _ (fl 7) (fl 8) (fl 9) _ _ _ X9 from hg).zero n7 n8
          exact .inl ⟨rfl, Runs.val _ (op_loadAt (show ρ (.tmp 7) = .pointer (some ⟨V.heap.size, 0, none⟩) from ho 7 rfl) (load_row hP.2.1 Try.underlying84 rfl size84)) ⟨(fun r' h1 h2 => hg.same rfl rfl rfl (h1 5 (by decide)) (h1 24 (by decide)) (h1 25 (by decide))), trivial, rfl⟩⟩
        · intro ρ X9 fl hg hn hl hp ho hc hf hr
          have n6 : fl 6 = false := by
            cases h9 : fl 6 with
            | false => rfl
            | true => exact absurd (hl 6 _ 5 rfl rfl h9) (by rw [hn]; decide)
          have n7 : fl 7 = false := by
            cases h9 : fl 7 with
            | false => rfl
            | true => exact absurd (hl 7 _ 6 rfl rfl h9) (by rw [n6]; decide)
          have n8 : fl 8 = false := by
            cases h9 : fl 8 with
            | false => rfl
            | true => exact absurd (hl 8 _ 7 rfl rfl h9) (by rw [n7]; decide)
          have hP := (show EG _ _ _ _ (fl 7) (fl 8) (fl 9) _ _ _ X9 from hg).zero n7 n8
          have q9 := (HC.out X9 hP.1)
          have q20 : ρ (.tmp 20) = .func (.func f) #[] cs := hr 3 20 rfl rfl
          have q21 : ρ (.tmp 21) = .agg (gpA g0) := hr 4 21 rfl rfl
          refine .inl ⟨rfl, ?_⟩
          refine Runs.goes f (#[.agg (gpA g0)] ++ cs) (op_callV1 q20 (HCF.out X9 (#[.agg (gpA g0)] ++ cs)) q21) ?_
          refine q9.mono ?_
          rintro e7 w7 ⟨rfl, b7⟩
          refine ⟨_, rfl, (fun r' h1 h2 => ?_), trivial, rfl⟩
          show EG _ _ _ _ (fl 7) (fl 8) (fl 9) (r' 5) (r' 24) (r' 25) w7
          rw [h1 5 (by decide), h1 24 (by decide), h1 25 (by decide)]
          exact (show EG _ _ _ _ (fl 7) (fl 8) (fl 9) _ _ _ X9 from hg).move n7 n8 (hP.on b7)
        · intro ρ X9 fl hg hn hl hp ho hc hf hr
          exact .inl ⟨rfl, Runs.val _ (op_b78 (show ρ (.tmp 19) = .int .i64 g0.sh from hr 2 19 rfl rfl) (show ρ (.tmp 22) = .agg (cmA a1) from hr 5 22 rfl rfl)) ⟨(fun r' h1 h2 => hg.same rfl rfl rfl (h1 5 (by decide)) (h1 24 (by decide)) (h1 25 (by decide))), trivial, congrArg (fun a => Value.agg (akA a)) HSH.out.symm⟩⟩
        · intro ρ X9 fl hg hn hl hp ho hc hf hr
          have n8 : fl 8 = false := by
            cases h9 : fl 8 with
            | false => rfl
            | true => exact absurd (hl 8 _ 7 rfl rfl h9) (by rw [hn]; decide)
          have n9 : fl 9 = false := by
            cases h9 : fl 9 with
            | false => rfl
            | true => exact absurd (hl 9 _ 8 rfl rfl h9) (by rw [n8]; decide)
          have hn7 : fl 7 = false := hn
          have hP := (show EG _ _ _ _ (fl 7) (fl 8) (fl 9) _ _ _ X9 from hg).zero hn7 n8
          refine .inl ⟨rfl, Runs.val _ (op_s55 (show ρ (.tmp 23) = .agg (akA a0) from hr 6 23 rfl rfl)) ⟨(fun r' h1 h2 => ?_), trivial, trivial⟩⟩
          show EG _ _ _ _ true (fl 8) (fl 9) (r' 5) (r' 24) (r' 25) _
          rw [h1 5 (by decide), h2 24 rfl, h1 25 (by decide), n8]
          exact (show EG _ _ _ _ (fl 7) (fl 8) (fl 9) _ _ _ X9 from hg).one n9 (hP.box _)
        · intro ρ X9 fl hg hn hl hp ho hc hf hr
          have n9 : fl 9 = false := by
            cases h9 : fl 9 with
            | false => rfl
            | true => exact absurd (hl 9 _ 8 rfl rfl h9) (by rw [hn]; decide)
          have hn8 : fl 8 = false := hn
          have y7 : fl 7 = true := hp 7 rfl
          have hP := (show EG _ _ _ _ (fl 7) (fl 8) (fl 9) _ _ _ X9 from hg).mid y7 hn8
          obtain ⟨v', X', hr9, h9⟩ := hP.push HI.out
          refine .inl ⟨rfl, Runs.val _ (op_append (show ρ (.tmp 17) = .slice oad i ocap from hr 0 17 rfl rfl) rfl hr9) ⟨(fun r' h1 h2 => ?_), trivial, trivial⟩⟩
          show EG _ _ _ _ (fl 7) true (fl 9) (r' 5) (r' 24) (r' 25) _
          rw [h1 5 (by decide), h1 24 (by decide), h2 25 rfl]
          exact (show EG _ _ _ _ (fl 7) (fl 8) (fl 9) _ _ _ X9 from hg).two n9 h9
        · intro ρ X9 fl hg hn hl hp ho hc hf hr
          have y8 : fl 8 = true := hp 8 rfl
          refine .inl ⟨rfl, Runs.val _ (op_assign rfl) ⟨(fun r' h1 h2 => ?_), trivial, trivial⟩⟩
          show EG _ _ _ _ (fl 7) (fl 8) true (r' 5) (r' 24) (r' 25) _
          rw [h2 5 rfl, h1 24 (by decide), h1 25 (by decide)]
          exact (show EG _ _ _ _ (fl 7) (fl 8) (fl 9) _ _ _ X9 from hg).last y8
      case en =>
        intro a9 w6 fl hfl hG9 hs9 hd9 ho9 hr9
        obtain ⟨x9, hx, hxt⟩ := act_put hs9 hd9 ho9
        have h5 : AkP2 w i xs a0 (a9.tmps.getD 5 undef) w6 := (show EG _ _ _ _ (fl 7) (fl 8) (fl 9) _ _ _ w6 from hG9).end (hfl 8 (by decide)) (hfl 9 (by decide))
        rw [hxt 5] at h5
        clear hfl hG9 hs9 hd9 ho9 hr9
        change a9 = putAll _ x9 [17, 18, 19, 20, 21, 22, 23, 24, 25, 5] at hx
        simp only [putAll, Act.put, List.setIfInBounds_toArray, List.set_cons_zero, List.set_cons_succ] at hx
        subst hx
        clear hxt
        generalize x9 17 = z17, x9 18 = z18, x9 19 = z19, x9 20 = z20, x9 21 = z21, x9 22 = z22, x9 23 = z23, x9 24 = z24, x9 25 = z25, x9 5 = z5 at *
        have H5 := Lib.hid h5
        clear h5
        go_wp2
        go_roundw
        case rel => exact ⟨i + 1, hlt, by go_num, H5.out.1, by rw [HTK.out]; exact H5.out.2⟩
        case measure => simp [intOf]; omega
    · obtain rfl : i = L.length := by omega
      clear hb
      have k1 : ¬ (L.length : Int) < L.length := by omega
      go_wp2
      refine bodyPost_ret (v := .slice oad L.length ocap) (by simp [results, Try.results71, go_sem]) rfl ?_
      have ho := HO.out
      rw [List.take_length] at ho
      refine ⟨oad, ocap, by rw [List.length_map], by rw [List.length_map]; exact ho, HB.out⟩
end
end Go.Proofs.Ytfokgalgdlajlaa
