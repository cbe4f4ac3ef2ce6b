/- The walks of Span and stale. -/
import Derived.Test.YtcoaahlakkghhaaSj
import Derived.Test.YtcoaahlakkghhaaVr
namespace Go.Proofs.Ytcoaahlakkghhaa
open Go.RowKit
def ever : Int := 9223372036854775807
def hiE (_ : World) (x : Hi) (cs : List Value) : Prop := cs = [.string x.key, .int .i64 x.ts, .string x.val]
theorem hiE_held : Held hiE := fun _ _ _ _ _ h => h
def stOf (x : Hi) : Sm := (x.key, x.ts)
section
variable {ρ : Operand → Value} {X : World} {d : Option Tmp} {ty : TypeId} {ps : String} {af : Array Edge} {g : Option (Nat × Bool)}
theorem op_load87 {x : Operand} {B i : Nat} {n : Option Addr} (e : ρ x = .pointer (some ⟨B, i, none⟩)) (y : X.cell? ⟨B, i, none⟩ = some (.pointer n)) : (execOp ρ ⟨d, .load 87 x, ty, ps, af, g⟩).run Try.prog X = .ok (.value (.pointer n)) X := by
  simp only [execOp, e]
  go_simp
theorem op_loadSn {x : Operand} {B i : Nat} {p : Sn} (e : ρ x = .pointer (some ⟨B, i, none⟩)) (y0 : X.cell? ⟨B, i, none⟩ = some (.string p.lo)) (y1 : X.cell? ⟨B, i + 1, none⟩ = some (.string p.hi)) : (execOp ρ ⟨d, .load 57 x, ty, ps, af, g⟩).run Try.prog X = .ok (.value (snV p)) X := by
  simp only [execOp, e]
  go_simp
theorem op_load58 {x : Operand} {B i : Nat} {a : Option Addr} {n m : Nat} (e : ρ x = .pointer (some ⟨B, i, none⟩)) (y : X.cell? ⟨B, i, none⟩ = some (.slice a n m)) : (execOp ρ ⟨d, .load 58 x, ty, ps, af, g⟩).run Try.prog X = .ok (.value (.slice a n m)) X := by
  simp only [execOp, e]
  go_simp
theorem op_f60_0 {x : Operand} {B o : Nat} (e : ρ x = .pointer (some ⟨B, o, none⟩)) : (execOp ρ ⟨d, .fieldAddr 60 x 0, ty, ps, af, g⟩).run Try.prog X = .ok (.value (.pointer (some ⟨B, o, none⟩))) X := by
  simp only [execOp, e]
  go_simp
theorem op_f60_1 {x : Operand} {B o : Nat} (e : ρ x = .pointer (some ⟨B, o, none⟩)) : (execOp ρ ⟨d, .fieldAddr 60 x 1, ty, ps, af, g⟩).run Try.prog X = .ok (.value (.pointer (some ⟨B, o + 2, none⟩))) X := by
  simp only [execOp, e]
  go_simp
theorem call49 {v u x : Value} : Sem.run Try.prog (callFunc 49 #[v, u, x]) X = .ok (.enter 49 #[v, u, x]) X := by go_simp
theorem call24 {v u : Value} : Sem.run Try.prog (callFunc 24 #[v, u]) X = .ok (.enter 24 #[v, u]) X := by go_simp
theorem call102 {v u x : Value} : Sem.run Try.prog (callFunc 102 #[v, u, x]) X = .ok (.enter 102 #[v, u, x]) X := by go_simp
end
section
variable {w w' : World} {A : Nat} {S1 S2 : Nat → Prop} {s : Sh} {P M N : Nat} {G : List Gl} {lv rv ov : Value}
theorem hi_lr {B : Nat} {H : List Hi} {v : Value} (h : w.ownsRow B 80 3 v H.length (hiC H)) : Lr hiE 3 w H v := Lr.own (f := fun x : Hi => [.string x.key, .int .i64 x.ts, .string x.val]) (fun _ => rfl) h
set_option maxHeartbeats 2000000 in
set_option maxRecDepth 100000 in
theorem spanS_any (h : Sx w A S1 S2 s P M N G lv rv ov) (p : Sn) : Calls Try.prog 24 #[.pointer (some ⟨A, 0, none⟩), snV p] w fun e w' => SpanAns w (span s.rows p.lo p.hi ever) e w' := by
  obtain ⟨W, hW⟩ : ∃ W, W = w.alloc (.cells #[.string p.lo, .string p.hi] 57) := ⟨_, rfl⟩
  have hb : Below w.heap.size w W := by rw [hW]; exact (Below.refl _ w).alloc (Nat.le_refl _) _
  obtain ⟨Y, hY⟩ : ∃ Y, w.heap.size = Y := ⟨_, rfl⟩
  have jY : W.heap[Y]? = some (.cells #[.string p.lo, .string p.hi] 57 (0, 0)) := by rw [hW, ← hY]; exact heap_alloc_new w _
  have b0 : W.cell? ⟨Y, 0, none⟩ = some (.string p.lo) := cell_blk jY 0
  have b1 : W.cell? ⟨Y, 1, none⟩ = some (.string p.hi) := cell_blk jY 1
  have a0 : W.cell? ⟨A, 0, none⟩ = some (.pointer (some ⟨P, 0, none⟩)) := cell_on hb (cell_blk h.ob 0)
  have hst := h.st.on hb
  obtain ⟨H, hH⟩ : ∃ H, span s.rows p.lo p.hi ever = H := ⟨_, rfl⟩
  have HSP : Hid (∀ X, Below W.heap.size W X → Calls Try.prog 49 #[.pointer (some ⟨P, 0, none⟩), snV p, .int .i64 ever] X fun e w' => SpanAns X H e w') := fun X hX => by
    rw [← hH]
    exact span_b (hst.on hX) p.lo p.hi ever
  rw [hH]
  have HW := Lib.hid hW
  have HY := Lib.hid hY
  have HB := Lib.hid hb
  clear hW hY hb jY h hst hH
  go_enter Try.func24, Try.ntmps24
  go_upto_region 1 with fail
  rw [← HW.out, HY.out]
  go_upto_region 3 with fail
  refine wp_region_fl (fun _ X9 => Below W.heap.size W X9) (fun X9 X' => Below X9.heap.size X9 X') [
    fun v9 _ => v9 = .pointer (some ⟨A, 0, none⟩),
    fun v9 _ => v9 = .pointer (some ⟨A, 0, none⟩),
    fun v9 _ => v9 = .pointer (some ⟨A, 0, none⟩),
    fun v9 _ => v9 = .pointer (some ⟨P, 0, none⟩),
    fun v9 _ => v9 = snV p,
    fun v9 X9 => ∃ ad9 cap9, v9 = .slice ad9 H.length cap9 ∧ X9.ownsRow W.heap.size 80 3 (.slice ad9 H.length cap9) H.length (hiC H),
    fun v9 X9 => ∃ ad9 cap9, v9 = .slice ad9 H.length cap9 ∧ X9.ownsRow W.heap.size 80 3 (.slice ad9 H.length cap9) H.length (hiC H)]
    (by kernel_rfl) (by kernel_rfl) (by kernel_rfl) ?st ?g0 ?os ?en
  case st => exact ⟨fun _ _ _ _ h => h, fun _ _ _ _ h => h, fun _ _ _ _ h => h, fun _ _ _ _ h => h, fun _ _ _ _ h => h, fun _ _ _ hs ⟨x, y, e, z⟩ => ⟨x, y, e, own_below z hs⟩, fun _ _ _ hs ⟨x, y, e, z⟩ => ⟨x, y, e, own_below z hs⟩, trivial⟩
  case g0 => exact ⟨rfl, rfl, rfl, Nat.le_refl _, fun _ _ => rfl⟩
  case os =>
    refine ⟨?_, ?_, ?_, ?_, ?_, ?_, ?_, trivial⟩
    · exact fun ρ X9 fl hg hn hl hp ho hc hf hr => .inl ⟨rfl, Runs.val _ (op_move (show ρ (.tmp 0) = .pointer (some ⟨A, 0, none⟩) from ho 0 rfl)) ⟨hg, Below.refl _ _, rfl⟩⟩
    · exact fun ρ X9 fl hg hn hl hp ho hc hf hr => .inl ⟨rfl, Runs.val _ (op_nil (show ρ (.tmp 7) = .pointer (some ⟨A, 0, none⟩) from hr 0 7 rfl rfl)) ⟨hg, Below.refl _ _, rfl⟩⟩
    · exact fun ρ X9 fl hg hn hl hp ho hc hf hr => .inl ⟨rfl, Runs.val _ (op_f92_0 (show ρ (.tmp 8) = .pointer (some ⟨A, 0, none⟩) from hr 1 8 rfl rfl)) ⟨hg, Below.refl _ _, rfl⟩⟩
    · exact fun ρ X9 fl hg hn hl hp ho hc hf hr => .inl ⟨rfl, Runs.val _ (op_load87 (show ρ (.tmp 9) = .pointer (some ⟨A, 0, none⟩) from hr 2 9 rfl rfl) (cell_on hg a0)) ⟨hg, Below.refl _ _, rfl⟩⟩
    · exact fun ρ X9 fl hg hn hl hp ho hc hf hr => .inl ⟨rfl, Runs.val _ (op_loadSn (show ρ (.tmp 3) = .pointer (some ⟨Y, 0, none⟩) from ho 3 rfl) (cell_on hg b0) (cell_on hg b1)) ⟨hg, Below.refl _ _, rfl⟩⟩
    · refine fun ρ X9 fl hg hn hl hp ho hc hf hr => .inl ⟨rfl, ?_⟩
      refine Runs.goes 49 #[.pointer (some ⟨P, 0, none⟩), snV p, .int .i64 ever] (op_call3 hf call49 (show ρ (.tmp 10) = .pointer (some ⟨P, 0, none⟩) from hr 3 10 rfl rfl) (show ρ (.tmp 11) = snV p from hr 4 11 rfl rfl) (hc _)) ((HSP.out X9 hg).mono ?_)
      rintro e7 w7 ⟨ad7, cap7, rfl, o7, b7⟩
      exact ⟨_, rfl, hg.trans (b7.mono hg.size), b7, ad7, cap7, rfl, own_mono o7 hg.size⟩
    · refine fun ρ X9 fl hg hn hl hp ho hc hf hr => .inl ⟨rfl, ?_⟩
      obtain ⟨ad9, cap9, e, z⟩ : ∃ ad9 cap9, ρ (.tmp 12) = .slice ad9 H.length cap9 ∧ X9.ownsRow W.heap.size 80 3 (.slice ad9 H.length cap9) H.length (hiC H) := hr 5 12 rfl rfl
      exact Runs.val _ (op_assign e) ⟨hg, Below.refl _ _, ad9, cap9, rfl, z⟩
  case en =>
    intro a X9 fl hfl hG hs hd ho hr
    obtain ⟨x, hx, hxt⟩ := act_put hs hd ho
    obtain ⟨ad9, cap9, e9, z9⟩ : ∃ ad9 cap9, a.tmps.getD 4 undef = .slice ad9 H.length cap9 ∧ X9.ownsRow W.heap.size 80 3 (.slice ad9 H.length cap9) H.length (hiC H) := hr 6 4 rfl
    have x4 : x 4 = .slice ad9 H.length cap9 := (hxt 4).symm.trans e9
    change a = putAll _ x [7, 8, 9, 10, 11, 12, 4] at hx
    simp only [putAll, Act.put, List.setIfInBounds_toArray, List.set_cons_zero, List.set_cons_succ, x4] at hx
    have HA : Hid (SpanAns w H (.returned (.slice ad9 H.length cap9)) X9) := ⟨ad9, cap9, rfl, own_mono z9 HB.out.size, HB.out.trans (hG.mono HB.out.size)⟩
    clear hG hs hd ho hr hxt x4 e9 z9
    subst hx
    go_wp2
    refine bodyPost_ret (v := .slice ad9 H.length cap9) (by simp [results, Try.results24, go_sem]) rfl ?_
    exact HA.out
theorem spanS_nil (w : World) (p : Sn) : Calls Try.prog 24 #[.pointer none, snV p] w fun e w' => e = .returned (.slice none 0 0) ∧ Below w.heap.size w w' := by
  have HB : Hid (∀ o, Below w.heap.size w (w.alloc o)) := fun o => (Below.refl _ w).alloc (Nat.le_refl _) o
  go_enter Try.func24, Try.ntmps24
  go_wp2
  refine bodyPost_ret (v := .slice none 0 0) (by simp [results, Try.results24, go_sem]) rfl ?_
  exact ⟨rfl, HB.out _⟩
set_option maxHeartbeats 1000000 in
set_option maxRecDepth 100000 in
theorem sameSt_f (x : Hi) (y : Sm) : Calls Try.prog 103 #[.agg #[.string x.key, .int .i64 x.ts, .string x.val], .agg #[.string y.1, .int .i64 y.2]] w fun e w' => e = .returned (.bool (decide (stOf x = y))) ∧ Below w.heap.size w w' := by
  have HB : Hid (∀ o o', Below w.heap.size w ((w.alloc o).alloc o')) := fun o o' => ((Below.refl _ w).alloc (Nat.le_refl _) o).alloc (by simp) o'
  have hs := same_eq x.key y.1
  have HQ : Hid (decide (stOf x = y) = (decide (x.key = y.1) && decide (x.ts = y.2))) := by
    show _ = _
    obtain ⟨k, t⟩ := y
    unfold stOf
    simp only [Prod.mk.injEq, Bool.decide_and]
  rw [HQ.out]
  obtain ⟨q, hq⟩ : ∃ q, decide (x.key = y.1) = q := ⟨_, rfl⟩
  rw [hq] at hs ⊢
  clear hq HQ
  cases q with
  | true =>
    by_cases q2 : x.ts = y.2
    · go_enter Try.func103, Try.ntmps103
      go_wp2
      go_ret
      exact ⟨by simp [q2], HB.out _ _⟩
    · go_enter Try.func103, Try.ntmps103
      go_wp2
      go_ret
      exact ⟨by simp [q2], HB.out _ _⟩
  | false =>
    go_enter Try.func103, Try.ntmps103
    go_wp2
    go_ret
    exact ⟨by simp, HB.out _ _⟩
theorem eq_map {H : List Hi} {L : List Sm} (hl : H.length = L.length) (h : ∀ j (h1 : j < H.length) (h2 : j < L.length), stOf H[j] = L[j]) : H.map stOf = L :=
  List.ext_getElem (by simpa using hl) (fun i h1 h2 => by rw [List.getElem_map]; exact h i (by simpa using h1) h2)
set_option maxHeartbeats 2000000 in
set_option maxRecDepth 100000 in
theorem equal_any {H : List Hi} {L : List Sm} {u v : Value} (hH : Lr hiE 3 w H u) (hL : Lr smE 2 w L v) : Calls Try.prog 102 #[u, v, .func (.func 103) #[] #[]] w fun e w' => e = .returned (.bool (decide (H.map stOf = L))) ∧ Below w.heap.size w w' := by
  obtain ⟨ad, cap, rfl, _, z1, z2, hX⟩ := hH
  obtain ⟨ad', cap', rfl, _, z3, z4, hY⟩ := hL
  have hmx : (H.length : Int) ≤ 9223372036854775807 := by unfold maxLen at z2; omega
  have hmy : (L.length : Int) ≤ 9223372036854775807 := by unfold maxLen at z4; omega
  have HX := Lib.hid hX
  have HY := Lib.hid hY
  clear hX hY z1 z2 z3 z4
  by_cases hne : H.length = L.length
  · have hlen : (H.length : Int) = L.length := by omega
    have HLEN := Lib.hid hne
    clear hne
    go_enter Try.func102, Try.ntmps102
    go_wp2
    go_loopw [17] (fun iv wr => ∃ i : Nat, i ≤ H.length ∧ iv = .int .i64 (i : Int) ∧ (∀ j (h1 : j < H.length) (h2 : j < L.length), j < i → stOf H[j] = L[j]) ∧ Below w.heap.size w wr) (fun iv _ => H.length - (intOf iv).toNat)
    case atStart => exact ⟨0, Nat.zero_le _, rfl, fun j _ _ hj => by omega, Below.refl _ _⟩
    case round =>
      obtain ⟨i, hi, rfl, hno, hb⟩ := hrel
      obtain ⟨V, rfl⟩ : ∃ V, V = wr := ⟨_, rfl⟩
      have HN := Lib.hid hno
      have HB := Lib.hid hb
      by_cases hlt : i < H.length
      · have hlt2 : i < L.length := by have := HLEN.out; omega
        obtain ⟨b, o, cs, rfl, _, hE, _, hcell⟩ := HX.out i hlt
        cases hE
        obtain ⟨b', o', cs', rfl, _, hE', _, hcell'⟩ := HY.out i hlt2
        cases hE'
        have c0 := cell_on hb (hcell 0 _ rfl)
        have c1 := cell_on hb (hcell 1 _ rfl)
        have c2 := cell_on hb (hcell 2 _ rfl)
        have d0 := cell_on hb (hcell' 0 _ rfl)
        have d1 := cell_on hb (hcell' 1 _ rfl)
        simp only [Nat.add_zero] at c0 d0
        have k0 : (0 : Int) ≤ i := by omega
        have k1 : (i : Int) < H.length := by omega
        have k2 : (i : Int) < L.length := by omega
        obtain ⟨x, hx⟩ : ∃ x, H[i] = x := ⟨_, rfl⟩
        obtain ⟨y, hy⟩ : ∃ y, L[i] = y := ⟨_, rfl⟩
        rw [hx] at c0 c1 c2
        rw [hy] at d0 d1
        have HX1 := Lib.hid hx
        have HY1 := Lib.hid hy
        have hcall : ∀ X, Calls Try.prog 103 #[.agg #[.string x.key, .int .i64 x.ts, .string x.val], .agg #[.string y.1, .int .i64 y.2]] X fun e w' => e = .returned (.bool (decide (stOf x = y))) ∧ Below X.heap.size X w' := fun X => sameSt_f x y
        obtain ⟨V1, hV1⟩ : ∃ V1, V1 = V.alloc (.cells #[.string x.key, .int .i64 x.ts, .string x.val] 80) := ⟨_, rfl⟩
        obtain ⟨Z1, hZ1⟩ : ∃ Z1, V.heap.size = Z1 := ⟨_, rfl⟩
        have bb1 : Below V.heap.size V V1 := by rw [hV1]; exact (Below.refl _ V).alloc (Nat.le_refl _) _
        have jZ1 : V1.heap[Z1]? = some (.cells #[.string x.key, .int .i64 x.ts, .string x.val] 80 (0, 0)) := by rw [hV1, ← hZ1]; exact heap_alloc_new V _
        have e0 := cell_on bb1 d0
        have e1 := cell_on bb1 d1
        obtain ⟨V2, hV2⟩ : ∃ V2, V2 = V1.alloc (.cells #[.string y.1, .int .i64 y.2] 82) := ⟨_, rfl⟩
        obtain ⟨Z2, hZ2⟩ : ∃ Z2, V1.heap.size = Z2 := ⟨_, rfl⟩
        have bb2 : Below V1.heap.size V1 V2 := by rw [hV2]; exact (Below.refl _ V1).alloc (Nat.le_refl _) _
        have jZ2 : V2.heap[Z2]? = some (.cells #[.string y.1, .int .i64 y.2] 82 (0, 0)) := by rw [hV2, ← hZ2]; exact heap_alloc_new V1 _
        have jZ1' := (bb2.block Z1 (blk_lt jZ1)).trans jZ1
        have f0 : V2.cell? ⟨Z1, 0, none⟩ = some (.string x.key) := cell_blk jZ1' 0
        have f1 : V2.cell? ⟨Z1, 1, none⟩ = some (.int .i64 x.ts) := cell_blk jZ1' 1
        have f2 : V2.cell? ⟨Z1, 2, none⟩ = some (.string x.val) := cell_blk jZ1' 2
        have g0 : V2.cell? ⟨Z2, 0, none⟩ = some (.string y.1) := cell_blk jZ2 0
        have g1 : V2.cell? ⟨Z2, 1, none⟩ = some (.int .i64 y.2) := cell_blk jZ2 1
        have HB2 : Hid (Below w.heap.size w V2) := (hb.trans (bb1.mono hb.size)).trans (bb2.mono (Nat.le_trans hb.size bb1.size))
        have HV1 := Lib.hid hV1
        have HZ1 := Lib.hid hZ1
        have HV2 := Lib.hid hV2
        have HZ2 := Lib.hid hZ2
        clear hV1 hZ1 bb1 jZ1 hV2 hZ2 bb2 jZ2 jZ1'
        obtain ⟨q, hq⟩ : ∃ q, decide (stOf x = y) = q := ⟨_, rfl⟩
        rw [hq] at hcall
        have HQ := Lib.hid hq
        clear hb hno hcell hcell' hx hy hq
        cases q with
        | true =>
          have HNX : Hid (∀ j (h1 : j < H.length) (h2 : j < L.length), j < i + 1 → stOf H[j] = L[j]) := fun j h1 h2 hj => by
            by_cases e : j = i
            · subst e
              rw [HX1.out, HY1.out]
              exact of_decide_eq_true HQ.out
            · exact HN.out j h1 h2 (by omega)
          go_upto_region 6 with fail
          rw [← HV1.out, HZ1.out]
          go_upto_region 7 with fail
          rw [← HV2.out, HZ2.out]
          go_wp2_with fail
          refine (hcall _).mono ?_
          rintro e w1 ⟨rfl, b1⟩
          have HB1 : Hid (Below w.heap.size w w1) := HB2.out.trans (b1.mono HB2.out.size)
          clear b1 hcall
          go_wp2
          go_roundw
          case rel => exact ⟨i + 1, hlt, by go_num, HNX.out, HB1.out⟩
          case measure => simp [intOf]; omega
        | false =>
          have HR : Hid (decide (H.map stOf = L) = false) := decide_eq_false fun e => by
            have e2 : stOf H[i] = L[i] := by
              have : (H.map stOf)[i]'(by simpa using hlt) = L[i] := by simp only [e]
              rw [List.getElem_map] at this
              exact this
            rw [HX1.out, HY1.out] at e2
            exact of_decide_eq_false HQ.out e2
          go_upto_region 6 with fail
          rw [← HV1.out, HZ1.out]
          go_upto_region 7 with fail
          rw [← HV2.out, HZ2.out]
          go_wp2_with fail
          refine (hcall _).mono ?_
          rintro e w1 ⟨rfl, b1⟩
          have HB1 : Hid (Below w.heap.size w w1) := HB2.out.trans (b1.mono HB2.out.size)
          clear b1 hcall
          go_wp2
          go_ret
          exact ⟨by rw [HR.out]; rfl, HB1.out⟩
      · have k1 : ¬ (i : Int) < H.length := by omega
        have HR : Hid (decide (H.map stOf = L) = true) := decide_eq_true (eq_map HLEN.out fun j h1 h2 => hno j h1 h2 (by omega))
        clear hb hno
        go_wp2
        go_ret
        exact ⟨by rw [HR.out]; rfl, HB.out⟩
  · have hlen : ¬ (H.length : Int) = L.length := by omega
    have HR : Hid (decide (H.map stOf = L) = false) := decide_eq_false fun e => hne (by rw [← e, List.length_map])
    clear hne
    go_enter Try.func102, Try.ntmps102
    go_wp2
    go_ret
    exact ⟨by rw [HR.out]; rfl, Below.refl _ _⟩
def staleB (R : List Rw) (x : Rn) : Bool := !decide ((span R x.span.lo x.span.hi ever).map stOf = x.seen)
set_option maxHeartbeats 2000000 in
set_option maxRecDepth 100000 in
theorem stale_any (h : Sx w A S1 S2 s P M N G lv rv ov) (x : Rn) {sa : Option Addr} {sc : Nat} (hl : Lr smE 2 w x.seen (.slice sa x.seen.length sc)) : Calls Try.prog 87 #[.pointer (some ⟨A, 0, none⟩), .agg #[.string x.span.lo, .string x.span.hi, .slice sa x.seen.length sc]] w fun e w' => e = .returned (.bool (staleB s.rows x)) ∧ Below w.heap.size w w' := by
  obtain ⟨W, hW⟩ : ∃ W, W = w.alloc (.cells #[.string x.span.lo, .string x.span.hi, .slice sa x.seen.length sc] 60) := ⟨_, rfl⟩
  have hb : Below w.heap.size w W := by rw [hW]; exact (Below.refl _ w).alloc (Nat.le_refl _) _
  obtain ⟨Y, hY⟩ : ∃ Y, w.heap.size = Y := ⟨_, rfl⟩
  have jY : W.heap[Y]? = some (.cells #[.string x.span.lo, .string x.span.hi, .slice sa x.seen.length sc] 60 (0, 0)) := by rw [hW, ← hY]; exact heap_alloc_new w _
  have b0 : W.cell? ⟨Y, 0, none⟩ = some (.string x.span.lo) := cell_blk jY 0
  have b1 : W.cell? ⟨Y, 1, none⟩ = some (.string x.span.hi) := cell_blk jY 1
  have b2 : W.cell? ⟨Y, 2, none⟩ = some (.slice sa x.seen.length sc) := cell_blk jY 2
  have hW2 := h.on hb
  obtain ⟨H, hH⟩ : ∃ H, span s.rows x.span.lo x.span.hi ever = H := ⟨_, rfl⟩
  have HSP : Hid (∀ X, Below W.heap.size W X → Calls Try.prog 24 #[.pointer (some ⟨A, 0, none⟩), snV x.span] X fun e w' => SpanAns X H e w') := fun X hX => by
    rw [← hH]
    exact spanS_any (hW2.on hX) x.span
  have HL : Hid (∀ X, Below W.heap.size W X → Lr smE 2 X x.seen (.slice sa x.seen.length sc)) := fun X hX => (hl.on smE_held hb).on smE_held hX
  have HST : Hid (staleB s.rows x = !decide (H.map stOf = x.seen)) := by show _ = _; unfold staleB; rw [hH]
  rw [HST.out]
  obtain ⟨q, hq⟩ : ∃ q, decide (H.map stOf = x.seen) = q := ⟨_, rfl⟩
  have HQ := Lib.hid hq
  rw [hq]
  have HW := Lib.hid hW
  have HY := Lib.hid hY
  have HB := Lib.hid hb
  clear hW hY hb jY h hW2 hH hl HST hq
  go_enter Try.func87, Try.ntmps87
  go_upto_region 1 with fail
  rw [← HW.out, HY.out]
  refine wp_region_fl (fun _ X9 => Below W.heap.size W X9) (fun X9 X' => Below X9.heap.size X9 X') [
    fun v9 _ => v9 = .pointer (some ⟨A, 0, none⟩),
    fun v9 _ => v9 = .pointer (some ⟨Y, 0, none⟩),
    fun v9 _ => v9 = snV x.span,
    fun v9 X9 => ∃ ad9 cap9, v9 = .slice ad9 H.length cap9 ∧ X9.ownsRow W.heap.size 80 3 (.slice ad9 H.length cap9) H.length (hiC H),
    fun v9 _ => v9 = .pointer (some ⟨Y, 2, none⟩),
    fun v9 _ => v9 = .slice sa x.seen.length sc,
    fun v9 _ => v9 = .bool q,
    fun v9 _ => v9 = .bool (!q),
    fun v9 _ => v9 = .bool (!q)]
    (by kernel_rfl) (by kernel_rfl) (by kernel_rfl) ?st ?g0 ?os ?en
  case st => exact ⟨fun _ _ _ _ h => h, fun _ _ _ _ h => h, fun _ _ _ _ h => h, fun _ _ _ hs ⟨x, y, e, z⟩ => ⟨x, y, e, own_below z hs⟩, fun _ _ _ _ h => h, fun _ _ _ _ h => h, fun _ _ _ _ h => h, fun _ _ _ _ h => h, fun _ _ _ _ h => h, trivial⟩
  case g0 => exact ⟨rfl, rfl, rfl, Nat.le_refl _, fun _ _ => rfl⟩
  case os =>
    refine ⟨?_, ?_, ?_, ?_, ?_, ?_, ?_, ?_, ?_, trivial⟩
    · exact fun ρ X9 fl hg hn hl hp ho hc hf hr => .inl ⟨rfl, Runs.val _ (op_move (show ρ (.tmp 0) = .pointer (some ⟨A, 0, none⟩) from ho 0 rfl)) ⟨hg, Below.refl _ _, rfl⟩⟩
    · exact fun ρ X9 fl hg hn hl hp ho hc hf hr => .inl ⟨rfl, Runs.val _ (op_f60_0 (show ρ (.tmp 3) = .pointer (some ⟨Y, 0, none⟩) from ho 3 rfl)) ⟨hg, Below.refl _ _, rfl⟩⟩
    · exact fun ρ X9 fl hg hn hl hp ho hc hf hr => .inl ⟨rfl, Runs.val _ (op_loadSn (show ρ (.tmp 6) = .pointer (some ⟨Y, 0, none⟩) from hr 1 6 rfl rfl) (cell_on hg b0) (cell_on hg b1)) ⟨hg, Below.refl _ _, rfl⟩⟩
    · refine fun ρ X9 fl hg hn hl hp ho hc hf hr => .inl ⟨rfl, ?_⟩
      refine Runs.goes 24 #[.pointer (some ⟨A, 0, none⟩), snV x.span] (op_call2 hf call24 (show ρ (.tmp 5) = .pointer (some ⟨A, 0, none⟩) from hr 0 5 rfl rfl) (show ρ (.tmp 7) = snV x.span from hr 2 7 rfl rfl)) ((HSP.out X9 hg).mono ?_)
      rintro e7 w7 ⟨ad7, cap7, rfl, o7, b7⟩
      exact ⟨_, rfl, hg.trans (b7.mono hg.size), b7, ad7, cap7, rfl, own_mono o7 hg.size⟩
    · exact fun ρ X9 fl hg hn hl hp ho hc hf hr => .inl ⟨rfl, Runs.val _ (op_f60_1 (show ρ (.tmp 3) = .pointer (some ⟨Y, 0, none⟩) from ho 3 rfl)) ⟨hg, Below.refl _ _, rfl⟩⟩
    · exact fun ρ X9 fl hg hn hl hp ho hc hf hr => .inl ⟨rfl, Runs.val _ (op_load58 (show ρ (.tmp 9) = .pointer (some ⟨Y, 2, none⟩) from hr 4 9 rfl rfl) (cell_on hg b2)) ⟨hg, Below.refl _ _, rfl⟩⟩
    · refine fun ρ X9 fl hg hn hl hp ho hc hf hr => .inl ⟨rfl, ?_⟩
      obtain ⟨ad9, cap9, e, z⟩ : ∃ ad9 cap9, ρ (.tmp 8) = .slice ad9 H.length cap9 ∧ X9.ownsRow W.heap.size 80 3 (.slice ad9 H.length cap9) H.length (hiC H) := hr 3 8 rfl rfl
      refine Runs.goes 102 #[.slice ad9 H.length cap9, .slice sa x.seen.length sc, .func (.func 103) #[] #[]] (op_call3 hf call102 e (show ρ (.tmp 10) = .slice sa x.seen.length sc from hr 5 10 rfl rfl) (hf 103)) ((equal_any (hi_lr z) (HL.out X9 hg)).mono ?_)
      rintro e7 w7 ⟨rfl, b7⟩
      exact ⟨_, rfl, hg.trans (b7.mono hg.size), b7, (show Value.bool (decide (H.map stOf = x.seen)) = .bool q from by rw [HQ.out])⟩
    · exact fun ρ X9 fl hg hn hl hp ho hc hf hr => .inl ⟨rfl, Runs.val _ (op_not (show ρ (.tmp 11) = .bool q from hr 6 11 rfl rfl) ) ⟨hg, Below.refl _ _, rfl⟩⟩
    · exact fun ρ X9 fl hg hn hl hp ho hc hf hr => .inl ⟨rfl, Runs.val _ (op_assign (show ρ (.tmp 12) = .bool (!q) from hr 7 12 rfl rfl)) ⟨hg, Below.refl _ _, rfl⟩⟩
  case en =>
    intro a X9 fl hfl hG hs hd ho hr
    obtain ⟨x, hx, hxt⟩ := act_put hs hd ho
    have x4 : x 4 = .bool (!q) := (hxt 4).symm.trans (hr 8 4 rfl)
    change a = putAll _ x [5, 6, 7, 8, 9, 10, 11, 12, 4] at hx
    simp only [putAll, Act.put, List.setIfInBounds_toArray, List.set_cons_zero, List.set_cons_succ, x4] at hx
    have HBX := Lib.hid (HB.out.trans (hG.mono HB.out.size))
    clear hG hs hd ho hr hxt x4
    subst hx
    go_wp2
    go_ret
    exact ⟨rfl, HBX.out⟩
end
end Go.Proofs.Ytcoaahlakkghhaa
