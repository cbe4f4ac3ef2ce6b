import Derived.Test.YtkfnphhoebknnaaQEr
namespace Go.Proofs.Ytkfnphhoebknnaa
open Go.RowKit
/-- One of a list, as a list. -/
theorem Lr.one {α : Type} {E : World → α → List Value → Prop} {c : Nat} {w : World} {L : List α} {b o n cap : Nat} (h : Lr E c w L (.slice (some ⟨b, o, none⟩) n cap)) {i : Nat} (hi : i < L.length) (hcap : 1 ≤ cap - i) : Lr E c w [L[i]] (.slice (some ⟨b, o + i * c, none⟩) 1 (cap - i)) := by
  obtain ⟨ad', cap', e, h0, h1, h2, h3⟩ := h
  cases e
  refine ⟨some ⟨b, o + i * c, none⟩, cap - i, rfl, (fun e => by cases e), by simpa using hcap, by omega, fun j hj => ?_⟩
  obtain rfl : j = 0 := by simpa using hj
  obtain ⟨b', o', cs, e, hb, hE, hl, hh⟩ := h3 i hi
  simp only [Option.some.injEq, Addr.mk.injEq, and_true] at e
  obtain ⟨rfl, rfl⟩ := e
  exact ⟨b, o + i * c, cs, rfl, hb, hE, hl, fun j u hu => by rw [Nat.zero_mul, Nat.add_zero]; exact hh j u hu⟩
theorem bindE_one {s : Sc} {x : St} (h : rightS s = true) : bindE s [x] = (0, oneE (seenS s) x) := by
  unfold bindE
  rw [if_pos h]
  unfold bindAt bindAt
  by_cases e : oneE (seenS s) x = 0
  · rw [if_pos e, e]
  · rw [if_neg e]
    rfl
theorem bindL_one {s : Sc} {x : St} (h : rightS s = true) (e : oneE (seenS s) x = 0) : bindL s [x] = [oneB (seenS s) x] := by
  unfold bindL
  rw [bindE_one h, if_pos e]
  rfl
section
variable {ρ : Operand → Value} {X : World} {d : Option Tmp} {ty : TypeId} {ps : String} {af : Array Edge} {g : Option (Nat × Bool)}
theorem op_add3 {x y : Operand} {n m : Int} (e : ρ x = .int .i64 n) (e2 : ρ y = .int .i64 m) (h1 : -9223372036854775808 ≤ n + m) (h2 : n + m ≤ 9223372036854775807) : (execOp ρ ⟨d, .binOp .add 3 x y 3, ty, ps, af, g⟩).run Try.prog X = .ok (.value (.int .i64 (n + m))) X := by
  simp only [execOp, e, e2]
  go_simp
  rw [IntKind.wrap_i64]
  omega
theorem op_slice25 {x y z : Operand} {B o n m i : Nat} (e : ρ x = .slice (some ⟨B, o, none⟩) n m) (e2 : ρ y = .int .i64 (i : Int)) (e3 : ρ z = .int .i64 ((i : Int) + 1)) (hi : i < n) (hn : n ≤ m) : (execOp ρ ⟨d, .slice 25 x (some y) (some z) none, ty, ps, af, g⟩).run Try.prog X = .ok (.value (.slice (some ⟨B, o + i * 22, none⟩) 1 (m - i))) X := by
  have k0 : (0 : Int) ≤ (i : Int) := by omega
  have k1 : (0 : Int) ≤ (i : Int) + 1 := by omega
  have k2 : (i : Int) ≤ (i : Int) + 1 := by omega
  have k3 : (i : Int) + 1 ≤ (m : Int) := by omega
  simp only [execOp, e]
  go_simp
  intro h
  omega
theorem op_t0 {x : Operand} {a b c : Value} (e : ρ x = .tuple #[a, b, c]) : (execOp ρ ⟨d, .extract x 0, ty, ps, af, g⟩).run Try.prog X = .ok (.value a) X := by
  simp only [execOp, e]
  rfl
theorem op_t1 {x : Operand} {a b c : Value} (e : ρ x = .tuple #[a, b, c]) : (execOp ρ ⟨d, .extract x 1, ty, ps, af, g⟩).run Try.prog X = .ok (.value b) X := by
  simp only [execOp, e]
  rfl
theorem op_t2 {x : Operand} {a b c : Value} (e : ρ x = .tuple #[a, b, c]) : (execOp ρ ⟨d, .extract x 2, ty, ps, af, g⟩).run Try.prog X = .ok (.value c) X := by
  simp only [execOp, e]
  rfl
end
section
variable {w : World}
set_option maxHeartbeats 8000000 in
set_option maxRecDepth 100000 in
theorem parts_law {s : Sc} {tv lv : Value} {L : List St} (hL : Lr tbE 5 w s.tabs tv) (hI : ∀ t ∈ s.tabs, ∀ i ∈ idsT t, I64 i) (hS : Lr stmtE 22 w L lv) (h1 : s.tabs.length ≤ 140737488355328) (h2 : L.length ≤ 140737488355328) (h3 : ∀ t ∈ s.tabs, t.cols.length ≤ 140737488355328 ∧ t.ixs.length ≤ 140737488355328 ∧ t.fks.length ≤ 140737488355328) (h4 : ∀ x ∈ L, x.vals.length ≤ 140737488355328) : Calls Try.prog 5 #[scV s tv, lv] w fun e w' => e = .returned (.bool true) ∧ Below w.heap.size w w' := by
  obtain ⟨la, lc, rfl, hSr⟩ := hS
  have hS : Lr stmtE 22 w L (.slice la L.length lc) := ⟨la, lc, rfl, hSr⟩
  obtain ⟨ta, tc, rfl, htr⟩ := hL
  have hL : Lr tbE 5 w s.tabs (.slice ta s.tabs.length tc) := ⟨ta, tc, rfl, htr⟩
  clear hSr htr
  obtain ⟨tn, htn⟩ : ∃ tn, s.tabs.length = tn := ⟨_, rfl⟩
  rw [htn] at hL
  unfold scV
  rw [htn]
  obtain ⟨n, hln⟩ : ∃ n, L.length = n := ⟨_, rfl⟩
  rw [hln] at hS ⊢
  have HTN := Lib.hid htn
  have HLN := Lib.hid hln
  obtain ⟨W, hW⟩ : ∃ W, W = w.alloc (.cells (#[.int .i64 s.ver, .int .i64 s.last, .slice ta tn tc]) 24) := ⟨_, rfl⟩
  have hbW : Below w.heap.size w W := by
    rw [hW]
    exact bnew _ _
  obtain ⟨Y0, hY0⟩ : ∃ Y0, w.heap.size = Y0 := ⟨_, rfl⟩
  have j0 : W.heap[Y0]? = some (.cells (#[.int .i64 s.ver, .int .i64 s.last, .slice ta tn tc]) 24 (0, 0)) := by
    have := heap_alloc_new (w) (.cells (#[.int .i64 s.ver, .int .i64 s.last, .slice ta tn tc]) 24)
    rw [hW, ← hY0]
    exact this
  have HL := Lib.hid (hL.on tbE_held hbW)
  have HS := Lib.hid (hS.on stmtE_held hbW)
  have HW := Lib.hid hW
  have HB := Lib.hid hbW
  have HY0 := Lib.hid hY0
  have J0 := Lib.hid j0
  have HI := Lib.hid hI
  have G : Hid (∀ (X : World), Below W.heap.size W X → Calls Try.prog 8 #[.agg #[.int .i64 s.ver, .int .i64 s.last, .slice ta tn tc], .slice la n lc] X fun e w' => ∃ g, e = .returned (.bool g) ∧ (g = false → L.length ≤ 500 ∧ ∀ x ∈ L, x.vals.length ≤ 500) ∧ Below X.heap.size X w') := Lib.hid (fun X hX => great_any (w := X) (s := s) (tv := .slice ta tn tc) (L := L) (HL.out.on tbE_held hX) (HS.out.on stmtE_held hX) h1 h2 h3 h4)
  clear hW hbW hY0 j0 hI hL hS h1 h2 h3 h4 htn hln
  go_enter Try.func5, Try.ntmps5
  go_upto_region 1 with fail
  rw [← HW.out, HY0.out]
  go_wp2_with (go_at_call 7; refine (awake_any _).mono ?_; rintro e w1 ⟨rfl, b1⟩; refine Hid.out ?_)
  refine Lib.hid ?_
  have HB1 := Lib.hid b1
  have J1 := Lib.hid ((b1.block Y0 (blk_lt J0.out)).trans J0.out)
  have s0 : w1.cell? ⟨Y0, 0, none⟩ = some (.int .i64 s.ver) := cell_blk J1.out 0
  have s1 : w1.cell? ⟨Y0, 1, none⟩ = some (.int .i64 s.last) := cell_blk J1.out 1
  have s2 : w1.cell? ⟨Y0, 2, none⟩ = some (.slice ta tn tc) := cell_blk J1.out 2
  have hg := G.out w1 b1
  clear b1
  go_wp2_with (go_at_call 8; refine hg.mono ?_; rintro e w2 ⟨g, rfl, hgf, b2⟩; refine Hid.out ?_)
  refine Lib.hid ?_
  have HB2 := Lib.hid (bgo HB1.out b2)
  have J2 := Lib.hid ((b2.block Y0 (blk_lt J1.out)).trans J1.out)
  have HGF := Lib.hid hgf
  clear hg hgf b2 s0 s1 s2
  cases g with
  | true =>
    go_wp2_with (go_at_call 7; refine (awake_any _).mono ?_; rintro e w3 ⟨rfl, b3⟩; refine Hid.out ?_)
    refine Lib.hid ?_
    have HB3 := Lib.hid (bgo (bgo HB.out HB2.out) b3)
    clear b3
    go_wp2
    go_ret
    exact ⟨rfl, HB3.out⟩
  | false =>
    obtain ⟨hl5, hv5⟩ := HGF.out rfl
    have HL5 : Hid (L.length ≤ 1000000 ∧ ∀ x ∈ L, x.vals.length ≤ 1000000) := Lib.hid ⟨by omega, fun x hx => by have := hv5 x hx; omega⟩
    have hn5 : n ≤ 500 := by rw [← HLN.out]; exact hl5
    clear hl5 hv5
    have s0 : w2.cell? ⟨Y0, 0, none⟩ = some (.int .i64 s.ver) := cell_blk J2.out 0
    have s1 : w2.cell? ⟨Y0, 1, none⟩ = some (.int .i64 s.last) := cell_blk J2.out 1
    have s2 : w2.cell? ⟨Y0, 2, none⟩ = some (.slice ta tn tc) := cell_blk J2.out 2
    have hrt := right_ref (w := w2) (s := s) (tv := .slice ta tn tc) (HL.out.on tbE_held HB2.out)
    unfold scV at hrt
    cases hr : rightS s with
    | false =>
      rw [hr] at hrt
      clear hr
      go_wp2_with (go_at_call 12; refine hrt.mono ?_; rintro e w3 ⟨rfl, b3⟩; refine Hid.out ?_)
      refine Lib.hid ?_
      have HB3 := Lib.hid (bgo HB2.out b3)
      clear hrt b3 s0 s1 s2
      go_wp2_with (go_at_call 7; refine (awake_any _).mono ?_; rintro e w8 ⟨rfl, b8⟩; refine Hid.out ?_)
      refine Lib.hid ?_
      have HB8 := Lib.hid (bgo (bgo HB.out HB3.out) b8)
      clear b8
      go_wp2
      go_ret
      exact ⟨rfl, HB8.out⟩
    | true =>
      rw [hr] at hrt
      have HR := Lib.hid hr
      clear hr
      go_upto_region 3 with (go_at_call 12; refine hrt.mono ?_; rintro e w3 ⟨rfl, b3⟩; refine Hid.out ?_)
      refine Lib.hid ?_
      have HB3 := Lib.hid (bgo HB2.out b3)
      have J3 := Lib.hid ((b3.block Y0 (blk_lt J2.out)).trans J2.out)
      clear hrt b3 s0 s1 s2
      go_upto_region 3 with fail
      have s0 : w3.cell? ⟨Y0, 0, none⟩ = some (.int .i64 s.ver) := cell_blk J3.out 0
      have s1 : w3.cell? ⟨Y0, 1, none⟩ = some (.int .i64 s.last) := cell_blk J3.out 1
      have s2 : w3.cell? ⟨Y0, 2, none⟩ = some (.slice ta tn tc) := cell_blk J3.out 2
      have hbind := bind_any (w := w3) (s := s) (tv := .slice ta tn tc) (L := L) (HL.out.on tbE_held HB3.out) HI.out (HS.out.on stmtE_held HB3.out) HL5.out.2 HL5.out.1
      unfold scV at hbind
      obtain ⟨eat, heat⟩ : ∃ e, (bindE s L).1 = e := ⟨_, rfl⟩
      obtain ⟨eer, heer⟩ : ∃ e, (bindE s L).2 = e := ⟨_, rfl⟩
      rw [heat, heer] at hbind
      have HEA : Hid (bindE s L = (eat, eer)) := Lib.hid (by rw [← heat, ← heer])
      clear heat heer
      go_upto_region 4 with (go_at_call 9; refine hbind.mono ?_; rintro e w4 ⟨av, rfl, hBA, b4⟩; refine Hid.out ?_)
      refine Lib.hid ?_
      have HB4 := Lib.hid (bgo HB3.out b4)
      have J4 := Lib.hid ((b4.block Y0 (blk_lt J3.out)).trans J3.out)
      have HRA := Lib.hid hBA.reads
      obtain ⟨aa, ac, eav⟩ := hBA.shape
      obtain ⟨m, hm⟩ : ∃ m, (bindL s L).length = m := ⟨_, rfl⟩
      rw [hm] at eav
      subst eav
      have HM := Lib.hid hm
      have hac := HRA.out.at.2
      have hmac : m ≤ ac := by have h2 := hac.2.1; omega
      have hm1 : (m : Int) ≤ 9223372036854775807 := by have h1 := hac.1; unfold maxLen at h1; omega
      have HAC := Lib.hid hmac
      clear hbind hBA b4 s0 s1 s2 hm hac hmac
      go_upto_region 4 with fail
      go_wp2
      go_loopw [34] (fun iv wr => ∃ i : Nat, i ≤ n ∧ iv = .int .i64 (i : Int) ∧ Hid (∀ j (hj : j < L.length), j < i → oneE (seenS s) L[j] = 0) ∧ Below w4.heap.size w4 wr) (fun iv _ => n - (intOf iv).toNat)
      case atStart => exact ⟨0, Nat.zero_le _, rfl, Lib.hid (fun j _ h => absurd h (by omega)), Below.refl _ _⟩
      case round =>
        obtain ⟨i, hi, rfl, HNO, hb⟩ := hrel
        obtain ⟨U, hU⟩ : ∃ U, U = wr := ⟨_, rfl⟩
        subst hU
        have HBU := Lib.hid hb
        by_cases hlt : i < n
        · have hlL : i < L.length := by rw [HLN.out]; exact hlt
          have hSU := HS.out.on stmtE_held (bgo HB4.out hb)
          obtain ⟨sb, so, scs, el, hsb, hE, hrg⟩ := hSU.at.2.2.2 i hlL
          subst el
          have hcap := hSU.at.2.2.1
          obtain ⟨x, hx⟩ : ∃ x, L[i] = x := ⟨_, rfl⟩
          have hone := hSU.one hlL (by omega)
          rw [hx] at hone
          have HONE := Lib.hid hone
          have HCAP : Hid (n ≤ lc) := Lib.hid (by rw [← HLN.out]; exact hcap)
          have HXM : Hid (∀ y ∈ [x], y.vals.length ≤ 1000000) := Lib.hid (fun y hy => by
            rw [List.mem_singleton.1 hy, ← hx]
            exact HL5.out.2 _ (List.getElem_mem hlL))
          have HTU := Lib.hid (HL.out.on tbE_held (bgo HB4.out hb))
          have JU := Lib.hid ((hb.block Y0 (blk_lt J4.out)).trans J4.out)
          have HRS : Hid (U.rangeAt Y0 0 [.int .i64 s.ver, .int .i64 s.last, .slice ta tn tc]) := Lib.hid (range_blk JU.out)
          obtain ⟨er, her⟩ : ∃ er, oneE (seenS s) x = er := ⟨_, rfl⟩
          have HER := Lib.hid her
          have HXI : Hid (∀ h : i < L.length, L[i] = x) := Lib.hid (fun _ => hx)
          have HLT := Lib.hid hlt
          have HN5 := Lib.hid hn5
          have k0 : (0 : Int) ≤ (i : Int) := by omega
          have k1 : (i : Int) < (n : Int) := by omega
          clear hb hrg hE hsb hx hlL hlt her hSU hcap hone
          go_upto_region 7 with fail
          refine wp_region_fb (fun _ X9 => Below U.heap.size U X9) (fun X9 X8 => Below X9.heap.size X9 X8) [
            fun v9 _ => v9 = .agg #[.int .i64 s.ver, .int .i64 s.last, .slice ta tn tc],
            fun v9 _ => v9 = .slice (some ⟨sb, so, none⟩) n lc,
            fun v9 _ => v9 = .int .i64 (i : Int),
            fun v9 _ => v9 = .int .i64 (i : Int),
            fun v9 _ => v9 = .int .i64 ((i : Int) + 1),
            fun v9 _ => v9 = .slice (some ⟨sb, so + i * 22, none⟩) 1 (lc - i),
            fun v9 X9 => ∃ bv, v9 = .tuple #[bv, .int .i64 0, .int .i64 er] ∧ BO X9 U.heap.size (bindL s [x]) bv,
            fun v9 X9 => ∃ bv, v9 = .tuple #[bv, .int .i64 0, .int .i64 er] ∧ BO X9 U.heap.size (bindL s [x]) bv,
            fun v9 X9 => ∃ bv, v9 = bv ∧ BO X9 U.heap.size (bindL s [x]) bv,
            fun v9 _ => v9 = .int .i64 0,
            fun v9 _ => v9 = .int .i64 er,
            fun v9 X9 => ∃ bv, v9 = bv ∧ BO X9 U.heap.size (bindL s [x]) bv,
            fun v9 _ => v9 = .int .i64 0,
            fun v9 _ => v9 = .int .i64 er]
            (by kernel_rfl) (by kernel_rfl) (by kernel_rfl) ?st ?g0 ?os ?en
          case st => exact ⟨fun _ _ _ _ h => h, fun _ _ _ _ h => h, fun _ _ _ _ h => h, fun _ _ _ _ h => h, fun _ _ _ _ h => h, fun _ _ _ _ h => h, (fun _ _ _ hb h => by obtain ⟨bv, e9, h9⟩ := h; exact ⟨bv, e9, h9.below hb⟩), (fun _ _ _ hb h => by obtain ⟨bv, e9, h9⟩ := h; exact ⟨bv, e9, h9.below hb⟩), (fun _ _ _ hb h => by obtain ⟨bv, e9, h9⟩ := h; exact ⟨bv, e9, h9.below hb⟩), fun _ _ _ _ h => h, fun _ _ _ _ h => h, (fun _ _ _ hb h => by obtain ⟨bv, e9, h9⟩ := h; exact ⟨bv, e9, h9.below hb⟩), fun _ _ _ _ h => h, fun _ _ _ _ h => h, trivial⟩
          case g0 => exact ⟨rfl, rfl, rfl, Nat.le_refl _, fun _ _ => rfl⟩
          case os =>
            refine ⟨?_, ?_, ?_, ?_, ?_, ?_, ?_, ?_, ?_, ?_, ?_, ?_, ?_, ?_, trivial⟩
            · exact fun ρ X9 fl hg hn hl hp ho hc hf hr => .inl ⟨rfl, Runs.val _ (op_loadAt (show ρ (.tmp 2) = .pointer (some ⟨Y0, 0, none⟩) from ho 2 rfl) (run_loadAt_mid X9 Y0 (0) 24 ([.int .i64 s.ver, .int .i64 s.last, .slice ta tn tc]) _ (range_on hg HRS.out) Try.underlying24 rfl size24)) ⟨hg, Below.refl _ _, rfl⟩⟩
            · exact fun ρ X9 fl hg hn hl hp ho hc hf hr => .inl ⟨rfl, Runs.val _ (op_move (show ρ (.tmp 1) = .slice (some ⟨sb, so, none⟩) n lc from ho 1 rfl)) ⟨hg, Below.refl _ _, rfl⟩⟩
            · exact fun ρ X9 fl hg hn hl hp ho hc hf hr => .inl ⟨rfl, Runs.val _ (op_move (show ρ (.tmp 8) = .int .i64 (i : Int) from ho 8 rfl)) ⟨hg, Below.refl _ _, rfl⟩⟩
            · exact fun ρ X9 fl hg hn hl hp ho hc hf hr => .inl ⟨rfl, Runs.val _ (op_move (show ρ (.tmp 8) = .int .i64 (i : Int) from ho 8 rfl)) ⟨hg, Below.refl _ _, rfl⟩⟩
            · exact fun ρ X9 fl hg hn hl hp ho hc hf hr => .inl ⟨rfl, Runs.val _ (op_add3 (show ρ (.tmp 41) = .int .i64 (i : Int) from hr 3 41 rfl rfl) (hc _) (by omega) (by have := HLT.out; have := HN5.out; omega)) ⟨hg, Below.refl _ _, rfl⟩⟩
            · exact fun ρ X9 fl hg hn hl hp ho hc hf hr => .inl ⟨rfl, Runs.val _ (op_slice25 (show ρ (.tmp 39) = .slice (some ⟨sb, so, none⟩) n lc from hr 1 39 rfl rfl) (show ρ (.tmp 40) = .int .i64 (i : Int) from hr 2 40 rfl rfl) (show ρ (.tmp 42) = .int .i64 ((i : Int) + 1) from hr 4 42 rfl rfl) HLT.out HCAP.out) ⟨hg, Below.refl _ _, rfl⟩⟩
            · intro ρ X9 fl hg hn hl hp ho hc hf hr
              have hone := bind_any (w := X9) (s := s) (tv := .slice ta tn tc) (L := [x]) (HTU.out.on tbE_held hg) HI.out (HONE.out.on stmtE_held hg) HXM.out (by simp)
              rw [bindE_one HR.out, HER.out] at hone
              unfold scV at hone
              refine .inl ⟨rfl, ?_⟩
              refine Runs.goes 9 #[.agg #[.int .i64 s.ver, .int .i64 s.last, .slice ta tn tc], .slice (some ⟨sb, so + i * 22, none⟩) 1 (lc - i)] (op_call2 hf (by go_simp) (show ρ (.tmp 38) = .agg #[.int .i64 s.ver, .int .i64 s.last, .slice ta tn tc] from hr 0 38 rfl rfl) (show ρ (.tmp 43) = .slice (some ⟨sb, so + i * 22, none⟩) 1 (lc - i) from hr 5 43 rfl rfl)) (hone.mono ?_)
              rintro e7 w7 ⟨bv, rfl, hBB, b7⟩
              exact ⟨_, rfl, bgo hg b7, b7, bv, rfl, hBB.mono hg.size⟩
            · intro ρ X9 fl hg hn hl hp ho hc hf hr
              obtain ⟨bv, e9, h9⟩ : ∃ bv, ρ (.tmp 44) = .tuple #[bv, .int .i64 0, .int .i64 er] ∧ BO X9 U.heap.size (bindL s [x]) bv := hr 6 44 rfl rfl
              refine .inl ⟨rfl, ?_⟩
              exact Runs.val _ (op_move e9) ⟨hg, Below.refl _ _, bv, rfl, h9⟩
            · intro ρ X9 fl hg hn hl hp ho hc hf hr
              obtain ⟨bv, e9, h9⟩ : ∃ bv, ρ (.tmp 37) = .tuple #[bv, .int .i64 0, .int .i64 er] ∧ BO X9 U.heap.size (bindL s [x]) bv := hr 7 37 rfl rfl
              refine .inl ⟨rfl, ?_⟩
              exact Runs.val _ (op_t0 e9) ⟨hg, Below.refl _ _, bv, rfl, h9⟩
            · intro ρ X9 fl hg hn hl hp ho hc hf hr
              obtain ⟨bv, e9, h9⟩ : ∃ bv, ρ (.tmp 37) = .tuple #[bv, .int .i64 0, .int .i64 er] ∧ BO X9 U.heap.size (bindL s [x]) bv := hr 7 37 rfl rfl
              refine .inl ⟨rfl, ?_⟩
              exact Runs.val _ (op_t1 e9) ⟨hg, Below.refl _ _, rfl⟩
            · intro ρ X9 fl hg hn hl hp ho hc hf hr
              obtain ⟨bv, e9, h9⟩ : ∃ bv, ρ (.tmp 37) = .tuple #[bv, .int .i64 0, .int .i64 er] ∧ BO X9 U.heap.size (bindL s [x]) bv := hr 7 37 rfl rfl
              refine .inl ⟨rfl, ?_⟩
              exact Runs.val _ (op_t2 e9) ⟨hg, Below.refl _ _, rfl⟩
            · intro ρ X9 fl hg hn hl hp ho hc hf hr
              obtain ⟨bv, e9, h9⟩ : ∃ bv, ρ (.tmp 45) = bv ∧ BO X9 U.heap.size (bindL s [x]) bv := hr 8 45 rfl rfl
              refine .inl ⟨rfl, ?_⟩
              exact Runs.val _ (op_assign e9) ⟨hg, Below.refl _ _, bv, rfl, h9⟩
            · exact fun ρ X9 fl hg hn hl hp ho hc hf hr => .inl ⟨rfl, Runs.val _ (op_assign (show ρ (.tmp 46) = .int .i64 0 from hr 9 46 rfl rfl)) ⟨hg, Below.refl _ _, rfl⟩⟩
            · exact fun ρ X9 fl hg hn hl hp ho hc hf hr => .inl ⟨rfl, Runs.val _ (op_assign (show ρ (.tmp 47) = .int .i64 er from hr 10 47 rfl rfl)) ⟨hg, Below.refl _ _, rfl⟩⟩
          case en =>
            intro a9 w6 fl hfl b6 hs9 hd9 ho9 hr9
            obtain ⟨x9, hx, hxt⟩ := act_put hs9 hd9 ho9
            have xk11 : x9 11 = .int .i64 er := (hxt 11).symm.trans (hr9 13 11 rfl)
            obtain ⟨bv, q9, h9bo⟩ := hr9 11 9 rfl
            have xk9 : x9 9 = bv := (hxt 9).symm.trans q9
            change a9 = putAll _ x9 [38, 39, 40, 41, 42, 43, 44, 37, 45, 46, 47, 9, 10, 11] at hx
            simp only [putAll, Act.put, List.setIfInBounds_toArray, List.set_cons_zero, List.set_cons_succ, xk11, xk9] at hx
            subst hx
            clear hs9 hd9 ho9 hr9 hfl xk11 xk9 q9
            generalize x9 38 = z38, x9 39 = z39, x9 40 = z40, x9 41 = z41, x9 42 = z42, x9 43 = z43, x9 44 = z44, x9 37 = z37, x9 45 = z45, x9 46 = z46, x9 47 = z47, x9 10 = z10
            have HB6 := Lib.hid (bgo HBU.out b6)
            have HBB := Lib.hid h9bo
            clear b6 h9bo
            by_cases he0 : er = 0
            · subst he0
              have HNX : Hid (∀ j (hj : j < L.length), j < i + 1 → oneE (seenS s) L[j] = 0) := Lib.hid (fun j hj hji => by
                rcases Nat.lt_or_ge j i with q | q
                · exact HNO.out j hj q
                · obtain rfl : j = i := by omega
                  rw [HXI.out hj]
                  exact HER.out)
              by_cases hee : eer = 0
              · have HAL : Hid (bindL s L = L.map (oneB (seenS s))) := Lib.hid (by unfold bindL; rw [HEA.out, if_pos hee])
                have hmn : m = n := by rw [← HM.out, HAL.out, List.length_map, HLN.out]
                subst hmn
                subst hee
                have hiA : i < (bindL s L).length := by rw [HM.out]; exact HLT.out
                have hRA := HRA.out.on bdE_held HB6.out
                obtain ⟨ab, ao, acs, ea, -⟩ := hRA.at.2.2.2 i hiA
                subst ea
                have hac : m ≤ ac := HAC.out
                have honeA := hRA.one hiA (by rw [HM.out] at hiA; omega)
                have eAi : (bindL s L)[i] = oneB (seenS s) x := by
                  simp only [HAL.out, List.getElem_map]
                  rw [HXI.out (by rw [HLN.out]; exact HLT.out)]
                rw [eAi] at honeA
                have hbl := HBB.out.reads
                rw [bindL_one HR.out HER.out] at hbl
                obtain ⟨bb, bc, ebb⟩ := HBB.out.shape
                rw [bindL_one HR.out HER.out] at ebb
                change bv = .slice bb 1 bc at ebb
                have hsame := sameB_yes (w := w6) honeA hbl
                subst ebb
                have g1 : ¬ ((i : Int) ≥ (m : Int)) := by omega
                have g2 : ¬ ((m : Int) ≤ (i : Int)) := by omega
                have q1 : (i : Int) + 1 ≤ (ac : Int) := by omega
                have q2 : -9223372036854775808 ≤ (i : Int) + 1 := by omega
                have q3 : (i : Int) + 1 ≤ 9223372036854775807 := by omega
                clear hiA hRA honeA eAi hbl hac
                go_wp2_with (go_at_call 11; refine hsame.mono ?_; rintro e w7 ⟨rfl, b7⟩; refine Hid.out ?_)
                refine Lib.hid ?_
                have HB7 := Lib.hid (bgo HB6.out b7)
                clear hsame b7
                go_wp2
                go_roundw
                case rel => exact ⟨i + 1, HLT.out, by go_num, HNX, HB7.out⟩
                case measure => simp [intOf]; omega
              · have g1 : (eer == 0) = false := by rw [beq_eq_false_iff_ne]; exact hee
                clear hee
                go_wp2
                go_roundw
                case rel => exact ⟨i + 1, HLT.out, by go_num, HNX, HB6.out⟩
                case measure => simp [intOf]; omega
            · have g1 : (er == 0) = false := by rw [beq_eq_false_iff_ne]; exact he0
              have g2 : (er != 0) = true := by simpa using he0
              have hlL : i < L.length := by rw [HLN.out]; exact HLT.out
              have hE : bindE s L = ((i : Int), er) := by
                have h1 : bindE s L = bindAt (seenS s) 0 L := by unfold bindE; rw [if_pos HR.out]
                rw [h1, bindAt_stop (i := i) hlL HNO.out (by rw [HXI.out hlL, HER.out]; exact he0), HXI.out hlL, HER.out, Nat.zero_add]
              have hE2 := HEA.out.symm.trans hE
              simp only [Prod.mk.injEq] at hE2
              obtain ⟨rfl, rfl⟩ := hE2
              have hmz : m = 0 := by
                rw [← HM.out]
                unfold bindL
                rw [hE, if_neg he0]
                rfl
              subst hmz
              clear hE he0 hlL
              go_wp2
              go_ret
              exact ⟨rfl, bgo (bgo HB.out HB4.out) HB6.out⟩
        · have k1 : ¬ ((i : Int) < (n : Int)) := by omega
          obtain rfl : i = n := by omega
          have hE : bindE s L = (0, 0) := by
            have h1 : bindE s L = bindAt (seenS s) 0 L := by unfold bindE; rw [if_pos HR.out]
            rw [h1]
            exact bindAt_end (fun j hj => HNO.out j hj (by rw [← HLN.out]; exact hj))
          have hE2 := HEA.out.symm.trans hE
          simp only [Prod.mk.injEq] at hE2
          obtain ⟨rfl, rfl⟩ := hE2
          have hmn : m = i := by
            rw [← HM.out]
            unfold bindL
            rw [hE, if_pos rfl, List.length_map, HLN.out]
          subst hmn
          clear hb hlt hE
          go_wp2
          go_ret
          exact ⟨rfl, bgo (bgo HB.out HB4.out) HBU.out⟩
end
end Go.Proofs.Ytkfnphhoebknnaa
