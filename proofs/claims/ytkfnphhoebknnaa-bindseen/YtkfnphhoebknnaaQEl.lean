import Derived.Test.YtkfnphhoebknnaaQEk
namespace Go.Proofs.Ytkfnphhoebknnaa
open Go.RowKit
def bdE (w : World) (b : Bd) (cs : List Value) : Prop := ∃ bv, cs = bdC (b, bv) ∧ Lr valsE 3 w b.vals bv
theorem bdE_held : Held bdE := fun _ _ _ _ hb ⟨bv, e, h⟩ => ⟨bv, e, h.on valsE_held hb⟩
theorem BO.reads {w : World} {B : Nat} {L : List Bd} {v : Value} (h : BO w B L v) : Lr bdE 11 w L v := by
  obtain ⟨P, h1, h2, h3⟩ := h
  obtain ⟨ad, cap, e, q0, q1, q2, hX⟩ := Lr.own bdC_len h2
  have hl : P.length = L.length := by rw [← h1, List.length_map]
  refine ⟨ad, cap, by rw [← hl]; exact e, q0, by omega, q2, fun i hi => ?_⟩
  have hiP : i < P.length := by omega
  obtain ⟨b, o, cs, r1, r2, r3, r4, r5⟩ := hX i hiP
  refine ⟨b, o, cs, r1, r2, ⟨P[i].2, ?_, ?_⟩, r4, r5⟩
  · rw [r3]
    have : L[i] = P[i].1 := by simp only [← h1, List.getElem_map]
    rw [this]
  · have : L[i] = P[i].1 := by simp only [← h1, List.getElem_map]
    rw [this]
    exact Lr.own vlL_len (h3 P[i] (List.getElem_mem hiP))
section
variable {ρ : Operand → Value} {X : World} {d : Option Tmp} {ty : TypeId} {ps : String} {af : Array Edge} {g : Option (Nat × Bool)}
theorem op_neq37 {x y : Operand} {v : Vl} (e : ρ x = vlV v) (e2 : ρ y = vlV v) : (execOp ρ ⟨d, .binOp .neq 37 x y 37, ty, ps, af, g⟩).run Try.prog X = .ok (.value (.bool false)) X := by
  simp only [execOp, e, e2]
  go_simp
end
section
variable {w : World}
set_option maxHeartbeats 4000000 in
set_option maxRecDepth 100000 in
theorem sameV_yes {A : List Vl} {va vb : Value} (ha : Lr valsE 3 w A va) (hb : Lr valsE 3 w A vb) : Calls Try.prog 20 #[va, vb] w fun e w' => e = .returned (.bool true) ∧ Below w.heap.size w w' := by
  obtain ⟨aa, ac, rfl, har⟩ := ha
  have ha : Lr valsE 3 w A (.slice aa A.length ac) := ⟨aa, ac, rfl, har⟩
  obtain ⟨ba, bc, rfl, hbr⟩ := hb
  have hb : Lr valsE 3 w A (.slice ba A.length bc) := ⟨ba, bc, rfl, hbr⟩
  have hm := ha.at.2
  obtain ⟨n, hn⟩ : ∃ n, A.length = n := ⟨_, rfl⟩
  rw [hn] at ha hb ⊢
  have hn1 : (n : Int) ≤ 9223372036854775807 := by have h1 := hm.1; have h2 := hm.2.1; unfold maxLen at h1; omega
  have HA := Lib.hid ha
  have HB := Lib.hid hb
  have HN := Lib.hid hn
  clear ha hb har hbr hm hn
  go_enter Try.func20, Try.ntmps20
  go_wp2
  go_loopw [5] (fun iv wr => ∃ i : Nat, i ≤ n ∧ iv = .int .i64 (i : Int) ∧ Below w.heap.size w wr) (fun iv _ => n - (intOf iv).toNat)
  case atStart => exact ⟨0, Nat.zero_le _, rfl, Below.refl _ _⟩
  case round =>
    obtain ⟨i, hi, rfl, hbw⟩ := hrel
    obtain ⟨U, hU⟩ : ∃ U, U = wr := ⟨_, rfl⟩
    subst hU
    have HBU := Lib.hid hbw
    by_cases hlt : i < n
    · have hlA : i < A.length := by rw [HN.out]; exact hlt
      obtain ⟨b1, o1, cs1, e1, _, hE1, hr1⟩ := (HA.out.on valsE_held hbw).at.2.2.2 i hlA
      subst e1
      have hE1' : cs1 = vlL A[i] := hE1
      subst hE1'
      obtain ⟨b2, o2, cs2, e2, _, hE2, hr2⟩ := (HB.out.on valsE_held hbw).at.2.2.2 i hlA
      subst e2
      have hE2' : cs2 = vlL A[i] := hE2
      subst hE2'
      obtain ⟨v, hv⟩ : ∃ v, A[i] = v := ⟨_, rfl⟩
      rw [hv] at hr1 hr2
      have HR1 := Lib.hid hr1
      have HR2 := Lib.hid hr2
      have HLT := Lib.hid hlt
      have k0 : (0 : Int) ≤ (i : Int) := by omega
      have k1 : (i : Int) < (n : Int) := by omega
      clear hbw hE1 hE2 hr1 hr2 hv hlA hlt
      go_upto_region 6 with fail
      refine wp_region_fb (fun _ X9 => Below U.heap.size U X9) (fun X9 X8 => Below X9.heap.size X9 X8) [
        fun v9 _ => v9 = .slice (some ⟨b1, o1, none⟩) n ac,
        fun v9 _ => v9 = .int .i64 (i : Int),
        fun v9 _ => v9 = .pointer (some ⟨b1, o1 + i * 3, none⟩),
        fun v9 _ => v9 = vlV v,
        fun v9 _ => v9 = .slice (some ⟨b2, o2, none⟩) n bc,
        fun v9 _ => v9 = .int .i64 (i : Int),
        fun v9 _ => v9 = .pointer (some ⟨b2, o2 + i * 3, none⟩),
        fun v9 _ => v9 = vlV v,
        fun v9 _ => v9 = .bool false]
        (by kernel_rfl) (by kernel_rfl) (by kernel_rfl) ?st ?g0 ?os ?en
      case st => exact ⟨fun _ _ _ _ h => h, fun _ _ _ _ h => h, fun _ _ _ _ h => h, fun _ _ _ _ h => h, fun _ _ _ _ h => h, fun _ _ _ _ h => h, fun _ _ _ _ h => h, fun _ _ _ _ h => h, fun _ _ _ _ h => h, trivial⟩
      case g0 => exact ⟨rfl, rfl, rfl, Nat.le_refl _, fun _ _ => rfl⟩
      case os =>
        refine ⟨?_, ?_, ?_, ?_, ?_, ?_, ?_, ?_, ?_, trivial⟩
        · exact fun ρ X9 fl hg hn hl hp ho hc hf hr => .inl ⟨rfl, Runs.val _ (op_move (show ρ (.tmp 0) = .slice (some ⟨b1, o1, none⟩) n ac from ho 0 rfl)) ⟨hg, Below.refl _ _, rfl⟩⟩
        · exact fun ρ X9 fl hg hn hl hp ho hc hf hr => .inl ⟨rfl, Runs.val _ (op_move (show ρ (.tmp 5) = .int .i64 (i : Int) from ho 5 rfl)) ⟨hg, Below.refl _ _, rfl⟩⟩
        · exact fun ρ X9 fl hg hn hl hp ho hc hf hr => .inl ⟨rfl, Runs.val _ (op_i35 (show ρ (.tmp 17) = .slice (some ⟨b1, o1, none⟩) n ac from hr 0 17 rfl rfl) (show ρ (.tmp 18) = .int .i64 (i : Int) from hr 1 18 rfl rfl) HLT.out) ⟨hg, Below.refl _ _, rfl⟩⟩
        · exact fun ρ X9 fl hg hn hl hp ho hc hf hr => .inl ⟨rfl, Runs.val _ (op_loadAt (show ρ (.tmp 19) = .pointer (some ⟨b1, o1 + i * 3, none⟩) from hr 2 19 rfl rfl) (run_loadAt_mid X9 b1 (o1 + i * 3) 37 (vlL v) _ (range_on hg HR1.out) Try.underlying37 rfl size37)) ⟨hg, Below.refl _ _, rfl⟩⟩
        · exact fun ρ X9 fl hg hn hl hp ho hc hf hr => .inl ⟨rfl, Runs.val _ (op_move (show ρ (.tmp 1) = .slice (some ⟨b2, o2, none⟩) n bc from ho 1 rfl)) ⟨hg, Below.refl _ _, rfl⟩⟩
        · exact fun ρ X9 fl hg hn hl hp ho hc hf hr => .inl ⟨rfl, Runs.val _ (op_move (show ρ (.tmp 5) = .int .i64 (i : Int) from ho 5 rfl)) ⟨hg, Below.refl _ _, rfl⟩⟩
        · exact fun ρ X9 fl hg hn hl hp ho hc hf hr => .inl ⟨rfl, Runs.val _ (op_i35 (show ρ (.tmp 21) = .slice (some ⟨b2, o2, none⟩) n bc from hr 4 21 rfl rfl) (show ρ (.tmp 22) = .int .i64 (i : Int) from hr 5 22 rfl rfl) HLT.out) ⟨hg, Below.refl _ _, rfl⟩⟩
        · exact fun ρ X9 fl hg hn hl hp ho hc hf hr => .inl ⟨rfl, Runs.val _ (op_loadAt (show ρ (.tmp 23) = .pointer (some ⟨b2, o2 + i * 3, none⟩) from hr 6 23 rfl rfl) (run_loadAt_mid X9 b2 (o2 + i * 3) 37 (vlL v) _ (range_on hg HR2.out) Try.underlying37 rfl size37)) ⟨hg, Below.refl _ _, rfl⟩⟩
        · exact fun ρ X9 fl hg hn hl hp ho hc hf hr => .inl ⟨rfl, Runs.val _ (op_neq37 (show ρ (.tmp 20) = vlV v from hr 3 20 rfl rfl) (show ρ (.tmp 24) = vlV v from hr 7 24 rfl rfl)) ⟨hg, Below.refl _ _, rfl⟩⟩
      case en =>
        intro a9 w6 fl hfl b6 hs9 hd9 ho9 hr9
        obtain ⟨x9, hx, hxt⟩ := act_put hs9 hd9 ho9
        have x25 : x9 25 = .bool false := (hxt 25).symm.trans (hr9 8 25 rfl)
        change a9 = putAll _ x9 [17, 18, 19, 20, 21, 22, 23, 24, 25] at hx
        simp only [putAll, Act.put, List.setIfInBounds_toArray, List.set_cons_zero, List.set_cons_succ, x25] at hx
        subst hx
        clear hs9 hd9 ho9 hr9 hfl x25
        generalize x9 17 = z17, x9 18 = z18, x9 19 = z19, x9 20 = z20, x9 21 = z21, x9 22 = z22, x9 23 = z23, x9 24 = z24
        have HB6 := Lib.hid (bgo HBU.out b6)
        clear b6
        go_wp2
        go_roundw
        case rel => exact ⟨i + 1, HLT.out, by go_num, HB6.out⟩
        case measure => simp [intOf]; omega
    · have k1 : ¬ ((i : Int) < (n : Int)) := by omega
      clear hbw hlt
      go_wp2
      go_ret
      exact ⟨rfl, HBU.out⟩
/-- Amid the region that takes two bounds into boxes. -/
def GS (U : World) (A B : Array Value) (f8 f9 f10 f11 : Bool) (r6 r7 : Value) (X : World) : Prop := Below U.heap.size U X ∧ (f8 = true → ∃ (Q : Nat) (cs : Array Value), r6 = .pointer (some ⟨Q, 0, none⟩) ∧ U.heap.size ≤ Q ∧ cs.size = 11 ∧ X.heap[Q]? = some (.cells cs 39 (0, 0)) ∧ (f10 = true → cs = A)) ∧ (f9 = true → ∃ (Q : Nat) (cs : Array Value), r7 = .pointer (some ⟨Q, 0, none⟩) ∧ U.heap.size ≤ Q ∧ cs.size = 11 ∧ X.heap[Q]? = some (.cells cs 39 (0, 0)) ∧ (f11 = true → cs = B)) ∧ (f8 = true → f9 = true → r6 ≠ r7)
set_option maxHeartbeats 8000000 in
set_option maxRecDepth 100000 in
theorem sameB_yes {L : List Bd} {va vb : Value} (ha : Lr bdE 11 w L va) (hb : Lr bdE 11 w L vb) : Calls Try.prog 11 #[va, vb] w fun e w' => e = .returned (.bool true) ∧ Below w.heap.size w w' := by
  obtain ⟨aa, ac, rfl, har⟩ := ha
  have ha : Lr bdE 11 w L (.slice aa L.length ac) := ⟨aa, ac, rfl, har⟩
  obtain ⟨ba, bc, rfl, hbr⟩ := hb
  have hb : Lr bdE 11 w L (.slice ba L.length bc) := ⟨ba, bc, rfl, hbr⟩
  have hm := ha.at.2
  obtain ⟨n, hn⟩ : ∃ n, L.length = n := ⟨_, rfl⟩
  rw [hn] at ha hb ⊢
  have hn1 : (n : Int) ≤ 9223372036854775807 := by have h1 := hm.1; have h2 := hm.2.1; unfold maxLen at h1; omega
  have HA := Lib.hid ha
  have HB := Lib.hid hb
  have HN := Lib.hid hn
  clear ha hb har hbr hm hn
  go_enter Try.func11, Try.ntmps11
  go_wp2
  go_loopw [5] (fun iv wr => ∃ i : Nat, i ≤ n ∧ iv = .int .i64 (i : Int) ∧ Below w.heap.size w wr) (fun iv _ => n - (intOf iv).toNat)
  case atStart => exact ⟨0, Nat.zero_le _, rfl, Below.refl _ _⟩
  case round =>
    obtain ⟨i, hi, rfl, hbw⟩ := hrel
    obtain ⟨U, hU⟩ : ∃ U, U = wr := ⟨_, rfl⟩
    subst hU
    have HBU := Lib.hid hbw
    by_cases hlt : i < n
    · have hlA : i < L.length := by rw [HN.out]; exact hlt
      obtain ⟨b1, o1, cs1, e1, _, hE1, hr1⟩ := (HA.out.on bdE_held hbw).at.2.2.2 i hlA
      subst e1
      obtain ⟨bv1, rfl, hv1⟩ := hE1
      obtain ⟨b2, o2, cs2, e2, _, hE2, hr2⟩ := (HB.out.on bdE_held hbw).at.2.2.2 i hlA
      subst e2
      obtain ⟨bv2, rfl, hv2⟩ := hE2
      obtain ⟨b, hbe⟩ : ∃ b, L[i] = b := ⟨_, rfl⟩
      rw [hbe] at hr1 hr2 hv1 hv2
      obtain ⟨p1, c1, ev1, -⟩ := hv1.shape
      obtain ⟨p2, c2, ev2, -⟩ := hv2.shape
      subst ev1 ev2
      obtain ⟨vn, hvn⟩ : ∃ vn, b.vals.length = vn := ⟨_, rfl⟩
      rw [hvn] at hr1 hr2 hv1 hv2
      have HR1 := Lib.hid hr1
      have HR2 := Lib.hid hr2
      have HV1 := Lib.hid hv1
      have HV2 := Lib.hid hv2
      have HLT := Lib.hid hlt
      have k0 : (0 : Int) ≤ (i : Int) := by omega
      have k1 : (i : Int) < (n : Int) := by omega
      clear hbw hr1 hr2 hv1 hv2 hbe hlA hlt hvn
      go_upto_region 6 with fail
      refine wp_region_gs (fun fl r X9 => GS U (bdA b (.slice p1 vn c1)) (bdA b (.slice p2 vn c2)) (fl 8) (fl 9) (fl 10) (fl 11) (r 6) (r 7) X9) (fun _ _ => True) [
        fun v9 _ => v9 = .slice (some ⟨b1, o1, none⟩) n ac,
        fun v9 _ => v9 = .int .i64 (i : Int),
        fun v9 _ => v9 = .pointer (some ⟨b1, o1 + i * 11, none⟩),
        fun v9 _ => v9 = .agg (bdA b (.slice p1 vn c1)),
        fun v9 _ => v9 = .slice (some ⟨b2, o2, none⟩) n bc,
        fun v9 _ => v9 = .int .i64 (i : Int),
        fun v9 _ => v9 = .pointer (some ⟨b2, o2 + i * 11, none⟩),
        fun v9 _ => v9 = .agg (bdA b (.slice p2 vn c2)),
        fun _ _ => True,
        fun _ _ => True,
        fun _ _ => True,
        fun _ _ => True]
        (by kernel_rfl) (by kernel_rfl) (by kernel_rfl) ?st ?g0 ?os ?en
      case st => exact ⟨fun _ _ _ _ h => h, fun _ _ _ _ h => h, fun _ _ _ _ h => h, fun _ _ _ _ h => h, fun _ _ _ _ h => h, fun _ _ _ _ h => h, fun _ _ _ _ h => h, fun _ _ _ _ h => h, fun _ _ _ _ h => h, fun _ _ _ _ h => h, fun _ _ _ _ h => h, fun _ _ _ _ h => h, trivial⟩
      case g0 => exact ⟨⟨rfl, rfl, rfl, Nat.le_refl _, fun _ _ => rfl⟩, fun e => (by cases e), fun e => (by cases e), fun e => (by cases e)⟩
      case os =>
        refine ⟨?_, ?_, ?_, ?_, ?_, ?_, ?_, ?_, ?_, ?_, ?_, ?_, trivial⟩
        · intro ρ X9 fl hg hn hl hp ho hc hf hr
          refine .inl ⟨rfl, ?_⟩
          exact Runs.val _ (op_move (show ρ (.tmp 0) = .slice (some ⟨b1, o1, none⟩) n ac from ho 0 rfl)) ⟨(fun r' h1 h2 => by
            show GS U (bdA b (.slice p1 vn c1)) (bdA b (.slice p2 vn c2)) (fl 8) (fl 9) (fl 10) (fl 11) (r' 6) (r' 7) _
            rw [show r' 6 = ρ (.tmp 6) from h1 6 (by decide), show r' 7 = ρ (.tmp 7) from h1 7 (by decide)]
            exact hg), trivial, rfl⟩
        · intro ρ X9 fl hg hn hl hp ho hc hf hr
          refine .inl ⟨rfl, ?_⟩
          exact Runs.val _ (op_move (show ρ (.tmp 5) = .int .i64 (i : Int) from ho 5 rfl)) ⟨(fun r' h1 h2 => by
            show GS U (bdA b (.slice p1 vn c1)) (bdA b (.slice p2 vn c2)) (fl 8) (fl 9) (fl 10) (fl 11) (r' 6) (r' 7) _
            rw [show r' 6 = ρ (.tmp 6) from h1 6 (by decide), show r' 7 = ρ (.tmp 7) from h1 7 (by decide)]
            exact hg), trivial, rfl⟩
        · intro ρ X9 fl hg hn hl hp ho hc hf hr
          refine .inl ⟨rfl, ?_⟩
          exact Runs.val _ (op_i28 (show ρ (.tmp 19) = .slice (some ⟨b1, o1, none⟩) n ac from hr 0 19 rfl rfl) (show ρ (.tmp 20) = .int .i64 (i : Int) from hr 1 20 rfl rfl) HLT.out) ⟨(fun r' h1 h2 => by
            show GS U (bdA b (.slice p1 vn c1)) (bdA b (.slice p2 vn c2)) (fl 8) (fl 9) (fl 10) (fl 11) (r' 6) (r' 7) _
            rw [show r' 6 = ρ (.tmp 6) from h1 6 (by decide), show r' 7 = ρ (.tmp 7) from h1 7 (by decide)]
            exact hg), trivial, rfl⟩
        · intro ρ X9 fl hg hn hl hp ho hc hf hr
          refine .inl ⟨rfl, ?_⟩
          exact Runs.val _ (op_loadAt (show ρ (.tmp 21) = .pointer (some ⟨b1, o1 + i * 11, none⟩) from hr 2 21 rfl rfl) (run_loadAt_mid X9 b1 (o1 + i * 11) 39 _ _ (range_on hg.1 HR1.out) Try.underlying39 rfl size39)) ⟨(fun r' h1 h2 => by
            show GS U (bdA b (.slice p1 vn c1)) (bdA b (.slice p2 vn c2)) (fl 8) (fl 9) (fl 10) (fl 11) (r' 6) (r' 7) _
            rw [show r' 6 = ρ (.tmp 6) from h1 6 (by decide), show r' 7 = ρ (.tmp 7) from h1 7 (by decide)]
            exact hg), trivial, rfl⟩
        · intro ρ X9 fl hg hn hl hp ho hc hf hr
          refine .inl ⟨rfl, ?_⟩
          exact Runs.val _ (op_move (show ρ (.tmp 1) = .slice (some ⟨b2, o2, none⟩) n bc from ho 1 rfl)) ⟨(fun r' h1 h2 => by
            show GS U (bdA b (.slice p1 vn c1)) (bdA b (.slice p2 vn c2)) (fl 8) (fl 9) (fl 10) (fl 11) (r' 6) (r' 7) _
            rw [show r' 6 = ρ (.tmp 6) from h1 6 (by decide), show r' 7 = ρ (.tmp 7) from h1 7 (by decide)]
            exact hg), trivial, rfl⟩
        · intro ρ X9 fl hg hn hl hp ho hc hf hr
          refine .inl ⟨rfl, ?_⟩
          exact Runs.val _ (op_move (show ρ (.tmp 5) = .int .i64 (i : Int) from ho 5 rfl)) ⟨(fun r' h1 h2 => by
            show GS U (bdA b (.slice p1 vn c1)) (bdA b (.slice p2 vn c2)) (fl 8) (fl 9) (fl 10) (fl 11) (r' 6) (r' 7) _
            rw [show r' 6 = ρ (.tmp 6) from h1 6 (by decide), show r' 7 = ρ (.tmp 7) from h1 7 (by decide)]
            exact hg), trivial, rfl⟩
        · intro ρ X9 fl hg hn hl hp ho hc hf hr
          refine .inl ⟨rfl, ?_⟩
          exact Runs.val _ (op_i28 (show ρ (.tmp 23) = .slice (some ⟨b2, o2, none⟩) n bc from hr 4 23 rfl rfl) (show ρ (.tmp 24) = .int .i64 (i : Int) from hr 5 24 rfl rfl) HLT.out) ⟨(fun r' h1 h2 => by
            show GS U (bdA b (.slice p1 vn c1)) (bdA b (.slice p2 vn c2)) (fl 8) (fl 9) (fl 10) (fl 11) (r' 6) (r' 7) _
            rw [show r' 6 = ρ (.tmp 6) from h1 6 (by decide), show r' 7 = ρ (.tmp 7) from h1 7 (by decide)]
            exact hg), trivial, rfl⟩
        · intro ρ X9 fl hg hn hl hp ho hc hf hr
          refine .inl ⟨rfl, ?_⟩
          exact Runs.val _ (op_loadAt (show ρ (.tmp 25) = .pointer (some ⟨b2, o2 + i * 11, none⟩) from hr 6 25 rfl rfl) (run_loadAt_mid X9 b2 (o2 + i * 11) 39 _ _ (range_on hg.1 HR2.out) Try.underlying39 rfl size39)) ⟨(fun r' h1 h2 => by
            show GS U (bdA b (.slice p1 vn c1)) (bdA b (.slice p2 vn c2)) (fl 8) (fl 9) (fl 10) (fl 11) (r' 6) (r' 7) _
            rw [show r' 6 = ρ (.tmp 6) from h1 6 (by decide), show r' 7 = ρ (.tmp 7) from h1 7 (by decide)]
            exact hg), trivial, rfl⟩
        · intro ρ X9 fl hg hn hl hp ho hc hf hr
          refine .inl ⟨rfl, ?_⟩
          have hz : fl 10 = false := by
            cases h9 : fl 10 with
            | false => rfl
            | true => exact absurd (hl 10 _ 8 rfl rfl h9) (by rw [hn]; decide)
          have hg1 : GS U (bdA b (.slice p1 vn c1)) (bdA b (.slice p2 vn c2)) (fl 8) (fl 9) (fl 10) (fl 11) (ρ (.tmp 6)) (ρ (.tmp 7)) X9 := hg
          exact Runs.val _ op_alloc39 ⟨fun r' h1 h3 => by
            show GS U (bdA b (.slice p1 vn c1)) (bdA b (.slice p2 vn c2)) (upd fl 8 8) (fl 9) (fl 10) (fl 11) (r' 6) (r' 7) _
            rw [show r' 7 = ρ (.tmp 7) from h1 7 (by decide)]
            refine ⟨bgo hg1.1 (bnew _ _), fun _ => ⟨X9.heap.size, zBA, h3 6 rfl, hg1.1.size, rfl, heap_alloc_new _ _, fun e => by rw [hz] at e; cases e⟩, fun e => by
              obtain ⟨Q, cs, q1, q2, q3, q4, q5⟩ := hg1.2.2.1 e
              exact ⟨Q, cs, q1, q2, q3, ((bnew X9 _).block Q (blk_lt q4)).trans q4, q5⟩, fun e8 e9 q => by
              obtain ⟨Q, cs, q1, q2, q3, q4, q5⟩ := hg1.2.2.1 e9
              rw [h3 6 rfl] at q
              rw [q1] at q
              have := blk_lt q4
              simp only [Value.pointer.injEq, Option.some.injEq, Addr.mk.injEq] at q
              omega⟩, trivial, trivial⟩
        · intro ρ X9 fl hg hn hl hp ho hc hf hr
          refine .inl ⟨rfl, ?_⟩
          have hz : fl 11 = false := by
            cases h9 : fl 11 with
            | false => rfl
            | true => exact absurd (hl 11 _ 9 rfl rfl h9) (by rw [hn]; decide)
          have hg1 : GS U (bdA b (.slice p1 vn c1)) (bdA b (.slice p2 vn c2)) (fl 8) (fl 9) (fl 10) (fl 11) (ρ (.tmp 6)) (ρ (.tmp 7)) X9 := hg
          exact Runs.val _ op_alloc39 ⟨fun r' h1 h3 => by
            show GS U (bdA b (.slice p1 vn c1)) (bdA b (.slice p2 vn c2)) (fl 8) (upd fl 9 9) (fl 10) (fl 11) (r' 6) (r' 7) _
            rw [show r' 6 = ρ (.tmp 6) from h1 6 (by decide)]
            refine ⟨bgo hg1.1 (bnew _ _), fun e => by
              obtain ⟨Q, cs, q1, q2, q3, q4, q5⟩ := hg1.2.1 e
              exact ⟨Q, cs, q1, q2, q3, ((bnew X9 _).block Q (blk_lt q4)).trans q4, q5⟩, fun _ => ⟨X9.heap.size, zBA, h3 7 rfl, hg1.1.size, rfl, heap_alloc_new _ _, fun e => by rw [hz] at e; cases e⟩, fun e8 e9 q => by
              obtain ⟨Q, cs, q1, q2, q3, q4, q5⟩ := hg1.2.1 e8
              rw [h3 7 rfl] at q
              rw [q1] at q
              have := blk_lt q4
              simp only [Value.pointer.injEq, Option.some.injEq, Addr.mk.injEq] at q
              omega⟩, trivial, trivial⟩
        · intro ρ X9 fl hg hn hl hp ho hc hf hr
          refine .inl ⟨rfl, ?_⟩
          have hg1 : GS U (bdA b (.slice p1 vn c1)) (bdA b (.slice p2 vn c2)) (fl 8) (fl 9) (fl 10) (fl 11) (ρ (.tmp 6)) (ρ (.tmp 7)) X9 := hg
          obtain ⟨Q, cs, q1, q2, q3, q4, _⟩ := hg1.2.1 (hp 8 rfl)
          obtain ⟨X', hst, j', f'⟩ := st_row q4 (us := bdA b (.slice p1 vn c1)) q3.symm size39 (by simp [Value.oneCell'])
          refine Runs.skips (op_storeAt q1 (show ρ (.tmp 22) = .agg (bdA b (.slice p1 vn c1)) from hr 3 22 rfl rfl) hst) ⟨fun r' h1 h3 => ?_, trivial, trivial⟩
          show GS U (bdA b (.slice p1 vn c1)) (bdA b (.slice p2 vn c2)) (fl 8) (fl 9) (upd fl 10 10) (fl 11) (r' 6) (r' 7) X'
          rw [show r' 6 = ρ (.tmp 6) from h1 6 (by decide), show r' 7 = ρ (.tmp 7) from h1 7 (by decide)]
          exact ⟨hg1.1.trans (f'.toBelow (fun k hk q => by omega) hg1.1.size), fun _ => ⟨Q, _, q1, q2, rfl, j', fun _ => rfl⟩, fun e => by
              obtain ⟨P, ds, p1, p2, p3, p4, p5⟩ := hg1.2.2.1 e
              have hPQ : P ≠ Q := fun e9 => (hg1.2.2.2 (hp 8 rfl) e) (by rw [q1, p1, e9])
              exact ⟨P, ds, p1, p2, p3, (f'.block P (blk_lt p4) hPQ).trans p4, p5⟩, hg1.2.2.2⟩
        · intro ρ X9 fl hg hn hl hp ho hc hf hr
          refine .inl ⟨rfl, ?_⟩
          have hg1 : GS U (bdA b (.slice p1 vn c1)) (bdA b (.slice p2 vn c2)) (fl 8) (fl 9) (fl 10) (fl 11) (ρ (.tmp 6)) (ρ (.tmp 7)) X9 := hg
          obtain ⟨Q, cs, q1, q2, q3, q4, _⟩ := hg1.2.2.1 (hp 9 rfl)
          obtain ⟨X', hst, j', f'⟩ := st_row q4 (us := bdA b (.slice p2 vn c2)) q3.symm size39 (by simp [Value.oneCell'])
          refine Runs.skips (op_storeAt q1 (show ρ (.tmp 26) = .agg (bdA b (.slice p2 vn c2)) from hr 7 26 rfl rfl) hst) ⟨fun r' h1 h3 => ?_, trivial, trivial⟩
          show GS U (bdA b (.slice p1 vn c1)) (bdA b (.slice p2 vn c2)) (fl 8) (fl 9) (fl 10) (upd fl 11 11) (r' 6) (r' 7) X'
          rw [show r' 6 = ρ (.tmp 6) from h1 6 (by decide), show r' 7 = ρ (.tmp 7) from h1 7 (by decide)]
          exact ⟨hg1.1.trans (f'.toBelow (fun k hk q => by omega) hg1.1.size), fun e => by
              obtain ⟨P, ds, p1, p2, p3, p4, p5⟩ := hg1.2.1 e
              have hPQ : P ≠ Q := fun e9 => (hg1.2.2.2 e (hp 9 rfl)).symm (by rw [q1, p1, e9])
              exact ⟨P, ds, p1, p2, p3, (f'.block P (blk_lt p4) hPQ).trans p4, p5⟩, fun _ => ⟨Q, _, q1, q2, rfl, j', fun _ => rfl⟩, hg1.2.2.2⟩
      case en =>
        intro a9 w6 fl hfl hg6 hs9 hd9 ho9 hr9
        obtain ⟨x9, hx, hxt⟩ := act_put hs9 hd9 ho9
        have hG : GS U (bdA b (.slice p1 vn c1)) (bdA b (.slice p2 vn c2)) (fl 8) (fl 9) (fl 10) (fl 11) ((fun t => a9.tmps.getD t undef) 6) ((fun t => a9.tmps.getD t undef) 7) w6 := hg6
        rw [hfl 8 (by decide), hfl 9 (by decide), hfl 10 (by decide), hfl 11 (by decide)] at hG
        obtain ⟨P, cs, g1, g2, g3, g4, g5⟩ := hG.2.1 rfl
        obtain ⟨Q, ds, q1, q2, q3, q4, q5⟩ := hG.2.2.1 rfl
        have g5' := g5 rfl
        subst g5'
        have q5' := q5 rfl
        subst q5'
        have x6 : x9 6 = .pointer (some ⟨P, 0, none⟩) := (hxt 6).symm.trans g1
        have x7 : x9 7 = .pointer (some ⟨Q, 0, none⟩) := (hxt 7).symm.trans q1
        change a9 = putAll _ x9 [19, 20, 21, 22, 23, 24, 25, 26, 6, 7] at hx
        simp only [putAll, Act.put, List.setIfInBounds_toArray, List.set_cons_zero, List.set_cons_succ, x6, x7] at hx
        subst hx
        have JP := Lib.hid g4
        have JQ := Lib.hid q4
        have HB6 := Lib.hid hG.1
        clear hs9 hd9 ho9 hr9 hfl hg6 hG g1 g2 g3 g4 g5 q1 q2 q3 q4 q5 x6 x7 hxt
        generalize x9 19 = z19, x9 20 = z20, x9 21 = z21, x9 22 = z22, x9 23 = z23, x9 24 = z24, x9 25 = z25, x9 26 = z26
        have hsv := sameV_yes (HV1.out.on valsE_held HB6.out) (HV2.out.on valsE_held HB6.out)
        have px0 : w6.cell? ⟨P, 0, none⟩ = some (.int .i64 b.kind) := cell_blk JP.out 0
        have px1 : w6.cell? ⟨P, 1, none⟩ = some (.int .i64 b.tab) := cell_blk JP.out 1
        have px2 : w6.cell? ⟨P, 2, none⟩ = some (.slice p1 vn c1) := cell_blk JP.out 2
        have px3 : w6.cell? ⟨P, 3, none⟩ = some (.int .i64 b.set) := cell_blk JP.out 3
        have px4 : w6.cell? ⟨P, 4, none⟩ = some (.int .i64 b.nv.k) := cell_blk JP.out 4
        have px5 : w6.cell? ⟨P, 5, none⟩ = some (.int .i64 b.nv.n) := cell_blk JP.out 5
        have px6 : w6.cell? ⟨P, 6, none⟩ = some (.string b.nv.s) := cell_blk JP.out 6
        have px7 : w6.cell? ⟨P, 7, none⟩ = some (.int .i64 b.wh) := cell_blk JP.out 7
        have px8 : w6.cell? ⟨P, 8, none⟩ = some (.int .i64 b.be.k) := cell_blk JP.out 8
        have px9 : w6.cell? ⟨P, 9, none⟩ = some (.int .i64 b.be.n) := cell_blk JP.out 9
        have px10 : w6.cell? ⟨P, 10, none⟩ = some (.string b.be.s) := cell_blk JP.out 10
        have qx0 : w6.cell? ⟨Q, 0, none⟩ = some (.int .i64 b.kind) := cell_blk JQ.out 0
        have qx1 : w6.cell? ⟨Q, 1, none⟩ = some (.int .i64 b.tab) := cell_blk JQ.out 1
        have qx2 : w6.cell? ⟨Q, 2, none⟩ = some (.slice p2 vn c2) := cell_blk JQ.out 2
        have qx3 : w6.cell? ⟨Q, 3, none⟩ = some (.int .i64 b.set) := cell_blk JQ.out 3
        have qx4 : w6.cell? ⟨Q, 4, none⟩ = some (.int .i64 b.nv.k) := cell_blk JQ.out 4
        have qx5 : w6.cell? ⟨Q, 5, none⟩ = some (.int .i64 b.nv.n) := cell_blk JQ.out 5
        have qx6 : w6.cell? ⟨Q, 6, none⟩ = some (.string b.nv.s) := cell_blk JQ.out 6
        have qx7 : w6.cell? ⟨Q, 7, none⟩ = some (.int .i64 b.wh) := cell_blk JQ.out 7
        have qx8 : w6.cell? ⟨Q, 8, none⟩ = some (.int .i64 b.be.k) := cell_blk JQ.out 8
        have qx9 : w6.cell? ⟨Q, 9, none⟩ = some (.int .i64 b.be.n) := cell_blk JQ.out 9
        have qx10 : w6.cell? ⟨Q, 10, none⟩ = some (.string b.be.s) := cell_blk JQ.out 10
        have hneq : ∀ (v : Vl) (X : World), (binOp .neq 37 (vlV v) (vlV v)).run Try.prog X = .ok (.bool false) X := fun v X => by go_simp
        go_wp2_with (go_at_call 20; refine hsv.mono ?_; rintro e w7 ⟨rfl, b7⟩; refine Hid.out ?_)
        refine Lib.hid ?_
        have HB7 := Lib.hid (bgo (bgo HBU.out HB6.out) b7)
        clear hsv b7 hneq px0 qx0 px1 qx1 px2 qx2 px3 qx3 px4 qx4 px5 qx5 px6 qx6 px7 qx7 px8 qx8 px9 qx9 px10 qx10
        go_wp2
        go_roundw
        case rel => exact ⟨i + 1, HLT.out, by go_num, HB7.out⟩
        case measure => simp [intOf]; omega
    · have k1 : ¬ ((i : Int) < (n : Int)) := by omega
      clear hbw hlt
      go_wp2
      go_ret
      exact ⟨rfl, HBU.out⟩
end
end Go.Proofs.Ytkfnphhoebknnaa
