import Derived.Test.YtkfnphhoebknnaaQEj
import Derived.Test.YtkfnphhoebknnaaQUg
import Derived.Test.YtkfnphhoebknnaaQNe
namespace Go.Proofs.Ytkfnphhoebknnaa
open Go.RowKit
/-- Amid the region that binds a statement and keeps the answer in a box. -/
def GB (V : World) (f9 f10 : Bool) (r9 r27 : Value) (X : World) : Prop := Below V.heap.size V X ∧ (f9 = true → ∃ Q cs, r9 = .pointer (some ⟨Q, 0, none⟩) ∧ V.heap.size ≤ Q ∧ Array.size cs = 11 ∧ X.heap[Q]? = some (.cells cs 39 (0, 0)) ∧ (f10 = true → r27 = .agg cs))
theorem GB.below {V : World} {f9 f10 : Bool} {r9 r27 : Value} {X X' : World} (h : GB V f9 f10 r9 r27 X) (hb : Below X.heap.size X X') : GB V f9 f10 r9 r27 X' := by
  refine ⟨bgo h.1 hb, fun e => ?_⟩
  obtain ⟨Q, cs, h1, h2, h3, h4, h5⟩ := h.2 e
  exact ⟨Q, cs, h1, h2, h3, (hb.block Q (blk_lt h4)).trans h4, h5⟩
def S39 (X X' : World) : Prop := ∀ (k : Nat) (cs : Array Value) (t : TypeId), t ≠ 39 → X.heap[k]? = some (Obj.cells cs t (0, 0)) → X'.heap[k]? = some (Obj.cells cs t (0, 0))
theorem S39.of {X X' : World} (h : Below X.heap.size X X') : S39 X X' := fun k _ _ _ hk => (h.block k (blk_lt hk)).trans hk
theorem S39.own {X X' : World} (h : S39 X X') {B n : Nat} {v : Value} {xs : List Value} (ho : X.ownsRow B 37 3 v n xs) : X'.ownsRow B 37 3 v n xs := own_like ho (fun k hk => by
  obtain ⟨cs, hc⟩ := own_tag ho k hk
  rw [hc]
  exact h k cs 37 (by decide) hc)
def R27 (V : World) (S : Sc) (x : St) (er : Int) (v : Value) (X : World) : Prop := ∃ b ba bn bc, v = .agg (bdA b (.slice ba bn bc)) ∧ (er = 0 → b = oneB S x ∧ X.ownsRow V.heap.size 37 3 (.slice ba bn bc) b.vals.length (b.vals.flatMap vlL))
def R26 (V : World) (S : Sc) (x : St) (er : Int) (v : Value) (X : World) : Prop := ∃ b ba bn bc, v = .tuple #[.agg (bdA b (.slice ba bn bc)), .int .i64 er] ∧ (er = 0 → b = oneB S x ∧ X.ownsRow V.heap.size 37 3 (.slice ba bn bc) b.vals.length (b.vals.flatMap vlL))
theorem R27.st {V : World} {S : Sc} {x : St} {er : Int} {v : Value} {X X' : World} (h : S39 X X') (hr : R27 V S x er v X) : R27 V S x er v X' := by
  obtain ⟨b, ba, bn, bc, e, h2⟩ := hr
  exact ⟨b, ba, bn, bc, e, fun he => ⟨(h2 he).1, h.own (h2 he).2⟩⟩
theorem R26.st {V : World} {S : Sc} {x : St} {er : Int} {v : Value} {X X' : World} (h : S39 X X') (hr : R26 V S x er v X) : R26 V S x er v X' := by
  obtain ⟨b, ba, bn, bc, e, h2⟩ := hr
  exact ⟨b, ba, bn, bc, e, fun he => ⟨(h2 he).1, h.own (h2 he).2⟩⟩
section
variable {ρ : Operand → Value} {X : World} {d : Option Tmp} {ty : TypeId} {ps : String} {af : Array Edge} {g : Option (Nat × Bool)}
theorem op_ext0 {x : Operand} {a b : Value} (e : ρ x = .tuple #[a, b]) : (execOp ρ ⟨d, .extract x 0, ty, ps, af, g⟩).run Try.prog X = .ok (.value a) X := by
  simp only [execOp, e]
  rfl
theorem op_ext1 {x : Operand} {a b : Value} (e : ρ x = .tuple #[a, b]) : (execOp ρ ⟨d, .extract x 1, ty, ps, af, g⟩).run Try.prog X = .ok (.value b) X := by
  simp only [execOp, e]
  rfl
theorem op_alloc39 : (execOp ρ ⟨d, .alloc 39, ty, ps, af, g⟩).run Try.prog X = .ok (.value (.pointer (some ⟨X.heap.size, 0, none⟩))) (X.alloc (.cells zBA 39)) := by
  simp only [execOp]
  go_simp
theorem op_storeAt {T : TypeId} {x y : Operand} {p v : Value} {X' : World} (e : ρ x = p) (e2 : ρ y = v) (h : (Instr.storeAt T p v).run Try.prog X = .ok () X') : (execOp ρ ⟨d, .store T x y, ty, ps, af, g⟩).run Try.prog X = .ok .skip X' := by
  simp only [execOp, e, e2]
  simp [h]
end
section
variable {w : World}
set_option maxHeartbeats 8000000 in
set_option maxRecDepth 100000 in
theorem bindR_any {s : Sc} {tv lv : Value} {L : List St} (hL : Lr tbE 5 w s.tabs tv) (hS : Lr stmtE 22 w L lv) (hz : ∀ x ∈ L, x.vals.length ≤ 1000000) (hn : L.length ≤ 1000000) : Calls Try.prog 10 #[scV s tv, lv] w fun e w' => ∃ av, e = .returned (.tuple #[av, .int .i64 (bindE s L).1, .int .i64 (bindE s L).2]) ∧ BO w' w.heap.size (bindL s L) av ∧ Below w.heap.size w w' := by
  obtain ⟨la, lc, rfl, hSr⟩ := hS
  have hS : Lr stmtE 22 w L (.slice la L.length lc) := ⟨la, lc, rfl, hSr⟩
  obtain ⟨ta, tc, rfl, htr⟩ := hL
  have hL : Lr tbE 5 w s.tabs (.slice ta s.tabs.length tc) := ⟨ta, tc, rfl, htr⟩
  clear hSr htr
  have hmL := hS.at.2.1
  have hlm := hS.at.2.2.1
  obtain ⟨tn, htn⟩ : ∃ tn, s.tabs.length = tn := ⟨_, rfl⟩
  rw [htn] at hL
  unfold scV
  rw [htn]
  obtain ⟨n, hln⟩ : ∃ n, L.length = n := ⟨_, rfl⟩
  rw [hln] at hS ⊢
  have HTN := Lib.hid htn
  have HLN := Lib.hid hln
  have hn1 : (n : Int) ≤ 9223372036854775807 := by unfold maxLen at hmL; omega
  have HN6 : Hid (n ≤ 1000000) := Lib.hid (by omega)
  clear htn hln hmL hlm hn
  obtain ⟨W, hW⟩ : ∃ W, W = w.alloc (.cells (#[.int .i64 s.ver, .int .i64 s.last, .slice ta tn tc]) 24) := ⟨_, rfl⟩
  have hbW : Below w.heap.size w W := by
    rw [hW]
    exact bnew _ _
  obtain ⟨Y0, hY0⟩ : ∃ Y0, w.heap.size = Y0 := ⟨_, rfl⟩
  have j0 : W.heap[Y0]? = some (.cells (#[.int .i64 s.ver, .int .i64 s.last, .slice ta tn tc]) 24 (0, 0)) := by
    have := heap_alloc_new (w) (.cells (#[.int .i64 s.ver, .int .i64 s.last, .slice ta tn tc]) 24)
    rw [hW, ← hY0]
    exact this
  have HL := Lib.hid (hL.on tbE_held hbW)
  have HS := Lib.hid (hS.on stmtE_held hbW)
  have HW := Lib.hid hW
  have HB := Lib.hid hbW
  have HY0 := Lib.hid hY0
  have J0 := Lib.hid j0
  have HZ := Lib.hid hz
  have s0 : W.cell? ⟨Y0, 0, none⟩ = some (.int .i64 s.ver) := cell_blk j0 0
  have s1 : W.cell? ⟨Y0, 1, none⟩ = some (.int .i64 s.last) := cell_blk j0 1
  have s2 : W.cell? ⟨Y0, 2, none⟩ = some (.slice ta tn tc) := cell_blk j0 2
  have hcheck := right_ref (w := W) (s := s) (tv := .slice ta tn tc) HL.out
  have HBE : Hid (bindE s L = if rightS s = true then bindAt (seenS s) 0 L else (0, 100)) := Lib.hid rfl
  clear hW hbW hY0 j0 hz hL hS
  unfold scV at hcheck
  cases hr : rightS s with
  | false =>
    rw [hr] at hcheck
    have HE : Hid (bindE s L = (0, 100)) := Lib.hid (by rw [HBE.out, hr]; rfl)
    clear hr
    go_enter Try.func10, Try.ntmps10
    go_upto_region 1 with fail
    rw [← HW.out, HY0.out]
    go_wp2_with (go_at_call 12; refine hcheck.mono ?_; rintro e w1 ⟨rfl, b1⟩; refine Hid.out ?_)
    refine Lib.hid ?_
    have HB1 := Lib.hid b1
    clear hcheck b1 s0 s1 s2
    go_wp2
    refine bodyPost_ret (v := .tuple #[.slice none 0 0, .int .i64 0, .int .i64 100]) (by simp [results, Try.results10, go_sem]) rfl ?_
    exact ⟨_, by rw [HE.out], by unfold bindL; rw [HE.out]; exact BO.nil _ _, bgo HB.out HB1.out⟩
  | true =>
    rw [hr] at hcheck
    have hrp := right_parts hr
    have hfew : Few s.tabs := ⟨by have := hrp.2.2.1; omega, fun t ht => (tab_few (hrp.2.2.2 t ht)).1⟩
    have HE : Hid (bindE s L = bindAt (seenS s) 0 L) := Lib.hid (by rw [HBE.out, hr]; rfl)
    have HFW := Lib.hid hfew
    clear hr hrp hfew
    go_enter Try.func10, Try.ntmps10
    go_upto_region 1 with fail
    rw [← HW.out, HY0.out]
    go_upto_region 3 with (go_at_call 12; refine hcheck.mono ?_; rintro e V ⟨rfl, b1⟩; refine Hid.out ?_)
    refine Lib.hid ?_
    have HB1 := Lib.hid b1
    have HBV : Hid (Below w.heap.size w V) := Lib.hid (bgo HB.out b1)
    have HTV := Lib.hid (HL.out.on tbE_held b1)
    have HSV := Lib.hid (HS.out.on stmtE_held b1)
    have JTV := Lib.hid ((b1.block Y0 (blk_lt J0.out)).trans J0.out)
    clear hcheck b1 s0 s1 s2
    go_upto_region 3 with fail
    go_wp2
    go_loopw [7, 8] (fun av jv wr => ∃ i : Nat, i ≤ n ∧ jv = .int .i64 (i : Int) ∧ Hid (∀ j (hj : j < L.length), j < i → oneE (seenS s) L[j] = 0) ∧ Hid (BO wr V.heap.size ((L.take i).map (oneB (seenS s))) av) ∧ Below V.heap.size V wr) (fun _ jv _ => n - (intOf jv).toNat)
    case atStart => exact ⟨0, Nat.zero_le _, rfl, Lib.hid (fun j _ h => absurd h (by omega)), Lib.hid (BO.nil _ _), Below.refl _ _⟩
    case round =>
      obtain ⟨i, hi, rfl, HNO, HBO, hb⟩ := hrel
      obtain ⟨U, hU⟩ : ∃ U, U = wr := ⟨_, rfl⟩
      subst hU
      have HBU := Lib.hid hb
      by_cases hlt : i < n
      · have hlL : i < L.length := by rw [HLN.out]; exact hlt
        obtain ⟨sb, so, scs, el, hsb, hE, hrg⟩ := (HSV.out.on stmtE_held hb).at.2.2.2 i hlL
        subst el
        obtain ⟨va, vc, da, dc, ecs, hvl⟩ := hE
        subst ecs
        obtain ⟨x, hx⟩ : ∃ x, L[i] = x := ⟨_, rfl⟩
        rw [hx] at hrg hvl
        have hxm : x.vals.length ≤ 1000000 := HZ.out x (by rw [← hx]; exact List.getElem_mem hlL)
        have HRG := Lib.hid hrg
        have HVL := Lib.hid hvl
        have HXM := Lib.hid hxm
        have HTU := Lib.hid (HTV.out.on tbE_held hb)
        have HJT := Lib.hid ((hb.block Y0 (blk_lt JTV.out)).trans JTV.out)
        have HRS : Hid (U.rangeAt Y0 0 [.int .i64 s.ver, .int .i64 s.last, .slice ta tn tc]) := Lib.hid (range_blk HJT.out)
        obtain ⟨er, her⟩ : ∃ er, oneE (seenS s) x = er := ⟨_, rfl⟩
        have HER := Lib.hid her
        have HXI : Hid (∀ h : i < L.length, L[i] = x) := Lib.hid (fun _ => hx)
        have HLT := Lib.hid hlt
        have k0 : (0 : Int) ≤ (i : Int) := by omega
        have k1 : (i : Int) < (n : Int) := by omega
        have HI6 : Hid (i ≤ 1000000) := Lib.hid (by have := HN6.out; omega)
        clear hb hrg hvl hxm hsb hx hlL hlt her
        go_upto_region 7 with fail
        refine wp_region_gs (fun fl r X9 => GB U (fl 9) (fl 10) (r 9) (r 27) X9) S39 [
          fun v9 _ => v9 = .agg #[.int .i64 s.ver, .int .i64 s.last, .slice ta tn tc],
          fun v9 _ => v9 = .slice (some ⟨sb, so, none⟩) n lc,
          fun v9 _ => v9 = .int .i64 (i : Int),
          fun v9 _ => v9 = .pointer (some ⟨sb, so + i * 22, none⟩),
          fun v9 _ => v9 = .agg (stmtA x (.slice va x.vals.length vc) (.slice da x.dd.cols.length dc)),
          R26 U (seenS s) x er,
          R26 U (seenS s) x er,
          R27 U (seenS s) x er,
          fun v9 _ => v9 = .int .i64 er,
          fun _ _ => True,
          fun _ _ => True,
          fun v9 _ => v9 = .int .i64 er]
          (by kernel_rfl) (by kernel_rfl) (by kernel_rfl) ?st ?g0 ?os ?en
        case st => exact ⟨(fun _ _ _ _ h => h), (fun _ _ _ _ h => h), (fun _ _ _ _ h => h), (fun _ _ _ _ h => h), (fun _ _ _ _ h => h), (fun _ _ _ hs h => h.st hs), (fun _ _ _ hs h => h.st hs), (fun _ _ _ hs h => h.st hs), (fun _ _ _ _ h => h), (fun _ _ _ _ h => h), (fun _ _ _ _ h => h), (fun _ _ _ _ h => h), trivial⟩
        case g0 => exact ⟨⟨rfl, rfl, rfl, Nat.le_refl _, fun _ _ => rfl⟩, fun e => (by cases e)⟩
        case os =>
          refine ⟨?_, ?_, ?_, ?_, ?_, ?_, ?_, ?_, ?_, ?_, ?_, ?_, trivial⟩
          · intro ρ X9 fl hg hn hl hp ho hc hf hr
            refine .inl ⟨rfl, ?_⟩
            exact Runs.val _ (op_loadAt (show ρ (.tmp 2) = .pointer (some ⟨Y0, 0, none⟩) from ho 2 rfl) (run_loadAt_mid X9 Y0 0 24 _ _ (range_on hg.1 HRS.out) Try.underlying24 rfl size24)) ⟨(fun r' h1 h2 => by
              show GB U ((upd fl 0) 9) ((upd fl 0) 10) (r' 9) (r' 27) _
              rw [show r' 9 = ρ (.tmp 9) from h1 9 (by decide), show r' 27 = ρ (.tmp 27) from h1 27 (by decide)]
              exact hg), (S39.of (Below.refl _ _)), rfl⟩
          · intro ρ X9 fl hg hn hl hp ho hc hf hr
            refine .inl ⟨rfl, ?_⟩
            exact Runs.val _ (op_move (show ρ (.tmp 1) = .slice (some ⟨sb, so, none⟩) n lc from ho 1 rfl)) ⟨(fun r' h1 h2 => by
              show GB U ((upd fl 1) 9) ((upd fl 1) 10) (r' 9) (r' 27) _
              rw [show r' 9 = ρ (.tmp 9) from h1 9 (by decide), show r' 27 = ρ (.tmp 27) from h1 27 (by decide)]
              exact hg), (S39.of (Below.refl _ _)), rfl⟩
          · intro ρ X9 fl hg hn hl hp ho hc hf hr
            refine .inl ⟨rfl, ?_⟩
            exact Runs.val _ (op_move (show ρ (.tmp 8) = .int .i64 (i : Int) from ho 8 rfl)) ⟨(fun r' h1 h2 => by
              show GB U ((upd fl 2) 9) ((upd fl 2) 10) (r' 9) (r' 27) _
              rw [show r' 9 = ρ (.tmp 9) from h1 9 (by decide), show r' 27 = ρ (.tmp 27) from h1 27 (by decide)]
              exact hg), (S39.of (Below.refl _ _)), rfl⟩
          · intro ρ X9 fl hg hn hl hp ho hc hf hr
            refine .inl ⟨rfl, ?_⟩
            exact Runs.val _ (op_i25 (show ρ (.tmp 22) = .slice (some ⟨sb, so, none⟩) n lc from hr 1 22 rfl rfl) (show ρ (.tmp 23) = .int .i64 (i : Int) from hr 2 23 rfl rfl) HLT.out) ⟨(fun r' h1 h2 => by
              show GB U ((upd fl 3) 9) ((upd fl 3) 10) (r' 9) (r' 27) _
              rw [show r' 9 = ρ (.tmp 9) from h1 9 (by decide), show r' 27 = ρ (.tmp 27) from h1 27 (by decide)]
              exact hg), (S39.of (Below.refl _ _)), rfl⟩
          · intro ρ X9 fl hg hn hl hp ho hc hf hr
            refine .inl ⟨rfl, ?_⟩
            exact Runs.val _ (op_loadAt (show ρ (.tmp 24) = .pointer (some ⟨sb, so + i * 22, none⟩) from hr 3 24 rfl rfl) (run_loadAt_mid X9 sb (so + i * 22) 46 _ _ (range_on hg.1 HRG.out) Try.underlying46 rfl size46)) ⟨(fun r' h1 h2 => by
              show GB U ((upd fl 4) 9) ((upd fl 4) 10) (r' 9) (r' 27) _
              rw [show r' 9 = ρ (.tmp 9) from h1 9 (by decide), show r' 27 = ρ (.tmp 27) from h1 27 (by decide)]
              exact hg), (S39.of (Below.refl _ _)), rfl⟩
          · intro ρ X9 fl hg hn hl hp ho hc hf hr
            refine .inl ⟨rfl, ?_⟩
            have hone := oneR_any (w := X9) (s := s) (x := x) (tv := .slice ta tn tc) (vv := .slice va x.vals.length vc) (dv := .slice da x.dd.cols.length dc) (HTU.out.on tbE_held hg.1) HFW.out (HVL.out.on valsE_held hg.1) HXM.out rfl
            unfold scV at hone
            refine Runs.goes 19 #[.agg #[.int .i64 s.ver, .int .i64 s.last, .slice ta tn tc], .agg (stmtA x (.slice va x.vals.length vc) (.slice da x.dd.cols.length dc))] (op_call2 hf (by go_simp) (show ρ (.tmp 21) = .agg #[.int .i64 s.ver, .int .i64 s.last, .slice ta tn tc] from hr 0 21 rfl rfl) (show ρ (.tmp 25) = .agg (stmtA x (.slice va x.vals.length vc) (.slice da x.dd.cols.length dc)) from hr 4 25 rfl rfl)) (hone.mono ?_)
            rintro e7 w7 ⟨b, ba, bn, bc, rfl, h2, b7⟩
            refine ⟨_, rfl, (fun r' h1 h2 => by
              show GB U ((upd fl 5) 9) ((upd fl 5) 10) (r' 9) (r' 27) _
              rw [show r' 9 = ρ (.tmp 9) from h1 9 (by decide), show r' 27 = ρ (.tmp 27) from h1 27 (by decide)]
              exact GB.below hg b7), S39.of b7, b, ba, bn, bc, by rw [HER.out], fun e => ?_⟩
            obtain ⟨h3, h4⟩ := h2 (HER.out.trans e)
            exact ⟨h3, own_mono h4 hg.1.size⟩
          · intro ρ X9 fl hg hn hl hp ho hc hf hr
            refine .inl ⟨rfl, ?_⟩
            have h26 : R26 U (seenS s) x er (ρ (.tmp 26)) X9 := hr 5 26 rfl rfl
            exact Runs.val _ (op_move rfl) ⟨(fun r' h1 h2 => by
              show GB U ((upd fl 6) 9) ((upd fl 6) 10) (r' 9) (r' 27) _
              rw [show r' 9 = ρ (.tmp 9) from h1 9 (by decide), show r' 27 = ρ (.tmp 27) from h1 27 (by decide)]
              exact hg), S39.of (Below.refl _ _), h26⟩
          · intro ρ X9 fl hg hn hl hp ho hc hf hr
            refine .inl ⟨rfl, ?_⟩
            have h26 : R26 U (seenS s) x er (ρ (.tmp 20)) X9 := hr 6 20 rfl rfl
            obtain ⟨b, ba, bn, bc, e20, h2⟩ := h26
            have hz : fl 10 = false := by
              cases h9 : fl 10 with
              | false => rfl
              | true => exact absurd (hl 10 _ 7 rfl rfl h9) (by rw [hn]; decide)
            have hg1 : GB U (fl 9) (fl 10) (ρ (.tmp 9)) (ρ (.tmp 27)) X9 := hg
            exact Runs.val _ (op_ext0 e20) ⟨fun r' h1 h3 => by
              show GB U (fl 9) (fl 10) (r' 9) (r' 27) X9
              rw [show r' 9 = ρ (.tmp 9) from h1 9 (by decide)]
              refine ⟨hg1.1, fun e => ?_⟩
              obtain ⟨Q, cs, q1, q2, q3, q4, _⟩ := hg1.2 e
              exact ⟨Q, cs, q1, q2, q3, q4, fun e2 => by rw [hz] at e2; cases e2⟩, S39.of (Below.refl _ _), b, ba, bn, bc, rfl, h2⟩
          · intro ρ X9 fl hg hn hl hp ho hc hf hr
            refine .inl ⟨rfl, ?_⟩
            have h26 : R26 U (seenS s) x er (ρ (.tmp 20)) X9 := hr 6 20 rfl rfl
            obtain ⟨b, ba, bn, bc, e20, h2⟩ := h26
            exact Runs.val _ (op_ext1 e20) ⟨(fun r' h1 h2 => by
              show GB U ((upd fl 8) 9) ((upd fl 8) 10) (r' 9) (r' 27) _
              rw [show r' 9 = ρ (.tmp 9) from h1 9 (by decide), show r' 27 = ρ (.tmp 27) from h1 27 (by decide)]
              exact hg), S39.of (Below.refl _ _), rfl⟩
          · intro ρ X9 fl hg hn hl hp ho hc hf hr
            refine .inl ⟨rfl, ?_⟩
            have hz : fl 10 = false := by
              cases h9 : fl 10 with
              | false => rfl
              | true => exact absurd (hl 10 _ 9 rfl rfl h9) (by rw [hn]; decide)
            have hg1 : GB U (fl 9) (fl 10) (ρ (.tmp 9)) (ρ (.tmp 27)) X9 := hg
            exact Runs.val _ op_alloc39 ⟨fun r' h1 h3 => by
              show GB U (upd fl 9 9) (fl 10) (r' 9) (r' 27) _
              exact ⟨bgo hg1.1 (bnew _ _), fun _ => ⟨X9.heap.size, zBA, h3 9 rfl, hg1.1.size, rfl, heap_alloc_new _ _, fun e => by rw [hz] at e; cases e⟩⟩, S39.of (bnew _ _), trivial⟩
          · intro ρ X9 fl hg hn hl hp ho hc hf hr
            refine .inl ⟨rfl, ?_⟩
            have hg1 : GB U (fl 9) (fl 10) (ρ (.tmp 9)) (ρ (.tmp 27)) X9 := hg
            obtain ⟨Q, cs, q1, q2, q3, q4, _⟩ := hg1.2 (hp 9 rfl)
            have h27 : R27 U (seenS s) x er (ρ (.tmp 27)) X9 := hr 7 27 rfl rfl
            obtain ⟨b, ba, bn, bc, e27, h2⟩ := h27
            obtain ⟨X', hst, j', f'⟩ := st_row q4 (us := bdA b (.slice ba bn bc)) q3.symm size39 (by simp [Value.oneCell'])
            refine Runs.skips (op_storeAt q1 e27 hst) ⟨fun r' h1 h3 => ?_, fun k ds t ht hk => (f'.block k (blk_lt hk) (fun e => by
              subst e
              rw [q4] at hk
              simp only [Option.some.injEq, Obj.cells.injEq] at hk
              exact ht hk.2.1.symm)).trans hk, trivial⟩
            show GB U (fl 9) (upd fl 10 10) (r' 9) (r' 27) X'
            rw [show r' 9 = ρ (.tmp 9) from h1 9 (by decide), show r' 27 = ρ (.tmp 27) from h1 27 (by decide)]
            exact ⟨hg1.1.trans (f'.toBelow (fun k hk q => by omega) hg1.1.size), fun _ => ⟨Q, _, q1, q2, rfl, j', fun _ => e27⟩⟩
          · intro ρ X9 fl hg hn hl hp ho hc hf hr
            refine .inl ⟨rfl, ?_⟩
            exact Runs.val _ (op_assign (show ρ (.tmp 28) = .int .i64 er from hr 8 28 rfl rfl)) ⟨(fun r' h1 h2 => by
              show GB U ((upd fl 11) 9) ((upd fl 11) 10) (r' 9) (r' 27) _
              rw [show r' 9 = ρ (.tmp 9) from h1 9 (by decide), show r' 27 = ρ (.tmp 27) from h1 27 (by decide)]
              exact hg), (S39.of (Below.refl _ _)), rfl⟩
        case en =>
          intro a9 w6 fl hfl hg6 hs9 hd9 ho9 hr9
          obtain ⟨x9, hx, hxt⟩ := act_put hs9 hd9 ho9
          have hG : GB U (fl 9) (fl 10) (a9.tmps.getD 9 undef) (a9.tmps.getD 27 undef) w6 := hg6
          rw [hfl 9 (by decide), hfl 10 (by decide)] at hG
          obtain ⟨M, cs, q1, q2, q3, q4, q5⟩ := hG.2 rfl
          have h27 : R27 U (seenS s) x er (a9.tmps.getD 27 undef) w6 := hr9 7 27 rfl
          obtain ⟨b, ba, bn, bc, e27, h2⟩ := h27
          have ecs : cs = bdA b (.slice ba bn bc) := by
            have h1 := (q5 rfl).symm.trans e27
            simp only [Value.agg.injEq] at h1
            exact h1
          subst ecs
          have x99 : x9 9 = .pointer (some ⟨M, 0, none⟩) := (hxt 9).symm.trans q1
          have x10 : x9 10 = .int .i64 er := (hxt 10).symm.trans (hr9 11 10 rfl)
          change a9 = putAll _ x9 [21, 22, 23, 24, 25, 26, 20, 27, 28, 9, 10] at hx
          simp only [putAll, Act.put, List.setIfInBounds_toArray, List.set_cons_zero, List.set_cons_succ, x99, x10] at hx
          subst hx
          have J6 := Lib.hid q4
          have HB6 := Lib.hid hG.1
          have HBO5 := Lib.hid h2
          clear hs9 hd9 ho9 hr9 hfl hg6 hG q1 q2 q3 q4 q5 e27 h2 x99 x10 hxt
          generalize x9 21 = z21, x9 22 = z22, x9 23 = z23, x9 24 = z24, x9 25 = z25, x9 26 = z26, x9 20 = z20, x9 27 = z27, x9 28 = z28
          by_cases he0 : er = 0
          · subst he0
            have HNX : Hid (∀ j (hj : j < L.length), j < i + 1 → oneE (seenS s) L[j] = 0) := Lib.hid (fun j hj hji => by
              rcases Nat.lt_or_ge j i with q | q
              · exact HNO.out j hj q
              · obtain rfl : j = i := by omega
                rw [HXI.out hj]
                exact HER.out)
            obtain ⟨hbE, hbO⟩ := HBO5.out rfl
            have hbU6 : Below V.heap.size V w6 := bgo HBU.out HB6.out
            obtain ⟨v', X', hrun, hBX, hbX⟩ := (HBO.out.below HB6.out).push hbU6.size (by rw [List.length_map, List.length_take]; have := HI6.out; omega) (own_mono hbO HBU.out.size)
            have hld3 := load_row (ty := 39) J6.out Try.underlying39 rfl size39
            have HBX : Hid (BO X' V.heap.size ((L.take (i + 1)).map (oneB (seenS s))) v') := Lib.hid (by
              have hlL : i < L.length := by rw [HLN.out]; exact HLT.out
              rw [List.take_add_one, List.getElem?_eq_getElem hlL, HXI.out hlL, List.map_append]
              rw [hbE] at hBX
              exact hBX)
            have HBX2 : Hid (Below V.heap.size V X') := Lib.hid (hbU6.trans hbX)
            clear hBX hbX hbO hbE hbU6
            go_wp2_with (first | (refine wpl_load _ rfl (by first | rfl | (simp [Act.eval]; done)) hld3 ?_) | (at_builtin; refine wpl_run2 _ _ rfl (by first | rfl | (simp [Act.eval]; done)) (by first | rfl | (simp [Act.eval]; done)) hrun ?_))
            go_roundw
            case rel => exact ⟨i + 1, HLT.out, by go_num, HNX, HBX, HBX2.out⟩
            case measure => simp [intOf]; omega
          · have g1 : (er == 0) = false := by rw [beq_eq_false_iff_ne]; exact he0
            have g2 : (er != 0) = true := by simpa using he0
            have HNE := Lib.hid he0
            clear he0
            go_wp2
            refine bodyPost_ret (v := .tuple #[.slice none 0 0, .int .i64 (i : Int), .int .i64 er]) (by simp [results, Try.results10, go_sem]) rfl ?_
            have hlL : i < L.length := by rw [HLN.out]; exact HLT.out
            have hE : bindE s L = ((i : Int), er) := by
              rw [HE.out, bindAt_stop (i := i) hlL HNO.out (by rw [HXI.out hlL, HER.out]; exact HNE.out), HXI.out hlL, HER.out, Nat.zero_add]
            exact ⟨_, by rw [hE], by unfold bindL; rw [hE, if_neg HNE.out]; exact BO.nil _ _, bgo (bgo HBV.out HBU.out) HB6.out⟩
      · have k1 : ¬ ((i : Int) < (n : Int)) := by omega
        obtain rfl : i = n := by omega
        have hE : bindE s L = (0, 0) := by rw [HE.out]; exact bindAt_end (fun j hj => HNO.out j hj (by rw [← HLN.out]; exact hj))
        have HEE := Lib.hid hE
        have HBF : Hid (BO U w.heap.size (bindL s L) u7) := Lib.hid (by
          have h1 := HBO.out.mono HBV.out.size
          rw [show L.take i = L from by rw [← HLN.out, List.take_length]] at h1
          unfold bindL
          rw [hE, if_pos rfl]
          exact h1)
        clear hb hlt hE
        go_wp2
        refine bodyPost_ret (v := .tuple #[u7, .int .i64 0, .int .i64 0]) (by simp [results, Try.results10, go_sem]) rfl ?_
        exact ⟨_, by rw [HEE.out], HBF.out, bgo HBV.out HBU.out⟩
end
end Go.Proofs.Ytkfnphhoebknnaa
