import Derived.Test.YtkfnphhoebknnaaQEd
import Derived.Test.YtkfnphhoebknnaaQEo
import Derived.Test.YtkfnphhoebknnaaQUg
namespace Go.Proofs.Ytkfnphhoebknnaa
open Go.RowKit
section
variable {ρ : Operand → Value} {X : World} {d : Option Tmp} {ty : TypeId} {ps : String} {af : Array Edge} {g : Option (Nat × Bool)}
theorem op_f46_2 {x : Operand} {B o : Nat} (e : ρ x = .pointer (some ⟨B, o, none⟩)) : (execOp ρ ⟨d, .fieldAddr 46 x 2, ty, ps, af, g⟩).run Try.prog X = .ok (.value (.pointer (some ⟨B, o + 2, none⟩))) X := by
  simp only [execOp, e]
  go_simp
theorem op_f46_4 {x : Operand} {B o : Nat} (e : ρ x = .pointer (some ⟨B, o, none⟩)) : (execOp ρ ⟨d, .fieldAddr 46 x 4, ty, ps, af, g⟩).run Try.prog X = .ok (.value (.pointer (some ⟨B, o + 4, none⟩))) X := by
  simp only [execOp, e]
  go_simp
theorem op_f46_6 {x : Operand} {B o : Nat} (e : ρ x = .pointer (some ⟨B, o, none⟩)) : (execOp ρ ⟨d, .fieldAddr 46 x 6, ty, ps, af, g⟩).run Try.prog X = .ok (.value (.pointer (some ⟨B, o + 8, none⟩))) X := by
  simp only [execOp, e]
  go_simp
theorem op_i35 {x y : Operand} {B o n m i : Nat} (e : ρ x = .slice (some ⟨B, o, none⟩) n m) (e2 : ρ y = .int .i64 (i : Int)) (h : i < n) : (execOp ρ ⟨d, .indexAddr 35 x y, ty, ps, af, g⟩).run Try.prog X = .ok (.value (.pointer (some ⟨B, o + i * 3, none⟩))) X := by
  have k0 : (0 : Int) ≤ (i : Int) := by omega
  have k1 : (i : Int) < (n : Int) := by omega
  simp only [execOp, e, e2]
  go_simp
theorem op_load35 {x : Operand} {B i : Nat} {a : Option Addr} {n m : Nat} (e : ρ x = .pointer (some ⟨B, i, none⟩)) (y : X.cell? ⟨B, i, none⟩ = some (.slice a n m)) : (execOp ρ ⟨d, .load 35 x, ty, ps, af, g⟩).run Try.prog X = .ok (.value (.slice a n m)) X := by
  simp only [execOp, e]
  go_simp
theorem op_i25 {x y : Operand} {B o n m i : Nat} (e : ρ x = .slice (some ⟨B, o, none⟩) n m) (e2 : ρ y = .int .i64 (i : Int)) (h : i < n) : (execOp ρ ⟨d, .indexAddr 25 x y, ty, ps, af, g⟩).run Try.prog X = .ok (.value (.pointer (some ⟨B, o + i * 22, none⟩))) X := by
  have k0 : (0 : Int) ≤ (i : Int) := by omega
  have k1 : (i : Int) < (n : Int) := by omega
  simp only [execOp, e, e2]
  go_simp
theorem op_i28 {x y : Operand} {B o n m i : Nat} (e : ρ x = .slice (some ⟨B, o, none⟩) n m) (e2 : ρ y = .int .i64 (i : Int)) (h : i < n) : (execOp ρ ⟨d, .indexAddr 28 x y, ty, ps, af, g⟩).run Try.prog X = .ok (.value (.pointer (some ⟨B, o + i * 11, none⟩))) X := by
  have k0 : (0 : Int) ≤ (i : Int) := by omega
  have k1 : (i : Int) < (n : Int) := by omega
  simp only [execOp, e, e2]
  go_simp
end
section
variable {w : World}
theorem range_on {V X : World} {b o : Nat} {cs : List Value} (h : Below V.heap.size V X) (k : V.rangeAt b o cs) : X.rangeAt b o cs := fun j v hv => cell_on h (k j v hv)
theorem range_blk {w : World} {b : Nat} {cs : Array Value} {t : TypeId} {fr : Nat × Nat} (h : w.heap[b]? = some (.cells cs t fr)) : w.rangeAt b 0 cs.toList := fun j v hv => by
  rw [Nat.zero_add, cell_blk h j]
  simpa using hv
/-- What a slice reads at a place. -/
theorem Lr.at {α : Type} {E : World → α → List Value → Prop} {c : Nat} {w : World} {L : List α} {ad : Option Addr} {n cap : Nat} (h : Lr E c w L (.slice ad n cap)) : n = L.length ∧ cap ≤ maxLen ∧ L.length ≤ cap ∧ ∀ i (h : i < L.length), ∃ b o cs, ad = some ⟨b, o, none⟩ ∧ b < w.heap.size ∧ E w L[i] cs ∧ w.rangeAt b (o + i * c) cs := by
  obtain ⟨ad', cap', e, h0, h1, h2, h3⟩ := h
  cases e
  refine ⟨rfl, h2, h1, fun i hi => ?_⟩
  obtain ⟨b, o, cs, e, hb, hE, _, hh⟩ := h3 i hi
  exact ⟨b, o, cs, e, hb, hE, hh⟩
set_option maxHeartbeats 1000000 in
set_option maxRecDepth 100000 in
theorem cloneV_any {l : List Vl} {v : Value} (hl : Lr valsE 3 w l v) (hz : l.length ≤ 1000000) : Calls Try.prog 90 #[v] w fun e w' => ∃ ad cap, e = .returned (.slice ad l.length cap) ∧ w'.ownsRow w.heap.size 37 3 (.slice ad l.length cap) l.length (l.flatMap vlL) ∧ Below w.heap.size w w' := by
  obtain ⟨ad, cap, rfl, hr⟩ := hl
  have hl : Lr valsE 3 w l (.slice ad l.length cap) := ⟨ad, cap, rfl, hr⟩
  have h0 := hr.1
  cases ad with
  | none =>
    have hc0 := h0 rfl
    have hL : l = [] := by
      rcases l with _ | ⟨x, l⟩
      · rfl
      · obtain ⟨b, o, cs, e, _⟩ := hr.2.2.2 0 (by simp)
        cases e
    subst hL hc0
    have HO : Hid (w.ownsRow w.heap.size 37 3 (.slice none 0 0) 0 []) := Lib.hid (World.ownsRow_nil _ _ 37 3)
    clear hr hl h0
    have hq : ∀ w, (binOp BinOp.eql 35 (.slice none 0 0) (.slice none 0 0)).run Try.prog w = .ok (.bool true) w := fun _ => by kernel_rfl
    go_enter Try.func90, Try.ntmps90
    go_wp2
    refine bodyPost_ret (v := .slice none 0 0) (by simp [results, Try.results90, go_sem]) rfl ?_
    exact ⟨_, _, rfl, HO.out, Below.refl _ _⟩
  | some a =>
    obtain ⟨ad', cap', w', h1, h2, h3⟩ := copyV hl hz
    have HO := Lib.hid h2
    have HB := Lib.hid h3
    clear h2 h3 hr hl h0
    have hq : ∀ w, (binOp BinOp.eql 35 (.slice (some a) l.length cap) (.slice none 0 0)).run Try.prog w = .ok (.bool false) w := fun _ => by kernel_rfl
    go_enter Try.func90, Try.ntmps90
    go_wp2_with (at_builtin; refine wpl_run2 _ _ rfl (by simp [Act.eval]) (by simp [Act.eval]) h1 ?_)
    refine bodyPost_ret (v := .slice ad' l.length cap') (by simp [results, Try.results90, go_sem]) rfl ?_
    exact ⟨_, _, rfl, HO.out, HB.out⟩
set_option maxHeartbeats 8000000 in
set_option maxRecDepth 100000 in
theorem vals_any {w0 : World} {x : St} {t : Tb} {cv iv kv vv dv bv : Value} {b : Bd} {R Y : Nat} (h3 : Three w0 t cv iv kv) (hv : Lr valsE 3 w0 x.vals vv) (hz : x.vals.length ≤ 1000000) (h0 : Below w0.heap.size w0 w) (hRl : w0.heap.size ≤ R) (hY : w.heap[Y]? = some (.cells (tbA t cv iv kv) 54 (0, 0))) (hR : w.heap[R]? = some (.cells (bdA b bv) 39 (0, 0))) :
    Calls Try.prog 88 #[.agg (stmtA x vv dv), .pointer (some ⟨R, 0, none⟩), .pointer (some ⟨Y, 0, none⟩)] w fun e w' => ∃ bv', e = .returned (.int .i64 (valE t x)) ∧ w'.heap[R]? = some (.cells (bdA b bv') 39 (0, 0)) ∧ (valE t x = 0 → w'.ownsRow w.heap.size 37 3 bv' x.vals.length (x.vals.flatMap vlL)) ∧ Fr w w' (fun k => k = R) := by
  obtain ⟨va, vc, rfl, hvr⟩ := hv
  have hv : Lr valsE 3 w0 x.vals (.slice va x.vals.length vc) := ⟨va, vc, rfl, hvr⟩
  clear hvr
  have hmv := hv.at.2
  have hmc := h3.c.shape
  obtain ⟨ca, cc, rfl, hcm, hcl⟩ := hmc
  obtain ⟨W, hW⟩ : ∃ W, W = w.alloc (.cells (stmtA x (.slice va x.vals.length vc) dv) 46) := ⟨_, rfl⟩
  have hb : Below w.heap.size w W := by rw [hW]; exact bnew _ _
  obtain ⟨Z, hZ⟩ : ∃ Z, w.heap.size = Z := ⟨_, rfl⟩
  have jZ : W.heap[Z]? = some (.cells (stmtA x (.slice va x.vals.length vc) dv) 46 (0, 0)) := by rw [hW, ← hZ]; exact heap_alloc_new w _
  have jY : W.heap[Y]? = some (.cells (tbA t (.slice ca t.cols.length cc) iv kv) 54 (0, 0)) := (hb.block Y (blk_lt hY)).trans hY
  have jR : W.heap[R]? = some (.cells (bdA b bv) 39 (0, 0)) := (hb.block R (blk_lt hR)).trans hR
  have z2 : W.cell? ⟨Z, 2, none⟩ = some (.slice va x.vals.length vc) := cell_blk jZ 2
  have y2 : W.cell? ⟨Y, 2, none⟩ = some (.slice ca t.cols.length cc) := cell_blk jY 2
  have hWb := h0.trans (hb.mono h0.size)
  have HV := Lib.hid (hv.on valsE_held hWb)
  have HC := Lib.hid (h3.c.on colE_held hWb)
  have HW := Lib.hid hW
  have HB := Lib.hid hb
  have HZZ := Lib.hid hZ
  have JZ := Lib.hid jZ
  have JY := Lib.hid jY
  have JR := Lib.hid jR
  have HE : Hid (valE t x = if x.vals.length = t.cols.length then vAll (valE1 t x) x.vals.length else 190) := Lib.hid rfl
  obtain ⟨n, hn⟩ : ∃ n, x.vals.length = n := ⟨_, rfl⟩
  obtain ⟨m, hm⟩ : ∃ m, t.cols.length = m := ⟨_, rfl⟩
  rw [hn] at z2
  rw [hm] at y2
  have HN := Lib.hid hn
  have HM := Lib.hid hm
  have hn1 : (n : Int) ≤ 9223372036854775807 := by have := hmv; unfold maxLen at this; omega
  have hm1 : (m : Int) ≤ 9223372036854775807 := by unfold maxLen at hcm; omega
  have HRl := Lib.hid hRl
  have HZ1 := Lib.hid hz
  clear hW hb hZ jZ jY jR h3 hv hY hR h0 hRl hmv hcm hcl hn hm hWb hz
  by_cases hnm : n = m
  · subst hnm
    have HE2 : Hid (valE t x = vAll (valE1 t x) n) := Lib.hid (by rw [HE.out, if_pos (by rw [HN.out, HM.out]), HN.out])
    go_enter Try.func88, Try.ntmps88
    go_upto_region 1 with fail
    rw [← HW.out, HZZ.out]
    go_wp2
    go_loopw [19] (fun iv wr => ∃ i : Nat, i ≤ n ∧ iv = .int .i64 (i : Int) ∧ Hid (vAll (valE1 t x) i = 0) ∧ Below W.heap.size W wr) (fun iv _ => n - (intOf iv).toNat)
    case atStart => exact ⟨0, Nat.zero_le _, rfl, Lib.hid rfl, Below.refl _ _⟩
    case round =>
      obtain ⟨i, hi, rfl, HI, hb⟩ := hrel
      have HB2 := Lib.hid hb
      obtain ⟨V, hVe⟩ : ∃ V, V = wr := ⟨_, rfl⟩
      subst hVe
      by_cases hlt : i < n
      · have hlv : i < x.vals.length := by rw [HN.out]; exact hlt
        have hlc : i < t.cols.length := by rw [HM.out]; exact hlt
        obtain ⟨vb, vo, vcs, ev, hvb, hE, hvr⟩ := (HV.out.on valsE_held hb).at.2.2.2 i hlv
        subst ev
        have hE' : vcs = vlL x.vals[i] := hE
        subst hE'
        obtain ⟨cb, co, ccs, ec, hcb, hE2, hcr⟩ := (HC.out.on colE_held hb).at.2.2.2 i hlc
        subst ec
        have hE' : ccs = colL t.cols[i] := hE2
        subst hE'
        obtain ⟨v, hvv⟩ : ∃ v, x.vals[i] = v := ⟨_, rfl⟩
        obtain ⟨c, hcc⟩ : ∃ c, t.cols[i] = c := ⟨_, rfl⟩
        rw [hvv] at hvr
        rw [hcc] at hcr
        have hvD : x.vals.getD i noV = v := by rw [List.getD_eq_getElem?_getD, List.getElem?_eq_getElem hlv, hvv]; rfl
        have hcD : colN t (i : Int) = c := by rw [colN_at hlc, hcc]
        have HVE : Hid (valE1 t x i = if fitP v c.kd = 0 then (if i = 0 ∧ v.k = 0 then 191 else 0) else fitP v c.kd) := Lib.hid (by unfold valE1; rw [hvD, hcD])
        have c0 : V.cell? ⟨vb, vo + i * 3, none⟩ = some (.int .i64 v.k) := hvr 0 _ rfl
        have c1 : V.cell? ⟨vb, vo + i * 3 + 1, none⟩ = some (.int .i64 v.n) := hvr 1 _ rfl
        have c2 : V.cell? ⟨vb, vo + i * 3 + 2, none⟩ = some (.string v.s) := hvr 2 _ rfl
        obtain ⟨V1, hV1⟩ : ∃ V1, V1 = V.alloc (.cells #[.int .i64 v.k, .int .i64 v.n, .string v.s] 37) := ⟨_, rfl⟩
        obtain ⟨Q, hQ⟩ : ∃ Q, V.heap.size = Q := ⟨_, rfl⟩
        have jQ : V1.heap[Q]? = some (.cells #[.int .i64 v.k, .int .i64 v.n, .string v.s] 37 (0, 0)) := by rw [hV1, ← hQ]; exact heap_alloc_new V _
        have bV1 : Below V.heap.size V V1 := by rw [hV1]; exact bnew _ _
        have HV1 := Lib.hid hV1
        have HQ := Lib.hid hQ
        have JQ := Lib.hid jQ
        have HBV : Hid (Below W.heap.size W V1) := Lib.hid (bgo HB2.out bV1)
        have HRC : Hid (V1.rangeAt cb (co + i * 7) (colL c)) := Lib.hid (range_on bV1 hcr)
        have HRQ : Hid (V1.rangeAt Q 0 (vlL v)) := Lib.hid (range_blk jQ)
        have HYC : Hid (V1.cell? ⟨Y, 2, none⟩ = some (.slice (some ⟨cb, co, none⟩) n cc)) := Lib.hid (cell_on HBV.out y2)
        have HLT := Lib.hid hlt
        have k0 : (0 : Int) ≤ (i : Int) := by omega
        have k1 : (i : Int) < (n : Int) := by omega
        clear hV1 hQ jQ bV1 hb hvr hcr hvv hcc hvD hcD hE hE2 hvb hcb z2 y2 hlv hlc
        go_upto_region 6 with fail
        rw [← HV1.out, HQ.out]
        clear c0 c1 c2
        refine wp_region_fb (fun _ X9 => Below V1.heap.size V1 X9) (fun X9 X8 => Below X9.heap.size X9 X8) [
          fun v9 _ => v9 = .pointer (some ⟨Y, 2, none⟩),
          fun v9 _ => v9 = .slice (some ⟨cb, co, none⟩) n cc,
          fun v9 _ => v9 = .int .i64 (i : Int),
          fun v9 _ => v9 = .pointer (some ⟨cb, co + i * 7, none⟩),
          fun v9 _ => v9 = .agg (colA c),
          fun v9 _ => v9 = vlV v,
          fun v9 _ => v9 = .int .i64 (fitP v c.kd),
          fun v9 _ => v9 = .int .i64 (fitP v c.kd)]
          (by kernel_rfl) (by kernel_rfl) (by kernel_rfl) ?st ?g0 ?os ?en
        case st => exact ⟨fun _ _ _ _ h => h, fun _ _ _ _ h => h, fun _ _ _ _ h => h, fun _ _ _ _ h => h, fun _ _ _ _ h => h, fun _ _ _ _ h => h, fun _ _ _ _ h => h, fun _ _ _ _ h => h, trivial⟩
        case g0 => exact ⟨rfl, rfl, rfl, Nat.le_refl _, fun _ _ => rfl⟩
        case os =>
          refine ⟨?_, ?_, ?_, ?_, ?_, ?_, ?_, ?_, trivial⟩
          · exact fun ρ X9 fl hg hn hl hp ho hc hf hr => .inl ⟨rfl, Runs.val _ (op_f54_2 (show ρ (.tmp 2) = .pointer (some ⟨Y, 0, none⟩) from ho 2 rfl)) ⟨hg, Below.refl _ _, rfl⟩⟩
          · exact fun ρ X9 fl hg hn hl hp ho hc hf hr => .inl ⟨rfl, Runs.val _ (op_load42 (show ρ (.tmp 24) = .pointer (some ⟨Y, 2, none⟩) from hr 0 24 rfl rfl) (cell_on hg HYC.out)) ⟨hg, Below.refl _ _, rfl⟩⟩
          · exact fun ρ X9 fl hg hn hl hp ho hc hf hr => .inl ⟨rfl, Runs.val _ (op_move (show ρ (.tmp 6) = .int .i64 (i : Int) from ho 6 rfl)) ⟨hg, Below.refl _ _, rfl⟩⟩
          · exact fun ρ X9 fl hg hn hl hp ho hc hf hr => .inl ⟨rfl, Runs.val _ (op_i42 (show ρ (.tmp 25) = .slice (some ⟨cb, co, none⟩) n cc from hr 1 25 rfl rfl) (show ρ (.tmp 26) = .int .i64 (i : Int) from hr 2 26 rfl rfl) HLT.out) ⟨hg, Below.refl _ _, rfl⟩⟩
          · exact fun ρ X9 fl hg hn hl hp ho hc hf hr => .inl ⟨rfl, Runs.val _ (op_loadAt (show ρ (.tmp 27) = .pointer (some ⟨cb, co + i * 7, none⟩) from hr 3 27 rfl rfl) (run_loadAt_mid X9 cb (co + i * 7) 65 (colL c) _ (range_on hg HRC.out) Try.underlying65 rfl size65)) ⟨hg, Below.refl _ _, rfl⟩⟩
          · exact fun ρ X9 fl hg hn hl hp ho hc hf hr => .inl ⟨rfl, Runs.val _ (op_loadAt (show ρ (.tmp 7) = .pointer (some ⟨Q, 0, none⟩) from ho 7 rfl) (run_loadAt_mid X9 Q (0) 37 (vlL v) _ (range_on hg HRQ.out) Try.underlying37 rfl size37)) ⟨hg, Below.refl _ _, rfl⟩⟩
          · intro ρ X9 fl hg hn hl hp ho hc hf hr
            refine .inl ⟨rfl, ?_⟩
            refine Runs.goes 89 #[.agg (colA c), vlV v] (op_call2 hf (by go_simp) (show ρ (.tmp 28) = .agg (colA c) from hr 4 28 rfl rfl) (show ρ (.tmp 29) = vlV v from hr 5 29 rfl rfl)) ((fits_any c v).mono ?_)
            rintro e7 w7 ⟨rfl, b7⟩
            exact ⟨_, rfl, bgo hg b7, b7, rfl⟩
          · exact fun ρ X9 fl hg hn hl hp ho hc hf hr => .inl ⟨rfl, Runs.val _ (op_assign (show ρ (.tmp 30) = .int .i64 (fitP v c.kd) from hr 6 30 rfl rfl)) ⟨hg, Below.refl _ _, rfl⟩⟩
        case en =>
          intro a9 w6 fl hfl b6 hs9 hd9 ho9 hr9
          obtain ⟨x9, hx, hxt⟩ := act_put hs9 hd9 ho9
          have x8 : x9 8 = .int .i64 (fitP v c.kd) := (hxt 8).symm.trans (hr9 7 8 rfl)
          change a9 = putAll _ x9 [24, 25, 26, 27, 28, 29, 30, 8] at hx
          simp only [putAll, Act.put, List.setIfInBounds_toArray, List.set_cons_zero, List.set_cons_succ, x8] at hx
          subst hx
          clear hs9 hd9 ho9 hr9 hfl x8
          generalize x9 24 = z24, x9 25 = z25, x9 26 = z26, x9 27 = z27, x9 28 = z28, x9 29 = z29, x9 30 = z30
          have HB6 := Lib.hid b6
          obtain ⟨f, hf⟩ : ∃ f, fitP v c.kd = f := ⟨_, rfl⟩
          rw [hf]
          have HF := Lib.hid hf
          have J6 := Lib.hid ((b6.block Q (blk_lt JQ.out)).trans JQ.out)
          have HBW6 : Hid (Below W.heap.size W w6) := Lib.hid (bgo HBV.out b6)
          clear b6 hf
          by_cases hf0 : f = 0
          · subst hf0
            by_cases hi0 : i = 0
            · subst hi0
              have q0 : w6.cell? ⟨Q, 0, none⟩ = some (.int .i64 v.k) := cell_blk J6.out 0
              obtain ⟨vk, hvk⟩ : ∃ vk, v.k = vk := ⟨_, rfl⟩
              rw [hvk] at q0
              have HVK := Lib.hid hvk
              clear hvk
              by_cases hk0 : vk = 0
              · subst hk0
                go_wp2
                go_ret
                refine ⟨?_, bv, (HBW6.out.block R (blk_lt JR.out)).trans JR.out, fun e => ?_, Fr.ofBelow _ (bgo HB.out HBW6.out)⟩
                · have h1 : valE1 t x 0 = 191 := by rw [HVE.out, HF.out, HVK.out]; rfl
                  rw [HE2.out, vAll_stop HI.out (by rw [h1]; decide) n HLT.out, h1]; rfl
                · have h1 : valE1 t x 0 = 191 := by rw [HVE.out, HF.out, HVK.out]; rfl
                  rw [HE2.out, vAll_stop HI.out (by rw [h1]; decide) n HLT.out, h1] at e
                  cases e
              · have g1 : (vk == 0) = false := by rw [beq_eq_false_iff_ne]; exact hk0
                have h1 : valE1 t x 0 = 0 := by rw [HVE.out, HF.out, HVK.out, if_pos rfl, if_neg (fun q => hk0 q.2)]
                have HNX : Hid (vAll (valE1 t x) (0 + 1) = 0) := Lib.hid (vAll_next HI.out h1)
                clear h1 hk0
                go_wp2
                go_roundw
                case rel => exact ⟨0 + 1, HLT.out, by go_num, HNX, HBW6.out⟩
                case measure => simp [intOf]; omega
            · have g1 : ((i : Int) == 0) = false := by rw [beq_eq_false_iff_ne]; omega
              have h1 : valE1 t x i = 0 := by rw [HVE.out, HF.out, if_pos rfl, if_neg (fun q => hi0 q.1)]
              have HNX : Hid (vAll (valE1 t x) (i + 1) = 0) := Lib.hid (vAll_next HI.out h1)
              clear h1 hi0
              go_wp2
              go_roundw
              case rel => exact ⟨i + 1, HLT.out, by go_num, HNX, HBW6.out⟩
              case measure => simp [intOf]; omega
          · have g1 : (f == 0) = false := by rw [beq_eq_false_iff_ne]; exact hf0
            have g2 : (f != 0) = true := by simpa using hf0
            have h1 : Hid (valE1 t x i = f ∧ f ≠ 0) := Lib.hid ⟨by rw [HVE.out, HF.out, if_neg hf0], hf0⟩
            clear hf0
            go_wp2
            go_ret
            refine ⟨?_, bv, (HBW6.out.block R (blk_lt JR.out)).trans JR.out, fun e => ?_, Fr.ofBelow _ (bgo HB.out HBW6.out)⟩
            · rw [HE2.out, vAll_stop HI.out (by rw [h1.out.1]; exact h1.out.2) n HLT.out, h1.out.1]; rfl
            · rw [HE2.out, vAll_stop HI.out (by rw [h1.out.1]; exact h1.out.2) n HLT.out, h1.out.1] at e
              exact absurd e h1.out.2
      · have k1 : ¬ ((i : Int) < (n : Int)) := by omega
        obtain rfl : i = n := by omega
        have HEQ : Hid (valE t x = 0) := Lib.hid (by rw [HE2.out]; exact HI.out)
        have hcl := cloneV_any (HV.out.on valsE_held hb) HZ1.out
        have z2' : V.cell? ⟨Z, 2, none⟩ = some (.slice va i vc) := cell_on hb z2
        have JRv := Lib.hid ((hb.block R (blk_lt JR.out)).trans JR.out)
        rw [HN.out] at hcl
        clear hb z2 y2
        go_wp2_with (go_at_call 90; refine hcl.mono ?_; rintro e w1 ⟨a1, c1, rfl, o1, b1⟩; refine Hid.out ?_)
        refine Lib.hid ?_
        have HO := Lib.hid o1
        have HB1 := Lib.hid b1
        have jR1 := (b1.block R (blk_lt JRv.out)).trans JRv.out
        have r2 : w1.cell? ⟨R, 2, none⟩ = some bv := cell_blk jR1 2
        have f2 := frozen_blk jR1 2
        have HJ1 := Lib.hid jR1
        clear hcl o1 b1 jR1
        go_wp2
        go_ret
        refine ⟨_, by rw [HEQ.out]; rfl, set_blk HJ1.out _, fun _ => ?_, ?_⟩
        · rw [HN.out]
          refine own_like (own_mono HO.out (Nat.le_trans HB.out.size HB2.out.size)) (fun k hk => set_other _ (fun q => ?_))
          have h1 := (own_ge HO.out k hk).1
          have h2 := blk_lt JRv.out
          simp only at q
          omega
        · exact (Fr.ofBelow (fun k => k = R) (bgo HB.out (bgo HB2.out HB1.out))).set (a := ⟨R, 2, none⟩) (.inl rfl) _
  · have HE2 : Hid (valE t x = 190) := Lib.hid (by rw [HE.out, if_neg (by rw [HN.out, HM.out]; exact hnm)])
    have g1 : ((n : Int) == (m : Int)) = false := by rw [beq_eq_false_iff_ne]; omega
    have g2 : ((n : Int) != (m : Int)) = true := by simpa using g1
    go_enter Try.func88, Try.ntmps88
    go_upto_region 1 with fail
    rw [← HW.out, HZZ.out]
    go_wp2
    go_ret
    refine ⟨bv, by rw [HE2.out]; rfl, JR.out, fun e => ?_, Fr.ofBelow _ HB.out⟩
    rw [HE2.out] at e
    cases e
end
end Go.Proofs.Ytkfnphhoebknnaa
