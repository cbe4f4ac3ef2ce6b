/- The statement VersionPast: what was told of a time stays so; with no condition. -/
import Derived.Test.YthjnfkgheihgkaaVt
import Derived.Test.YthjnfkgheihgkaaRows
import Derived.Carry
namespace Go.Proofs.Ythjnfkgheihgkaa
open Go.RowKit
section
variable {w : World} {L M : List Oc} {ad am : Option Addr} {cap cam : Nat}
theorem own_ge {B : Nat} {e : TypeId} {c n : Nat} {v : Value} {xs : List Value} {w : World} (h : w.ownsRow B e c v n xs) : ∀ k, v.ownBlock = some k → B ≤ k := by
  intro k hk
  rcases h.2 with ⟨hv, _⟩ | ⟨g, cap, cur, hv, hg, _⟩
  · subst hv; cases hk
  · subst hv
    cases hk
    exact hg
abbrev ocB (o : Oc) : Obj := .cells #[.int .i64 o.kind, .string o.key, .int .i64 o.v.ts, .string o.v.val, .bool o.v.dead, .string o.x, .string o.y, .int .i64 o.t] 35
set_option maxHeartbeats 8000000 in
set_option maxRecDepth 100000 in
theorem past_law (hL : Lo w L ad) (hc : L.length ≤ cap) (hm : cap ≤ maxLen) (hM : Lo w M am) (hc2 : M.length ≤ cam) (hm2 : cam ≤ maxLen) (x y : ByteArray) (t : Int) :
    Calls Try.prog 5 #[.slice ad L.length cap, .slice am M.length cam, .agg #[.string x, .string y], .int .i64 t] w fun e w' => e = .returned (.bool true) ∧ Below w.heap.size w w' := by
  obtain ⟨W, hW⟩ : ∃ W, W = w.alloc (.cells #[.string x, .string y] 33) := ⟨_, rfl⟩
  have hb : Below w.heap.size w W := by rw [hW]; exact (Below.refl _ w).alloc (Nat.le_refl _) _
  obtain ⟨Y, hY⟩ : ∃ Y, w.heap.size = Y := ⟨_, rfl⟩
  have jY : W.heap[Y]? = some (.cells #[.string x, .string y] 33 (0, 0)) := by rw [hW, ← hY]; exact heap_alloc_new w _
  have hml : (L.length : Int) ≤ 9223372036854775807 := by unfold maxLen at hm; omega
  have hmm : (M.length : Int) ≤ 9223372036854775807 := by unfold maxLen at hm2; omega
  have HW := Lib.hid hW
  have HYY := Lib.hid hY
  have HB := Lib.hid hb
  have HJ := Lib.hid jY
  have HL := Lib.hid hL
  have HM := Lib.hid hM
  clear hW hY hb jY hL hM hm hm2 hc hc2
  go_enter Try.func5, Try.ntmps5
  go_upto_region 1 with fail
  rw [← HW.out, HYY.out]
  go_wp2_with fail
  refine (awake_any W).mono ?_
  rintro e w1 ⟨rfl, b1⟩
  have HB1 := Lib.hid (HB.out.trans (b1.mono HB.out.size))
  by_cases h1 : (120 : Int) < L.length
  · go_wp2_with fail
    refine (awake_any w1).mono ?_
    rintro e w2 ⟨rfl, b2⟩
    go_wp2
    go_ret
    exact ⟨rfl, HB1.out.trans (b2.mono HB1.out.size)⟩
  by_cases h2 : (120 : Int) < M.length
  · go_wp2_with fail
    refine (awake_any w1).mono ?_
    rintro e w2 ⟨rfl, b2⟩
    go_wp2
    go_ret
    exact ⟨rfl, HB1.out.trans (b2.mono HB1.out.size)⟩
  have HJ1 : Hid (w1.heap[Y]? = some (.cells #[.string x, .string y] 33 (0, 0))) := (b1.block Y (blk_lt HJ.out)).trans HJ.out
  go_wp2_with fail
  refine (Pj.new w1).mono ?_
  rintro e w2 ⟨rfl, h0⟩
  obtain ⟨A, hA⟩ : ∃ A, w1.heap.size = A := ⟨_, rfl⟩
  rw [hA] at h0 ⊢
  have H0 := Lib.hid h0
  clear h0 hA b1
  go_wp2_with fail
  go_loopw [31] (fun iv wr => ∃ (k : Nat) (S : Nat → Prop) (R : List Rw), k ≤ L.length ∧ iv = .int .i64 (k : Int) ∧ Pj w1 wr A k S R) (fun iv _ => L.length - (intOf iv).toNat)
  case atStart => exact ⟨0, _, [], Nat.zero_le _, rfl, H0.out⟩
  case round =>
    obtain ⟨k, S, R, hk, rfl, hP⟩ := hrel
    obtain ⟨V, rfl⟩ : ∃ V, V = wr := ⟨_, rfl⟩
    have bV : Below w.heap.size w V := HB1.out.trans (hP.bel.mono HB1.out.size)
    by_cases hlt : k < L.length
    · obtain ⟨b, o, rfl, _, c0, c1, c2, c3, c4, c5, c6, c7⟩ := (HL.out.on bV).at' k hlt
      have k0 : (0 : Int) ≤ k := by omega
      have k1 : (k : Int) < L.length := by omega
      obtain ⟨V2, hV2⟩ : ∃ V2, V2 = V.alloc (ocB L[k]) := ⟨_, rfl⟩
      obtain ⟨Z, hZ⟩ : ∃ Z, V.heap.size = Z := ⟨_, rfl⟩
      have b2 : Below V.heap.size V V2 := by rw [hV2]; exact (Below.refl _ V).alloc (Nat.le_refl _) _
      have jZ : V2.heap[Z]? = some (.cells #[.int .i64 L[k].kind, .string L[k].key, .int .i64 L[k].v.ts, .string L[k].v.val, .bool L[k].v.dead, .string L[k].x, .string L[k].y, .int .i64 L[k].t] 35 (0, 0)) := by rw [hV2, ← hZ]; exact heap_alloc_new V _
      have m1 : V2.cell? ⟨Z, 1, none⟩ = some (.string L[k].key) := cell_blk jZ 1
      have m2 : V2.cell? ⟨Z, 2, none⟩ = some (.int .i64 L[k].v.ts) := cell_blk jZ 2
      have m3 : V2.cell? ⟨Z, 3, none⟩ = some (.string L[k].v.val) := cell_blk jZ 3
      have m4 : V2.cell? ⟨Z, 4, none⟩ = some (.bool L[k].v.dead) := cell_blk jZ 4
      have hP2 := hP.on b2
      have hcall := hP2.call (by omega) L[k].key L[k].v
      have HP2 := Lib.hid hP2
      have HV2 := Lib.hid hV2
      have HZ := Lib.hid hZ
      clear hP bV hV2 hZ b2 jZ hP2
      go_upto_region 7 with fail
      rw [← HV2.out, HZ.out]
      go_wp2_with fail
      refine hcall.mono ?_
      rintro e w4 hans
      obtain ⟨S', hP4, _, _⟩ := HP2.out.put hans
      obtain ⟨rfl, _⟩ := hans
      have HP4 := Lib.hid hP4
      clear hP4 hcall
      go_wp2
      go_roundw
      case rel => exact ⟨k + 1, S', _, hlt, by go_num, HP4.out⟩
      case measure => simp [intOf]; omega
    · have k1 : ¬ ((k : Int) < L.length) := by omega
      have jY := (hP.bel.block Y (blk_lt HJ1.out)).trans HJ1.out
      have y0 : V.cell? ⟨Y, 0, none⟩ = some (.string x) := cell_blk jY 0
      have y1 : V.cell? ⟨Y, 1, none⟩ = some (.string y) := cell_blk jY 1
      have hsp := span_b hP.sb x y t
      have HP := Lib.hid hP
      obtain ⟨H, hH⟩ : ∃ H, span R x y t = H := ⟨_, rfl⟩
      rw [hH] at hsp
      have HH := Lib.hid hH
      clear hP bV jY hH
      go_wp2_with fail
      refine hsp.mono ?_
      rintro e w3 ⟨a3, ce, rfl, o3, b3⟩
      have hP3 := HP.out.on b3
      have hO3 : ∀ j, (Value.slice a3 H.length ce).ownBlock = some j → ¬ S j := fun j hj q => by
        have q1 := HP.out.sb.lt j q
        have q2 : V.heap.size ≤ j := own_ge o3 j hj
        omega
      have HP3 := Lib.hid hP3
      have HO3 := Lib.hid hO3
      have HR3 := Lib.hid o3
      clear hsp hP3 hO3 o3 b3 y0 y1
      go_wp2_with fail
      go_loopw [48] (fun iv wr => ∃ (k : Nat) (S : Nat → Prop) (R : List Rw), k ≤ M.length ∧ iv = .int .i64 (k : Int) ∧ Pj w1 wr A (L.length + k) S R ∧ span R x y t = H ∧ wr.ownsRow 0 44 3 (.slice a3 H.length ce) H.length (hiC H) ∧ ∀ j, (Value.slice a3 H.length ce).ownBlock = some j → ¬ S j) (fun iv _ => M.length - (intOf iv).toNat)
      case atStart => exact ⟨0, S, R, Nat.zero_le _, rfl, ⟨HP3.out.sb, Nat.le_trans HP3.out.len hk, fun r hr => Nat.le_trans (HP3.out.each r hr) hk, HP3.out.lo, HP3.out.bel⟩, HH.out, own_mono HR3.out (Nat.zero_le _), HO3.out⟩
      case round =>
        clear HP HP3 HO3 HR3 HH hk k1 hlt
        obtain ⟨k, S, R, hk, rfl, hP, hspan, hrow, hoff⟩ := hrel
        obtain ⟨V, rfl⟩ : ∃ V, V = wr := ⟨_, rfl⟩
        have bV : Below w.heap.size w V := HB1.out.trans (hP.bel.mono HB1.out.size)
        have HS := Lib.hid hspan
        clear hspan
        by_cases hlt : k < M.length
        · obtain ⟨b, o, rfl, _, c0, c1, c2, c3, c4, c5, c6, c7⟩ := (HM.out.on bV).at' k hlt
          have k0 : (0 : Int) ≤ k := by omega
          have k1 : (k : Int) < M.length := by omega
          obtain ⟨V2, hV2⟩ : ∃ V2, V2 = V.alloc (ocB M[k]) := ⟨_, rfl⟩
          obtain ⟨Z, hZ⟩ : ∃ Z, V.heap.size = Z := ⟨_, rfl⟩
          have b2 : Below V.heap.size V V2 := by rw [hV2]; exact (Below.refl _ V).alloc (Nat.le_refl _) _
          have jZ : V2.heap[Z]? = some (.cells #[.int .i64 M[k].kind, .string M[k].key, .int .i64 M[k].v.ts, .string M[k].v.val, .bool M[k].v.dead, .string M[k].x, .string M[k].y, .int .i64 M[k].t] 35 (0, 0)) := by rw [hV2, ← hZ]; exact heap_alloc_new V _
          have m1 : V2.cell? ⟨Z, 1, none⟩ = some (.string M[k].key) := cell_blk jZ 1
          have m2 : V2.cell? ⟨Z, 2, none⟩ = some (.int .i64 M[k].v.ts) := cell_blk jZ 2
          have m3 : V2.cell? ⟨Z, 3, none⟩ = some (.string M[k].v.val) := cell_blk jZ 3
          have m4 : V2.cell? ⟨Z, 4, none⟩ = some (.bool M[k].v.dead) := cell_blk jZ 4
          have hP2 := hP.on b2
          have hrow2 := own_below hrow b2
          have hcall := hP2.call (by omega) M[k].key M[k].v
          have HP2 := Lib.hid hP2
          have HV2 := Lib.hid hV2
          have HZ := Lib.hid hZ
          have HR2 := Lib.hid hrow2
          have HF := Lib.hid hoff
          clear hP bV hV2 hZ b2 jZ hP2 hrow hrow2 hoff
          by_cases hts : t < M[k].v.ts
          · go_upto_region 13 with fail
            rw [← HV2.out, HZ.out]
            go_wp2_with fail
            refine hcall.mono ?_
            rintro e w4 hans
            obtain ⟨S', hP4, hg4, hf4⟩ := HP2.out.put hans
            obtain ⟨rfl, _⟩ := hans
            have HP4 := Lib.hid hP4
            have HR4 := Lib.hid (row_keep HR2.out hf4 HF.out)
            have HF4 : Hid (∀ j, (Value.slice a3 H.length ce).ownBlock = some j → ¬ S' j) := fun j hj q => by
              obtain ⟨cs, hcs⟩ := own_tag HR2.out j hj
              have hl := blk_lt hcs
              rcases hg4 j q with q1 | q1
              · exact HF.out j hj q1
              · omega
            have HS4 : Hid (span (putR R M[k].key M[k].v) x y t = H) := (span_put hts x y).trans HS.out
            clear hP4 hcall hg4 hf4
            go_wp2
            go_roundw
            case rel => exact ⟨k + 1, S', _, hlt, by go_num, HP4.out, HS4.out, HR4.out, HF4.out⟩
            case measure => simp [intOf]; omega
          · clear hcall
            go_upto_region 13 with fail
            rw [← HV2.out, HZ.out]
            go_wp2
            go_roundw
            case rel => exact ⟨k + 1, S, _, hlt, by go_num, ⟨HP2.out.sb, Nat.le_trans HP2.out.len (by omega), fun r hr => Nat.le_trans (HP2.out.each r hr) (by omega), HP2.out.lo, HP2.out.bel⟩, HS.out, HR2.out, HF.out⟩
            case measure => simp [intOf]; omega
        · have k1 : ¬ ((k : Int) < M.length) := by omega
          have jY := (hP.bel.block Y (blk_lt HJ1.out)).trans HJ1.out
          have y0 : V.cell? ⟨Y, 0, none⟩ = some (.string x) := cell_blk jY 0
          have y1 : V.cell? ⟨Y, 1, none⟩ = some (.string y) := cell_blk jY 1
          have hsp := span_b hP.sb x y t
          rw [HS.out] at hsp
          have HBV := Lib.hid bV
          have HR := Lib.hid hrow
          clear hP bV jY hrow hoff
          go_wp2_with fail
          refine hsp.mono ?_
          rintro e w5 ⟨a5, c5, rfl, o5, b5⟩
          have hsame := same_hits (hi_own o5) (hi_own (own_below HR.out b5))
          have HB5 := Lib.hid (HBV.out.trans (b5.mono HBV.out.size))
          clear hsp o5 b5 y0 y1
          go_wp2_with fail
          refine hsame.mono ?_
          rintro e w6 ⟨rfl, b6⟩
          have HB6 := Lib.hid (HB5.out.trans (b6.mono HB5.out.size))
          clear hsame b6
          go_wp2
          go_ret
          exact ⟨rfl, HB6.out⟩
end
open Go.ChangeShapes Go.WideShapes Go.ChangeAt Go.WideMaps Go.WideElems
open Go.ChangeMaps (open_string)
set_option maxRecDepth 100000 in
theorem versionPast_lifted (os : Os) (started : os.Started) (H : Type) (enc : TypeId × Value → H) :
    ReturnsInHanded {} Try.checked os 5 .any (Rows.versionPastSpec.pre6 enc Try.prog Try.f5 Rows.versionPastRow.domain false) (Rows.versionPastSpec.post enc Try.prog Try.f5 false true false false) := by
  refine returnsInHanded_of_change_sized (C := Try.checked) own started (by kernel_rfl) Try.func5
    (ChangeSpec.witness6 (enc := enc) (C := Try.checked) false ⟨#[], #[.slice none 0 0, .slice none 0 0, .agg #[.string ⟨#[]⟩, .string ⟨#[]⟩], .int .i64 0], []⟩ 8 (by kernel_rfl) (by kernel_rfl) (by kernel_rfl) (by kernel_rfl)) ?_
  intro W base args ds gs before hval0 hW _ hsz0 _
  have hsz : (DataW.weightsEach Try.prog (Try.f5.params.toList ++ Rows.versionPastSpec.plain.varTypes Try.prog) (ds ++ gs)).all (· ≤ reachBytes) = true := hsz0
  clear hsz0
  have hval : ∀ (j : Nat) t v, Try.f5.params[j]? = some t → args[j]? = some v → Value.okWide Try.prog W .any base t v := hval0
  have hW' := hW
  obtain ⟨p, q, hA0, hV, rfl, _, _⟩ := hW
  have hA : DataW.TrodAll enc Try.prog W 0 (fun _ => true) true Try.f5.params.toList args.toList ds p := hA0
  rw [Try.params5] at hA hval hsz
  obtain ⟨v0, v1, v2, v3, d0, d1, d2, d3, p0, p1, p2, p3, rfl, rfl, rfl, h0, h1, h2, h3⟩ := trodAll_four hA
  obtain ⟨rfl, rfl⟩ := trodVars_none hV
  have h0k := h0
  have h1k := h1
  have h2k := h2
  have h3k := h3
  have hz0 : ∀ n ∈ DataW.weights Try.prog 22 d0, n ≤ reachBytes := fun n hn => by
    have := List.all_eq_true.1 hsz _ (DataW.weights_mem_each (j := 0) (t := 22) rfl rfl n hn)
    simpa using this
  have hz1 : ∀ n ∈ DataW.weights Try.prog 22 d1, n ≤ reachBytes := fun n hn => by
    have := List.all_eq_true.1 hsz _ (DataW.weights_mem_each (j := 1) (t := 22) rfl rfl n hn)
    simpa using this
  obtain ⟨L, ad, cap, rfl, hL, hc, hm⟩ := open_ocs (hval 0 22 v0 rfl rfl) h0 hz0
  obtain ⟨M, am, cam, rfl, hM, hc2, hm2⟩ := open_ocs (hval 1 22 v1 rfl rfl) h1 hz1
  obtain ⟨x, y, rfl, _⟩ := open_span (hval 2 33 v2 rfl rfl) h2
  obtain ⟨t, rfl⟩ : ∃ n : Int, v3 = .int .i64 n := by obtain ⟨n, e, _⟩ := open_int Try.underlying3 (hval 3 3 v3 rfl rfl) h3; exact ⟨n, e⟩
  clear hA0 hval0 hsz
  simp only [List.append_nil] at hW'
  have hlt0 : ∀ x ∈ p0, x.block < W.heap.size := fun x hx => hW'.lt x (by simp [hx])
  have hlt1 : ∀ x ∈ p1, x.block < W.heap.size := fun x hx => hW'.lt x (by simp [hx])
  have hlt2 : ∀ x ∈ p2, x.block < W.heap.size := fun x hx => hW'.lt x (by simp [hx])
  have hlt3 : ∀ x ∈ p3, x.block < W.heap.size := fun x hx => hW'.lt x (by simp [hx])
  refine (past_law hL hc hm hM hc2 hm2 x y t).mono fun e W' ⟨he, hb⟩ => ?_
  subst he
  refine ⟨_, rfl, _, _, _, [], _, [], hW', ?_, trodAll_mk4 (again_ocs h0k hb hlt0) (again_ocs h1k hb hlt1) (again_span h2k hb hlt2) (again_int h3k hb hlt3), rfl, hb.frame _, fun h => by cases h⟩
  exact trodAll_mk1 (shut_bool Try.underlying4 true)

theorem versionPast_holds : Rows.VersionPastSaid :=
  OpenClaim.holds_of_wide 5 Try.f5 rfl rfl rfl rfl rfl rfl rfl ⟨rfl, rfl, rfl, rfl, rfl⟩ rfl rfl rfl rfl rfl (by kernel_rfl) Try.func5 (by kernel_rfl)
    (of_decide_eq_true (by kernel_rfl)) (by unfold Func.isWrapper; rw [if_neg (of_decide_eq_false (by kernel_rfl))]; exact ⟨rfl, rfl⟩)
    (fun os started H enc _ => versionPast_lifted os started H enc)
#print axioms versionPast_holds
end Go.Proofs.Ythjnfkgheihgkaa
