/- The law's world: a change of a row (the walk). -/
import Derived.Test.YtbepekgaipipjaaTb
namespace Go.Proofs.Ytbepekgaipipjaa
open Go.RowKit Go.Maps
theorem fit_4 : Fit 4 := fit_small (by decide) (by decide)
/-- The index's span, and what lies in it. -/
theorem look_ix : ∃ S T : ByteArray, (∀ w, Calls Try.prog 18 #[.int .i64 4] w fun e w' => e = .returned (.agg #[.string S, .string T]) ∧ Below w.heap.size w w') ∧ (∀ (k : ByteArray) (w : World), k.size ≤ 1048 → ∀ r, inX k = r → Calls Try.prog 50 #[.string k, .agg #[.string S, .string T]] w fun e w' => e = .returned (.bool r) ∧ Below w.heap.size w w') := by
  refine ⟨bs (encS [nv 1, nv 4]), bs (encS [nv 1, nv 4]) ++ ⟨#[255]⟩, fun w => index_any fit_4 w, fun k w hk r hr => in_any k _ _ w (by unfold maxLen; omega) ?_ ?_ r ?_⟩
  · rw [bs_size]; have := encS_size [nv 1, nv 4]; unfold maxLen; omega
  · rw [ByteArray.size_append, bs_size]; have := encS_size [nv 1, nv 4]; have e : (⟨#[255]⟩ : ByteArray).size = 1 := rfl; unfold maxLen; omega
  · rw [← hr]; exact inX_iff k
/-- The row is written. -/
theorem do_set {X : World} {A M N m k : Nat} {s : Nat → Value} {R : Nat → List Ce} {L : List Ce} {U : Value} {P : ByteArray → Prop} (j : X.heap[A]? = some (.cells #[s 0, s 1, s 2, s 3, .map (some M)] 65 (0, 0))) (ho : ∀ j, X.ownsRow 0 89 4 (s j) (R j).length ((R j).flatMap ceL)) (hu : X.ownsRow 0 89 4 U L.length (L.flatMap ceL)) (he : Es X M N m P) (hAM : A ≠ M) (hk : k < 4) : Wd (X.setCell ⟨A, k, none⟩ U) A M N m (updR R k L) P := by
  have hf : Fr X (X.setCell ⟨A, k, none⟩ U) (fun q => q = A) := (Fr.refl X (fun q => q = A)).set (a := ⟨A, k, none⟩) (.inl rfl) U
  have ht : ∀ q, q = A → ∀ cs, X.heap[q]? ≠ some (.cells cs 89 (0, 0)) := fun q e cs h => by rw [e, j] at h; simp at h
  refine ⟨⟨fun i => if i = k then U else s i, ?_, fun i => ?_⟩, he.stays (set_other (a := ⟨A, k, none⟩) U (fun e => hAM e.symm))⟩
  · rw [set_blk j U]
    rcases (show k = 0 ∨ k = 1 ∨ k = 2 ∨ k = 3 by omega) with rfl | rfl | rfl | rfl <;> rfl
  · by_cases e : i = k
    · simp only [updR, e, if_true]
      exact keep_rowB hu hf ht
    · simp only [updR, if_neg e]
      exact keep_rowB (ho i) hf ht
set_option maxHeartbeats 16000000 in
set_option maxRecDepth 100000 in
theorem do_any {X : World} {A M N m : Nat} {R : Nat → List Ce} {P : ByteArray → Prop} (h : Wd X A M N m R P) (hR : SmallR R) (hN : N ≤ 1000000) {key v st : Int} {gone nw : Bool} {k vv : Nat} (hk4 : k < 4) (hv3 : vv < 3) (hk : wrap64 ((IntKind.u64.wrap key).tmod 4) = (k : Int)) (hv : wrap64 ((IntKind.u64.wrap v).tmod 3) = (vv : Int)) :
    Calls Try.prog 35 #[.pointer (some ⟨A, 0, none⟩), .agg #[.int .i64 key, .int .i64 v, .bool gone, .bool nw], .int .i64 st] X fun e X' => e = .returned (.tuple #[]) ∧ Wd X' A M (N + 3) (foS (changesP (tab st) (R k) (nextR k vv gone)) (P, m)).2 (updR R k (nextR k vv gone)) (foS (changesP (tab st) (R k) (nextR k vv gone)) (P, m)).1 ∧ Fr X X' (fun j => j = A ∨ j = M) := by
  obtain ⟨L, hL⟩ : ∃ L, nextR k vv gone = L := ⟨_, rfl⟩
  obtain ⟨Ws, hWs⟩ : ∃ Ws, changesP (tab st) (R k) L = Ws := ⟨_, rfl⟩
  rw [hL, hWs]
  have hLL : (∀ c ∈ L, FitC c) ∧ L.length ≤ 2 := by
    rw [← hL]
    unfold nextR
    cases gone
    · exact ⟨rowC_fit (fit5 (by omega) (by omega)) (fit5 (by omega) (by omega)), by simp [rowC]⟩
    · exact ⟨fun c hc => by simp at hc, by simp⟩
  have HCI : Hid (ChgIn (tab st) (R k) L) := Lib.hid (tab_in st (hR.fit k).1 hLL.1 (by have := hLL.2; omega))
  have HKX : Hid (∀ x ∈ Ws, x.key.size ≤ 1048) := Lib.hid (by rw [← hWs]; exact fun x hx => chg_key_size hx)
  have HWL : Hid (Ws.length ≤ 3) := Lib.hid (by rw [← hWs]; exact chg_len st _ _)
  have HWX : Hid (changesP (tab st) (R k) L = Ws) := Lib.hid hWs
  obtain ⟨S4, T4, h18, h50⟩ := look_ix
  have HI18 := Lib.hid h18
  have HI50 := Lib.hid h50
  clear h18 h50
  have HNN := Lib.hid hN
  have HL := Lib.hid hL
  clear hLL hWs hN hR hL
  obtain ⟨⟨s, ja, ho⟩, he⟩ := h
  obtain ⟨W, hW⟩ : ∃ W, W = X.alloc (.cells #[.int .i64 key, .int .i64 v, .bool gone, .bool nw] 73) := ⟨_, rfl⟩
  obtain ⟨Y0, hY0⟩ : ∃ Y, X.heap.size = Y := ⟨_, rfl⟩
  have bW : Below X.heap.size X W := by rw [hW]; exact bnew _ _
  have jW : W.heap[Y0]? = some (.cells #[.int .i64 key, .int .i64 v, .bool gone, .bool nw] 73 (0, 0)) := by rw [hW, ← hY0]; exact heap_alloc_new X _
  have c0 : W.cell? ⟨Y0, 0, none⟩ = some (.int .i64 key) := cell_blk jW 0
  have c1 : W.cell? ⟨Y0, 1, none⟩ = some (.int .i64 v) := cell_blk jW 1
  have HJW := Lib.hid jW
  have HBW := Lib.hid bW
  have HWW := Lib.hid hW
  have HY0 := Lib.hid hY0
  have HJA := Lib.hid ((bW.block A (blk_lt ja)).trans ja)
  have HO : Hid (∀ j, W.ownsRow 0 89 4 (s j) (R j).length ((R j).flatMap ceL)) := Lib.hid fun j => own_below (ho j) bW
  have HE := Lib.hid (he.stays (bW.block M he.lt))
  have HAM : Hid (A ≠ M) := Lib.hid (fun q => by obtain ⟨es, clock, jm⟩ := he.block; rw [← q, ja] at jm; simp at jm)
  clear hW bW hY0 jW ja ho he
  go_enter Try.func35, Try.ntmps35
  go_upto_region 1 with fail
  rw [← HWW.out, HY0.out]
  go_upto_region 3 with (go_at_call 37; refine (cells_own _ _ _).mono ?_; rintro e w1 ⟨u1, rfl, hu1, b1⟩; refine Hid.out ?_)
  refine Lib.hid ?_
  have HK4 := Lib.hid hk4
  have HU1 := Lib.hid hu1
  have HB1 := Lib.hid b1
  have j1 := (b1.block Y0 (blk_lt HJW.out)).trans HJW.out
  have d2 : w1.cell? ⟨Y0, 2, none⟩ = some (.bool gone) := cell_blk j1 2
  have JA1 := Lib.hid ((b1.block A (blk_lt HJA.out)).trans HJA.out)
  have HO1 : Hid (∀ j, w1.ownsRow 0 89 4 (s j) (R j).length ((R j).flatMap ceL)) := Lib.hid fun j => own_below (HO.out j) b1
  have HE1 := Lib.hid (HE.out.stays (b1.block M HE.out.lt))
  obtain ⟨ka, kc, hks⟩ := own_shape (HO1.out k)
  have HKS := Lib.hid hks
  have HLO : Hid (Lr ceE 4 w1 (R k) (.slice ka (R k).length kc)) := Lib.hid (by have q := HO1.out k; rw [hks] at q; exact Lr.own (f := ceL) ceL_len q)
  have HCK : Hid (w1.cell? ⟨A, 0 + k, none⟩ = some (.slice ka (R k).length kc)) := Lib.hid (by
    rw [← hks, cell_blk JA1.out]
    rcases (show k = 0 ∨ k = 1 ∨ k = 2 ∨ k = 3 by omega) with rfl | rfl | rfl | rfl <;> rfl)
  clear c0 c1 hu1 b1 j1 hk hv hk4 hv3 hks HJA HO HE
  cases gone with
  | true =>
    have HUR : Hid (w1.ownsRow 0 89 4 (.slice none 0 0) L.length (L.flatMap ceL)) := Lib.hid (by rw [← HL.out]; exact World.ownsRow_nil _ _ _ _)
    have HLN : Hid (Lr ceE 4 w1 L (.slice none 0 0)) := Lib.hid (Lr.own (f := ceL) ceL_len HUR.out)
    clear HL HU1
    go_upto_region 5 with fail
    clear d2
    refine wp_region_fb (fun _ X9 => Below w1.heap.size w1 X9) (fun X9 X8 => Below X9.heap.size X9 X8) [
      fun v9 _ => v9 = .int .i64 st,
      fun v9 X9 => ∃ cv iv kv, v9 = tbV (tab st) cv iv kv ∧ Three X9 (tab st) cv iv kv,
      fun v9 _ => v9 = .pointer (some ⟨A, 0, none⟩),
      fun v9 _ => v9 = .int .i64 (k : Int),
      fun v9 _ => v9 = .pointer (some ⟨A, 0, none⟩),
      fun v9 _ => v9 = .pointer (some ⟨A, 0, none⟩),
      fun v9 _ => v9 = .pointer (some ⟨A, 0 + k, none⟩),
      fun v9 _ => v9 = .slice ka (R k).length kc,
      fun v9 _ => v9 = .slice none 0 0,
      fun v9 X9 => Lr wrE 3 X9 Ws v9,
      fun v9 _ => v9 = .int .i64 (Ws.length : Int),
      fun v9 _ => v9 = .int .i64 0]
      (by kernel_rfl) (by kernel_rfl) (by kernel_rfl) ?st ?g0 ?os ?en
    case st => exact ⟨fun _ _ _ _ h => h, (fun _ _ _ hb h => by obtain ⟨cv, iv, kv, e9, h9⟩ := h; exact ⟨cv, iv, kv, e9, h9.on hb⟩), fun _ _ _ _ h => h, fun _ _ _ _ h => h, fun _ _ _ _ h => h, fun _ _ _ _ h => h, fun _ _ _ _ h => h, fun _ _ _ _ h => h, fun _ _ _ _ h => h, (fun _ _ _ hb h => h.on wrE_held hb), fun _ _ _ _ h => h, fun _ _ _ _ h => h, trivial⟩
    case g0 => exact ⟨rfl, rfl, rfl, Nat.le_refl _, fun _ _ => rfl⟩
    case os =>
      refine ⟨?_, ?_, ?_, ?_, ?_, ?_, ?_, ?_, ?_, ?_, ?_, ?_, trivial⟩
      · exact fun ρ X9 fl hg hn hl hp ho hc hf hr => .inl ⟨rfl, Runs.val _ (op_move (show ρ (.tmp 2) = .int .i64 st from ho 2 rfl)) ⟨hg, Below.refl _ _, rfl⟩⟩
      · intro ρ X9 fl hg hn hl hp ho hc hf hr
        refine .inl ⟨rfl, ?_⟩
        refine Runs.goes 36 #[.int .i64 st] (op_call1 hf (by go_simp) (show ρ (.tmp 24) = .int .i64 st from hr 0 24 rfl rfl)) ((tab_any X9).mono ?_)
        rintro e7 w7 ⟨cv, iv, kv, rfl, h3, b7⟩
        exact ⟨_, rfl, bgo hg b7, b7, cv, iv, kv, rfl, h3⟩
      · exact fun ρ X9 fl hg hn hl hp ho hc hf hr => .inl ⟨rfl, Runs.val _ (op_move (show ρ (.tmp 0) = .pointer (some ⟨A, 0, none⟩) from ho 0 rfl)) ⟨hg, Below.refl _ _, rfl⟩⟩
      · exact fun ρ X9 fl hg hn hl hp ho hc hf hr => .inl ⟨rfl, Runs.val _ (op_move (show ρ (.tmp 6) = .int .i64 (k : Int) from ho 6 rfl)) ⟨hg, Below.refl _ _, rfl⟩⟩
      · exact fun ρ X9 fl hg hn hl hp ho hc hf hr => .inl ⟨rfl, Runs.val _ (op_nil (show ρ (.tmp 26) = .pointer (some ⟨A, 0, none⟩) from hr 2 26 rfl rfl)) ⟨hg, Below.refl _ _, rfl⟩⟩
      · exact fun ρ X9 fl hg hn hl hp ho hc hf hr => .inl ⟨rfl, Runs.val _ (op_f65_0 (show ρ (.tmp 28) = .pointer (some ⟨A, 0, none⟩) from hr 4 28 rfl rfl)) ⟨hg, Below.refl _ _, rfl⟩⟩
      · intro ρ X9 fl hg hn hl hp ho hc hf hr
        refine .inl ⟨rfl, ?_⟩
        exact Runs.val _ (op_i62 (show ρ (.tmp 29) = .pointer (some ⟨A, 0, none⟩) from hr 5 29 rfl rfl) (show ρ (.tmp 27) = .int .i64 (k : Int) from hr 3 27 rfl rfl) HK4.out) ⟨hg, Below.refl _ _, rfl⟩
      · intro ρ X9 fl hg hn hl hp ho hc hf hr
        refine .inl ⟨rfl, ?_⟩
        exact Runs.val _ (op_load40 (show ρ (.tmp 30) = .pointer (some ⟨A, 0 + k, none⟩) from hr 6 30 rfl rfl) (cell_on hg HCK.out)) ⟨hg, Below.refl _ _, rfl⟩
      · exact fun ρ X9 fl hg hn hl hp ho hc hf hr => .inl ⟨rfl, Runs.val _ (op_move (show ρ (.tmp 7) = .slice none 0 0 from ho 7 rfl)) ⟨hg, Below.refl _ _, rfl⟩⟩
      · intro ρ X9 fl hg hn hl hp ho hc hf hr
        obtain ⟨cv, iv, kv, e9, h9⟩ : ∃ cv iv kv, ρ (.tmp 25) = tbV (tab st) cv iv kv ∧ Three X9 (tab st) cv iv kv := hr 1 25 rfl rfl
        refine .inl ⟨rfl, ?_⟩
        refine Runs.goes 28 #[tbV (tab st) cv iv kv, .slice ka (R k).length kc, .slice none 0 0] (op_call3 hf (by go_simp) e9 (show ρ (.tmp 31) = .slice ka (R k).length kc from hr 7 31 rfl rfl) (show ρ (.tmp 32) = .slice none 0 0 from hr 8 32 rfl rfl)) ((changes_any (t := tab st) h9 (HLO.out.on ceE_held hg) (HLN.out.on ceE_held hg) HCI.out).mono ?_)
        rintro e7 w7 ⟨v7, rfl, hl7, b7⟩
        exact ⟨_, rfl, bgo hg b7, b7, by rw [HWX.out] at hl7; exact hl7⟩
      · intro ρ X9 fl hg hn hl hp ho hc hf hr
        obtain ⟨ad9, cap9, e9, _⟩ : Lr wrE 3 X9 Ws (ρ (.tmp 33)) := hr 9 33 rfl rfl
        refine .inl ⟨rfl, ?_⟩
        exact Runs.val _ (op_len57 e9) ⟨hg, Below.refl _ _, rfl⟩
      · exact fun ρ X9 fl hg hn hl hp ho hc hf hr => .inl ⟨rfl, Runs.val _ (op_move (hc _)) ⟨hg, Below.refl _ _, rfl⟩⟩
    case en =>
      intro a9 w6 fl hfl b6 hs9 hd9 ho9 hr9
      obtain ⟨x9, hx, hxt⟩ := act_put hs9 hd9 ho9
      have y33 := hr9 9 33 rfl
      rw [hxt 33] at y33
      obtain ⟨ad, cap, x33, y33⟩ : Lr wrE 3 w6 Ws (x9 33) := y33
      have x34 : x9 34 = .int .i64 (Ws.length : Int) := (hxt 34).symm.trans (hr9 10 34 rfl)
      have x35 : x9 35 = .int .i64 0 := (hxt 35).symm.trans (hr9 11 35 rfl)
      change a9 = putAll _ x9 [24, 25, 26, 27, 28, 29, 30, 31, 32, 33, 34, 35] at hx
      simp only [putAll, Act.put, List.setIfInBounds_toArray, List.set_cons_zero, List.set_cons_succ, x33, x34, x35] at hx
      subst hx
      clear hs9 hd9 ho9 hr9 hfl x33 x34 x35
      generalize x9 24 = z24, x9 25 = z25, x9 26 = z26, x9 27 = z27, x9 28 = z28, x9 29 = z29, x9 30 = z30, x9 31 = z31, x9 32 = z32
      have HB5 := Lib.hid b6
      have HL3 : Hid (Lr wrE 3 w6 Ws (.slice ad Ws.length cap)) := Lib.hid ⟨ad, cap, rfl, y33⟩
      have HE5 := Lib.hid (HE1.out.stays (b6.block M HE1.out.lt))
      have HM5 := Lib.hid HE5.out.block
      have hmx : (Ws.length : Int) ≤ 9223372036854775807 := by have := HWL.out; omega
      clear b6 y33
      go_wp2
      go_loopw [35] (fun iv wr => ∃ i : Nat, i ≤ Ws.length ∧ iv = .int .i64 (i : Int) ∧ Es wr M (N + i) (foS (Ws.take i) (P, m)).2 (foS (Ws.take i) (P, m)).1 ∧ Fr w6 wr (fun j => j = M)) (fun iv _ => Ws.length - (intOf iv).toNat)
      case atStart => exact ⟨0, Nat.zero_le _, rfl, by simpa [foS] using HE5.out, Fr.refl _ _⟩
      case round =>
        obtain ⟨i, hi, rfl, he, hf⟩ := hrel
        by_cases hlt : i < Ws.length
        · obtain ⟨_, _, _, hcells⟩ := HL3.out.at3
          obtain ⟨b, o, rfl, hbl, c0, c1, c2⟩ := hcells i hlt
          obtain ⟨x, hx⟩ : ∃ x, Ws[i] = x := ⟨_, rfl⟩
          rw [hx] at c0 c1 c2
          have c0 := cellM c0 HM5.out hf
          have c1 := cellM c1 HM5.out hf
          have c2 := cellM c2 HM5.out hf
          obtain ⟨z, hz⟩ : ∃ z, foS (Ws.take i) (P, m) = z := ⟨_, rfl⟩
          rw [hz] at he
          have HST : Hid (foS (Ws.take (i + 1)) (P, m) = stS z x) := Lib.hid (by rw [foS_take hlt, hz, hx])
          have HKS8 : Hid (x.key.size ≤ 1048) := Lib.hid (by rw [← hx]; exact HKX.out _ (List.getElem_mem hlt))
          have HIN : Hid (N + i ≤ 1000100) := Lib.hid (by have := HNN.out; have := HWL.out; omega)
          have HLT := Lib.hid hlt
          obtain ⟨V1, hV1⟩ : ∃ V1, V1 = wr.alloc (.cells #[.string x.key, .string x.val, .bool x.dead] 78) := ⟨_, rfl⟩
          obtain ⟨Q, hQ⟩ : ∃ Q, wr.heap.size = Q := ⟨_, rfl⟩
          have bV1 : Below wr.heap.size wr V1 := by rw [hV1]; exact bnew _ _
          have jQ : V1.heap[Q]? = some (.cells #[.string x.key, .string x.val, .bool x.dead] 78 (0, 0)) := by rw [hV1, ← hQ]; exact heap_alloc_new wr _
          have JQ := Lib.hid jQ
          have HF1 := Lib.hid (hf.below bV1)
          have HE1' := Lib.hid (he.stays (bV1.block M he.lt))
          have q0' : V1.cell? ⟨Q, 0, none⟩ = some (.string x.key) := cell_blk jQ 0
          have Q0 := Lib.hid q0'
          have HV1 := Lib.hid hV1
          have HQ := Lib.hid hQ
          have k1 : (i : Int) < Ws.length := by omega
          have k0 : (0 : Int) ≤ i := by omega
          clear he hf hcells hbl hx hz hV1 hQ bV1 jQ q0'
          go_upto_region 8 with fail
          rw [← HV1.out, HQ.out]
          clear c0 c1 c2
          have q0 := Q0.out
          cases hin : inX x.key with
          | false =>
            have HIX := Lib.hid hin
            clear hin
            refine wp_region_fb (fun _ X9 => Below V1.heap.size V1 X9) (fun X9 X8 => Below X9.heap.size X9 X8) [
              fun v9 _ => v9 = .pointer (some ⟨Q, 0, none⟩),
              fun v9 _ => v9 = .string x.key,
              fun v9 _ => v9 = .agg #[.string S4, .string T4],
              fun v9 _ => v9 = .bool false,
              fun v9 _ => v9 = .bool true]
              (by kernel_rfl) (by kernel_rfl) (by kernel_rfl) ?st ?g0 ?os ?en
            case st => exact ⟨fun _ _ _ _ h => h, fun _ _ _ _ h => h, fun _ _ _ _ h => h, fun _ _ _ _ h => h, fun _ _ _ _ h => h, trivial⟩
            case g0 => exact ⟨rfl, rfl, rfl, Nat.le_refl _, fun _ _ => rfl⟩
            case os =>
              refine ⟨?_, ?_, ?_, ?_, ?_, trivial⟩
              · exact fun ρ X9 fl hg hn hl hp ho hc hf hr => .inl ⟨rfl, Runs.val _ (op_f78_0 (show ρ (.tmp 9) = .pointer (some ⟨Q, 0, none⟩) from ho 9 rfl)) ⟨hg, Below.refl _ _, rfl⟩⟩
              · exact fun ρ X9 fl hg hn hl hp ho hc hf hr => .inl ⟨rfl, Runs.val _ (op_load9 (show ρ (.tmp 39) = .pointer (some ⟨Q, 0, none⟩) from hr 0 39 rfl rfl) (cell_on hg q0)) ⟨hg, Below.refl _ _, rfl⟩⟩
              · intro ρ X9 fl hg hn hl hp ho hc hf hr
                refine .inl ⟨rfl, ?_⟩
                refine Runs.goes 18 #[.int .i64 4] (op_call1 hf (by go_simp) (hc _)) ((HI18.out X9).mono ?_)
                rintro e7 w7 ⟨rfl, b7⟩
                exact ⟨_, rfl, bgo hg b7, b7, rfl⟩
              · intro ρ X9 fl hg hn hl hp ho hc hf hr
                refine .inl ⟨rfl, ?_⟩
                refine Runs.goes 50 #[.string x.key, .agg #[.string S4, .string T4]] (op_call2 hf (by go_simp) (show ρ (.tmp 40) = .string x.key from hr 1 40 rfl rfl) (show ρ (.tmp 41) = .agg #[.string S4, .string T4] from hr 2 41 rfl rfl)) ((HI50.out x.key X9 HKS8.out false HIX.out).mono ?_)
                rintro e7 w7 ⟨rfl, b7⟩
                exact ⟨_, rfl, bgo hg b7, b7, rfl⟩
              · exact fun ρ X9 fl hg hn hl hp ho hc hf hr => .inl ⟨rfl, Runs.val _ (op_not (show ρ (.tmp 42) = .bool false from hr 3 42 rfl rfl) ) ⟨hg, Below.refl _ _, rfl⟩⟩
            case en =>
              intro a9 w8 fl hfl b6 hs9 hd9 ho9 hr9
              obtain ⟨x9, hx, hxt⟩ := act_put hs9 hd9 ho9
              have x43 : x9 43 = .bool true := (hxt 43).symm.trans (hr9 4 43 rfl)
              change a9 = putAll _ x9 [39, 40, 41, 42, 43] at hx
              simp only [putAll, Act.put, List.setIfInBounds_toArray, List.set_cons_zero, List.set_cons_succ, x43] at hx
              subst hx
              clear hs9 hd9 ho9 hr9 hfl x43
              generalize x9 39 = z39, x9 40 = z40, x9 41 = z41, x9 42 = z42
              have HB8 := Lib.hid b6
              have HE8 := Lib.hid (HE1'.out.stays (b6.block M HE1'.out.lt))
              have HF8 := Lib.hid (HF1.out.below b6)
              have HSN : Hid (stS z x = z) := Lib.hid (by unfold stS; rw [if_neg (by rw [HIX.out]; decide)])
              clear b6 q0
              go_wp2
              go_roundw
              case rel => exact ⟨i + 1, HLT.out, by go_num, by rw [HST.out, HSN.out]; exact HE8.out.mono (by omega), HF8.out⟩
              case measure => simp [intOf]; omega
          | true =>
            have HIX := Lib.hid hin
            clear hin
            refine wp_region_fb (fun _ X9 => Below V1.heap.size V1 X9) (fun X9 X8 => Below X9.heap.size X9 X8) [
              fun v9 _ => v9 = .pointer (some ⟨Q, 0, none⟩),
              fun v9 _ => v9 = .string x.key,
              fun v9 _ => v9 = .agg #[.string S4, .string T4],
              fun v9 _ => v9 = .bool true,
              fun v9 _ => v9 = .bool false]
              (by kernel_rfl) (by kernel_rfl) (by kernel_rfl) ?st ?g0 ?os ?en
            case st => exact ⟨fun _ _ _ _ h => h, fun _ _ _ _ h => h, fun _ _ _ _ h => h, fun _ _ _ _ h => h, fun _ _ _ _ h => h, trivial⟩
            case g0 => exact ⟨rfl, rfl, rfl, Nat.le_refl _, fun _ _ => rfl⟩
            case os =>
              refine ⟨?_, ?_, ?_, ?_, ?_, trivial⟩
              · exact fun ρ X9 fl hg hn hl hp ho hc hf hr => .inl ⟨rfl, Runs.val _ (op_f78_0 (show ρ (.tmp 9) = .pointer (some ⟨Q, 0, none⟩) from ho 9 rfl)) ⟨hg, Below.refl _ _, rfl⟩⟩
              · exact fun ρ X9 fl hg hn hl hp ho hc hf hr => .inl ⟨rfl, Runs.val _ (op_load9 (show ρ (.tmp 39) = .pointer (some ⟨Q, 0, none⟩) from hr 0 39 rfl rfl) (cell_on hg q0)) ⟨hg, Below.refl _ _, rfl⟩⟩
              · intro ρ X9 fl hg hn hl hp ho hc hf hr
                refine .inl ⟨rfl, ?_⟩
                refine Runs.goes 18 #[.int .i64 4] (op_call1 hf (by go_simp) (hc _)) ((HI18.out X9).mono ?_)
                rintro e7 w7 ⟨rfl, b7⟩
                exact ⟨_, rfl, bgo hg b7, b7, rfl⟩
              · intro ρ X9 fl hg hn hl hp ho hc hf hr
                refine .inl ⟨rfl, ?_⟩
                refine Runs.goes 50 #[.string x.key, .agg #[.string S4, .string T4]] (op_call2 hf (by go_simp) (show ρ (.tmp 40) = .string x.key from hr 1 40 rfl rfl) (show ρ (.tmp 41) = .agg #[.string S4, .string T4] from hr 2 41 rfl rfl)) ((HI50.out x.key X9 HKS8.out true HIX.out).mono ?_)
                rintro e7 w7 ⟨rfl, b7⟩
                exact ⟨_, rfl, bgo hg b7, b7, rfl⟩
              · exact fun ρ X9 fl hg hn hl hp ho hc hf hr => .inl ⟨rfl, Runs.val _ (op_not (show ρ (.tmp 42) = .bool true from hr 3 42 rfl rfl) ) ⟨hg, Below.refl _ _, rfl⟩⟩
            case en =>
              intro a9 w8 fl hfl b6 hs9 hd9 ho9 hr9
              obtain ⟨x9, hx, hxt⟩ := act_put hs9 hd9 ho9
              have x43 : x9 43 = .bool false := (hxt 43).symm.trans (hr9 4 43 rfl)
              change a9 = putAll _ x9 [39, 40, 41, 42, 43] at hx
              simp only [putAll, Act.put, List.setIfInBounds_toArray, List.set_cons_zero, List.set_cons_succ, x43] at hx
              subst hx
              clear hs9 hd9 ho9 hr9 hfl x43
              generalize x9 39 = z39, x9 40 = z40, x9 41 = z41, x9 42 = z42
              have HE8 := Lib.hid (HE1'.out.stays (b6.block M HE1'.out.lt))
              have HF8 := Lib.hid (HF1.out.below b6)
              have JQ8 := Lib.hid ((b6.block Q (blk_lt JQ.out)).trans JQ.out)
              have CA8 : Hid (w8.cell? ⟨A, 4, none⟩ = some (.map (some M))) := Lib.hid (by
                have JA6 := (HB5.out.block A (blk_lt JA1.out)).trans JA1.out
                exact cell_blk ((HF8.out.block A (blk_lt JA6) HAM.out).trans JA6) 4)
              clear q0
              have q0 : w8.cell? ⟨Q, 0, none⟩ = some (.string x.key) := cell_blk JQ8.out 0
              clear b6
              cases hdx : x.dead with
              | true =>
                have HDX := Lib.hid hdx
                clear hdx
                have HMM : Hid ((z.1 x.key ∧ (stS z x).2 = z.2 - 1) ∨ (¬ z.1 x.key ∧ (stS z x).2 = z.2)) := Lib.hid (by
                  unfold stS
                  rw [if_pos HIX.out, if_pos HDX.out]
                  by_cases hp : z.1 x.key
                  · exact .inl ⟨hp, if_pos hp⟩
                  · exact .inr ⟨hp, if_neg hp⟩)
                have HQQ : Hid (∀ j, (stS z x).1 j ↔ z.1 j ∧ j ≠ x.key) := Lib.hid (by
                  unfold stS
                  rw [if_pos HIX.out, if_pos HDX.out]
                  exact fun j => Iff.rfl)
                have q2 : w8.cell? ⟨Q, 2, none⟩ = some (.bool true) := by rw [← HDX.out]; exact cell_blk JQ8.out 2
                go_upto_region 10 with fail
                clear q2
                refine wp_region_last (fun X9 => Below w8.heap.size w8 X9) (fun X9 X8 => Below X9.heap.size X9 X8) [
                  fun v9 _ => v9 = .pointer (some ⟨A, 0, none⟩),
                  fun v9 _ => v9 = .pointer (some ⟨A, 0, none⟩),
                  fun v9 _ => v9 = .pointer (some ⟨A, 4, none⟩),
                  fun v9 _ => v9 = .map (some M),
                  fun v9 _ => v9 = .pointer (some ⟨Q, 0, none⟩),
                  fun v9 _ => v9 = .string x.key]
                  (fun _ X9 => Es X9 M (N + i) (stS z x).2 (stS z x).1 ∧ Fr w8 X9 (fun j => j = M)) rfl (by kernel_rfl) (by kernel_rfl) (by kernel_rfl) (by kernel_rfl) ?st ?g0 ?os ?la ?en
                case st => exact ⟨fun _ _ _ _ h => h, fun _ _ _ _ h => h, fun _ _ _ _ h => h, fun _ _ _ _ h => h, fun _ _ _ _ h => h, fun _ _ _ _ h => h, trivial⟩
                case g0 => exact ⟨rfl, rfl, rfl, Nat.le_refl _, fun _ _ => rfl⟩
                case os =>
                  refine ⟨?_, ?_, ?_, ?_, ?_, ?_, trivial⟩
                  · exact ⟨rfl, fun ρ X9 hg ho hc hf hr => Runs.val _ (op_move (show ρ (.tmp 0) = .pointer (some ⟨A, 0, none⟩) from ho 0 rfl)) ⟨hg, Below.refl _ _, rfl⟩⟩
                  · exact ⟨rfl, fun ρ X9 hg ho hc hf hr => Runs.val _ (op_nil (show ρ (.tmp 46) = .pointer (some ⟨A, 0, none⟩) from hr 0 46 rfl rfl)) ⟨hg, Below.refl _ _, rfl⟩⟩
                  · exact ⟨rfl, fun ρ X9 hg ho hc hf hr => Runs.val _ (op_f65_1 (show ρ (.tmp 47) = .pointer (some ⟨A, 0, none⟩) from hr 1 47 rfl rfl)) ⟨hg, Below.refl _ _, rfl⟩⟩
                  · exact ⟨rfl, fun ρ X9 hg ho hc hf hr => Runs.val _ (op_load63 (show ρ (.tmp 48) = .pointer (some ⟨A, 4, none⟩) from hr 2 48 rfl rfl) (cell_on hg CA8.out)) ⟨hg, Below.refl _ _, rfl⟩⟩
                  · exact ⟨rfl, fun ρ X9 hg ho hc hf hr => Runs.val _ (op_f78_0 (show ρ (.tmp 9) = .pointer (some ⟨Q, 0, none⟩) from ho 9 rfl)) ⟨hg, Below.refl _ _, rfl⟩⟩
                  · exact ⟨rfl, fun ρ X9 hg ho hc hf hr => Runs.val _ (op_load9 (show ρ (.tmp 50) = .pointer (some ⟨Q, 0, none⟩) from hr 4 50 rfl rfl) (cell_on hg q0)) ⟨hg, Below.refl _ _, rfl⟩⟩
                case la =>
                  refine ⟨rfl, fun ρ X9 hg ho hc hf hr => ?_⟩
                  obtain ⟨X', hrun, hes, hgr⟩ := Es.del (HE8.out.stays (hg.block M HE8.out.lt)) (show x.key.size ≤ maxLen by have := HKS8.out; unfold maxLen; omega) HMM.out (Q := (stS z x).1) HQQ.out 0
                  exact Runs.val _ (op_del (show ρ (.tmp 49) = .map (some M) from hr 3 49 (by decide) rfl) (show ρ (.tmp 51) = .string x.key from hr 5 51 (by decide) rfl) hrun) ⟨hes, (Fr.ofBelow (fun j => j = M) hg).grown hgr (fun q e => .inl (by cases e; rfl))⟩
                case en =>
                  intro a9 w6 wb v9 hF hs9 hd9 ho9 hv9 hr9
                  obtain ⟨x9, hx, hxt⟩ := act_put hs9 hd9 ho9
                  change a9 = putAll _ x9 [46, 47, 48, 49, 50, 51] at hx
                  simp only [putAll, Act.put, List.setIfInBounds_toArray, List.set_cons_zero, List.set_cons_succ] at hx
                  subst hx
                  clear hs9 hd9 ho9 hv9 hr9 hxt
                  generalize x9 46 = z46, x9 47 = z47, x9 48 = z48, x9 49 = z49, x9 50 = z50, x9 51 = z51
                  have HF := Lib.hid hF
                  clear hF
                  go_wp2
                  go_roundw
                  case rel => exact ⟨i + 1, HLT.out, by go_num, by rw [HST.out]; exact HF.out.1.mono (by omega), HF8.out.trans HF.out.2⟩
                  case measure => simp [intOf]; omega
              | false =>
                have HDX := Lib.hid hdx
                clear hdx
                have HMM : Hid ((z.1 x.key ∧ (stS z x).2 = z.2) ∨ (¬ z.1 x.key ∧ (stS z x).2 = z.2 + 1)) := Lib.hid (by
                  unfold stS
                  rw [if_pos HIX.out, if_neg (by rw [HDX.out]; decide)]
                  by_cases hp : z.1 x.key
                  · exact .inl ⟨hp, if_pos hp⟩
                  · exact .inr ⟨hp, if_neg hp⟩)
                have HQQ : Hid (∀ j, (stS z x).1 j ↔ z.1 j ∨ j = x.key) := Lib.hid (by
                  unfold stS
                  rw [if_pos HIX.out, if_neg (by rw [HDX.out]; decide)]
                  exact fun j => Iff.rfl)
                have q2 : w8.cell? ⟨Q, 2, none⟩ = some (.bool false) := by rw [← HDX.out]; exact cell_blk JQ8.out 2
                go_upto_region 11 with fail
                clear q2
                refine wp_region_last (fun X9 => Below w8.heap.size w8 X9) (fun X9 X8 => Below X9.heap.size X9 X8) [
                  fun v9 _ => v9 = .pointer (some ⟨A, 0, none⟩),
                  fun v9 _ => v9 = .pointer (some ⟨A, 0, none⟩),
                  fun v9 _ => v9 = .pointer (some ⟨A, 4, none⟩),
                  fun v9 _ => v9 = .map (some M),
                  fun v9 _ => v9 = .pointer (some ⟨Q, 0, none⟩),
                  fun v9 _ => v9 = .string x.key]
                  (fun _ X9 => Es X9 M (N + i + 1) (stS z x).2 (stS z x).1 ∧ Fr w8 X9 (fun j => j = M)) rfl (by kernel_rfl) (by kernel_rfl) (by kernel_rfl) (by kernel_rfl) ?st ?g0 ?os ?la ?en
                case st => exact ⟨fun _ _ _ _ h => h, fun _ _ _ _ h => h, fun _ _ _ _ h => h, fun _ _ _ _ h => h, fun _ _ _ _ h => h, fun _ _ _ _ h => h, trivial⟩
                case g0 => exact ⟨rfl, rfl, rfl, Nat.le_refl _, fun _ _ => rfl⟩
                case os =>
                  refine ⟨?_, ?_, ?_, ?_, ?_, ?_, trivial⟩
                  · exact ⟨rfl, fun ρ X9 hg ho hc hf hr => Runs.val _ (op_move (show ρ (.tmp 0) = .pointer (some ⟨A, 0, none⟩) from ho 0 rfl)) ⟨hg, Below.refl _ _, rfl⟩⟩
                  · exact ⟨rfl, fun ρ X9 hg ho hc hf hr => Runs.val _ (op_nil (show ρ (.tmp 52) = .pointer (some ⟨A, 0, none⟩) from hr 0 52 rfl rfl)) ⟨hg, Below.refl _ _, rfl⟩⟩
                  · exact ⟨rfl, fun ρ X9 hg ho hc hf hr => Runs.val _ (op_f65_1 (show ρ (.tmp 53) = .pointer (some ⟨A, 0, none⟩) from hr 1 53 rfl rfl)) ⟨hg, Below.refl _ _, rfl⟩⟩
                  · exact ⟨rfl, fun ρ X9 hg ho hc hf hr => Runs.val _ (op_load63 (show ρ (.tmp 54) = .pointer (some ⟨A, 4, none⟩) from hr 2 54 rfl rfl) (cell_on hg CA8.out)) ⟨hg, Below.refl _ _, rfl⟩⟩
                  · exact ⟨rfl, fun ρ X9 hg ho hc hf hr => Runs.val _ (op_f78_0 (show ρ (.tmp 9) = .pointer (some ⟨Q, 0, none⟩) from ho 9 rfl)) ⟨hg, Below.refl _ _, rfl⟩⟩
                  · exact ⟨rfl, fun ρ X9 hg ho hc hf hr => Runs.val _ (op_load9 (show ρ (.tmp 56) = .pointer (some ⟨Q, 0, none⟩) from hr 4 56 rfl rfl) (cell_on hg q0)) ⟨hg, Below.refl _ _, rfl⟩⟩
                case la =>
                  refine ⟨rfl, fun ρ X9 hg ho hc hf hr => ?_⟩
                  obtain ⟨X', hrun, hes, hgr⟩ := Es.put (HE8.out.stays (hg.block M HE8.out.lt)) (show x.key.size ≤ maxLen by have := HKS8.out; unfold maxLen; omega) (show N + i < maxLen by have := HIN.out; unfold maxLen; omega) HMM.out (Q := (stS z x).1) HQQ.out
                  exact Runs.skips (op_upd (show ρ (.tmp 55) = .map (some M) from hr 3 55 (by decide) rfl) (show ρ (.tmp 57) = .string x.key from hr 5 57 (by decide) rfl) (hc _) hrun) ⟨hes, (Fr.ofBelow (fun j => j = M) hg).grown hgr (fun q e => .inl (by cases e; rfl))⟩
                case en =>
                  intro a9 w6 wb v9 hF hs9 hd9 ho9 hv9 hr9
                  obtain ⟨x9, hx, hxt⟩ := act_put hs9 hd9 ho9
                  change a9 = putAll _ x9 [52, 53, 54, 55, 56, 57] at hx
                  simp only [putAll, Act.put, List.setIfInBounds_toArray, List.set_cons_zero, List.set_cons_succ] at hx
                  subst hx
                  clear hs9 hd9 ho9 hv9 hr9 hxt
                  generalize x9 52 = z52, x9 53 = z53, x9 54 = z54, x9 55 = z55, x9 56 = z56, x9 57 = z57
                  have HF := Lib.hid hF
                  clear hF
                  go_wp2
                  go_roundw
                  case rel => exact ⟨i + 1, HLT.out, by go_num, by rw [HST.out]; exact HF.out.1.mono (by omega), HF8.out.trans HF.out.2⟩
                  case measure => simp [intOf]; omega
        · have hil : i = Ws.length := by omega
          have k1 : ¬ ((i : Int) < Ws.length) := by omega
          rw [hil, List.take_of_length_le (Nat.le_refl _)] at he
          have he := he.mono (show N + Ws.length ≤ N + 3 by have := HWL.out; omega)
          have JA6 : w6.heap[A]? = some (.cells #[s 0, s 1, s 2, s 3, .map (some M)] 65 (0, 0)) := (HB5.out.block A (blk_lt JA1.out)).trans JA1.out
          have JAr : wr.heap[A]? = some (.cells #[s 0, s 1, s 2, s 3, .map (some M)] 65 (0, 0)) := (hf.block A (blk_lt JA6) HAM.out).trans JA6
          have HNB : Hid (∀ cs, w6.heap[M]? ≠ some (.cells cs 89 (0, 0))) := Lib.hid (fun cs q => by obtain ⟨es, cl, jm⟩ := HM5.out; rw [jm] at q; cases q)
          have HOR : Hid (∀ j, wr.ownsRow 0 89 4 (s j) (R j).length ((R j).flatMap ceL)) := Lib.hid fun j => keep_rowB (own_below (HO1.out j) HB5.out) hf (fun q e cs => by rw [e]; exact HNB.out cs)
          have HUR2 : Hid (wr.ownsRow 0 89 4 (.slice none 0 0) L.length (L.flatMap ceL)) := Lib.hid (keep_rowB (own_below HUR.out HB5.out) hf (fun q e cs => by rw [e]; exact HNB.out cs))
          have HJR := Lib.hid JAr
          have HER := Lib.hid he
          have HFX : Hid (Fr X wr (fun j => j = A ∨ j = M)) := Lib.hid ((((Fr.ofBelow _ HBW.out).below HB1.out).below HB5.out).step hf (fun j e => .inl (.inr e)))
          have HFIN : Hid (Wd (wr.setCell ⟨A, k, none⟩ (.slice none 0 0)) A M (N + 3) (foS Ws (P, m)).2 (updR R k L) (foS Ws (P, m)).1 ∧ Fr X (wr.setCell ⟨A, k, none⟩ (.slice none 0 0)) (fun j => j = A ∨ j = M)) := Lib.hid ⟨do_set HJR.out HOR.out HUR2.out HER.out HAM.out HK4.out, HFX.out.set (.inl (.inl rfl)) _⟩
          obtain ⟨cA, fA⟩ : wr.cell? ⟨A, k, none⟩ = some (.slice ka (R k).length kc) ∧ wr.frozen? ⟨A, k, none⟩ = false := by
            refine ⟨?_, frozen_blk JAr _⟩
            rw [← HKS.out, cell_blk JAr]
            rcases (show k = 0 ∨ k = 1 ∨ k = 2 ∨ k = 3 by have := HK4.out; omega) with rfl | rfl | rfl | rfl <;> rfl
          clear hil k1 he JA6 JAr hf HUR HLO HLN HCI HKX HL3 HO1 HCK HE5 HM5
          have hk4 := HK4.out
          rcases (show k = 0 ∨ k = 1 ∨ k = 2 ∨ k = 3 by omega) with rfl | rfl | rfl | rfl <;>
          · clear hk4
            go_wp2
            go_end0
            exact ⟨rfl, HFIN.out⟩
  | false =>
    have HUR : Hid (w1.ownsRow 0 89 4 u1 L.length (L.flatMap ceL)) := Lib.hid (by rw [← HL.out]; exact own_mono HU1.out (Nat.zero_le _))
    have HLN : Hid (Lr ceE 4 w1 L u1) := Lib.hid (Lr.own (f := ceL) ceL_len HUR.out)
    clear HL HU1
    go_upto_region 5 with fail
    clear d2
    refine wp_region_fb (fun _ X9 => Below w1.heap.size w1 X9) (fun X9 X8 => Below X9.heap.size X9 X8) [
      fun v9 _ => v9 = .int .i64 st,
      fun v9 X9 => ∃ cv iv kv, v9 = tbV (tab st) cv iv kv ∧ Three X9 (tab st) cv iv kv,
      fun v9 _ => v9 = .pointer (some ⟨A, 0, none⟩),
      fun v9 _ => v9 = .int .i64 (k : Int),
      fun v9 _ => v9 = .pointer (some ⟨A, 0, none⟩),
      fun v9 _ => v9 = .pointer (some ⟨A, 0, none⟩),
      fun v9 _ => v9 = .pointer (some ⟨A, 0 + k, none⟩),
      fun v9 _ => v9 = .slice ka (R k).length kc,
      fun v9 _ => v9 = u1,
      fun v9 X9 => Lr wrE 3 X9 Ws v9,
      fun v9 _ => v9 = .int .i64 (Ws.length : Int),
      fun v9 _ => v9 = .int .i64 0]
      (by kernel_rfl) (by kernel_rfl) (by kernel_rfl) ?st ?g0 ?os ?en
    case st => exact ⟨fun _ _ _ _ h => h, (fun _ _ _ hb h => by obtain ⟨cv, iv, kv, e9, h9⟩ := h; exact ⟨cv, iv, kv, e9, h9.on hb⟩), fun _ _ _ _ h => h, fun _ _ _ _ h => h, fun _ _ _ _ h => h, fun _ _ _ _ h => h, fun _ _ _ _ h => h, fun _ _ _ _ h => h, fun _ _ _ _ h => h, (fun _ _ _ hb h => h.on wrE_held hb), fun _ _ _ _ h => h, fun _ _ _ _ h => h, trivial⟩
    case g0 => exact ⟨rfl, rfl, rfl, Nat.le_refl _, fun _ _ => rfl⟩
    case os =>
      refine ⟨?_, ?_, ?_, ?_, ?_, ?_, ?_, ?_, ?_, ?_, ?_, ?_, trivial⟩
      · exact fun ρ X9 fl hg hn hl hp ho hc hf hr => .inl ⟨rfl, Runs.val _ (op_move (show ρ (.tmp 2) = .int .i64 st from ho 2 rfl)) ⟨hg, Below.refl _ _, rfl⟩⟩
      · intro ρ X9 fl hg hn hl hp ho hc hf hr
        refine .inl ⟨rfl, ?_⟩
        refine Runs.goes 36 #[.int .i64 st] (op_call1 hf (by go_simp) (show ρ (.tmp 24) = .int .i64 st from hr 0 24 rfl rfl)) ((tab_any X9).mono ?_)
        rintro e7 w7 ⟨cv, iv, kv, rfl, h3, b7⟩
        exact ⟨_, rfl, bgo hg b7, b7, cv, iv, kv, rfl, h3⟩
      · exact fun ρ X9 fl hg hn hl hp ho hc hf hr => .inl ⟨rfl, Runs.val _ (op_move (show ρ (.tmp 0) = .pointer (some ⟨A, 0, none⟩) from ho 0 rfl)) ⟨hg, Below.refl _ _, rfl⟩⟩
      · exact fun ρ X9 fl hg hn hl hp ho hc hf hr => .inl ⟨rfl, Runs.val _ (op_move (show ρ (.tmp 6) = .int .i64 (k : Int) from ho 6 rfl)) ⟨hg, Below.refl _ _, rfl⟩⟩
      · exact fun ρ X9 fl hg hn hl hp ho hc hf hr => .inl ⟨rfl, Runs.val _ (op_nil (show ρ (.tmp 26) = .pointer (some ⟨A, 0, none⟩) from hr 2 26 rfl rfl)) ⟨hg, Below.refl _ _, rfl⟩⟩
      · exact fun ρ X9 fl hg hn hl hp ho hc hf hr => .inl ⟨rfl, Runs.val _ (op_f65_0 (show ρ (.tmp 28) = .pointer (some ⟨A, 0, none⟩) from hr 4 28 rfl rfl)) ⟨hg, Below.refl _ _, rfl⟩⟩
      · intro ρ X9 fl hg hn hl hp ho hc hf hr
        refine .inl ⟨rfl, ?_⟩
        exact Runs.val _ (op_i62 (show ρ (.tmp 29) = .pointer (some ⟨A, 0, none⟩) from hr 5 29 rfl rfl) (show ρ (.tmp 27) = .int .i64 (k : Int) from hr 3 27 rfl rfl) HK4.out) ⟨hg, Below.refl _ _, rfl⟩
      · intro ρ X9 fl hg hn hl hp ho hc hf hr
        refine .inl ⟨rfl, ?_⟩
        exact Runs.val _ (op_load40 (show ρ (.tmp 30) = .pointer (some ⟨A, 0 + k, none⟩) from hr 6 30 rfl rfl) (cell_on hg HCK.out)) ⟨hg, Below.refl _ _, rfl⟩
      · exact fun ρ X9 fl hg hn hl hp ho hc hf hr => .inl ⟨rfl, Runs.val _ (op_move (show ρ (.tmp 7) = u1 from ho 7 rfl)) ⟨hg, Below.refl _ _, rfl⟩⟩
      · intro ρ X9 fl hg hn hl hp ho hc hf hr
        obtain ⟨cv, iv, kv, e9, h9⟩ : ∃ cv iv kv, ρ (.tmp 25) = tbV (tab st) cv iv kv ∧ Three X9 (tab st) cv iv kv := hr 1 25 rfl rfl
        refine .inl ⟨rfl, ?_⟩
        refine Runs.goes 28 #[tbV (tab st) cv iv kv, .slice ka (R k).length kc, u1] (op_call3 hf (by go_simp) e9 (show ρ (.tmp 31) = .slice ka (R k).length kc from hr 7 31 rfl rfl) (show ρ (.tmp 32) = u1 from hr 8 32 rfl rfl)) ((changes_any (t := tab st) h9 (HLO.out.on ceE_held hg) (HLN.out.on ceE_held hg) HCI.out).mono ?_)
        rintro e7 w7 ⟨v7, rfl, hl7, b7⟩
        exact ⟨_, rfl, bgo hg b7, b7, by rw [HWX.out] at hl7; exact hl7⟩
      · intro ρ X9 fl hg hn hl hp ho hc hf hr
        obtain ⟨ad9, cap9, e9, _⟩ : Lr wrE 3 X9 Ws (ρ (.tmp 33)) := hr 9 33 rfl rfl
        refine .inl ⟨rfl, ?_⟩
        exact Runs.val _ (op_len57 e9) ⟨hg, Below.refl _ _, rfl⟩
      · exact fun ρ X9 fl hg hn hl hp ho hc hf hr => .inl ⟨rfl, Runs.val _ (op_move (hc _)) ⟨hg, Below.refl _ _, rfl⟩⟩
    case en =>
      intro a9 w6 fl hfl b6 hs9 hd9 ho9 hr9
      obtain ⟨x9, hx, hxt⟩ := act_put hs9 hd9 ho9
      have y33 := hr9 9 33 rfl
      rw [hxt 33] at y33
      obtain ⟨ad, cap, x33, y33⟩ : Lr wrE 3 w6 Ws (x9 33) := y33
      have x34 : x9 34 = .int .i64 (Ws.length : Int) := (hxt 34).symm.trans (hr9 10 34 rfl)
      have x35 : x9 35 = .int .i64 0 := (hxt 35).symm.trans (hr9 11 35 rfl)
      change a9 = putAll _ x9 [24, 25, 26, 27, 28, 29, 30, 31, 32, 33, 34, 35] at hx
      simp only [putAll, Act.put, List.setIfInBounds_toArray, List.set_cons_zero, List.set_cons_succ, x33, x34, x35] at hx
      subst hx
      clear hs9 hd9 ho9 hr9 hfl x33 x34 x35
      generalize x9 24 = z24, x9 25 = z25, x9 26 = z26, x9 27 = z27, x9 28 = z28, x9 29 = z29, x9 30 = z30, x9 31 = z31, x9 32 = z32
      have HB5 := Lib.hid b6
      have HL3 : Hid (Lr wrE 3 w6 Ws (.slice ad Ws.length cap)) := Lib.hid ⟨ad, cap, rfl, y33⟩
      have HE5 := Lib.hid (HE1.out.stays (b6.block M HE1.out.lt))
      have HM5 := Lib.hid HE5.out.block
      have hmx : (Ws.length : Int) ≤ 9223372036854775807 := by have := HWL.out; omega
      clear b6 y33
      go_wp2
      go_loopw [35] (fun iv wr => ∃ i : Nat, i ≤ Ws.length ∧ iv = .int .i64 (i : Int) ∧ Es wr M (N + i) (foS (Ws.take i) (P, m)).2 (foS (Ws.take i) (P, m)).1 ∧ Fr w6 wr (fun j => j = M)) (fun iv _ => Ws.length - (intOf iv).toNat)
      case atStart => exact ⟨0, Nat.zero_le _, rfl, by simpa [foS] using HE5.out, Fr.refl _ _⟩
      case round =>
        obtain ⟨i, hi, rfl, he, hf⟩ := hrel
        by_cases hlt : i < Ws.length
        · obtain ⟨_, _, _, hcells⟩ := HL3.out.at3
          obtain ⟨b, o, rfl, hbl, c0, c1, c2⟩ := hcells i hlt
          obtain ⟨x, hx⟩ : ∃ x, Ws[i] = x := ⟨_, rfl⟩
          rw [hx] at c0 c1 c2
          have c0 := cellM c0 HM5.out hf
          have c1 := cellM c1 HM5.out hf
          have c2 := cellM c2 HM5.out hf
          obtain ⟨z, hz⟩ : ∃ z, foS (Ws.take i) (P, m) = z := ⟨_, rfl⟩
          rw [hz] at he
          have HST : Hid (foS (Ws.take (i + 1)) (P, m) = stS z x) := Lib.hid (by rw [foS_take hlt, hz, hx])
          have HKS8 : Hid (x.key.size ≤ 1048) := Lib.hid (by rw [← hx]; exact HKX.out _ (List.getElem_mem hlt))
          have HIN : Hid (N + i ≤ 1000100) := Lib.hid (by have := HNN.out; have := HWL.out; omega)
          have HLT := Lib.hid hlt
          obtain ⟨V1, hV1⟩ : ∃ V1, V1 = wr.alloc (.cells #[.string x.key, .string x.val, .bool x.dead] 78) := ⟨_, rfl⟩
          obtain ⟨Q, hQ⟩ : ∃ Q, wr.heap.size = Q := ⟨_, rfl⟩
          have bV1 : Below wr.heap.size wr V1 := by rw [hV1]; exact bnew _ _
          have jQ : V1.heap[Q]? = some (.cells #[.string x.key, .string x.val, .bool x.dead] 78 (0, 0)) := by rw [hV1, ← hQ]; exact heap_alloc_new wr _
          have JQ := Lib.hid jQ
          have HF1 := Lib.hid (hf.below bV1)
          have HE1' := Lib.hid (he.stays (bV1.block M he.lt))
          have q0' : V1.cell? ⟨Q, 0, none⟩ = some (.string x.key) := cell_blk jQ 0
          have Q0 := Lib.hid q0'
          have HV1 := Lib.hid hV1
          have HQ := Lib.hid hQ
          have k1 : (i : Int) < Ws.length := by omega
          have k0 : (0 : Int) ≤ i := by omega
          clear he hf hcells hbl hx hz hV1 hQ bV1 jQ q0'
          go_upto_region 8 with fail
          rw [← HV1.out, HQ.out]
          clear c0 c1 c2
          have q0 := Q0.out
          cases hin : inX x.key with
          | false =>
            have HIX := Lib.hid hin
            clear hin
            refine wp_region_fb (fun _ X9 => Below V1.heap.size V1 X9) (fun X9 X8 => Below X9.heap.size X9 X8) [
              fun v9 _ => v9 = .pointer (some ⟨Q, 0, none⟩),
              fun v9 _ => v9 = .string x.key,
              fun v9 _ => v9 = .agg #[.string S4, .string T4],
              fun v9 _ => v9 = .bool false,
              fun v9 _ => v9 = .bool true]
              (by kernel_rfl) (by kernel_rfl) (by kernel_rfl) ?st ?g0 ?os ?en
            case st => exact ⟨fun _ _ _ _ h => h, fun _ _ _ _ h => h, fun _ _ _ _ h => h, fun _ _ _ _ h => h, fun _ _ _ _ h => h, trivial⟩
            case g0 => exact ⟨rfl, rfl, rfl, Nat.le_refl _, fun _ _ => rfl⟩
            case os =>
              refine ⟨?_, ?_, ?_, ?_, ?_, trivial⟩
              · exact fun ρ X9 fl hg hn hl hp ho hc hf hr => .inl ⟨rfl, Runs.val _ (op_f78_0 (show ρ (.tmp 9) = .pointer (some ⟨Q, 0, none⟩) from ho 9 rfl)) ⟨hg, Below.refl _ _, rfl⟩⟩
              · exact fun ρ X9 fl hg hn hl hp ho hc hf hr => .inl ⟨rfl, Runs.val _ (op_load9 (show ρ (.tmp 39) = .pointer (some ⟨Q, 0, none⟩) from hr 0 39 rfl rfl) (cell_on hg q0)) ⟨hg, Below.refl _ _, rfl⟩⟩
              · intro ρ X9 fl hg hn hl hp ho hc hf hr
                refine .inl ⟨rfl, ?_⟩
                refine Runs.goes 18 #[.int .i64 4] (op_call1 hf (by go_simp) (hc _)) ((HI18.out X9).mono ?_)
                rintro e7 w7 ⟨rfl, b7⟩
                exact ⟨_, rfl, bgo hg b7, b7, rfl⟩
              · intro ρ X9 fl hg hn hl hp ho hc hf hr
                refine .inl ⟨rfl, ?_⟩
                refine Runs.goes 50 #[.string x.key, .agg #[.string S4, .string T4]] (op_call2 hf (by go_simp) (show ρ (.tmp 40) = .string x.key from hr 1 40 rfl rfl) (show ρ (.tmp 41) = .agg #[.string S4, .string T4] from hr 2 41 rfl rfl)) ((HI50.out x.key X9 HKS8.out false HIX.out).mono ?_)
                rintro e7 w7 ⟨rfl, b7⟩
                exact ⟨_, rfl, bgo hg b7, b7, rfl⟩
              · exact fun ρ X9 fl hg hn hl hp ho hc hf hr => .inl ⟨rfl, Runs.val _ (op_not (show ρ (.tmp 42) = .bool false from hr 3 42 rfl rfl) ) ⟨hg, Below.refl _ _, rfl⟩⟩
            case en =>
              intro a9 w8 fl hfl b6 hs9 hd9 ho9 hr9
              obtain ⟨x9, hx, hxt⟩ := act_put hs9 hd9 ho9
              have x43 : x9 43 = .bool true := (hxt 43).symm.trans (hr9 4 43 rfl)
              change a9 = putAll _ x9 [39, 40, 41, 42, 43] at hx
              simp only [putAll, Act.put, List.setIfInBounds_toArray, List.set_cons_zero, List.set_cons_succ, x43] at hx
              subst hx
              clear hs9 hd9 ho9 hr9 hfl x43
              generalize x9 39 = z39, x9 40 = z40, x9 41 = z41, x9 42 = z42
              have HB8 := Lib.hid b6
              have HE8 := Lib.hid (HE1'.out.stays (b6.block M HE1'.out.lt))
              have HF8 := Lib.hid (HF1.out.below b6)
              have HSN : Hid (stS z x = z) := Lib.hid (by unfold stS; rw [if_neg (by rw [HIX.out]; decide)])
              clear b6 q0
              go_wp2
              go_roundw
              case rel => exact ⟨i + 1, HLT.out, by go_num, by rw [HST.out, HSN.out]; exact HE8.out.mono (by omega), HF8.out⟩
              case measure => simp [intOf]; omega
          | true =>
            have HIX := Lib.hid hin
            clear hin
            refine wp_region_fb (fun _ X9 => Below V1.heap.size V1 X9) (fun X9 X8 => Below X9.heap.size X9 X8) [
              fun v9 _ => v9 = .pointer (some ⟨Q, 0, none⟩),
              fun v9 _ => v9 = .string x.key,
              fun v9 _ => v9 = .agg #[.string S4, .string T4],
              fun v9 _ => v9 = .bool true,
              fun v9 _ => v9 = .bool false]
              (by kernel_rfl) (by kernel_rfl) (by kernel_rfl) ?st ?g0 ?os ?en
            case st => exact ⟨fun _ _ _ _ h => h, fun _ _ _ _ h => h, fun _ _ _ _ h => h, fun _ _ _ _ h => h, fun _ _ _ _ h => h, trivial⟩
            case g0 => exact ⟨rfl, rfl, rfl, Nat.le_refl _, fun _ _ => rfl⟩
            case os =>
              refine ⟨?_, ?_, ?_, ?_, ?_, trivial⟩
              · exact fun ρ X9 fl hg hn hl hp ho hc hf hr => .inl ⟨rfl, Runs.val _ (op_f78_0 (show ρ (.tmp 9) = .pointer (some ⟨Q, 0, none⟩) from ho 9 rfl)) ⟨hg, Below.refl _ _, rfl⟩⟩
              · exact fun ρ X9 fl hg hn hl hp ho hc hf hr => .inl ⟨rfl, Runs.val _ (op_load9 (show ρ (.tmp 39) = .pointer (some ⟨Q, 0, none⟩) from hr 0 39 rfl rfl) (cell_on hg q0)) ⟨hg, Below.refl _ _, rfl⟩⟩
              · intro ρ X9 fl hg hn hl hp ho hc hf hr
                refine .inl ⟨rfl, ?_⟩
                refine Runs.goes 18 #[.int .i64 4] (op_call1 hf (by go_simp) (hc _)) ((HI18.out X9).mono ?_)
                rintro e7 w7 ⟨rfl, b7⟩
                exact ⟨_, rfl, bgo hg b7, b7, rfl⟩
              · intro ρ X9 fl hg hn hl hp ho hc hf hr
                refine .inl ⟨rfl, ?_⟩
                refine Runs.goes 50 #[.string x.key, .agg #[.string S4, .string T4]] (op_call2 hf (by go_simp) (show ρ (.tmp 40) = .string x.key from hr 1 40 rfl rfl) (show ρ (.tmp 41) = .agg #[.string S4, .string T4] from hr 2 41 rfl rfl)) ((HI50.out x.key X9 HKS8.out true HIX.out).mono ?_)
                rintro e7 w7 ⟨rfl, b7⟩
                exact ⟨_, rfl, bgo hg b7, b7, rfl⟩
              · exact fun ρ X9 fl hg hn hl hp ho hc hf hr => .inl ⟨rfl, Runs.val _ (op_not (show ρ (.tmp 42) = .bool true from hr 3 42 rfl rfl) ) ⟨hg, Below.refl _ _, rfl⟩⟩
            case en =>
              intro a9 w8 fl hfl b6 hs9 hd9 ho9 hr9
              obtain ⟨x9, hx, hxt⟩ := act_put hs9 hd9 ho9
              have x43 : x9 43 = .bool false := (hxt 43).symm.trans (hr9 4 43 rfl)
              change a9 = putAll _ x9 [39, 40, 41, 42, 43] at hx
              simp only [putAll, Act.put, List.setIfInBounds_toArray, List.set_cons_zero, List.set_cons_succ, x43] at hx
              subst hx
              clear hs9 hd9 ho9 hr9 hfl x43
              generalize x9 39 = z39, x9 40 = z40, x9 41 = z41, x9 42 = z42
              have HE8 := Lib.hid (HE1'.out.stays (b6.block M HE1'.out.lt))
              have HF8 := Lib.hid (HF1.out.below b6)
              have JQ8 := Lib.hid ((b6.block Q (blk_lt JQ.out)).trans JQ.out)
              have CA8 : Hid (w8.cell? ⟨A, 4, none⟩ = some (.map (some M))) := Lib.hid (by
                have JA6 := (HB5.out.block A (blk_lt JA1.out)).trans JA1.out
                exact cell_blk ((HF8.out.block A (blk_lt JA6) HAM.out).trans JA6) 4)
              clear q0
              have q0 : w8.cell? ⟨Q, 0, none⟩ = some (.string x.key) := cell_blk JQ8.out 0
              clear b6
              cases hdx : x.dead with
              | true =>
                have HDX := Lib.hid hdx
                clear hdx
                have HMM : Hid ((z.1 x.key ∧ (stS z x).2 = z.2 - 1) ∨ (¬ z.1 x.key ∧ (stS z x).2 = z.2)) := Lib.hid (by
                  unfold stS
                  rw [if_pos HIX.out, if_pos HDX.out]
                  by_cases hp : z.1 x.key
                  · exact .inl ⟨hp, if_pos hp⟩
                  · exact .inr ⟨hp, if_neg hp⟩)
                have HQQ : Hid (∀ j, (stS z x).1 j ↔ z.1 j ∧ j ≠ x.key) := Lib.hid (by
                  unfold stS
                  rw [if_pos HIX.out, if_pos HDX.out]
                  exact fun j => Iff.rfl)
                have q2 : w8.cell? ⟨Q, 2, none⟩ = some (.bool true) := by rw [← HDX.out]; exact cell_blk JQ8.out 2
                go_upto_region 10 with fail
                clear q2
                refine wp_region_last (fun X9 => Below w8.heap.size w8 X9) (fun X9 X8 => Below X9.heap.size X9 X8) [
                  fun v9 _ => v9 = .pointer (some ⟨A, 0, none⟩),
                  fun v9 _ => v9 = .pointer (some ⟨A, 0, none⟩),
                  fun v9 _ => v9 = .pointer (some ⟨A, 4, none⟩),
                  fun v9 _ => v9 = .map (some M),
                  fun v9 _ => v9 = .pointer (some ⟨Q, 0, none⟩),
                  fun v9 _ => v9 = .string x.key]
                  (fun _ X9 => Es X9 M (N + i) (stS z x).2 (stS z x).1 ∧ Fr w8 X9 (fun j => j = M)) rfl (by kernel_rfl) (by kernel_rfl) (by kernel_rfl) (by kernel_rfl) ?st ?g0 ?os ?la ?en
                case st => exact ⟨fun _ _ _ _ h => h, fun _ _ _ _ h => h, fun _ _ _ _ h => h, fun _ _ _ _ h => h, fun _ _ _ _ h => h, fun _ _ _ _ h => h, trivial⟩
                case g0 => exact ⟨rfl, rfl, rfl, Nat.le_refl _, fun _ _ => rfl⟩
                case os =>
                  refine ⟨?_, ?_, ?_, ?_, ?_, ?_, trivial⟩
                  · exact ⟨rfl, fun ρ X9 hg ho hc hf hr => Runs.val _ (op_move (show ρ (.tmp 0) = .pointer (some ⟨A, 0, none⟩) from ho 0 rfl)) ⟨hg, Below.refl _ _, rfl⟩⟩
                  · exact ⟨rfl, fun ρ X9 hg ho hc hf hr => Runs.val _ (op_nil (show ρ (.tmp 46) = .pointer (some ⟨A, 0, none⟩) from hr 0 46 rfl rfl)) ⟨hg, Below.refl _ _, rfl⟩⟩
                  · exact ⟨rfl, fun ρ X9 hg ho hc hf hr => Runs.val _ (op_f65_1 (show ρ (.tmp 47) = .pointer (some ⟨A, 0, none⟩) from hr 1 47 rfl rfl)) ⟨hg, Below.refl _ _, rfl⟩⟩
                  · exact ⟨rfl, fun ρ X9 hg ho hc hf hr => Runs.val _ (op_load63 (show ρ (.tmp 48) = .pointer (some ⟨A, 4, none⟩) from hr 2 48 rfl rfl) (cell_on hg CA8.out)) ⟨hg, Below.refl _ _, rfl⟩⟩
                  · exact ⟨rfl, fun ρ X9 hg ho hc hf hr => Runs.val _ (op_f78_0 (show ρ (.tmp 9) = .pointer (some ⟨Q, 0, none⟩) from ho 9 rfl)) ⟨hg, Below.refl _ _, rfl⟩⟩
                  · exact ⟨rfl, fun ρ X9 hg ho hc hf hr => Runs.val _ (op_load9 (show ρ (.tmp 50) = .pointer (some ⟨Q, 0, none⟩) from hr 4 50 rfl rfl) (cell_on hg q0)) ⟨hg, Below.refl _ _, rfl⟩⟩
                case la =>
                  refine ⟨rfl, fun ρ X9 hg ho hc hf hr => ?_⟩
                  obtain ⟨X', hrun, hes, hgr⟩ := Es.del (HE8.out.stays (hg.block M HE8.out.lt)) (show x.key.size ≤ maxLen by have := HKS8.out; unfold maxLen; omega) HMM.out (Q := (stS z x).1) HQQ.out 0
                  exact Runs.val _ (op_del (show ρ (.tmp 49) = .map (some M) from hr 3 49 (by decide) rfl) (show ρ (.tmp 51) = .string x.key from hr 5 51 (by decide) rfl) hrun) ⟨hes, (Fr.ofBelow (fun j => j = M) hg).grown hgr (fun q e => .inl (by cases e; rfl))⟩
                case en =>
                  intro a9 w6 wb v9 hF hs9 hd9 ho9 hv9 hr9
                  obtain ⟨x9, hx, hxt⟩ := act_put hs9 hd9 ho9
                  change a9 = putAll _ x9 [46, 47, 48, 49, 50, 51] at hx
                  simp only [putAll, Act.put, List.setIfInBounds_toArray, List.set_cons_zero, List.set_cons_succ] at hx
                  subst hx
                  clear hs9 hd9 ho9 hv9 hr9 hxt
                  generalize x9 46 = z46, x9 47 = z47, x9 48 = z48, x9 49 = z49, x9 50 = z50, x9 51 = z51
                  have HF := Lib.hid hF
                  clear hF
                  go_wp2
                  go_roundw
                  case rel => exact ⟨i + 1, HLT.out, by go_num, by rw [HST.out]; exact HF.out.1.mono (by omega), HF8.out.trans HF.out.2⟩
                  case measure => simp [intOf]; omega
              | false =>
                have HDX := Lib.hid hdx
                clear hdx
                have HMM : Hid ((z.1 x.key ∧ (stS z x).2 = z.2) ∨ (¬ z.1 x.key ∧ (stS z x).2 = z.2 + 1)) := Lib.hid (by
                  unfold stS
                  rw [if_pos HIX.out, if_neg (by rw [HDX.out]; decide)]
                  by_cases hp : z.1 x.key
                  · exact .inl ⟨hp, if_pos hp⟩
                  · exact .inr ⟨hp, if_neg hp⟩)
                have HQQ : Hid (∀ j, (stS z x).1 j ↔ z.1 j ∨ j = x.key) := Lib.hid (by
                  unfold stS
                  rw [if_pos HIX.out, if_neg (by rw [HDX.out]; decide)]
                  exact fun j => Iff.rfl)
                have q2 : w8.cell? ⟨Q, 2, none⟩ = some (.bool false) := by rw [← HDX.out]; exact cell_blk JQ8.out 2
                go_upto_region 11 with fail
                clear q2
                refine wp_region_last (fun X9 => Below w8.heap.size w8 X9) (fun X9 X8 => Below X9.heap.size X9 X8) [
                  fun v9 _ => v9 = .pointer (some ⟨A, 0, none⟩),
                  fun v9 _ => v9 = .pointer (some ⟨A, 0, none⟩),
                  fun v9 _ => v9 = .pointer (some ⟨A, 4, none⟩),
                  fun v9 _ => v9 = .map (some M),
                  fun v9 _ => v9 = .pointer (some ⟨Q, 0, none⟩),
                  fun v9 _ => v9 = .string x.key]
                  (fun _ X9 => Es X9 M (N + i + 1) (stS z x).2 (stS z x).1 ∧ Fr w8 X9 (fun j => j = M)) rfl (by kernel_rfl) (by kernel_rfl) (by kernel_rfl) (by kernel_rfl) ?st ?g0 ?os ?la ?en
                case st => exact ⟨fun _ _ _ _ h => h, fun _ _ _ _ h => h, fun _ _ _ _ h => h, fun _ _ _ _ h => h, fun _ _ _ _ h => h, fun _ _ _ _ h => h, trivial⟩
                case g0 => exact ⟨rfl, rfl, rfl, Nat.le_refl _, fun _ _ => rfl⟩
                case os =>
                  refine ⟨?_, ?_, ?_, ?_, ?_, ?_, trivial⟩
                  · exact ⟨rfl, fun ρ X9 hg ho hc hf hr => Runs.val _ (op_move (show ρ (.tmp 0) = .pointer (some ⟨A, 0, none⟩) from ho 0 rfl)) ⟨hg, Below.refl _ _, rfl⟩⟩
                  · exact ⟨rfl, fun ρ X9 hg ho hc hf hr => Runs.val _ (op_nil (show ρ (.tmp 52) = .pointer (some ⟨A, 0, none⟩) from hr 0 52 rfl rfl)) ⟨hg, Below.refl _ _, rfl⟩⟩
                  · exact ⟨rfl, fun ρ X9 hg ho hc hf hr => Runs.val _ (op_f65_1 (show ρ (.tmp 53) = .pointer (some ⟨A, 0, none⟩) from hr 1 53 rfl rfl)) ⟨hg, Below.refl _ _, rfl⟩⟩
                  · exact ⟨rfl, fun ρ X9 hg ho hc hf hr => Runs.val _ (op_load63 (show ρ (.tmp 54) = .pointer (some ⟨A, 4, none⟩) from hr 2 54 rfl rfl) (cell_on hg CA8.out)) ⟨hg, Below.refl _ _, rfl⟩⟩
                  · exact ⟨rfl, fun ρ X9 hg ho hc hf hr => Runs.val _ (op_f78_0 (show ρ (.tmp 9) = .pointer (some ⟨Q, 0, none⟩) from ho 9 rfl)) ⟨hg, Below.refl _ _, rfl⟩⟩
                  · exact ⟨rfl, fun ρ X9 hg ho hc hf hr => Runs.val _ (op_load9 (show ρ (.tmp 56) = .pointer (some ⟨Q, 0, none⟩) from hr 4 56 rfl rfl) (cell_on hg q0)) ⟨hg, Below.refl _ _, rfl⟩⟩
                case la =>
                  refine ⟨rfl, fun ρ X9 hg ho hc hf hr => ?_⟩
                  obtain ⟨X', hrun, hes, hgr⟩ := Es.put (HE8.out.stays (hg.block M HE8.out.lt)) (show x.key.size ≤ maxLen by have := HKS8.out; unfold maxLen; omega) (show N + i < maxLen by have := HIN.out; unfold maxLen; omega) HMM.out (Q := (stS z x).1) HQQ.out
                  exact Runs.skips (op_upd (show ρ (.tmp 55) = .map (some M) from hr 3 55 (by decide) rfl) (show ρ (.tmp 57) = .string x.key from hr 5 57 (by decide) rfl) (hc _) hrun) ⟨hes, (Fr.ofBelow (fun j => j = M) hg).grown hgr (fun q e => .inl (by cases e; rfl))⟩
                case en =>
                  intro a9 w6 wb v9 hF hs9 hd9 ho9 hv9 hr9
                  obtain ⟨x9, hx, hxt⟩ := act_put hs9 hd9 ho9
                  change a9 = putAll _ x9 [52, 53, 54, 55, 56, 57] at hx
                  simp only [putAll, Act.put, List.setIfInBounds_toArray, List.set_cons_zero, List.set_cons_succ] at hx
                  subst hx
                  clear hs9 hd9 ho9 hv9 hr9 hxt
                  generalize x9 52 = z52, x9 53 = z53, x9 54 = z54, x9 55 = z55, x9 56 = z56, x9 57 = z57
                  have HF := Lib.hid hF
                  clear hF
                  go_wp2
                  go_roundw
                  case rel => exact ⟨i + 1, HLT.out, by go_num, by rw [HST.out]; exact HF.out.1.mono (by omega), HF8.out.trans HF.out.2⟩
                  case measure => simp [intOf]; omega
        · have hil : i = Ws.length := by omega
          have k1 : ¬ ((i : Int) < Ws.length) := by omega
          rw [hil, List.take_of_length_le (Nat.le_refl _)] at he
          have he := he.mono (show N + Ws.length ≤ N + 3 by have := HWL.out; omega)
          have JA6 : w6.heap[A]? = some (.cells #[s 0, s 1, s 2, s 3, .map (some M)] 65 (0, 0)) := (HB5.out.block A (blk_lt JA1.out)).trans JA1.out
          have JAr : wr.heap[A]? = some (.cells #[s 0, s 1, s 2, s 3, .map (some M)] 65 (0, 0)) := (hf.block A (blk_lt JA6) HAM.out).trans JA6
          have HNB : Hid (∀ cs, w6.heap[M]? ≠ some (.cells cs 89 (0, 0))) := Lib.hid (fun cs q => by obtain ⟨es, cl, jm⟩ := HM5.out; rw [jm] at q; cases q)
          have HOR : Hid (∀ j, wr.ownsRow 0 89 4 (s j) (R j).length ((R j).flatMap ceL)) := Lib.hid fun j => keep_rowB (own_below (HO1.out j) HB5.out) hf (fun q e cs => by rw [e]; exact HNB.out cs)
          have HUR2 : Hid (wr.ownsRow 0 89 4 u1 L.length (L.flatMap ceL)) := Lib.hid (keep_rowB (own_below HUR.out HB5.out) hf (fun q e cs => by rw [e]; exact HNB.out cs))
          have HJR := Lib.hid JAr
          have HER := Lib.hid he
          have HFX : Hid (Fr X wr (fun j => j = A ∨ j = M)) := Lib.hid ((((Fr.ofBelow _ HBW.out).below HB1.out).below HB5.out).step hf (fun j e => .inl (.inr e)))
          have HFIN : Hid (Wd (wr.setCell ⟨A, k, none⟩ u1) A M (N + 3) (foS Ws (P, m)).2 (updR R k L) (foS Ws (P, m)).1 ∧ Fr X (wr.setCell ⟨A, k, none⟩ u1) (fun j => j = A ∨ j = M)) := Lib.hid ⟨do_set HJR.out HOR.out HUR2.out HER.out HAM.out HK4.out, HFX.out.set (.inl (.inl rfl)) _⟩
          obtain ⟨cA, fA⟩ : wr.cell? ⟨A, k, none⟩ = some (.slice ka (R k).length kc) ∧ wr.frozen? ⟨A, k, none⟩ = false := by
            refine ⟨?_, frozen_blk JAr _⟩
            rw [← HKS.out, cell_blk JAr]
            rcases (show k = 0 ∨ k = 1 ∨ k = 2 ∨ k = 3 by have := HK4.out; omega) with rfl | rfl | rfl | rfl <;> rfl
          clear hil k1 he JA6 JAr hf HUR HLO HLN HCI HKX HL3 HO1 HCK HE5 HM5
          have hk4 := HK4.out
          obtain ⟨ua, un, uc, hus⟩ : ∃ ua un uc, u1 = .slice ua un uc := by obtain ⟨ua, uc, e⟩ := own_shape HUR2.out; exact ⟨ua, _, uc, e⟩
          subst hus
          rcases (show k = 0 ∨ k = 1 ∨ k = 2 ∨ k = 3 by omega) with rfl | rfl | rfl | rfl <;>
          · clear hk4
            go_wp2
            go_end0
            exact ⟨rfl, HFIN.out⟩
end Go.Proofs.Ytbepekgaipipjaa
