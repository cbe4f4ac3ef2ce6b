/- The walk of same. -/
import Derived.Test.YtfokgalgdlajlaaRh
namespace Go.Proofs.Ytfokgalgdlajlaa
open Go.RowKit
theorem op_notK {ρ : Operand → Value} {X : World} {d : Option Tmp} {ty : TypeId} {ps : String} {af : Array Edge} {g : Option (Nat × Bool)} {x : Operand} {k b : Bool} (h : k = !b) (e : ρ x = .bool k) : (execOp ρ ⟨d, .unOp .not 4 x, ty, ps, af, g⟩).run Try.prog X = .ok (.value (.bool b)) X := by
  subst h
  have h9 := op_not (d := d) (ty := ty) (ps := ps) (af := af) (g := g) (X := X) e
  rw [Bool.not_not] at h9
  exact h9
section
variable {w : World} {A g R b : Nat} {c : CW} {s : CS}
set_option maxHeartbeats 16000000 in
set_option maxRecDepth 100000 in
theorem same_yes (h : PD w A g c s) (hr : RS w R b c s) (hA : ∀ a ∈ c.asks s, AkI a) (hkn : decide (3 ≤ s.ph) = true) : Calls Try.prog 25 #[.pointer (some ⟨A, 0, none⟩), .pointer (some ⟨R, 0, none⟩)] w fun e w' => e = .returned (.bool true) ∧ Below w.heap.size w w' := by
  have hph := hr.ph
  have hpa := pasks_any h hph
  obtain ⟨L, hL⟩ : ∃ L, c.asks s = L := ⟨_, rfl⟩
  have hll := asks_len c s
  rw [hL] at hpa hll hA
  have HL := Lib.hid hL
  have HPA := Lib.hid hpa
  have HPD := Lib.hid h
  have HRS := Lib.hid hr
  have HAI := Lib.hid hA
  have HPH := Lib.hid hph
  have hmx : (L.length : Int) ≤ 9223372036854775807 := by omega
  have HKN : Hid (decide (3 ≤ s.ph) = !false) := Lib.hid hkn
  have HOV : Hid (decide ((decide (s.ph = 0) || decide (s.ph = 4)) = decide (s.ph = 4)) = true) := Lib.hid (by
    have h0 : ¬ s.ph = 0 := by omega
    rw [decide_eq_false h0]
    simp)
  clear h hr hA hph hpa hL hll hkn
  go_enter Try.func25, Try.ntmps25
  go_wp2_with fail
  refine HPA.out.mono ?_
  rintro e v1 ⟨la, lc, K, rfl, hk, o1, hks, b1⟩
  have hra := (HRS.out.on b1).asks
  rw [HL.out] at hra
  have HRA := Lib.hid hra
  have HB1 := Lib.hid b1
  have HO1 := Lib.hid o1
  have HKS := Lib.hid (And.intro hk hks)
  clear b1 o1 hk hks hra HPA
  go_wp2_with fail
  refine HRA.out.mono ?_
  rintro e v2 ⟨aa, ac, oa, oc, rfl, o2, o3, b2⟩
  have HB2 := Lib.hid (bgo HB1.out b2)
  have HO := Lib.hid (And.intro (own_below HO1.out b2) (And.intro o2 o3))
  have HPD2 := Lib.hid (HPD.out.on (bgo HB1.out b2))
  have HRS2 := Lib.hid (HRS.out.on (bgo HB1.out b2))
  clear b2 o2 o3 HRA HO1 HB1
  go_wp2
  go_loopw [29] (fun iv wr => ∃ i : Nat, i ≤ L.length ∧ iv = .int .i64 (i : Int) ∧ Below v2.heap.size v2 wr) (fun iv _ => L.length - (intOf iv).toNat)
  case atStart => exact ⟨0, Nat.zero_le _, rfl, Below.refl _ _⟩
  case round =>
    obtain ⟨i, hi, rfl, hb⟩ := hrel
    obtain ⟨V, rfl⟩ : ∃ V, V = wr := ⟨_, rfl⟩
    by_cases hlt : i < L.length
    · have hiK : i < K.length := by rw [HKS.out.1]; exact hlt
      obtain ⟨g1, rfl⟩ := some_row HO.out.1 (by omega)
      obtain ⟨ga, rfl⟩ := some_row HO.out.2.1 (by omega)
      obtain ⟨go, rfl⟩ := some_row HO.out.2.2 (by omega)
      obtain ⟨ra, rc, wa, wc, hKi⟩ := HKS.out.2 i hlt hiK
      have hai := HAI.out L[i] (List.getElem_mem hlt)
      have hnn : L[i].r = .nil ∧ L[i].w = .nil := asks_none (c := c) (s := s) L[i] (by rw [HL.out]; exact List.getElem_mem hlt)
      have q1 : ∀ k, k < 31 → V.cell? ⟨g1, i * 31 + k, none⟩ = (akL K[i])[k]? := fun k hk => row_cell (f := akL) (fun _ => rfl) (own_below HO.out.1 hb) hiK HKS.out.1 hk
      have q2 : V.cell? ⟨ga, i * 1 + 0, none⟩ = ([Value.int .i64 L[i].sh])[0]? := row_cell (f := fun a : Ak => [Value.int .i64 a.sh]) (fun _ => rfl) (by have h9 := HO.out.2.1; rw [map_flat] at h9; exact own_below h9 hb) hlt rfl (by decide)
      have q3 : ∀ k, k < 30 → V.cell? ⟨go, i * 30 + k, none⟩ = (cmL L[i])[k]? := fun k hk => row_cell (f := cmL) (fun _ => rfl) (own_below HO.out.2.2 hb) hlt rfl hk
      rw [hKi] at q1
      generalize L[i] = a0 at *
      obtain ⟨sh, kd, t0, t1, t2, home, ar, aw, mn, til, ts, ver, call⟩ := a0
      obtain ⟨e1, e2⟩ := hnn
      simp only at e1 e2
      subst e1 e2
      have ht1 : Tells 48 #[.agg (cmA ⟨sh, kd, t0, t1, t2, home, ⟨ra, 0, rc⟩, ⟨wa, 0, wc⟩, mn, til, ts, ver, call⟩)] _ := cmd_none (a := ⟨sh, kd, t0, t1, t2, home, .nil, .nil, mn, til, ts, ver, call⟩) hai
      have ht2 : Tells 48 #[.agg (cmA ⟨sh, kd, t0, t1, t2, home, .nil, .nil, mn, til, ts, ver, call⟩)] _ := cmd_none (a := ⟨sh, kd, t0, t1, t2, home, .nil, .nil, mn, til, ts, ver, call⟩) hai
      obtain ⟨tx, htx⟩ : ∃ tx, cmdN ⟨sh, kd, t0, t1, t2, home, .nil, .nil, mn, til, ts, ver, call⟩ = tx := ⟨_, rfl⟩
      rw [htx] at ht1 ht2
      have m0 : V.cell? ⟨g1, 0 + i * 31, none⟩ = some (.int .i64 sh) := by rw [Nat.zero_add]; exact q1 0 (by decide)
      have m1 : V.cell? ⟨ga, 0 + i, none⟩ = some (.int .i64 sh) := by rw [Nat.zero_add]; have h9 := q2; rw [Nat.mul_one, Nat.add_zero] at h9; exact h9
      have r1 : ∀ j u, (cmL ⟨sh, kd, t0, t1, t2, home, ⟨ra, 0, rc⟩, ⟨wa, 0, wc⟩, mn, til, ts, ver, call⟩)[j]? = some u → V.cell? ⟨g1, 0 + i * 31 + 1 + j, none⟩ = some u := fun j u hu => by
        have hj : j < 30 := (List.getElem?_eq_some_iff.1 hu).1
        rw [Nat.zero_add, Nat.add_assoc, q1 (1 + j) (by omega), Nat.add_comm 1 j]
        exact hu
      have r2 : ∀ j u, (cmL ⟨sh, kd, t0, t1, t2, home, .nil, .nil, mn, til, ts, ver, call⟩)[j]? = some u → V.cell? ⟨go, 0 + i * 30 + j, none⟩ = some u := fun j u hu => by
        have hj : j < 30 := (List.getElem?_eq_some_iff.1 hu).1
        rw [Nat.zero_add, q3 j hj]
        exact hu
      have x8 : V.cell? ⟨g1, i * 31 + 1 + 8, none⟩ = some (.slice ra 0 rc) := q1 9 (by decide)
      have x9 : V.cell? ⟨g1, i * 31 + 1 + 9, none⟩ = some (.slice wa 0 wc) := q1 10 (by decide)
      have HM := Lib.hid (And.intro m0 (And.intro m1 (And.intro r1 r2)))
      have HT1 := Lib.hid ht1
      have HT2 := Lib.hid ht2
      have HBV := Lib.hid hb
      have HX89 := Lib.hid (And.intro x8 x9)
      have HLT := Lib.hid hlt
      have k0 : (0 : Int) ≤ i := by omega
      have k1 : (i : Int) < L.length := by omega
      clear hb hai hKi q1 q2 q3 ht1 ht2 htx m0 m1 r1 r2 x8 x9 hiK
      go_upto_region 8 with fail
      refine wp_region_fb (fun _ X9 => Below V.heap.size V X9) (fun X9 X8 => Below X9.heap.size X9 X8) [
        fun v9 _ => v9 = .slice (some ⟨g1, 0, none⟩) L.length lc,
        fun v9 _ => v9 = .int .i64 (i : Int),
        fun v9 _ => v9 = .pointer (some ⟨g1, 0 + i * 31, none⟩),
        fun v9 _ => v9 = .pointer (some ⟨g1, 0 + i * 31, none⟩),
        fun v9 _ => v9 = .int .i64 sh,
        fun v9 _ => v9 = .slice (some ⟨ga, 0, none⟩) L.length ac,
        fun v9 _ => v9 = .int .i64 (i : Int),
        fun v9 _ => v9 = .pointer (some ⟨ga, 0 + i, none⟩),
        fun v9 _ => v9 = .int .i64 sh,
        fun v9 _ => v9 = .bool false,
        fun v9 _ => v9 = .bool false,
        fun v9 _ => v9 = .slice (some ⟨g1, 0, none⟩) L.length lc,
        fun v9 _ => v9 = .int .i64 (i : Int),
        fun v9 _ => v9 = .pointer (some ⟨g1, 0 + i * 31, none⟩),
        fun v9 _ => v9 = .pointer (some ⟨g1, 0 + i * 31 + 1, none⟩),
        fun v9 _ => v9 = .agg (cmA ⟨sh, kd, t0, t1, t2, home, ⟨ra, 0, rc⟩, ⟨wa, 0, wc⟩, mn, til, ts, ver, call⟩),
        fun v9 _ => v9 = .string tx,
        fun v9 _ => v9 = .slice (some ⟨go, 0, none⟩) L.length oc,
        fun v9 _ => v9 = .int .i64 (i : Int),
        fun v9 _ => v9 = .pointer (some ⟨go, 0 + i * 30, none⟩),
        fun v9 _ => v9 = .agg (cmA ⟨sh, kd, t0, t1, t2, home, .nil, .nil, mn, til, ts, ver, call⟩),
        fun v9 _ => v9 = .string tx,
        fun v9 _ => v9 = .bool false,
        fun v9 _ => v9 = .bool false]
        (by kernel_rfl) (by kernel_rfl) (by kernel_rfl) ?st ?g0 ?os ?en
      case st => exact ⟨fun _ _ _ _ h => h, fun _ _ _ _ h => h, fun _ _ _ _ h => h, fun _ _ _ _ h => h, fun _ _ _ _ h => h, fun _ _ _ _ h => h, fun _ _ _ _ h => h, fun _ _ _ _ h => h, fun _ _ _ _ h => h, fun _ _ _ _ h => h, fun _ _ _ _ h => h, fun _ _ _ _ h => h, fun _ _ _ _ h => h, fun _ _ _ _ h => h, fun _ _ _ _ h => h, fun _ _ _ _ h => h, fun _ _ _ _ h => h, fun _ _ _ _ h => h, fun _ _ _ _ h => h, fun _ _ _ _ h => h, fun _ _ _ _ h => h, fun _ _ _ _ h => h, fun _ _ _ _ h => h, fun _ _ _ _ h => h, trivial⟩
      case g0 => exact ⟨rfl, rfl, rfl, Nat.le_refl _, fun _ _ => rfl⟩
      case os =>
        refine ⟨?_, ?_, ?_, ?_, ?_, ?_, ?_, ?_, ?_, ?_, ?_, ?_, ?_, ?_, ?_, ?_, ?_, ?_, ?_, ?_, ?_, ?_, ?_, ?_, trivial⟩
        · exact fun ρ X9 fl hg hn hl hp ho hc hf hr => .inl ⟨rfl, Runs.val _ (op_move (show ρ (.tmp 5) = .slice (some ⟨g1, 0, none⟩) L.length lc from ho 5 rfl)) ⟨hg, Below.refl _ _, rfl⟩⟩
        · exact fun ρ X9 fl hg hn hl hp ho hc hf hr => .inl ⟨rfl, Runs.val _ (op_move (show ρ (.tmp 8) = .int .i64 (i : Int) from ho 8 rfl)) ⟨hg, Below.refl _ _, rfl⟩⟩
        · exact fun ρ X9 fl hg hn hl hp ho hc hf hr => .inl ⟨rfl, Runs.val _ (op_i55 (show ρ (.tmp 32) = .slice (some ⟨g1, 0, none⟩) L.length lc from hr 0 32 rfl rfl) (show ρ (.tmp 33) = .int .i64 (i : Int) from hr 1 33 rfl rfl) HLT.out) ⟨hg, Below.refl _ _, rfl⟩⟩
        · exact fun ρ X9 fl hg hn hl hp ho hc hf hr => .inl ⟨rfl, Runs.val _ (op_f78_0 (show ρ (.tmp 34) = .pointer (some ⟨g1, 0 + i * 31, none⟩) from hr 2 34 rfl rfl)) ⟨hg, Below.refl _ _, rfl⟩⟩
        · exact fun ρ X9 fl hg hn hl hp ho hc hf hr => .inl ⟨rfl, Runs.val _ (op_load3 (show ρ (.tmp 35) = .pointer (some ⟨g1, 0 + i * 31, none⟩) from hr 3 35 rfl rfl) (cell_on hg HM.out.1)) ⟨hg, Below.refl _ _, rfl⟩⟩
        · exact fun ρ X9 fl hg hn hl hp ho hc hf hr => .inl ⟨rfl, Runs.val _ (op_move (show ρ (.tmp 6) = .slice (some ⟨ga, 0, none⟩) L.length ac from ho 6 rfl)) ⟨hg, Below.refl _ _, rfl⟩⟩
        · exact fun ρ X9 fl hg hn hl hp ho hc hf hr => .inl ⟨rfl, Runs.val _ (op_move (show ρ (.tmp 8) = .int .i64 (i : Int) from ho 8 rfl)) ⟨hg, Below.refl _ _, rfl⟩⟩
        · exact fun ρ X9 fl hg hn hl hp ho hc hf hr => .inl ⟨rfl, Runs.val _ (op_i116 (show ρ (.tmp 37) = .slice (some ⟨ga, 0, none⟩) L.length ac from hr 5 37 rfl rfl) (show ρ (.tmp 38) = .int .i64 (i : Int) from hr 6 38 rfl rfl) HLT.out) ⟨hg, Below.refl _ _, rfl⟩⟩
        · exact fun ρ X9 fl hg hn hl hp ho hc hf hr => .inl ⟨rfl, Runs.val _ (op_load3 (show ρ (.tmp 39) = .pointer (some ⟨ga, 0 + i, none⟩) from hr 7 39 rfl rfl) (cell_on hg HM.out.2.1)) ⟨hg, Below.refl _ _, rfl⟩⟩
        · exact fun ρ X9 fl hg hn hl hp ho hc hf hr => .inl ⟨rfl, Runs.val _ (op_neq3 (show ρ (.tmp 36) = .int .i64 sh from hr 4 36 rfl rfl) (show ρ (.tmp 40) = .int .i64 sh from hr 8 40 rfl rfl) (by simp)) ⟨hg, Below.refl _ _, rfl⟩⟩
        · exact fun ρ X9 fl hg hn hl hp ho hc hf hr => .inl ⟨rfl, Runs.val _ (op_move (show ρ (.tmp 41) = .bool false from hr 9 41 rfl rfl)) ⟨hg, Below.refl _ _, rfl⟩⟩
        · exact fun ρ X9 fl hg hn hl hp ho hc hf hr => .inr (.inl ⟨10, 42, false, fun _ => rfl, rfl, hr 10 42 rfl rfl, Runs.val _ (op_move (show ρ (.tmp 5) = .slice (some ⟨g1, 0, none⟩) L.length lc from ho 5 rfl)) ⟨hg, Below.refl _ _, rfl⟩⟩)
        · exact fun ρ X9 fl hg hn hl hp ho hc hf hr => .inr (.inl ⟨10, 42, false, fun _ => rfl, rfl, hr 10 42 rfl rfl, Runs.val _ (op_move (show ρ (.tmp 8) = .int .i64 (i : Int) from ho 8 rfl)) ⟨hg, Below.refl _ _, rfl⟩⟩)
        · exact fun ρ X9 fl hg hn hl hp ho hc hf hr => .inr (.inl ⟨10, 42, false, fun _ => rfl, rfl, hr 10 42 rfl rfl, Runs.val _ (op_i55 (show ρ (.tmp 43) = .slice (some ⟨g1, 0, none⟩) L.length lc from hr 11 43 rfl rfl) (show ρ (.tmp 44) = .int .i64 (i : Int) from hr 12 44 rfl rfl) HLT.out) ⟨hg, Below.refl _ _, rfl⟩⟩)
        · exact fun ρ X9 fl hg hn hl hp ho hc hf hr => .inr (.inl ⟨10, 42, false, fun _ => rfl, rfl, hr 10 42 rfl rfl, Runs.val _ (op_f78_1 (show ρ (.tmp 45) = .pointer (some ⟨g1, 0 + i * 31, none⟩) from hr 13 45 rfl rfl)) ⟨hg, Below.refl _ _, rfl⟩⟩)
        · exact fun ρ X9 fl hg hn hl hp ho hc hf hr => .inr (.inl ⟨10, 42, false, fun _ => rfl, rfl, hr 10 42 rfl rfl, Runs.val _ (op_loadAt (show ρ (.tmp 46) = .pointer (some ⟨g1, 0 + i * 31 + 1, none⟩) from hr 14 46 rfl rfl) (run_loadAt_mid X9 g1 (0 + i * 31 + 1) 76 (cmL ⟨sh, kd, t0, t1, t2, home, ⟨ra, 0, rc⟩, ⟨wa, 0, wc⟩, mn, til, ts, ver, call⟩) _ (fun j u hu => cell_on hg (HM.out.2.2.1 j u hu)) Try.underlying76 rfl size76)) ⟨hg, Below.refl _ _, rfl⟩⟩)
        · intro ρ X9 fl hg hn hl hp ho hc hf hr
          refine .inr (.inl ⟨10, 42, false, fun _ => rfl, rfl, hr 10 42 rfl rfl, ?_⟩)
          refine Runs.goes 48 #[.agg (cmA ⟨sh, kd, t0, t1, t2, home, ⟨ra, 0, rc⟩, ⟨wa, 0, wc⟩, mn, til, ts, ver, call⟩)] (op_call1 hf (by go_simp) (show ρ (.tmp 47) = .agg (cmA ⟨sh, kd, t0, t1, t2, home, ⟨ra, 0, rc⟩, ⟨wa, 0, wc⟩, mn, til, ts, ver, call⟩) from hr 15 47 rfl rfl)) ((HT1.out X9).mono ?_)
          rintro e7 w7 ⟨rfl, b7⟩
          exact ⟨_, rfl, bgo hg b7, b7, rfl⟩
        · exact fun ρ X9 fl hg hn hl hp ho hc hf hr => .inr (.inl ⟨10, 42, false, fun _ => rfl, rfl, hr 10 42 rfl rfl, Runs.val _ (op_move (show ρ (.tmp 7) = .slice (some ⟨go, 0, none⟩) L.length oc from ho 7 rfl)) ⟨hg, Below.refl _ _, rfl⟩⟩)
        · exact fun ρ X9 fl hg hn hl hp ho hc hf hr => .inr (.inl ⟨10, 42, false, fun _ => rfl, rfl, hr 10 42 rfl rfl, Runs.val _ (op_move (show ρ (.tmp 8) = .int .i64 (i : Int) from ho 8 rfl)) ⟨hg, Below.refl _ _, rfl⟩⟩)
        · exact fun ρ X9 fl hg hn hl hp ho hc hf hr => .inr (.inl ⟨10, 42, false, fun _ => rfl, rfl, hr 10 42 rfl rfl, Runs.val _ (op_i117 (show ρ (.tmp 49) = .slice (some ⟨go, 0, none⟩) L.length oc from hr 17 49 rfl rfl) (show ρ (.tmp 50) = .int .i64 (i : Int) from hr 18 50 rfl rfl) HLT.out) ⟨hg, Below.refl _ _, rfl⟩⟩)
        · exact fun ρ X9 fl hg hn hl hp ho hc hf hr => .inr (.inl ⟨10, 42, false, fun _ => rfl, rfl, hr 10 42 rfl rfl, Runs.val _ (op_loadAt (show ρ (.tmp 51) = .pointer (some ⟨go, 0 + i * 30, none⟩) from hr 19 51 rfl rfl) (run_loadAt_mid X9 go (0 + i * 30) 76 (cmL ⟨sh, kd, t0, t1, t2, home, .nil, .nil, mn, til, ts, ver, call⟩) _ (fun j u hu => cell_on hg (HM.out.2.2.2 j u hu)) Try.underlying76 rfl size76)) ⟨hg, Below.refl _ _, rfl⟩⟩)
        · intro ρ X9 fl hg hn hl hp ho hc hf hr
          refine .inr (.inl ⟨10, 42, false, fun _ => rfl, rfl, hr 10 42 rfl rfl, ?_⟩)
          refine Runs.goes 48 #[.agg (cmA ⟨sh, kd, t0, t1, t2, home, .nil, .nil, mn, til, ts, ver, call⟩)] (op_call1 hf (by go_simp) (show ρ (.tmp 52) = .agg (cmA ⟨sh, kd, t0, t1, t2, home, .nil, .nil, mn, til, ts, ver, call⟩) from hr 20 52 rfl rfl)) ((HT2.out X9).mono ?_)
          rintro e7 w7 ⟨rfl, b7⟩
          exact ⟨_, rfl, bgo hg b7, b7, rfl⟩
        · exact fun ρ X9 fl hg hn hl hp ho hc hf hr => .inr (.inl ⟨10, 42, false, fun _ => rfl, rfl, hr 10 42 rfl rfl, Runs.val _ (op_neq9s (show ρ (.tmp 48) = .string tx from hr 16 48 rfl rfl) (show ρ (.tmp 53) = .string tx from hr 21 53 rfl rfl)) ⟨hg, Below.refl _ _, rfl⟩⟩)
        · exact fun ρ X9 fl hg hn hl hp ho hc hf hr => .inl ⟨rfl, Runs.val _ (op_pick (show ρ (.tmp 42) = .bool false from hr 10 42 rfl rfl) (show (if false then _ else ρ (.tmp 54)) = .bool false from hr 22 54 rfl rfl)) ⟨hg, Below.refl _ _, rfl⟩⟩
      case en =>
        intro a9 w6 fl hfl hG9 hs9 hd9 ho9 hr9
        obtain ⟨x9, hx, hxt⟩ := act_put hs9 hd9 ho9
        have xk55 : x9 55 = .bool false := (hxt 55).symm.trans (hr9 23 55 rfl)
        change a9 = putAll _ x9 [32, 33, 34, 35, 36, 37, 38, 39, 40, 41, 42, 43, 44, 45, 46, 47, 48, 49, 50, 51, 52, 53, 54, 55] at hx
        simp only [putAll, Act.put, List.setIfInBounds_toArray, List.set_cons_zero, List.set_cons_succ, xk55] at hx
        subst hx
        clear hs9 hd9 ho9 hr9 hxt hfl xk55
        generalize x9 32 = z32, x9 33 = z33, x9 34 = z34, x9 35 = z35, x9 36 = z36, x9 37 = z37, x9 38 = z38, x9 39 = z39, x9 40 = z40, x9 41 = z41, x9 42 = z42, x9 43 = z43, x9 44 = z44, x9 45 = z45, x9 46 = z46, x9 47 = z47, x9 48 = z48, x9 49 = z49, x9 50 = z50, x9 51 = z51, x9 52 = z52, x9 53 = z53, x9 54 = z54
        have HB6 := Lib.hid (bgo HBV.out hG9)
        have x8 : w6.cell? ⟨g1, i * 31 + 1 + 8, none⟩ = some (.slice ra 0 rc) := cell_on hG9 HX89.out.1
        have x9 : w6.cell? ⟨g1, i * 31 + 1 + 9, none⟩ = some (.slice wa 0 wc) := cell_on hG9 HX89.out.2
        clear hG9
        go_wp2
        go_loopw [63] (fun iv wr => iv = .int .i64 0 ∧ wr = w6) (fun _ _ => 0)
        case atStart => exact ⟨rfl, rfl⟩
        case round =>
          obtain ⟨rfl, rfl⟩ := hrel
          go_wp2
          go_loopw [83] (fun iv wr9 => iv = .int .i64 0 ∧ wr9 = wr) (fun _ _ => 0)
          case atStart => exact ⟨rfl, rfl⟩
          case round =>
            obtain ⟨rfl, rfl⟩ := hrel
            go_wp2
            go_roundw
            case rel => exact ⟨i + 1, HLT.out, by go_num, HB6.out⟩
            case measure => simp [intOf]; omega
    · obtain rfl : i = L.length := by omega
      have k1 : ¬ (L.length : Int) < L.length := by omega
      have hv := verdict_any (HPD2.out.on hb).dx
      have HV := Lib.hid hv
      have HBV := Lib.hid hb
      clear hb hv
      go_wp2_with fail
      refine HV.out.mono ?_
      rintro e v4 ⟨rfl, b4⟩
      have HB4 := Lib.hid (bgo HBV.out b4)
      have HPD4 := Lib.hid (HPD2.out.on (bgo HBV.out b4))
      have HRS4 := Lib.hid (HRS2.out.on (bgo HBV.out b4))
      clear b4 HV
      go_upto_region 26 with fail
      refine wp_region_fb (fun _ X9 => Below v4.heap.size v4 X9) (fun X9 X8 => Below X9.heap.size X9 X8) [
        fun v9 _ => v9 = .bool (decide (3 ≤ s.ph)),
        fun v9 _ => v9 = .pointer (some ⟨R, 0, none⟩),
        fun v9 _ => v9 = .pointer (some ⟨R, 0, none⟩),
        fun v9 _ => v9 = .pointer (some ⟨R, 9, none⟩),
        fun v9 _ => v9 = .int .i64 s.ph,
        fun v9 _ => v9 = .bool (decide (3 ≤ s.ph)),
        fun v9 _ => v9 = .bool true,
        fun v9 _ => v9 = .bool true,
        fun v9 _ => v9 = .pointer (some ⟨A, 0, none⟩),
        fun v9 _ => v9 = .bool (decide (s.ph = 0) || decide (s.ph = 4)),
        fun v9 _ => v9 = .pointer (some ⟨R, 0, none⟩),
        fun v9 _ => v9 = .pointer (some ⟨R, 0, none⟩),
        fun v9 _ => v9 = .pointer (some ⟨R, 9, none⟩),
        fun v9 _ => v9 = .int .i64 s.ph,
        fun v9 _ => v9 = .bool (decide (s.ph = 4)),
        fun v9 _ => v9 = .bool true,
        fun v9 _ => v9 = .bool true,
        fun v9 _ => v9 = .bool true,
        fun v9 _ => v9 = .bool (decide (3 ≤ s.ph)),
        fun v9 _ => v9 = .bool false,
        fun v9 _ => v9 = .bool false,
        fun v9 _ => v9 = .int .i64 s.ts,
        fun v9 _ => v9 = .pointer (some ⟨R, 0, none⟩),
        fun v9 _ => v9 = .pointer (some ⟨R, 0, none⟩),
        fun v9 _ => v9 = .pointer (some ⟨R, 11, none⟩),
        fun v9 _ => v9 = .int .i64 s.ts,
        fun v9 _ => v9 = .bool true,
        fun v9 _ => v9 = .bool true,
        fun v9 _ => v9 = .int .i64 s.why,
        fun v9 _ => v9 = .pointer (some ⟨R, 0, none⟩),
        fun v9 _ => v9 = .pointer (some ⟨R, 0, none⟩),
        fun v9 _ => v9 = .pointer (some ⟨R, 12, none⟩),
        fun v9 _ => v9 = .int .i64 s.why,
        fun v9 _ => v9 = .bool true,
        fun v9 _ => v9 = .bool true,
        fun v9 _ => v9 = .bool true,
        fun v9 _ => v9 = .bool true,
        fun v9 _ => v9 = .bool true]
        (by kernel_rfl) (by kernel_rfl) (by kernel_rfl) ?st ?g0 ?os ?en
      case st => exact ⟨fun _ _ _ _ h => h, fun _ _ _ _ h => h, fun _ _ _ _ h => h, fun _ _ _ _ h => h, fun _ _ _ _ h => h, fun _ _ _ _ h => h, fun _ _ _ _ h => h, fun _ _ _ _ h => h, fun _ _ _ _ h => h, fun _ _ _ _ h => h, fun _ _ _ _ h => h, fun _ _ _ _ h => h, fun _ _ _ _ h => h, fun _ _ _ _ h => h, fun _ _ _ _ h => h, fun _ _ _ _ h => h, fun _ _ _ _ h => h, fun _ _ _ _ h => h, fun _ _ _ _ h => h, fun _ _ _ _ h => h, fun _ _ _ _ h => h, fun _ _ _ _ h => h, fun _ _ _ _ h => h, fun _ _ _ _ h => h, fun _ _ _ _ h => h, fun _ _ _ _ h => h, fun _ _ _ _ h => h, fun _ _ _ _ h => h, fun _ _ _ _ h => h, fun _ _ _ _ h => h, fun _ _ _ _ h => h, fun _ _ _ _ h => h, fun _ _ _ _ h => h, fun _ _ _ _ h => h, fun _ _ _ _ h => h, fun _ _ _ _ h => h, fun _ _ _ _ h => h, fun _ _ _ _ h => h, trivial⟩
      case g0 => exact ⟨rfl, rfl, rfl, Nat.le_refl _, fun _ _ => rfl⟩
      case os =>
        refine ⟨?_, ?_, ?_, ?_, ?_, ?_, ?_, ?_, ?_, ?_, ?_, ?_, ?_, ?_, ?_, ?_, ?_, ?_, ?_, ?_, ?_, ?_, ?_, ?_, ?_, ?_, ?_, ?_, ?_, ?_, ?_, ?_, ?_, ?_, ?_, ?_, ?_, ?_, trivial⟩
        · exact fun ρ X9 fl hg hn hl hp ho hc hf hr => .inl ⟨rfl, Runs.val _ (op_move (show ρ (.tmp 14) = .bool (decide (3 ≤ s.ph)) from ho 14 rfl)) ⟨hg, Below.refl _ _, rfl⟩⟩
        · exact fun ρ X9 fl hg hn hl hp ho hc hf hr => .inl ⟨rfl, Runs.val _ (op_move (show ρ (.tmp 1) = .pointer (some ⟨R, 0, none⟩) from ho 1 rfl)) ⟨hg, Below.refl _ _, rfl⟩⟩
        · exact fun ρ X9 fl hg hn hl hp ho hc hf hr => .inl ⟨rfl, Runs.val _ (op_nil (show ρ (.tmp 123) = .pointer (some ⟨R, 0, none⟩) from hr 1 123 rfl rfl)) ⟨hg, Below.refl _ _, rfl⟩⟩
        · exact fun ρ X9 fl hg hn hl hp ho hc hf hr => .inl ⟨rfl, Runs.val _ (op_f87_7 (show ρ (.tmp 124) = .pointer (some ⟨R, 0, none⟩) from hr 2 124 rfl rfl)) ⟨hg, Below.refl _ _, rfl⟩⟩
        · exact fun ρ X9 fl hg hn hl hp ho hc hf hr => .inl ⟨rfl, Runs.val _ (op_load3 (show ρ (.tmp 125) = .pointer (some ⟨R, 9, none⟩) from hr 3 125 rfl rfl) (cell_on hg (HRS4.out.rx.cell 9))) ⟨hg, Below.refl _ _, rfl⟩⟩
        · exact fun ρ X9 fl hg hn hl hp ho hc hf hr => .inl ⟨rfl, Runs.val _ (op_geq3 (show ρ (.tmp 126) = .int .i64 s.ph from hr 4 126 rfl rfl) (hc _) rfl) ⟨hg, Below.refl _ _, rfl⟩⟩
        · exact fun ρ X9 fl hg hn hl hp ho hc hf hr => .inl ⟨rfl, Runs.val _ (op_eql4 (show ρ (.tmp 122) = .bool (decide (3 ≤ s.ph)) from hr 0 122 rfl rfl) (show ρ (.tmp 127) = .bool (decide (3 ≤ s.ph)) from hr 5 127 rfl rfl) (by simp)) ⟨hg, Below.refl _ _, rfl⟩⟩
        · exact fun ρ X9 fl hg hn hl hp ho hc hf hr => .inl ⟨rfl, Runs.val _ (op_move (show ρ (.tmp 128) = .bool true from hr 6 128 rfl rfl)) ⟨hg, Below.refl _ _, rfl⟩⟩
        · exact fun ρ X9 fl hg hn hl hp ho hc hf hr => .inr (.inl ⟨7, 129, true, fun _ => rfl, rfl, hr 7 129 rfl rfl, Runs.val _ (op_move (show ρ (.tmp 0) = .pointer (some ⟨A, 0, none⟩) from ho 0 rfl)) ⟨hg, Below.refl _ _, rfl⟩⟩)
        · intro ρ X9 fl hg hn hl hp ho hc hf hr
          refine .inr (.inl ⟨7, 129, true, fun _ => rfl, rfl, hr 7 129 rfl rfl, ?_⟩)
          refine Runs.goes 18 #[.pointer (some ⟨A, 0, none⟩)] (op_call1 hf (by go_simp) (show ρ (.tmp 130) = .pointer (some ⟨A, 0, none⟩) from hr 8 130 rfl rfl)) ((over_any (HPD4.out.on hg).dx).mono ?_)
          rintro e7 w7 ⟨rfl, e7⟩
          subst e7
          exact ⟨_, rfl, hg, Below.refl _ _, rfl⟩
        · exact fun ρ X9 fl hg hn hl hp ho hc hf hr => .inr (.inl ⟨7, 129, true, fun _ => rfl, rfl, hr 7 129 rfl rfl, Runs.val _ (op_move (show ρ (.tmp 1) = .pointer (some ⟨R, 0, none⟩) from ho 1 rfl)) ⟨hg, Below.refl _ _, rfl⟩⟩)
        · exact fun ρ X9 fl hg hn hl hp ho hc hf hr => .inr (.inl ⟨7, 129, true, fun _ => rfl, rfl, hr 7 129 rfl rfl, Runs.val _ (op_nil (show ρ (.tmp 132) = .pointer (some ⟨R, 0, none⟩) from hr 10 132 rfl rfl)) ⟨hg, Below.refl _ _, rfl⟩⟩)
        · exact fun ρ X9 fl hg hn hl hp ho hc hf hr => .inr (.inl ⟨7, 129, true, fun _ => rfl, rfl, hr 7 129 rfl rfl, Runs.val _ (op_f87_7 (show ρ (.tmp 133) = .pointer (some ⟨R, 0, none⟩) from hr 11 133 rfl rfl)) ⟨hg, Below.refl _ _, rfl⟩⟩)
        · exact fun ρ X9 fl hg hn hl hp ho hc hf hr => .inr (.inl ⟨7, 129, true, fun _ => rfl, rfl, hr 7 129 rfl rfl, Runs.val _ (op_load3 (show ρ (.tmp 134) = .pointer (some ⟨R, 9, none⟩) from hr 12 134 rfl rfl) (cell_on hg (HRS4.out.rx.cell 9))) ⟨hg, Below.refl _ _, rfl⟩⟩)
        · exact fun ρ X9 fl hg hn hl hp ho hc hf hr => .inr (.inl ⟨7, 129, true, fun _ => rfl, rfl, hr 7 129 rfl rfl, Runs.val _ (op_eql3 (show ρ (.tmp 135) = .int .i64 s.ph from hr 13 135 rfl rfl) (hc _) rfl) ⟨hg, Below.refl _ _, rfl⟩⟩)
        · exact fun ρ X9 fl hg hn hl hp ho hc hf hr => .inr (.inl ⟨7, 129, true, fun _ => rfl, rfl, hr 7 129 rfl rfl, Runs.val _ (op_eql4 (show ρ (.tmp 131) = .bool (decide (s.ph = 0) || decide (s.ph = 4)) from hr 9 131 rfl rfl) (show ρ (.tmp 136) = .bool (decide (s.ph = 4)) from hr 14 136 rfl rfl) HOV.out) ⟨hg, Below.refl _ _, rfl⟩⟩)
        · exact fun ρ X9 fl hg hn hl hp ho hc hf hr => .inl ⟨rfl, Runs.val _ (op_pick (show ρ (.tmp 129) = .bool true from hr 7 129 rfl rfl) (show (if true then ρ (.tmp 137) else _) = .bool true from hr 15 137 rfl rfl)) ⟨hg, Below.refl _ _, rfl⟩⟩
        · exact fun ρ X9 fl hg hn hl hp ho hc hf hr => .inl ⟨rfl, Runs.val _ (op_move (show ρ (.tmp 138) = .bool true from hr 16 138 rfl rfl)) ⟨hg, Below.refl _ _, rfl⟩⟩
        · exact fun ρ X9 fl hg hn hl hp ho hc hf hr => .inr (.inl ⟨17, 139, true, fun _ => rfl, rfl, hr 17 139 rfl rfl, Runs.val _ (op_move (show ρ (.tmp 14) = .bool (decide (3 ≤ s.ph)) from ho 14 rfl)) ⟨hg, Below.refl _ _, rfl⟩⟩)
        · exact fun ρ X9 fl hg hn hl hp ho hc hf hr => .inr (.inl ⟨17, 139, true, fun _ => rfl, rfl, hr 17 139 rfl rfl, Runs.val _ (op_notK HKN.out (show ρ (.tmp 140) = .bool (decide (3 ≤ s.ph)) from hr 18 140 rfl rfl)) ⟨hg, Below.refl _ _, rfl⟩⟩)
        · exact fun ρ X9 fl hg hn hl hp ho hc hf hr => .inr (.inl ⟨17, 139, true, fun _ => rfl, rfl, hr 17 139 rfl rfl, Runs.val _ (op_move (show ρ (.tmp 141) = .bool false from hr 19 141 rfl rfl)) ⟨hg, Below.refl _ _, rfl⟩⟩)
        · exact fun ρ X9 fl hg hn hl hp ho hc hf hr => .inr (.inl ⟨20, 142, false, fun _ => rfl, rfl, hr 20 142 rfl rfl, Runs.val _ (op_move (show ρ (.tmp 12) = .int .i64 s.ts from ho 12 rfl)) ⟨hg, Below.refl _ _, rfl⟩⟩)
        · exact fun ρ X9 fl hg hn hl hp ho hc hf hr => .inr (.inl ⟨20, 142, false, fun _ => rfl, rfl, hr 20 142 rfl rfl, Runs.val _ (op_move (show ρ (.tmp 1) = .pointer (some ⟨R, 0, none⟩) from ho 1 rfl)) ⟨hg, Below.refl _ _, rfl⟩⟩)
        · exact fun ρ X9 fl hg hn hl hp ho hc hf hr => .inr (.inl ⟨20, 142, false, fun _ => rfl, rfl, hr 20 142 rfl rfl, Runs.val _ (op_nil (show ρ (.tmp 144) = .pointer (some ⟨R, 0, none⟩) from hr 22 144 rfl rfl)) ⟨hg, Below.refl _ _, rfl⟩⟩)
        · exact fun ρ X9 fl hg hn hl hp ho hc hf hr => .inr (.inl ⟨20, 142, false, fun _ => rfl, rfl, hr 20 142 rfl rfl, Runs.val _ (op_f87_9 (show ρ (.tmp 145) = .pointer (some ⟨R, 0, none⟩) from hr 23 145 rfl rfl)) ⟨hg, Below.refl _ _, rfl⟩⟩)
        · exact fun ρ X9 fl hg hn hl hp ho hc hf hr => .inr (.inl ⟨20, 142, false, fun _ => rfl, rfl, hr 20 142 rfl rfl, Runs.val _ (op_load3 (show ρ (.tmp 146) = .pointer (some ⟨R, 11, none⟩) from hr 24 146 rfl rfl) (cell_on hg (HRS4.out.rx.cell 11))) ⟨hg, Below.refl _ _, rfl⟩⟩)
        · exact fun ρ X9 fl hg hn hl hp ho hc hf hr => .inr (.inl ⟨20, 142, false, fun _ => rfl, rfl, hr 20 142 rfl rfl, Runs.val _ (op_eql3 (show ρ (.tmp 143) = .int .i64 s.ts from hr 21 143 rfl rfl) (show ρ (.tmp 147) = .int .i64 s.ts from hr 25 147 rfl rfl) (by simp)) ⟨hg, Below.refl _ _, rfl⟩⟩)
        · exact fun ρ X9 fl hg hn hl hp ho hc hf hr => .inr (.inl ⟨20, 142, false, fun _ => rfl, rfl, hr 20 142 rfl rfl, Runs.val _ (op_move (show ρ (.tmp 148) = .bool true from hr 26 148 rfl rfl)) ⟨hg, Below.refl _ _, rfl⟩⟩)
        · exact fun ρ X9 fl hg hn hl hp ho hc hf hr => .inr (.inl ⟨27, 149, true, fun _ => rfl, rfl, hr 27 149 rfl rfl, Runs.val _ (op_move (show ρ (.tmp 13) = .int .i64 s.why from ho 13 rfl)) ⟨hg, Below.refl _ _, rfl⟩⟩)
        · exact fun ρ X9 fl hg hn hl hp ho hc hf hr => .inr (.inl ⟨27, 149, true, fun _ => rfl, rfl, hr 27 149 rfl rfl, Runs.val _ (op_move (show ρ (.tmp 1) = .pointer (some ⟨R, 0, none⟩) from ho 1 rfl)) ⟨hg, Below.refl _ _, rfl⟩⟩)
        · exact fun ρ X9 fl hg hn hl hp ho hc hf hr => .inr (.inl ⟨27, 149, true, fun _ => rfl, rfl, hr 27 149 rfl rfl, Runs.val _ (op_nil (show ρ (.tmp 151) = .pointer (some ⟨R, 0, none⟩) from hr 29 151 rfl rfl)) ⟨hg, Below.refl _ _, rfl⟩⟩)
        · exact fun ρ X9 fl hg hn hl hp ho hc hf hr => .inr (.inl ⟨27, 149, true, fun _ => rfl, rfl, hr 27 149 rfl rfl, Runs.val _ (op_f87_10 (show ρ (.tmp 152) = .pointer (some ⟨R, 0, none⟩) from hr 30 152 rfl rfl)) ⟨hg, Below.refl _ _, rfl⟩⟩)
        · exact fun ρ X9 fl hg hn hl hp ho hc hf hr => .inr (.inl ⟨27, 149, true, fun _ => rfl, rfl, hr 27 149 rfl rfl, Runs.val _ (op_load3 (show ρ (.tmp 153) = .pointer (some ⟨R, 12, none⟩) from hr 31 153 rfl rfl) (cell_on hg (HRS4.out.rx.cell 12))) ⟨hg, Below.refl _ _, rfl⟩⟩)
        · exact fun ρ X9 fl hg hn hl hp ho hc hf hr => .inr (.inl ⟨27, 149, true, fun _ => rfl, rfl, hr 27 149 rfl rfl, Runs.val _ (op_eql3 (show ρ (.tmp 150) = .int .i64 s.why from hr 28 150 rfl rfl) (show ρ (.tmp 154) = .int .i64 s.why from hr 32 154 rfl rfl) (by simp)) ⟨hg, Below.refl _ _, rfl⟩⟩)
        · exact fun ρ X9 fl hg hn hl hp ho hc hf hr => .inr (.inl ⟨20, 142, false, fun _ => rfl, rfl, hr 20 142 rfl rfl, Runs.val _ (op_pick (show ρ (.tmp 149) = .bool true from hr 27 149 rfl rfl) (show (if true then ρ (.tmp 155) else _) = .bool true from hr 33 155 rfl rfl)) ⟨hg, Below.refl _ _, rfl⟩⟩)
        · exact fun ρ X9 fl hg hn hl hp ho hc hf hr => .inr (.inl ⟨17, 139, true, fun _ => rfl, rfl, hr 17 139 rfl rfl, Runs.val _ (op_pick (show ρ (.tmp 142) = .bool false from hr 20 142 rfl rfl) (show (if false then _ else ρ (.tmp 156)) = .bool true from hr 34 156 rfl rfl)) ⟨hg, Below.refl _ _, rfl⟩⟩)
        · exact fun ρ X9 fl hg hn hl hp ho hc hf hr => .inl ⟨rfl, Runs.val _ (op_pick (show ρ (.tmp 139) = .bool true from hr 17 139 rfl rfl) (show (if true then ρ (.tmp 157) else _) = .bool true from hr 35 157 rfl rfl)) ⟨hg, Below.refl _ _, rfl⟩⟩
        · exact fun ρ X9 fl hg hn hl hp ho hc hf hr => .inl ⟨rfl, Runs.val _ (op_assign (show ρ (.tmp 158) = .bool true from hr 36 158 rfl rfl)) ⟨hg, Below.refl _ _, rfl⟩⟩
      case en =>
        intro a9 w6 fl hfl hG9 hs9 hd9 ho9 hr9
        obtain ⟨x9, hx, hxt⟩ := act_put hs9 hd9 ho9
        have xk4 : x9 4 = .bool true := (hxt 4).symm.trans (hr9 37 4 rfl)
        change a9 = putAll _ x9 [122, 123, 124, 125, 126, 127, 128, 129, 130, 131, 132, 133, 134, 135, 136, 137, 138, 139, 140, 141, 142, 143, 144, 145, 146, 147, 148, 149, 150, 151, 152, 153, 154, 155, 156, 157, 158, 4] at hx
        simp only [putAll, Act.put, List.setIfInBounds_toArray, List.set_cons_zero, List.set_cons_succ, xk4] at hx
        subst hx
        clear hs9 hd9 ho9 hr9 hxt hfl xk4
        generalize x9 122 = z122, x9 123 = z123, x9 124 = z124, x9 125 = z125, x9 126 = z126, x9 127 = z127, x9 128 = z128, x9 129 = z129, x9 130 = z130, x9 131 = z131, x9 132 = z132, x9 133 = z133, x9 134 = z134, x9 135 = z135, x9 136 = z136, x9 137 = z137, x9 138 = z138, x9 139 = z139, x9 140 = z140, x9 141 = z141, x9 142 = z142, x9 143 = z143, x9 144 = z144, x9 145 = z145, x9 146 = z146, x9 147 = z147, x9 148 = z148, x9 149 = z149, x9 150 = z150, x9 151 = z151, x9 152 = z152, x9 153 = z153, x9 154 = z154, x9 155 = z155, x9 156 = z156, x9 157 = z157, x9 158 = z158
        have HE := Lib.hid (bgo HB2.out (bgo HB4.out hG9))
        clear hG9
        go_wp2
        refine bodyPost_ret (v := .bool true) (by simp [results, Try.results25, go_sem]) rfl ?_
        exact ⟨rfl, HE.out⟩
set_option maxHeartbeats 16000000 in
set_option maxRecDepth 100000 in
theorem same_no (h : PD w A g c s) (hr : RS w R b c s) (hA : ∀ a ∈ c.asks s, AkI a) (hkn : decide (3 ≤ s.ph) = false) : Calls Try.prog 25 #[.pointer (some ⟨A, 0, none⟩), .pointer (some ⟨R, 0, none⟩)] w fun e w' => e = .returned (.bool true) ∧ Below w.heap.size w w' := by
  have hph := hr.ph
  have hpa := pasks_any h hph
  obtain ⟨L, hL⟩ : ∃ L, c.asks s = L := ⟨_, rfl⟩
  have hll := asks_len c s
  rw [hL] at hpa hll hA
  have HL := Lib.hid hL
  have HPA := Lib.hid hpa
  have HPD := Lib.hid h
  have HRS := Lib.hid hr
  have HAI := Lib.hid hA
  have HPH := Lib.hid hph
  have hmx : (L.length : Int) ≤ 9223372036854775807 := by omega
  have HKN : Hid (decide (3 ≤ s.ph) = !true) := Lib.hid hkn
  have HOV : Hid (decide ((decide (s.ph = 0) || decide (s.ph = 4)) = decide (s.ph = 4)) = true) := Lib.hid (by
    have h0 : ¬ s.ph = 0 := by omega
    rw [decide_eq_false h0]
    simp)
  clear h hr hA hph hpa hL hll hkn
  go_enter Try.func25, Try.ntmps25
  go_wp2_with fail
  refine HPA.out.mono ?_
  rintro e v1 ⟨la, lc, K, rfl, hk, o1, hks, b1⟩
  have hra := (HRS.out.on b1).asks
  rw [HL.out] at hra
  have HRA := Lib.hid hra
  have HB1 := Lib.hid b1
  have HO1 := Lib.hid o1
  have HKS := Lib.hid (And.intro hk hks)
  clear b1 o1 hk hks hra HPA
  go_wp2_with fail
  refine HRA.out.mono ?_
  rintro e v2 ⟨aa, ac, oa, oc, rfl, o2, o3, b2⟩
  have HB2 := Lib.hid (bgo HB1.out b2)
  have HO := Lib.hid (And.intro (own_below HO1.out b2) (And.intro o2 o3))
  have HPD2 := Lib.hid (HPD.out.on (bgo HB1.out b2))
  have HRS2 := Lib.hid (HRS.out.on (bgo HB1.out b2))
  clear b2 o2 o3 HRA HO1 HB1
  go_wp2
  go_loopw [29] (fun iv wr => ∃ i : Nat, i ≤ L.length ∧ iv = .int .i64 (i : Int) ∧ Below v2.heap.size v2 wr) (fun iv _ => L.length - (intOf iv).toNat)
  case atStart => exact ⟨0, Nat.zero_le _, rfl, Below.refl _ _⟩
  case round =>
    obtain ⟨i, hi, rfl, hb⟩ := hrel
    obtain ⟨V, rfl⟩ : ∃ V, V = wr := ⟨_, rfl⟩
    by_cases hlt : i < L.length
    · have hiK : i < K.length := by rw [HKS.out.1]; exact hlt
      obtain ⟨g1, rfl⟩ := some_row HO.out.1 (by omega)
      obtain ⟨ga, rfl⟩ := some_row HO.out.2.1 (by omega)
      obtain ⟨go, rfl⟩ := some_row HO.out.2.2 (by omega)
      obtain ⟨ra, rc, wa, wc, hKi⟩ := HKS.out.2 i hlt hiK
      have hai := HAI.out L[i] (List.getElem_mem hlt)
      have hnn : L[i].r = .nil ∧ L[i].w = .nil := asks_none (c := c) (s := s) L[i] (by rw [HL.out]; exact List.getElem_mem hlt)
      have q1 : ∀ k, k < 31 → V.cell? ⟨g1, i * 31 + k, none⟩ = (akL K[i])[k]? := fun k hk => row_cell (f := akL) (fun _ => rfl) (own_below HO.out.1 hb) hiK HKS.out.1 hk
      have q2 : V.cell? ⟨ga, i * 1 + 0, none⟩ = ([Value.int .i64 L[i].sh])[0]? := row_cell (f := fun a : Ak => [Value.int .i64 a.sh]) (fun _ => rfl) (by have h9 := HO.out.2.1; rw [map_flat] at h9; exact own_below h9 hb) hlt rfl (by decide)
      have q3 : ∀ k, k < 30 → V.cell? ⟨go, i * 30 + k, none⟩ = (cmL L[i])[k]? := fun k hk => row_cell (f := cmL) (fun _ => rfl) (own_below HO.out.2.2 hb) hlt rfl hk
      rw [hKi] at q1
      generalize L[i] = a0 at *
      obtain ⟨sh, kd, t0, t1, t2, home, ar, aw, mn, til, ts, ver, call⟩ := a0
      obtain ⟨e1, e2⟩ := hnn
      simp only at e1 e2
      subst e1 e2
      have ht1 : Tells 48 #[.agg (cmA ⟨sh, kd, t0, t1, t2, home, ⟨ra, 0, rc⟩, ⟨wa, 0, wc⟩, mn, til, ts, ver, call⟩)] _ := cmd_none (a := ⟨sh, kd, t0, t1, t2, home, .nil, .nil, mn, til, ts, ver, call⟩) hai
      have ht2 : Tells 48 #[.agg (cmA ⟨sh, kd, t0, t1, t2, home, .nil, .nil, mn, til, ts, ver, call⟩)] _ := cmd_none (a := ⟨sh, kd, t0, t1, t2, home, .nil, .nil, mn, til, ts, ver, call⟩) hai
      obtain ⟨tx, htx⟩ : ∃ tx, cmdN ⟨sh, kd, t0, t1, t2, home, .nil, .nil, mn, til, ts, ver, call⟩ = tx := ⟨_, rfl⟩
      rw [htx] at ht1 ht2
      have m0 : V.cell? ⟨g1, 0 + i * 31, none⟩ = some (.int .i64 sh) := by rw [Nat.zero_add]; exact q1 0 (by decide)
      have m1 : V.cell? ⟨ga, 0 + i, none⟩ = some (.int .i64 sh) := by rw [Nat.zero_add]; have h9 := q2; rw [Nat.mul_one, Nat.add_zero] at h9; exact h9
      have r1 : ∀ j u, (cmL ⟨sh, kd, t0, t1, t2, home, ⟨ra, 0, rc⟩, ⟨wa, 0, wc⟩, mn, til, ts, ver, call⟩)[j]? = some u → V.cell? ⟨g1, 0 + i * 31 + 1 + j, none⟩ = some u := fun j u hu => by
        have hj : j < 30 := (List.getElem?_eq_some_iff.1 hu).1
        rw [Nat.zero_add, Nat.add_assoc, q1 (1 + j) (by omega), Nat.add_comm 1 j]
        exact hu
      have r2 : ∀ j u, (cmL ⟨sh, kd, t0, t1, t2, home, .nil, .nil, mn, til, ts, ver, call⟩)[j]? = some u → V.cell? ⟨go, 0 + i * 30 + j, none⟩ = some u := fun j u hu => by
        have hj : j < 30 := (List.getElem?_eq_some_iff.1 hu).1
        rw [Nat.zero_add, q3 j hj]
        exact hu
      have x8 : V.cell? ⟨g1, i * 31 + 1 + 8, none⟩ = some (.slice ra 0 rc) := q1 9 (by decide)
      have x9 : V.cell? ⟨g1, i * 31 + 1 + 9, none⟩ = some (.slice wa 0 wc) := q1 10 (by decide)
      have HM := Lib.hid (And.intro m0 (And.intro m1 (And.intro r1 r2)))
      have HT1 := Lib.hid ht1
      have HT2 := Lib.hid ht2
      have HBV := Lib.hid hb
      have HX89 := Lib.hid (And.intro x8 x9)
      have HLT := Lib.hid hlt
      have k0 : (0 : Int) ≤ i := by omega
      have k1 : (i : Int) < L.length := by omega
      clear hb hai hKi q1 q2 q3 ht1 ht2 htx m0 m1 r1 r2 x8 x9 hiK
      go_upto_region 8 with fail
      refine wp_region_fb (fun _ X9 => Below V.heap.size V X9) (fun X9 X8 => Below X9.heap.size X9 X8) [
        fun v9 _ => v9 = .slice (some ⟨g1, 0, none⟩) L.length lc,
        fun v9 _ => v9 = .int .i64 (i : Int),
        fun v9 _ => v9 = .pointer (some ⟨g1, 0 + i * 31, none⟩),
        fun v9 _ => v9 = .pointer (some ⟨g1, 0 + i * 31, none⟩),
        fun v9 _ => v9 = .int .i64 sh,
        fun v9 _ => v9 = .slice (some ⟨ga, 0, none⟩) L.length ac,
        fun v9 _ => v9 = .int .i64 (i : Int),
        fun v9 _ => v9 = .pointer (some ⟨ga, 0 + i, none⟩),
        fun v9 _ => v9 = .int .i64 sh,
        fun v9 _ => v9 = .bool false,
        fun v9 _ => v9 = .bool false,
        fun v9 _ => v9 = .slice (some ⟨g1, 0, none⟩) L.length lc,
        fun v9 _ => v9 = .int .i64 (i : Int),
        fun v9 _ => v9 = .pointer (some ⟨g1, 0 + i * 31, none⟩),
        fun v9 _ => v9 = .pointer (some ⟨g1, 0 + i * 31 + 1, none⟩),
        fun v9 _ => v9 = .agg (cmA ⟨sh, kd, t0, t1, t2, home, ⟨ra, 0, rc⟩, ⟨wa, 0, wc⟩, mn, til, ts, ver, call⟩),
        fun v9 _ => v9 = .string tx,
        fun v9 _ => v9 = .slice (some ⟨go, 0, none⟩) L.length oc,
        fun v9 _ => v9 = .int .i64 (i : Int),
        fun v9 _ => v9 = .pointer (some ⟨go, 0 + i * 30, none⟩),
        fun v9 _ => v9 = .agg (cmA ⟨sh, kd, t0, t1, t2, home, .nil, .nil, mn, til, ts, ver, call⟩),
        fun v9 _ => v9 = .string tx,
        fun v9 _ => v9 = .bool false,
        fun v9 _ => v9 = .bool false]
        (by kernel_rfl) (by kernel_rfl) (by kernel_rfl) ?st ?g0 ?os ?en
      case st => exact ⟨fun _ _ _ _ h => h, fun _ _ _ _ h => h, fun _ _ _ _ h => h, fun _ _ _ _ h => h, fun _ _ _ _ h => h, fun _ _ _ _ h => h, fun _ _ _ _ h => h, fun _ _ _ _ h => h, fun _ _ _ _ h => h, fun _ _ _ _ h => h, fun _ _ _ _ h => h, fun _ _ _ _ h => h, fun _ _ _ _ h => h, fun _ _ _ _ h => h, fun _ _ _ _ h => h, fun _ _ _ _ h => h, fun _ _ _ _ h => h, fun _ _ _ _ h => h, fun _ _ _ _ h => h, fun _ _ _ _ h => h, fun _ _ _ _ h => h, fun _ _ _ _ h => h, fun _ _ _ _ h => h, fun _ _ _ _ h => h, trivial⟩
      case g0 => exact ⟨rfl, rfl, rfl, Nat.le_refl _, fun _ _ => rfl⟩
      case os =>
        refine ⟨?_, ?_, ?_, ?_, ?_, ?_, ?_, ?_, ?_, ?_, ?_, ?_, ?_, ?_, ?_, ?_, ?_, ?_, ?_, ?_, ?_, ?_, ?_, ?_, trivial⟩
        · exact fun ρ X9 fl hg hn hl hp ho hc hf hr => .inl ⟨rfl, Runs.val _ (op_move (show ρ (.tmp 5) = .slice (some ⟨g1, 0, none⟩) L.length lc from ho 5 rfl)) ⟨hg, Below.refl _ _, rfl⟩⟩
        · exact fun ρ X9 fl hg hn hl hp ho hc hf hr => .inl ⟨rfl, Runs.val _ (op_move (show ρ (.tmp 8) = .int .i64 (i : Int) from ho 8 rfl)) ⟨hg, Below.refl _ _, rfl⟩⟩
        · exact fun ρ X9 fl hg hn hl hp ho hc hf hr => .inl ⟨rfl, Runs.val _ (op_i55 (show ρ (.tmp 32) = .slice (some ⟨g1, 0, none⟩) L.length lc from hr 0 32 rfl rfl) (show ρ (.tmp 33) = .int .i64 (i : Int) from hr 1 33 rfl rfl) HLT.out) ⟨hg, Below.refl _ _, rfl⟩⟩
        · exact fun ρ X9 fl hg hn hl hp ho hc hf hr => .inl ⟨rfl, Runs.val _ (op_f78_0 (show ρ (.tmp 34) = .pointer (some ⟨g1, 0 + i * 31, none⟩) from hr 2 34 rfl rfl)) ⟨hg, Below.refl _ _, rfl⟩⟩
        · exact fun ρ X9 fl hg hn hl hp ho hc hf hr => .inl ⟨rfl, Runs.val _ (op_load3 (show ρ (.tmp 35) = .pointer (some ⟨g1, 0 + i * 31, none⟩) from hr 3 35 rfl rfl) (cell_on hg HM.out.1)) ⟨hg, Below.refl _ _, rfl⟩⟩
        · exact fun ρ X9 fl hg hn hl hp ho hc hf hr => .inl ⟨rfl, Runs.val _ (op_move (show ρ (.tmp 6) = .slice (some ⟨ga, 0, none⟩) L.length ac from ho 6 rfl)) ⟨hg, Below.refl _ _, rfl⟩⟩
        · exact fun ρ X9 fl hg hn hl hp ho hc hf hr => .inl ⟨rfl, Runs.val _ (op_move (show ρ (.tmp 8) = .int .i64 (i : Int) from ho 8 rfl)) ⟨hg, Below.refl _ _, rfl⟩⟩
        · exact fun ρ X9 fl hg hn hl hp ho hc hf hr => .inl ⟨rfl, Runs.val _ (op_i116 (show ρ (.tmp 37) = .slice (some ⟨ga, 0, none⟩) L.length ac from hr 5 37 rfl rfl) (show ρ (.tmp 38) = .int .i64 (i : Int) from hr 6 38 rfl rfl) HLT.out) ⟨hg, Below.refl _ _, rfl⟩⟩
        · exact fun ρ X9 fl hg hn hl hp ho hc hf hr => .inl ⟨rfl, Runs.val _ (op_load3 (show ρ (.tmp 39) = .pointer (some ⟨ga, 0 + i, none⟩) from hr 7 39 rfl rfl) (cell_on hg HM.out.2.1)) ⟨hg, Below.refl _ _, rfl⟩⟩
        · exact fun ρ X9 fl hg hn hl hp ho hc hf hr => .inl ⟨rfl, Runs.val _ (op_neq3 (show ρ (.tmp 36) = .int .i64 sh from hr 4 36 rfl rfl) (show ρ (.tmp 40) = .int .i64 sh from hr 8 40 rfl rfl) (by simp)) ⟨hg, Below.refl _ _, rfl⟩⟩
        · exact fun ρ X9 fl hg hn hl hp ho hc hf hr => .inl ⟨rfl, Runs.val _ (op_move (show ρ (.tmp 41) = .bool false from hr 9 41 rfl rfl)) ⟨hg, Below.refl _ _, rfl⟩⟩
        · exact fun ρ X9 fl hg hn hl hp ho hc hf hr => .inr (.inl ⟨10, 42, false, fun _ => rfl, rfl, hr 10 42 rfl rfl, Runs.val _ (op_move (show ρ (.tmp 5) = .slice (some ⟨g1, 0, none⟩) L.length lc from ho 5 rfl)) ⟨hg, Below.refl _ _, rfl⟩⟩)
        · exact fun ρ X9 fl hg hn hl hp ho hc hf hr => .inr (.inl ⟨10, 42, false, fun _ => rfl, rfl, hr 10 42 rfl rfl, Runs.val _ (op_move (show ρ (.tmp 8) = .int .i64 (i : Int) from ho 8 rfl)) ⟨hg, Below.refl _ _, rfl⟩⟩)
        · exact fun ρ X9 fl hg hn hl hp ho hc hf hr => .inr (.inl ⟨10, 42, false, fun _ => rfl, rfl, hr 10 42 rfl rfl, Runs.val _ (op_i55 (show ρ (.tmp 43) = .slice (some ⟨g1, 0, none⟩) L.length lc from hr 11 43 rfl rfl) (show ρ (.tmp 44) = .int .i64 (i : Int) from hr 12 44 rfl rfl) HLT.out) ⟨hg, Below.refl _ _, rfl⟩⟩)
        · exact fun ρ X9 fl hg hn hl hp ho hc hf hr => .inr (.inl ⟨10, 42, false, fun _ => rfl, rfl, hr 10 42 rfl rfl, Runs.val _ (op_f78_1 (show ρ (.tmp 45) = .pointer (some ⟨g1, 0 + i * 31, none⟩) from hr 13 45 rfl rfl)) ⟨hg, Below.refl _ _, rfl⟩⟩)
        · exact fun ρ X9 fl hg hn hl hp ho hc hf hr => .inr (.inl ⟨10, 42, false, fun _ => rfl, rfl, hr 10 42 rfl rfl, Runs.val _ (op_loadAt (show ρ (.tmp 46) = .pointer (some ⟨g1, 0 + i * 31 + 1, none⟩) from hr 14 46 rfl rfl) (run_loadAt_mid X9 g1 (0 + i * 31 + 1) 76 (cmL ⟨sh, kd, t0, t1, t2, home, ⟨ra, 0, rc⟩, ⟨wa, 0, wc⟩, mn, til, ts, ver, call⟩) _ (fun j u hu => cell_on hg (HM.out.2.2.1 j u hu)) Try.underlying76 rfl size76)) ⟨hg, Below.refl _ _, rfl⟩⟩)
        · intro ρ X9 fl hg hn hl hp ho hc hf hr
          refine .inr (.inl ⟨10, 42, false, fun _ => rfl, rfl, hr 10 42 rfl rfl, ?_⟩)
          refine Runs.goes 48 #[.agg (cmA ⟨sh, kd, t0, t1, t2, home, ⟨ra, 0, rc⟩, ⟨wa, 0, wc⟩, mn, til, ts, ver, call⟩)] (op_call1 hf (by go_simp) (show ρ (.tmp 47) = .agg (cmA ⟨sh, kd, t0, t1, t2, home, ⟨ra, 0, rc⟩, ⟨wa, 0, wc⟩, mn, til, ts, ver, call⟩) from hr 15 47 rfl rfl)) ((HT1.out X9).mono ?_)
          rintro e7 w7 ⟨rfl, b7⟩
          exact ⟨_, rfl, bgo hg b7, b7, rfl⟩
        · exact fun ρ X9 fl hg hn hl hp ho hc hf hr => .inr (.inl ⟨10, 42, false, fun _ => rfl, rfl, hr 10 42 rfl rfl, Runs.val _ (op_move (show ρ (.tmp 7) = .slice (some ⟨go, 0, none⟩) L.length oc from ho 7 rfl)) ⟨hg, Below.refl _ _, rfl⟩⟩)
        · exact fun ρ X9 fl hg hn hl hp ho hc hf hr => .inr (.inl ⟨10, 42, false, fun _ => rfl, rfl, hr 10 42 rfl rfl, Runs.val _ (op_move (show ρ (.tmp 8) = .int .i64 (i : Int) from ho 8 rfl)) ⟨hg, Below.refl _ _, rfl⟩⟩)
        · exact fun ρ X9 fl hg hn hl hp ho hc hf hr => .inr (.inl ⟨10, 42, false, fun _ => rfl, rfl, hr 10 42 rfl rfl, Runs.val _ (op_i117 (show ρ (.tmp 49) = .slice (some ⟨go, 0, none⟩) L.length oc from hr 17 49 rfl rfl) (show ρ (.tmp 50) = .int .i64 (i : Int) from hr 18 50 rfl rfl) HLT.out) ⟨hg, Below.refl _ _, rfl⟩⟩)
        · exact fun ρ X9 fl hg hn hl hp ho hc hf hr => .inr (.inl ⟨10, 42, false, fun _ => rfl, rfl, hr 10 42 rfl rfl, Runs.val _ (op_loadAt (show ρ (.tmp 51) = .pointer (some ⟨go, 0 + i * 30, none⟩) from hr 19 51 rfl rfl) (run_loadAt_mid X9 go (0 + i * 30) 76 (cmL ⟨sh, kd, t0, t1, t2, home, .nil, .nil, mn, til, ts, ver, call⟩) _ (fun j u hu => cell_on hg (HM.out.2.2.2 j u hu)) Try.underlying76 rfl size76)) ⟨hg, Below.refl _ _, rfl⟩⟩)
        · intro ρ X9 fl hg hn hl hp ho hc hf hr
          refine .inr (.inl ⟨10, 42, false, fun _ => rfl, rfl, hr 10 42 rfl rfl, ?_⟩)
          refine Runs.goes 48 #[.agg (cmA ⟨sh, kd, t0, t1, t2, home, .nil, .nil, mn, til, ts, ver, call⟩)] (op_call1 hf (by go_simp) (show ρ (.tmp 52) = .agg (cmA ⟨sh, kd, t0, t1, t2, home, .nil, .nil, mn, til, ts, ver, call⟩) from hr 20 52 rfl rfl)) ((HT2.out X9).mono ?_)
          rintro e7 w7 ⟨rfl, b7⟩
          exact ⟨_, rfl, bgo hg b7, b7, rfl⟩
        · exact fun ρ X9 fl hg hn hl hp ho hc hf hr => .inr (.inl ⟨10, 42, false, fun _ => rfl, rfl, hr 10 42 rfl rfl, Runs.val _ (op_neq9s (show ρ (.tmp 48) = .string tx from hr 16 48 rfl rfl) (show ρ (.tmp 53) = .string tx from hr 21 53 rfl rfl)) ⟨hg, Below.refl _ _, rfl⟩⟩)
        · exact fun ρ X9 fl hg hn hl hp ho hc hf hr => .inl ⟨rfl, Runs.val _ (op_pick (show ρ (.tmp 42) = .bool false from hr 10 42 rfl rfl) (show (if false then _ else ρ (.tmp 54)) = .bool false from hr 22 54 rfl rfl)) ⟨hg, Below.refl _ _, rfl⟩⟩
      case en =>
        intro a9 w6 fl hfl hG9 hs9 hd9 ho9 hr9
        obtain ⟨x9, hx, hxt⟩ := act_put hs9 hd9 ho9
        have xk55 : x9 55 = .bool false := (hxt 55).symm.trans (hr9 23 55 rfl)
        change a9 = putAll _ x9 [32, 33, 34, 35, 36, 37, 38, 39, 40, 41, 42, 43, 44, 45, 46, 47, 48, 49, 50, 51, 52, 53, 54, 55] at hx
        simp only [putAll, Act.put, List.setIfInBounds_toArray, List.set_cons_zero, List.set_cons_succ, xk55] at hx
        subst hx
        clear hs9 hd9 ho9 hr9 hxt hfl xk55
        generalize x9 32 = z32, x9 33 = z33, x9 34 = z34, x9 35 = z35, x9 36 = z36, x9 37 = z37, x9 38 = z38, x9 39 = z39, x9 40 = z40, x9 41 = z41, x9 42 = z42, x9 43 = z43, x9 44 = z44, x9 45 = z45, x9 46 = z46, x9 47 = z47, x9 48 = z48, x9 49 = z49, x9 50 = z50, x9 51 = z51, x9 52 = z52, x9 53 = z53, x9 54 = z54
        have HB6 := Lib.hid (bgo HBV.out hG9)
        have x8 : w6.cell? ⟨g1, i * 31 + 1 + 8, none⟩ = some (.slice ra 0 rc) := cell_on hG9 HX89.out.1
        have x9 : w6.cell? ⟨g1, i * 31 + 1 + 9, none⟩ = some (.slice wa 0 wc) := cell_on hG9 HX89.out.2
        clear hG9
        go_wp2
        go_loopw [63] (fun iv wr => iv = .int .i64 0 ∧ wr = w6) (fun _ _ => 0)
        case atStart => exact ⟨rfl, rfl⟩
        case round =>
          obtain ⟨rfl, rfl⟩ := hrel
          go_wp2
          go_loopw [83] (fun iv wr9 => iv = .int .i64 0 ∧ wr9 = wr) (fun _ _ => 0)
          case atStart => exact ⟨rfl, rfl⟩
          case round =>
            obtain ⟨rfl, rfl⟩ := hrel
            go_wp2
            go_roundw
            case rel => exact ⟨i + 1, HLT.out, by go_num, HB6.out⟩
            case measure => simp [intOf]; omega
    · obtain rfl : i = L.length := by omega
      have k1 : ¬ (L.length : Int) < L.length := by omega
      have hv := verdict_any (HPD2.out.on hb).dx
      have HV := Lib.hid hv
      have HBV := Lib.hid hb
      clear hb hv
      go_wp2_with fail
      refine HV.out.mono ?_
      rintro e v4 ⟨rfl, b4⟩
      have HB4 := Lib.hid (bgo HBV.out b4)
      have HPD4 := Lib.hid (HPD2.out.on (bgo HBV.out b4))
      have HRS4 := Lib.hid (HRS2.out.on (bgo HBV.out b4))
      clear b4 HV
      go_upto_region 26 with fail
      refine wp_region_fb (fun _ X9 => Below v4.heap.size v4 X9) (fun X9 X8 => Below X9.heap.size X9 X8) [
        fun v9 _ => v9 = .bool (decide (3 ≤ s.ph)),
        fun v9 _ => v9 = .pointer (some ⟨R, 0, none⟩),
        fun v9 _ => v9 = .pointer (some ⟨R, 0, none⟩),
        fun v9 _ => v9 = .pointer (some ⟨R, 9, none⟩),
        fun v9 _ => v9 = .int .i64 s.ph,
        fun v9 _ => v9 = .bool (decide (3 ≤ s.ph)),
        fun v9 _ => v9 = .bool true,
        fun v9 _ => v9 = .bool true,
        fun v9 _ => v9 = .pointer (some ⟨A, 0, none⟩),
        fun v9 _ => v9 = .bool (decide (s.ph = 0) || decide (s.ph = 4)),
        fun v9 _ => v9 = .pointer (some ⟨R, 0, none⟩),
        fun v9 _ => v9 = .pointer (some ⟨R, 0, none⟩),
        fun v9 _ => v9 = .pointer (some ⟨R, 9, none⟩),
        fun v9 _ => v9 = .int .i64 s.ph,
        fun v9 _ => v9 = .bool (decide (s.ph = 4)),
        fun v9 _ => v9 = .bool true,
        fun v9 _ => v9 = .bool true,
        fun v9 _ => v9 = .bool true,
        fun v9 _ => v9 = .bool (decide (3 ≤ s.ph)),
        fun v9 _ => v9 = .bool true,
        fun v9 _ => v9 = .bool true,
        fun v9 _ => v9 = undef,
        fun v9 _ => v9 = undef,
        fun v9 _ => v9 = undef,
        fun v9 _ => v9 = undef,
        fun v9 _ => v9 = undef,
        fun v9 _ => v9 = undef,
        fun v9 _ => v9 = undef,
        fun v9 _ => v9 = undef,
        fun v9 _ => v9 = undef,
        fun v9 _ => v9 = undef,
        fun v9 _ => v9 = undef,
        fun v9 _ => v9 = undef,
        fun v9 _ => v9 = undef,
        fun v9 _ => v9 = undef,
        fun v9 _ => v9 = .bool true,
        fun v9 _ => v9 = .bool true,
        fun v9 _ => v9 = .bool true]
        (by kernel_rfl) (by kernel_rfl) (by kernel_rfl) ?st ?g0 ?os ?en
      case st => exact ⟨fun _ _ _ _ h => h, fun _ _ _ _ h => h, fun _ _ _ _ h => h, fun _ _ _ _ h => h, fun _ _ _ _ h => h, fun _ _ _ _ h => h, fun _ _ _ _ h => h, fun _ _ _ _ h => h, fun _ _ _ _ h => h, fun _ _ _ _ h => h, fun _ _ _ _ h => h, fun _ _ _ _ h => h, fun _ _ _ _ h => h, fun _ _ _ _ h => h, fun _ _ _ _ h => h, fun _ _ _ _ h => h, fun _ _ _ _ h => h, fun _ _ _ _ h => h, fun _ _ _ _ h => h, fun _ _ _ _ h => h, fun _ _ _ _ h => h, fun _ _ _ _ h => h, fun _ _ _ _ h => h, fun _ _ _ _ h => h, fun _ _ _ _ h => h, fun _ _ _ _ h => h, fun _ _ _ _ h => h, fun _ _ _ _ h => h, fun _ _ _ _ h => h, fun _ _ _ _ h => h, fun _ _ _ _ h => h, fun _ _ _ _ h => h, fun _ _ _ _ h => h, fun _ _ _ _ h => h, fun _ _ _ _ h => h, fun _ _ _ _ h => h, fun _ _ _ _ h => h, fun _ _ _ _ h => h, trivial⟩
      case g0 => exact ⟨rfl, rfl, rfl, Nat.le_refl _, fun _ _ => rfl⟩
      case os =>
        refine ⟨?_, ?_, ?_, ?_, ?_, ?_, ?_, ?_, ?_, ?_, ?_, ?_, ?_, ?_, ?_, ?_, ?_, ?_, ?_, ?_, ?_, ?_, ?_, ?_, ?_, ?_, ?_, ?_, ?_, ?_, ?_, ?_, ?_, ?_, ?_, ?_, ?_, ?_, trivial⟩
        · exact fun ρ X9 fl hg hn hl hp ho hc hf hr => .inl ⟨rfl, Runs.val _ (op_move (show ρ (.tmp 14) = .bool (decide (3 ≤ s.ph)) from ho 14 rfl)) ⟨hg, Below.refl _ _, rfl⟩⟩
        · exact fun ρ X9 fl hg hn hl hp ho hc hf hr => .inl ⟨rfl, Runs.val _ (op_move (show ρ (.tmp 1) = .pointer (some ⟨R, 0, none⟩) from ho 1 rfl)) ⟨hg, Below.refl _ _, rfl⟩⟩
        · exact fun ρ X9 fl hg hn hl hp ho hc hf hr => .inl ⟨rfl, Runs.val _ (op_nil (show ρ (.tmp 123) = .pointer (some ⟨R, 0, none⟩) from hr 1 123 rfl rfl)) ⟨hg, Below.refl _ _, rfl⟩⟩
        · exact fun ρ X9 fl hg hn hl hp ho hc hf hr => .inl ⟨rfl, Runs.val _ (op_f87_7 (show ρ (.tmp 124) = .pointer (some ⟨R, 0, none⟩) from hr 2 124 rfl rfl)) ⟨hg, Below.refl _ _, rfl⟩⟩
        · exact fun ρ X9 fl hg hn hl hp ho hc hf hr => .inl ⟨rfl, Runs.val _ (op_load3 (show ρ (.tmp 125) = .pointer (some ⟨R, 9, none⟩) from hr 3 125 rfl rfl) (cell_on hg (HRS4.out.rx.cell 9))) ⟨hg, Below.refl _ _, rfl⟩⟩
        · exact fun ρ X9 fl hg hn hl hp ho hc hf hr => .inl ⟨rfl, Runs.val _ (op_geq3 (show ρ (.tmp 126) = .int .i64 s.ph from hr 4 126 rfl rfl) (hc _) rfl) ⟨hg, Below.refl _ _, rfl⟩⟩
        · exact fun ρ X9 fl hg hn hl hp ho hc hf hr => .inl ⟨rfl, Runs.val _ (op_eql4 (show ρ (.tmp 122) = .bool (decide (3 ≤ s.ph)) from hr 0 122 rfl rfl) (show ρ (.tmp 127) = .bool (decide (3 ≤ s.ph)) from hr 5 127 rfl rfl) (by simp)) ⟨hg, Below.refl _ _, rfl⟩⟩
        · exact fun ρ X9 fl hg hn hl hp ho hc hf hr => .inl ⟨rfl, Runs.val _ (op_move (show ρ (.tmp 128) = .bool true from hr 6 128 rfl rfl)) ⟨hg, Below.refl _ _, rfl⟩⟩
        · exact fun ρ X9 fl hg hn hl hp ho hc hf hr => .inr (.inl ⟨7, 129, true, fun _ => rfl, rfl, hr 7 129 rfl rfl, Runs.val _ (op_move (show ρ (.tmp 0) = .pointer (some ⟨A, 0, none⟩) from ho 0 rfl)) ⟨hg, Below.refl _ _, rfl⟩⟩)
        · intro ρ X9 fl hg hn hl hp ho hc hf hr
          refine .inr (.inl ⟨7, 129, true, fun _ => rfl, rfl, hr 7 129 rfl rfl, ?_⟩)
          refine Runs.goes 18 #[.pointer (some ⟨A, 0, none⟩)] (op_call1 hf (by go_simp) (show ρ (.tmp 130) = .pointer (some ⟨A, 0, none⟩) from hr 8 130 rfl rfl)) ((over_any (HPD4.out.on hg).dx).mono ?_)
          rintro e7 w7 ⟨rfl, e7⟩
          subst e7
          exact ⟨_, rfl, hg, Below.refl _ _, rfl⟩
        · exact fun ρ X9 fl hg hn hl hp ho hc hf hr => .inr (.inl ⟨7, 129, true, fun _ => rfl, rfl, hr 7 129 rfl rfl, Runs.val _ (op_move (show ρ (.tmp 1) = .pointer (some ⟨R, 0, none⟩) from ho 1 rfl)) ⟨hg, Below.refl _ _, rfl⟩⟩)
        · exact fun ρ X9 fl hg hn hl hp ho hc hf hr => .inr (.inl ⟨7, 129, true, fun _ => rfl, rfl, hr 7 129 rfl rfl, Runs.val _ (op_nil (show ρ (.tmp 132) = .pointer (some ⟨R, 0, none⟩) from hr 10 132 rfl rfl)) ⟨hg, Below.refl _ _, rfl⟩⟩)
        · exact fun ρ X9 fl hg hn hl hp ho hc hf hr => .inr (.inl ⟨7, 129, true, fun _ => rfl, rfl, hr 7 129 rfl rfl, Runs.val _ (op_f87_7 (show ρ (.tmp 133) = .pointer (some ⟨R, 0, none⟩) from hr 11 133 rfl rfl)) ⟨hg, Below.refl _ _, rfl⟩⟩)
        · exact fun ρ X9 fl hg hn hl hp ho hc hf hr => .inr (.inl ⟨7, 129, true, fun _ => rfl, rfl, hr 7 129 rfl rfl, Runs.val _ (op_load3 (show ρ (.tmp 134) = .pointer (some ⟨R, 9, none⟩) from hr 12 134 rfl rfl) (cell_on hg (HRS4.out.rx.cell 9))) ⟨hg, Below.refl _ _, rfl⟩⟩)
        · exact fun ρ X9 fl hg hn hl hp ho hc hf hr => .inr (.inl ⟨7, 129, true, fun _ => rfl, rfl, hr 7 129 rfl rfl, Runs.val _ (op_eql3 (show ρ (.tmp 135) = .int .i64 s.ph from hr 13 135 rfl rfl) (hc _) rfl) ⟨hg, Below.refl _ _, rfl⟩⟩)
        · exact fun ρ X9 fl hg hn hl hp ho hc hf hr => .inr (.inl ⟨7, 129, true, fun _ => rfl, rfl, hr 7 129 rfl rfl, Runs.val _ (op_eql4 (show ρ (.tmp 131) = .bool (decide (s.ph = 0) || decide (s.ph = 4)) from hr 9 131 rfl rfl) (show ρ (.tmp 136) = .bool (decide (s.ph = 4)) from hr 14 136 rfl rfl) HOV.out) ⟨hg, Below.refl _ _, rfl⟩⟩)
        · exact fun ρ X9 fl hg hn hl hp ho hc hf hr => .inl ⟨rfl, Runs.val _ (op_pick (show ρ (.tmp 129) = .bool true from hr 7 129 rfl rfl) (show (if true then ρ (.tmp 137) else _) = .bool true from hr 15 137 rfl rfl)) ⟨hg, Below.refl _ _, rfl⟩⟩
        · exact fun ρ X9 fl hg hn hl hp ho hc hf hr => .inl ⟨rfl, Runs.val _ (op_move (show ρ (.tmp 138) = .bool true from hr 16 138 rfl rfl)) ⟨hg, Below.refl _ _, rfl⟩⟩
        · exact fun ρ X9 fl hg hn hl hp ho hc hf hr => .inr (.inl ⟨17, 139, true, fun _ => rfl, rfl, hr 17 139 rfl rfl, Runs.val _ (op_move (show ρ (.tmp 14) = .bool (decide (3 ≤ s.ph)) from ho 14 rfl)) ⟨hg, Below.refl _ _, rfl⟩⟩)
        · exact fun ρ X9 fl hg hn hl hp ho hc hf hr => .inr (.inl ⟨17, 139, true, fun _ => rfl, rfl, hr 17 139 rfl rfl, Runs.val _ (op_notK HKN.out (show ρ (.tmp 140) = .bool (decide (3 ≤ s.ph)) from hr 18 140 rfl rfl)) ⟨hg, Below.refl _ _, rfl⟩⟩)
        · exact fun ρ X9 fl hg hn hl hp ho hc hf hr => .inr (.inl ⟨17, 139, true, fun _ => rfl, rfl, hr 17 139 rfl rfl, Runs.val _ (op_move (show ρ (.tmp 141) = .bool true from hr 19 141 rfl rfl)) ⟨hg, Below.refl _ _, rfl⟩⟩)
        · exact fun ρ X9 fl hg hn hl hp ho hc hf hr => .inr (.inr ⟨20, 142, false, fun _ => rfl, rfl, (fun q => by rw [show ρ (.tmp 142) = .bool true from hr 20 142 rfl rfl] at q; cases q), hg, Below.refl _ _, rfl⟩)
        · exact fun ρ X9 fl hg hn hl hp ho hc hf hr => .inr (.inr ⟨20, 142, false, fun _ => rfl, rfl, (fun q => by rw [show ρ (.tmp 142) = .bool true from hr 20 142 rfl rfl] at q; cases q), hg, Below.refl _ _, rfl⟩)
        · exact fun ρ X9 fl hg hn hl hp ho hc hf hr => .inr (.inr ⟨20, 142, false, fun _ => rfl, rfl, (fun q => by rw [show ρ (.tmp 142) = .bool true from hr 20 142 rfl rfl] at q; cases q), hg, Below.refl _ _, rfl⟩)
        · exact fun ρ X9 fl hg hn hl hp ho hc hf hr => .inr (.inr ⟨20, 142, false, fun _ => rfl, rfl, (fun q => by rw [show ρ (.tmp 142) = .bool true from hr 20 142 rfl rfl] at q; cases q), hg, Below.refl _ _, rfl⟩)
        · exact fun ρ X9 fl hg hn hl hp ho hc hf hr => .inr (.inr ⟨20, 142, false, fun _ => rfl, rfl, (fun q => by rw [show ρ (.tmp 142) = .bool true from hr 20 142 rfl rfl] at q; cases q), hg, Below.refl _ _, rfl⟩)
        · exact fun ρ X9 fl hg hn hl hp ho hc hf hr => .inr (.inr ⟨20, 142, false, fun _ => rfl, rfl, (fun q => by rw [show ρ (.tmp 142) = .bool true from hr 20 142 rfl rfl] at q; cases q), hg, Below.refl _ _, rfl⟩)
        · exact fun ρ X9 fl hg hn hl hp ho hc hf hr => .inr (.inr ⟨20, 142, false, fun _ => rfl, rfl, (fun q => by rw [show ρ (.tmp 142) = .bool true from hr 20 142 rfl rfl] at q; cases q), hg, Below.refl _ _, rfl⟩)
        · exact fun ρ X9 fl hg hn hl hp ho hc hf hr => .inr (.inr ⟨27, 149, true, fun _ => rfl, rfl, (fun q => by rw [show ρ (.tmp 149) = undef from hr 27 149 rfl rfl] at q; cases q), hg, Below.refl _ _, rfl⟩)
        · exact fun ρ X9 fl hg hn hl hp ho hc hf hr => .inr (.inr ⟨27, 149, true, fun _ => rfl, rfl, (fun q => by rw [show ρ (.tmp 149) = undef from hr 27 149 rfl rfl] at q; cases q), hg, Below.refl _ _, rfl⟩)
        · exact fun ρ X9 fl hg hn hl hp ho hc hf hr => .inr (.inr ⟨27, 149, true, fun _ => rfl, rfl, (fun q => by rw [show ρ (.tmp 149) = undef from hr 27 149 rfl rfl] at q; cases q), hg, Below.refl _ _, rfl⟩)
        · exact fun ρ X9 fl hg hn hl hp ho hc hf hr => .inr (.inr ⟨27, 149, true, fun _ => rfl, rfl, (fun q => by rw [show ρ (.tmp 149) = undef from hr 27 149 rfl rfl] at q; cases q), hg, Below.refl _ _, rfl⟩)
        · exact fun ρ X9 fl hg hn hl hp ho hc hf hr => .inr (.inr ⟨27, 149, true, fun _ => rfl, rfl, (fun q => by rw [show ρ (.tmp 149) = undef from hr 27 149 rfl rfl] at q; cases q), hg, Below.refl _ _, rfl⟩)
        · exact fun ρ X9 fl hg hn hl hp ho hc hf hr => .inr (.inr ⟨27, 149, true, fun _ => rfl, rfl, (fun q => by rw [show ρ (.tmp 149) = undef from hr 27 149 rfl rfl] at q; cases q), hg, Below.refl _ _, rfl⟩)
        · exact fun ρ X9 fl hg hn hl hp ho hc hf hr => .inr (.inr ⟨20, 142, false, fun _ => rfl, rfl, (fun q => by rw [show ρ (.tmp 142) = .bool true from hr 20 142 rfl rfl] at q; cases q), hg, Below.refl _ _, rfl⟩)
        · exact fun ρ X9 fl hg hn hl hp ho hc hf hr => .inr (.inl ⟨17, 139, true, fun _ => rfl, rfl, hr 17 139 rfl rfl, Runs.val _ (op_pick (show ρ (.tmp 142) = .bool true from hr 20 142 rfl rfl) (show (if true then ρ (.const (.bool true)) else _) = .bool true from hc _)) ⟨hg, Below.refl _ _, rfl⟩⟩)
        · exact fun ρ X9 fl hg hn hl hp ho hc hf hr => .inl ⟨rfl, Runs.val _ (op_pick (show ρ (.tmp 139) = .bool true from hr 17 139 rfl rfl) (show (if true then ρ (.tmp 157) else _) = .bool true from hr 35 157 rfl rfl)) ⟨hg, Below.refl _ _, rfl⟩⟩
        · exact fun ρ X9 fl hg hn hl hp ho hc hf hr => .inl ⟨rfl, Runs.val _ (op_assign (show ρ (.tmp 158) = .bool true from hr 36 158 rfl rfl)) ⟨hg, Below.refl _ _, rfl⟩⟩
      case en =>
        intro a9 w6 fl hfl hG9 hs9 hd9 ho9 hr9
        obtain ⟨x9, hx, hxt⟩ := act_put hs9 hd9 ho9
        have xk4 : x9 4 = .bool true := (hxt 4).symm.trans (hr9 37 4 rfl)
        change a9 = putAll _ x9 [122, 123, 124, 125, 126, 127, 128, 129, 130, 131, 132, 133, 134, 135, 136, 137, 138, 139, 140, 141, 142, 143, 144, 145, 146, 147, 148, 149, 150, 151, 152, 153, 154, 155, 156, 157, 158, 4] at hx
        simp only [putAll, Act.put, List.setIfInBounds_toArray, List.set_cons_zero, List.set_cons_succ, xk4] at hx
        subst hx
        clear hs9 hd9 ho9 hr9 hxt hfl xk4
        generalize x9 122 = z122, x9 123 = z123, x9 124 = z124, x9 125 = z125, x9 126 = z126, x9 127 = z127, x9 128 = z128, x9 129 = z129, x9 130 = z130, x9 131 = z131, x9 132 = z132, x9 133 = z133, x9 134 = z134, x9 135 = z135, x9 136 = z136, x9 137 = z137, x9 138 = z138, x9 139 = z139, x9 140 = z140, x9 141 = z141, x9 142 = z142, x9 143 = z143, x9 144 = z144, x9 145 = z145, x9 146 = z146, x9 147 = z147, x9 148 = z148, x9 149 = z149, x9 150 = z150, x9 151 = z151, x9 152 = z152, x9 153 = z153, x9 154 = z154, x9 155 = z155, x9 156 = z156, x9 157 = z157, x9 158 = z158
        have HE := Lib.hid (bgo HB2.out (bgo HB4.out hG9))
        clear hG9
        go_wp2
        refine bodyPost_ret (v := .bool true) (by simp [results, Try.results25, go_sem]) rfl ?_
        exact ⟨rfl, HE.out⟩
theorem same_any (h : PD w A g c s) (hr : RS w R b c s) (hA : ∀ a ∈ c.asks s, AkI a) : Calls Try.prog 25 #[.pointer (some ⟨A, 0, none⟩), .pointer (some ⟨R, 0, none⟩)] w fun e w' => e = .returned (.bool true) ∧ Below w.heap.size w w' := by
  cases hk : decide (3 ≤ s.ph) with
  | true => exact same_yes h hr hA hk
  | false => exact same_no h hr hA hk
end
end Go.Proofs.Ytfokgalgdlajlaa
