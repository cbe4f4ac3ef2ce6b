/- The walk of VersionParts: two spans that meet. -/
import Derived.Test.YthjnfkgheihgkaaVv
import Derived.Test.YthjnfkgheihgkaaVt
import Derived.Carry
import Derived.Deep.DeepCutAuto
namespace Go.Proofs.Ythjnfkgheihgkaa
open Go.RowKit
section
variable {w : World} {L : List Oc} {ad : Option Addr} {cap : Nat}
theorem span_len (R : List Rw) (a b : ByteArray) (t : Int) : (span R a b t).length ≤ R.length :=
  Nat.le_trans (List.length_filterMap_le _ _) (List.length_filter_le _ _)
theorem own_empty44 (w : World) : (w.alloc (.cells #[] 44)).ownsRow w.heap.size 44 3 (.slice (some ⟨w.heap.size, 0, none⟩) 0 0) 0 [] :=
  ⟨rfl, .inr ⟨w.heap.size, 0, #[], rfl, Nat.le_refl _, heap_alloc_new w _, Nat.le_refl _, Nat.zero_le _, rfl, rfl⟩⟩
theorem hi_src {w : World} {B c : Nat} {H : List Hi} {ad : Option Addr} (h : w.ownsRow B 44 3 (.slice ad H.length c) H.length (hiC H)) : (ad = none ∧ H.length = 0 ∧ c = 0 ∧ hiC H = []) ∨ ∃ a, ad = some a ∧ (hiC H).length = H.length * 3 ∧ (∀ j u, (hiC H)[j]? = some u → w.cell? (a.add j) = some u) := by
  rcases h.2 with ⟨hv, h0⟩ | ⟨g, cap, cur, hv, _⟩
  · have : H = [] := List.eq_nil_of_length_eq_zero h0
    subst this
    cases hv
    exact .inl ⟨rfl, rfl, rfl, rfl⟩
  · cases hv
    refine .inr ⟨_, rfl, hiC_len H, fun j u hu => ?_⟩
    have hj : j < (hiC H).length := (List.getElem?_eq_some_iff.1 hu).1
    rw [hiC_len] at hj
    rw [add_at, Nat.zero_add]
    exact (h.cellAt j hj).trans hu
theorem gtr_eq (a b : ByteArray) : (!Op.bytesLess a.toList b.toList && !a.toList == b.toList) = decide (cb b a < 0) := by
  rw [less_eq, same_eq]
  have h := cb_turn a b
  by_cases h1 : cb a b < 0
  · rw [decide_eq_true h1, decide_eq_false (p := cb b a < 0) (by omega)]
    rfl
  · by_cases h2 : a = b
    · rw [decide_eq_false h1, decide_eq_true h2, decide_eq_false (by have := cb_is.2 h2; omega)]
      rfl
    · have : cb a b ≠ 0 := fun e => h2 (cb_is.1 e)
      rw [decide_eq_false h1, decide_eq_false h2, decide_eq_true (by omega)]
      rfl
abbrev ocB' (o : Oc) : Obj := .cells #[.int .i64 o.kind, .string o.key, .int .i64 o.v.ts, .string o.v.val, .bool o.v.dead, .string o.x, .string o.y, .int .i64 o.t] 35
set_option maxHeartbeats 16000000 in
set_option maxRecDepth 100000 in
theorem parts_law (hL : Lo w L ad) (hc : L.length ≤ cap) (hm : cap ≤ maxLen) (a b c : ByteArray) (za : a.size ≤ maxLen) (zb : b.size ≤ maxLen) (zc : c.size ≤ maxLen) (t : Int) :
    Calls Try.prog 6 #[.slice ad L.length cap, .string a, .string b, .string c, .int .i64 t] w fun e w' => e = .returned (.bool true) ∧ Below w.heap.size w w' := by
  have hml : (L.length : Int) ≤ 9223372036854775807 := by unfold maxLen at hm; omega
  have HL := Lib.hid hL
  have HZa := Lib.hid za
  have HZb := Lib.hid zb
  have HZc := Lib.hid zc
  clear hL hm hc za zb zc
  go_enter Try.func6, Try.ntmps6
  go_wp2_with fail
  refine (awake_any w).mono ?_
  rintro e w1 ⟨rfl, b1⟩
  have HB1 := Lib.hid b1
  by_cases h1 : (120 : Int) < L.length
  · go_wp2_with fail
    refine (awake_any w1).mono ?_
    rintro e w2 ⟨rfl, b2⟩
    go_wp2
    go_ret
    exact ⟨rfl, HB1.out.trans (b2.mono HB1.out.size)⟩
  clear b1
  obtain ⟨f1, hf1⟩ : ∃ g, decide (cb b a < 0) = g := ⟨_, rfl⟩
  have HF1 := Lib.hid hf1
  have el1 := (gtr_eq a b).trans hf1
  clear hf1
  go_upto_if 29 with fail
  go_cut [1, 2] (fun p q wx => ∃ s u, p = .string s ∧ q = .string u ∧ cb s u ≤ 0 ∧ s.size ≤ maxLen ∧ u.size ≤ maxLen ∧ wx = w1)
  case first =>
    have := cb_turn a b
    cases f1 with
    | true =>
      have hq := of_decide_eq_true HF1.out
      go_wp2
      go_meet
      exact ⟨_, _, rfl, rfl, (by omega), HZb.out, HZa.out, rfl⟩
    | false =>
      have hq := of_decide_eq_false HF1.out
      go_wp2
      go_meet
      exact ⟨_, _, rfl, rfl, (by omega), HZa.out, HZb.out, rfl⟩
  case rest =>
  obtain ⟨A1, B1, rfl, rfl, hab, za, zb, rfl⟩ := hcut
  have HZA := Lib.hid za
  have HZB := Lib.hid zb
  have HAB := Lib.hid hab
  clear za zb hab HF1 el1
  obtain ⟨V1, rfl⟩ : ∃ V1, V1 = wc := ⟨_, rfl⟩
  obtain ⟨f2, hf2⟩ : ∃ g, decide (cb c B1 < 0) = g := ⟨_, rfl⟩
  have HF2 := Lib.hid hf2
  have el2 := (gtr_eq B1 c).trans hf2
  clear hf2
  go_upto_if 34 with fail
  go_cut [2, 3] (fun p q wx => ∃ s u, p = .string s ∧ q = .string u ∧ cb s u ≤ 0 ∧ cb A1 u ≤ 0 ∧ s.size ≤ maxLen ∧ u.size ≤ maxLen ∧ wx = V1)
  case first =>
    have := cb_turn B1 c
    cases f2 with
    | true =>
      have hq := of_decide_eq_true HF2.out
      go_wp2
      go_meet
      exact ⟨_, _, rfl, rfl, (by omega), HAB.out, HZc.out, HZB.out, rfl⟩
    | false =>
      have hq := of_decide_eq_false HF2.out
      go_wp2
      go_meet
      exact ⟨_, _, rfl, rfl, (by omega), cb_le HAB.out (by omega), HZB.out, HZc.out, rfl⟩
  case rest =>
  obtain ⟨B2, C1, rfl, rfl, hbc, hac, zb, zc, hwc⟩ := hcut
  have HZB2 := Lib.hid zb
  have HZC := Lib.hid zc
  have HBC := Lib.hid hbc
  have HAC := Lib.hid hac
  clear zb zc hbc hac HF2 el2
  subst hwc
  obtain ⟨V1, rfl⟩ : ∃ V1, V1 = wc := ⟨_, rfl⟩
  obtain ⟨f3, hf3⟩ : ∃ g, decide (cb B2 A1 < 0) = g := ⟨_, rfl⟩
  have HF3 := Lib.hid hf3
  have el3 := (gtr_eq A1 B2).trans hf3
  clear hf3
  go_upto_if 39 with fail
  go_cut [1, 2] (fun p q wx => ∃ s u, p = .string s ∧ q = .string u ∧ cb s u ≤ 0 ∧ cb u C1 ≤ 0 ∧ s.size ≤ maxLen ∧ u.size ≤ maxLen ∧ wx = V1)
  case first =>
    have := cb_turn A1 B2
    cases f3 with
    | true =>
      have hq := of_decide_eq_true HF3.out
      go_wp2
      go_meet
      exact ⟨_, _, rfl, rfl, (by omega), HAC.out, HZB2.out, HZA.out, rfl⟩
    | false =>
      have hq := of_decide_eq_false HF3.out
      go_wp2
      go_meet
      exact ⟨_, _, rfl, rfl, (by omega), HBC.out, HZA.out, HZB2.out, rfl⟩
  case rest =>
  obtain ⟨a, b, rfl, rfl, hab, hbc, za, zb, hwc⟩ := hcut
  obtain ⟨c, rfl⟩ : ∃ c, c = C1 := ⟨_, rfl⟩
  have zc := HZC.out
  clear HZA HZB HZC HZB2 HAB HBC HAC HF3 el3 HZa HZb HZc
  subst hwc
  obtain ⟨V1, rfl⟩ : ∃ V1, V1 = wc := ⟨_, rfl⟩
  have HZa := Lib.hid za
  have HZb := Lib.hid zb
  have HZc := Lib.hid zc
  have HAB := Lib.hid hab
  have HBC := Lib.hid hbc
  clear za zb zc hab hbc
  go_wp2_with fail
  refine (Pj.new V1).mono ?_
  rintro e w2 ⟨rfl, h0⟩
  obtain ⟨A, hA⟩ : ∃ A, V1.heap.size = A := ⟨_, rfl⟩
  rw [hA] at h0 ⊢
  have H0 := Lib.hid h0
  clear h0 hA
  go_wp2_with fail
  go_loopw [45] (fun iv wr => ∃ (k : Nat) (S : Nat → Prop) (R : List Rw), k ≤ L.length ∧ iv = .int .i64 (k : Int) ∧ Pj V1 wr A k S R ∧ ∀ r ∈ R, r.key.size ≤ maxLen) (fun iv _ => L.length - (intOf iv).toNat)
  case atStart => exact ⟨0, _, [], Nat.zero_le _, rfl, H0.out, fun r hr => by cases hr⟩
  case round =>
    obtain ⟨k, S, R, hk, rfl, hP, hz⟩ := hrel
    obtain ⟨V, rfl⟩ : ∃ V, V = wr := ⟨_, rfl⟩
    have bV : Below w.heap.size w V := HB1.out.trans (hP.bel.mono HB1.out.size)
    by_cases hlt : k < L.length
    · obtain ⟨bk, ok, rfl, _, c0, c1, c2, c3, c4, c5, c6, c7⟩ := (HL.out.on bV).at' k hlt
      have k0 : (0 : Int) ≤ k := by omega
      have k1 : (k : Int) < L.length := by omega
      obtain ⟨V2, hV2⟩ : ∃ V2, V2 = V.alloc (ocB' L[k]) := ⟨_, rfl⟩
      obtain ⟨Z, hZ⟩ : ∃ Z, V.heap.size = Z := ⟨_, rfl⟩
      have b2 : Below V.heap.size V V2 := by rw [hV2]; exact (Below.refl _ V).alloc (Nat.le_refl _) _
      have jZ : V2.heap[Z]? = some (.cells #[.int .i64 L[k].kind, .string L[k].key, .int .i64 L[k].v.ts, .string L[k].v.val, .bool L[k].v.dead, .string L[k].x, .string L[k].y, .int .i64 L[k].t] 35 (0, 0)) := by rw [hV2, ← hZ]; exact heap_alloc_new V _
      have m1 : V2.cell? ⟨Z, 1, none⟩ = some (.string L[k].key) := cell_blk jZ 1
      have m2 : V2.cell? ⟨Z, 2, none⟩ = some (.int .i64 L[k].v.ts) := cell_blk jZ 2
      have m3 : V2.cell? ⟨Z, 3, none⟩ = some (.string L[k].v.val) := cell_blk jZ 3
      have m4 : V2.cell? ⟨Z, 4, none⟩ = some (.bool L[k].v.dead) := cell_blk jZ 4
      have hP2 := hP.on b2
      have hcall := hP2.call (by omega) L[k].key L[k].v
      have HP2 := Lib.hid hP2
      have HV2 := Lib.hid hV2
      have HZ := Lib.hid hZ
      have HK : Hid (∀ r ∈ putR R L[k].key L[k].v, r.key.size ≤ maxLen) := put_keys hz (HL.out.sz _ (List.getElem_mem hlt)).key L[k].v
      clear hP bV hV2 hZ b2 jZ hP2 hz
      go_upto_region 13 with fail
      rw [← HV2.out, HZ.out]
      go_wp2_with fail
      refine hcall.mono ?_
      rintro e w4 hans
      obtain ⟨S', hP4, _, _⟩ := HP2.out.put hans
      obtain ⟨rfl, _⟩ := hans
      have HP4 := Lib.hid hP4
      clear hP4 hcall
      go_wp2
      go_roundw
      case rel => exact ⟨k + 1, S', _, hlt, by go_num, HP4.out, HK.out⟩
      case measure => simp [intOf]; omega
    · have k1 : ¬ ((k : Int) < L.length) := by omega
      have HP := Lib.hid hP
      have HK := Lib.hid hz
      have HBV := Lib.hid bV
      have s1 := span_b hP.sb a b t
      obtain ⟨H1, hH1⟩ : ∃ H, span R a b t = H := ⟨_, rfl⟩
      obtain ⟨H2, hH2⟩ : ∃ H, span R b c t = H := ⟨_, rfl⟩
      obtain ⟨H3, hH3⟩ : ∃ H, span R a c t = H := ⟨_, rfl⟩
      have HJ : Hid (H1 ++ H2 = H3) := by rw [← hH1, ← hH2, ← hH3]; exact span_join hP.sb.ok.sorted HAB.out HBC.out
      have HE : Hid (∀ x ∈ H3, x.ts ≤ t ∧ 1 ≤ x.ts ∧ inSpan a c x.key = true ∧ x.key.size ≤ maxLen) := fun x hx => by
        rw [← hH3] at hx
        obtain ⟨q1, q2, q3, r, hr, q4⟩ := span_each hP.sb.ok x hx
        exact ⟨q1, q2, q3, by rw [← q4]; exact hz r hr⟩
      have HLN : Hid (H1.length ≤ 800000 ∧ H2.length ≤ 800000) := by rw [← hH1, ← hH2]; exact ⟨Nat.le_trans (span_len R a b t) hP.sb.few, Nat.le_trans (span_len R b c t) hP.sb.few⟩
      have HS : Hid (H3.Pairwise (fun x y => cb x.key y.key < 0)) := by rw [← hH3]; exact span_rise hP.sb.ok.sorted a c t
      have HH2 := Lib.hid hH2
      have HH3 := Lib.hid hH3
      rw [hH1] at s1
      clear hP hz bV hH1 hH2 hH3
      go_wp2_with fail
      refine s1.mono ?_
      rintro e w5 ⟨a5, p5, rfl, o5, b5⟩
      have hP5 := HP.out.on b5
      have s2 := span_b hP5.sb b c t
      rw [HH2.out] at s2
      have HP5 := Lib.hid hP5
      have HO5 := Lib.hid o5
      have HB5 := Lib.hid (HBV.out.trans (b5.mono HBV.out.size))
      clear hP5 o5 b5 s1
      go_wp2_with fail
      refine s2.mono ?_
      rintro e w6 ⟨a6, p6, rfl, o6, b6⟩
      have hP6 := HP5.out.on b6
      have s3 := span_b hP6.sb a c t
      rw [HH3.out] at s3
      have HO6 := Lib.hid o6
      have HO5' := Lib.hid (own_below HO5.out b6)
      have HB6 := Lib.hid (HB5.out.trans (b6.mono HB5.out.size))
      clear hP6 o6 b6 s2 HO5
      go_wp2_with fail
      refine s3.mono ?_
      rintro e w7 ⟨a7, p7, rfl, o7, b7⟩
      have hO7 := hi_own o7
      have HO5 := Lib.hid (own_below HO5'.out b7)
      have HO6' := Lib.hid (own_below HO6.out b7)
      have HB7 := Lib.hid (HB6.out.trans (b7.mono HB6.out.size))
      clear o7 b7 s3 HO5' HO6 HP5 HP HH2 HH3
      obtain ⟨a7', p7', e7, z1, z2, hC7⟩ := hO7
      cases e7
      have hm7 : (H3.length : Int) ≤ 9223372036854775807 := by unfold maxLen at z2; omega
      have HC7 := Lib.hid hC7
      have HZ1 := Lib.hid z1
      have HZ2 := Lib.hid z2
      clear hC7 z1 z2
      go_wp2_with fail
      go_loopw [76] (fun iv wr => ∃ (i : Nat), i ≤ H3.length ∧ iv = .int .i64 (i : Int) ∧ Below w7.heap.size w7 wr) (fun iv _ => H3.length - (intOf iv).toNat)
      case atStart => exact ⟨0, Nat.zero_le _, rfl, Below.refl _ _⟩
      case round =>
        clear hk k1 hlt
        obtain ⟨i, hi, rfl, hb⟩ := hrel
        obtain ⟨V, rfl⟩ : ∃ V, V = wr := ⟨_, rfl⟩
        by_cases hlt : i < H3.length
        · obtain ⟨g, rfl, c0, c1, c2⟩ := HC7.out i hlt
          have c0 := cell_on hb c0
          have c1 := cell_on hb c1
          have c2 := cell_on hb c2
          have k0 : (0 : Int) ≤ i := by omega
          have k1 : (i : Int) < H3.length := by omega
          obtain ⟨V2, hV2⟩ : ∃ V2, V2 = V.alloc (.cells #[.string H3[i].key, .int .i64 H3[i].ts, .string H3[i].val] 44) := ⟨_, rfl⟩
          obtain ⟨Z, hZ⟩ : ∃ Z, V.heap.size = Z := ⟨_, rfl⟩
          have b2 : Below V.heap.size V V2 := by rw [hV2]; exact (Below.refl _ V).alloc (Nat.le_refl _) _
          have jZ : V2.heap[Z]? = some (.cells #[.string H3[i].key, .int .i64 H3[i].ts, .string H3[i].val] 44 (0, 0)) := by rw [hV2, ← hZ]; exact heap_alloc_new V _
          have HBv : Hid (Below w7.heap.size w7 V2) := hb.trans (b2.mono hb.size)
          have HJZ := Lib.hid jZ
          have HV2 := Lib.hid hV2
          have HZ := Lib.hid hZ
          clear hb hV2 hZ b2 jZ
          go_upto_region 20 with fail
          rw [← HV2.out, HZ.out]
          have z0 : V2.cell? ⟨Z, 0, none⟩ = some (.string H3[i].key) := cell_blk HJZ.out 0
          have z1 : V2.cell? ⟨Z, 1, none⟩ = some (.int .i64 H3[i].ts) := cell_blk HJZ.out 1
          obtain ⟨q1, q2, hin, hkz⟩ := HE.out H3[i] (List.getElem_mem hlt)
          have d1 : decide (t < H3[i].ts) = false := decide_eq_false (by omega)
          have d2 : decide (H3[i].ts < 1) = false := decide_eq_false (by omega)
          clear q1 q2 c0 c1 c2
          cases i with
          | zero =>
            have d3 : decide ((0 : Int) < ((0 : Nat) : Int)) = false := by decide
            refine wp_region_gd (fun X9 => Below V2.heap.size V2 X9) (fun _ _ => True) [
              fun v _ => v = .pointer (some ⟨Z, 1, none⟩),
              fun v _ => v = .int .i64 H3[0].ts,
              fun v _ => v = .int .i64 t,
              fun v _ => v = .bool false,
              fun v _ => v = .bool false,
              fun v _ => v = .pointer (some ⟨Z, 1, none⟩),
              fun v _ => v = .int .i64 H3[0].ts,
              fun v _ => v = .bool false,
              fun v _ => v = .bool false,
              fun v _ => v = .bool false,
              fun v _ => v = .pointer (some ⟨Z, 0, none⟩),
              fun v _ => v = .string H3[0].key,
              fun v _ => v = .string a,
              fun v _ => v = .string c,
              fun v _ => v = .agg #[.string a, .string c],
              fun v _ => v = .bool true,
              fun v _ => v = .bool false,
              fun v _ => v = .bool false,
              fun v _ => v = .bool false,
              fun v _ => v = .int .i64 ((0 : Nat) : Int),
              fun v _ => v = .bool false,
              fun v _ => v = .bool false,
              fun v _ => v = undef,
              fun v _ => v = undef,
              fun v _ => v = undef,
              fun v _ => v = undef,
              fun v _ => v = undef,
              fun v _ => v = undef,
              fun v _ => v = undef,
              fun v _ => v = undef,
              fun v _ => v = undef,
              fun v _ => v = .bool false,
              fun v _ => v = .bool false]
              (by kernel_rfl) (by kernel_rfl) (by kernel_rfl) ?st ?g0 ?os ?en
            case st => exact ⟨fun _ _ _ _ h => h, fun _ _ _ _ h => h, fun _ _ _ _ h => h, fun _ _ _ _ h => h, fun _ _ _ _ h => h, fun _ _ _ _ h => h, fun _ _ _ _ h => h, fun _ _ _ _ h => h, fun _ _ _ _ h => h, fun _ _ _ _ h => h, fun _ _ _ _ h => h, fun _ _ _ _ h => h, fun _ _ _ _ h => h, fun _ _ _ _ h => h, fun _ _ _ _ h => h, fun _ _ _ _ h => h, fun _ _ _ _ h => h, fun _ _ _ _ h => h, fun _ _ _ _ h => h, fun _ _ _ _ h => h, fun _ _ _ _ h => h, fun _ _ _ _ h => h, fun _ _ _ _ h => h, fun _ _ _ _ h => h, fun _ _ _ _ h => h, fun _ _ _ _ h => h, fun _ _ _ _ h => h, fun _ _ _ _ h => h, fun _ _ _ _ h => h, fun _ _ _ _ h => h, fun _ _ _ _ h => h, fun _ _ _ _ h => h, fun _ _ _ _ h => h, trivial⟩
            case g0 => exact ⟨rfl, rfl, rfl, Nat.le_refl _, fun _ _ => rfl⟩
            case os =>
              refine ⟨?_, ?_, ?_, ?_, ?_, ?_, ?_, ?_, ?_, ?_, ?_, ?_, ?_, ?_, ?_, ?_, ?_, ?_, ?_, ?_, ?_, ?_, ?_, ?_, ?_, ?_, ?_, ?_, ?_, ?_, ?_, ?_, ?_, trivial⟩
              · exact fun ρ X9 hg ho hc hf hr => .inl ⟨rfl, Runs.val _ (op_f44_1 (show ρ (.tmp 18) = .pointer (some ⟨Z, 0, none⟩) from ho 18 rfl)) ⟨hg, trivial, rfl⟩⟩
              · exact fun ρ X9 hg ho hc hf hr => .inl ⟨rfl, Runs.val _ (op_load3 (show ρ (.tmp 81) = .pointer (some ⟨Z, 1, none⟩) from hr 0 81 rfl rfl) (cell_on hg z1)) ⟨hg, trivial, rfl⟩⟩
              · exact fun ρ X9 hg ho hc hf hr => .inl ⟨rfl, Runs.val _ (op_move (show ρ (.tmp 4) = .int .i64 t from ho 4 rfl)) ⟨hg, trivial, rfl⟩⟩
              · exact fun ρ X9 hg ho hc hf hr => .inl ⟨rfl, Runs.val _ (op_gtr3 (show ρ (.tmp 82) = .int .i64 H3[0].ts from hr 1 82 rfl rfl) (show ρ (.tmp 83) = .int .i64 t from hr 2 83 rfl rfl) d1) ⟨hg, trivial, rfl⟩⟩
              · exact fun ρ X9 hg ho hc hf hr => .inl ⟨rfl, Runs.val _ (op_move (show ρ (.tmp 84) = .bool false from hr 3 84 rfl rfl)) ⟨hg, trivial, rfl⟩⟩
              · exact fun ρ X9 hg ho hc hf hr => .inr (.inl ⟨4, 85, false, fun _ => rfl, rfl, hr 4 85 rfl rfl, Runs.val _ (op_f44_1 (show ρ (.tmp 18) = .pointer (some ⟨Z, 0, none⟩) from ho 18 rfl)) ⟨hg, trivial, rfl⟩⟩)
              · exact fun ρ X9 hg ho hc hf hr => .inr (.inl ⟨4, 85, false, fun _ => rfl, rfl, hr 4 85 rfl rfl, Runs.val _ (op_load3 (show ρ (.tmp 86) = .pointer (some ⟨Z, 1, none⟩) from hr 5 86 rfl rfl) (cell_on hg z1)) ⟨hg, trivial, rfl⟩⟩)
              · exact fun ρ X9 hg ho hc hf hr => .inr (.inl ⟨4, 85, false, fun _ => rfl, rfl, hr 4 85 rfl rfl, Runs.val _ (op_lss3 (show ρ (.tmp 87) = .int .i64 H3[0].ts from hr 6 87 rfl rfl) (hc _) d2) ⟨hg, trivial, rfl⟩⟩)
              · exact fun ρ X9 hg ho hc hf hr => .inl ⟨rfl, Runs.val _ (op_pick (show ρ (.tmp 85) = .bool false from hr 4 85 rfl rfl) (show ρ (.tmp 88) = .bool false from hr 7 88 rfl rfl)) ⟨hg, trivial, rfl⟩⟩
              · exact fun ρ X9 hg ho hc hf hr => .inl ⟨rfl, Runs.val _ (op_move (show ρ (.tmp 89) = .bool false from hr 8 89 rfl rfl)) ⟨hg, trivial, rfl⟩⟩
              · exact fun ρ X9 hg ho hc hf hr => .inr (.inl ⟨9, 90, false, fun _ => rfl, rfl, hr 9 90 rfl rfl, Runs.val _ (op_f44_0 (show ρ (.tmp 18) = .pointer (some ⟨Z, 0, none⟩) from ho 18 rfl)) ⟨hg, trivial, rfl⟩⟩)
              · exact fun ρ X9 hg ho hc hf hr => .inr (.inl ⟨9, 90, false, fun _ => rfl, rfl, hr 9 90 rfl rfl, Runs.val _ (op_load9 (show ρ (.tmp 91) = .pointer (some ⟨Z, 0, none⟩) from hr 10 91 rfl rfl) (cell_on hg z0)) ⟨hg, trivial, rfl⟩⟩)
              · exact fun ρ X9 hg ho hc hf hr => .inr (.inl ⟨9, 90, false, fun _ => rfl, rfl, hr 9 90 rfl rfl, Runs.val _ (op_move (show ρ (.tmp 1) = .string a from ho 1 rfl)) ⟨hg, trivial, rfl⟩⟩)
              · exact fun ρ X9 hg ho hc hf hr => .inr (.inl ⟨9, 90, false, fun _ => rfl, rfl, hr 9 90 rfl rfl, Runs.val _ (op_move (show ρ (.tmp 3) = .string c from ho 3 rfl)) ⟨hg, trivial, rfl⟩⟩)
              · exact fun ρ X9 hg ho hc hf hr => .inr (.inl ⟨9, 90, false, fun _ => rfl, rfl, hr 9 90 rfl rfl, Runs.val _ (op_b33 (show ρ (.tmp 93) = .string a from hr 12 93 rfl rfl) (show ρ (.tmp 94) = .string c from hr 13 94 rfl rfl)) ⟨hg, trivial, rfl⟩⟩)
              · exact fun ρ X9 hg ho hc hf hr => .inr (.inl ⟨9, 90, false, fun _ => rfl, rfl, hr 9 90 rfl rfl, Runs.goes 22 _ (op_call2 hf call22 (show ρ (.tmp 92) = .string H3[0].key from hr 11 92 rfl rfl) (show ρ (.tmp 95) = .agg #[.string a, .string c] from hr 14 95 rfl rfl)) ((within_any X9 H3[0].key a c hkz HZa.out HZc.out).mono fun e w' ⟨he, hb⟩ => ⟨_, he, hg.trans (hb.mono hg.size), trivial, congrArg Value.bool hin⟩)⟩)
              · exact fun ρ X9 hg ho hc hf hr => .inr (.inl ⟨9, 90, false, fun _ => rfl, rfl, hr 9 90 rfl rfl, Runs.val _ (op_not (show ρ (.tmp 96) = .bool true from hr 15 96 rfl rfl)) ⟨hg, trivial, rfl⟩⟩)
              · exact fun ρ X9 hg ho hc hf hr => .inl ⟨rfl, Runs.val _ (op_pick (show ρ (.tmp 90) = .bool false from hr 9 90 rfl rfl) (show ρ (.tmp 97) = .bool false from hr 16 97 rfl rfl)) ⟨hg, trivial, rfl⟩⟩
              · exact fun ρ X9 hg ho hc hf hr => .inl ⟨rfl, Runs.val _ (op_move (show ρ (.tmp 98) = .bool false from hr 17 98 rfl rfl)) ⟨hg, trivial, rfl⟩⟩
              · exact fun ρ X9 hg ho hc hf hr => .inr (.inl ⟨18, 99, false, fun _ => rfl, rfl, hr 18 99 rfl rfl, Runs.val _ (op_move (show ρ (.tmp 17) = .int .i64 ((0 : Nat) : Int) from ho 17 rfl)) ⟨hg, trivial, rfl⟩⟩)
              · exact fun ρ X9 hg ho hc hf hr => .inr (.inl ⟨18, 99, false, fun _ => rfl, rfl, hr 18 99 rfl rfl, Runs.val _ (op_gtr3 (show ρ (.tmp 100) = .int .i64 ((0 : Nat) : Int) from hr 19 100 rfl rfl) (hc _) d3) ⟨hg, trivial, rfl⟩⟩)
              · exact fun ρ X9 hg ho hc hf hr => .inr (.inl ⟨18, 99, false, fun _ => rfl, rfl, hr 18 99 rfl rfl, Runs.val _ (op_move (show ρ (.tmp 101) = .bool false from hr 20 101 rfl rfl)) ⟨hg, trivial, rfl⟩⟩)
              · exact fun ρ X9 hg ho hc hf hr => .inr (.inr ⟨21, 102, true, fun _ => rfl, rfl, hr 21 102 rfl rfl, hg, trivial, rfl⟩)
              · exact fun ρ X9 hg ho hc hf hr => .inr (.inr ⟨21, 102, true, fun _ => rfl, rfl, hr 21 102 rfl rfl, hg, trivial, rfl⟩)
              · exact fun ρ X9 hg ho hc hf hr => .inr (.inr ⟨21, 102, true, fun _ => rfl, rfl, hr 21 102 rfl rfl, hg, trivial, rfl⟩)
              · exact fun ρ X9 hg ho hc hf hr => .inr (.inr ⟨21, 102, true, fun _ => rfl, rfl, hr 21 102 rfl rfl, hg, trivial, rfl⟩)
              · exact fun ρ X9 hg ho hc hf hr => .inr (.inr ⟨21, 102, true, fun _ => rfl, rfl, hr 21 102 rfl rfl, hg, trivial, rfl⟩)
              · exact fun ρ X9 hg ho hc hf hr => .inr (.inr ⟨21, 102, true, fun _ => rfl, rfl, hr 21 102 rfl rfl, hg, trivial, rfl⟩)
              · exact fun ρ X9 hg ho hc hf hr => .inr (.inr ⟨21, 102, true, fun _ => rfl, rfl, hr 21 102 rfl rfl, hg, trivial, rfl⟩)
              · exact fun ρ X9 hg ho hc hf hr => .inr (.inr ⟨21, 102, true, fun _ => rfl, rfl, hr 21 102 rfl rfl, hg, trivial, rfl⟩)
              · exact fun ρ X9 hg ho hc hf hr => .inr (.inr ⟨21, 102, true, fun _ => rfl, rfl, hr 21 102 rfl rfl, hg, trivial, rfl⟩)
              · exact fun ρ X9 hg ho hc hf hr => .inr (.inl ⟨18, 99, false, fun _ => rfl, rfl, hr 18 99 rfl rfl, Runs.val _ (op_pick (show ρ (.tmp 102) = .bool false from hr 21 102 rfl rfl) (hc _)) ⟨hg, trivial, rfl⟩⟩)
              · exact fun ρ X9 hg ho hc hf hr => .inl ⟨rfl, Runs.val _ (op_pick (show ρ (.tmp 99) = .bool false from hr 18 99 rfl rfl) (show ρ (.tmp 112) = .bool false from hr 31 112 rfl rfl)) ⟨hg, trivial, rfl⟩⟩
            case en =>
              intro a9 X9 hg hs hd ho hr
              obtain ⟨x9, hx, hxt⟩ := act_put hs hd ho
              have x113 : x9 113 = .bool false := (hxt 113).symm.trans (hr 32 113 rfl)
              change a9 = putAll _ x9 [81, 82, 83, 84, 85, 86, 87, 88, 89, 90, 91, 92, 93, 94, 95, 96, 97, 98, 99, 100, 101, 102, 103, 104, 105, 106, 107, 108, 109, 110, 111, 112, 113] at hx
              simp only [putAll, Act.put, List.setIfInBounds_toArray, List.set_cons_zero, List.set_cons_succ, x113] at hx
              have HG := Lib.hid (HBv.out.trans (hg.mono HBv.out.size))
              clear hg hs hd ho hr hxt x113
              subst hx
              generalize x9 81 = z81, x9 82 = z82, x9 83 = z83, x9 84 = z84, x9 85 = z85, x9 86 = z86, x9 87 = z87, x9 88 = z88, x9 89 = z89, x9 90 = z90, x9 91 = z91, x9 92 = z92, x9 93 = z93, x9 94 = z94, x9 95 = z95, x9 96 = z96, x9 97 = z97, x9 98 = z98, x9 99 = z99, x9 100 = z100, x9 101 = z101, x9 102 = z102, x9 103 = z103, x9 104 = z104, x9 105 = z105, x9 106 = z106, x9 107 = z107, x9 108 = z108, x9 109 = z109, x9 110 = z110, x9 111 = z111, x9 112 = z112
              go_wp2
              go_roundw
              case rel => exact ⟨0 + 1, hlt, by go_num, HG.out⟩
              case measure => simp [intOf]; omega
          | succ n =>
            have hn : n < H3.length := by omega
            have d3 : decide ((0 : Int) < ((n + 1 : Nat) : Int)) = true := decide_eq_true (by omega)
            have d4 : ((n + 1 : Nat) : Int) ≤ 9223372036854775807 := by omega
            have d5 : n < H3.length := hn
            obtain ⟨g', e', z2, _, _⟩ := HC7.out n hn
            have z2 : V2.cell? ⟨g, n * 3, none⟩ = some (.string H3[n].key) := by
              cases e'
              exact cell_on HBv.out z2
            have d6 : decide (cb H3[n].key H3[n + 1].key < 0) = true := decide_eq_true (List.pairwise_iff_getElem.1 HS.out n (n + 1) hn hlt (by omega))
            clear e'
            refine wp_region_gd (fun X9 => Below V2.heap.size V2 X9) (fun _ _ => True) [
              fun v _ => v = .pointer (some ⟨Z, 1, none⟩),
              fun v _ => v = .int .i64 H3[n + 1].ts,
              fun v _ => v = .int .i64 t,
              fun v _ => v = .bool false,
              fun v _ => v = .bool false,
              fun v _ => v = .pointer (some ⟨Z, 1, none⟩),
              fun v _ => v = .int .i64 H3[n + 1].ts,
              fun v _ => v = .bool false,
              fun v _ => v = .bool false,
              fun v _ => v = .bool false,
              fun v _ => v = .pointer (some ⟨Z, 0, none⟩),
              fun v _ => v = .string H3[n + 1].key,
              fun v _ => v = .string a,
              fun v _ => v = .string c,
              fun v _ => v = .agg #[.string a, .string c],
              fun v _ => v = .bool true,
              fun v _ => v = .bool false,
              fun v _ => v = .bool false,
              fun v _ => v = .bool false,
              fun v _ => v = .int .i64 ((n + 1 : Nat) : Int),
              fun v _ => v = .bool true,
              fun v _ => v = .bool true,
              fun v _ => v = .slice (some ⟨g, 0, none⟩) H3.length p7,
              fun v _ => v = .int .i64 ((n + 1 : Nat) : Int),
              fun v _ => v = .int .i64 (n : Int),
              fun v _ => v = .pointer (some ⟨g, n * 3, none⟩),
              fun v _ => v = .pointer (some ⟨g, n * 3, none⟩),
              fun v _ => v = .string H3[n].key,
              fun v _ => v = .pointer (some ⟨Z, 0, none⟩),
              fun v _ => v = .string H3[n + 1].key,
              fun v _ => v = .bool false,
              fun v _ => v = .bool false,
              fun v _ => v = .bool false]
              (by kernel_rfl) (by kernel_rfl) (by kernel_rfl) ?st ?g0 ?os ?en
            case st => exact ⟨fun _ _ _ _ h => h, fun _ _ _ _ h => h, fun _ _ _ _ h => h, fun _ _ _ _ h => h, fun _ _ _ _ h => h, fun _ _ _ _ h => h, fun _ _ _ _ h => h, fun _ _ _ _ h => h, fun _ _ _ _ h => h, fun _ _ _ _ h => h, fun _ _ _ _ h => h, fun _ _ _ _ h => h, fun _ _ _ _ h => h, fun _ _ _ _ h => h, fun _ _ _ _ h => h, fun _ _ _ _ h => h, fun _ _ _ _ h => h, fun _ _ _ _ h => h, fun _ _ _ _ h => h, fun _ _ _ _ h => h, fun _ _ _ _ h => h, fun _ _ _ _ h => h, fun _ _ _ _ h => h, fun _ _ _ _ h => h, fun _ _ _ _ h => h, fun _ _ _ _ h => h, fun _ _ _ _ h => h, fun _ _ _ _ h => h, fun _ _ _ _ h => h, fun _ _ _ _ h => h, fun _ _ _ _ h => h, fun _ _ _ _ h => h, fun _ _ _ _ h => h, trivial⟩
            case g0 => exact ⟨rfl, rfl, rfl, Nat.le_refl _, fun _ _ => rfl⟩
            case os =>
              refine ⟨?_, ?_, ?_, ?_, ?_, ?_, ?_, ?_, ?_, ?_, ?_, ?_, ?_, ?_, ?_, ?_, ?_, ?_, ?_, ?_, ?_, ?_, ?_, ?_, ?_, ?_, ?_, ?_, ?_, ?_, ?_, ?_, ?_, trivial⟩
              · exact fun ρ X9 hg ho hc hf hr => .inl ⟨rfl, Runs.val _ (op_f44_1 (show ρ (.tmp 18) = .pointer (some ⟨Z, 0, none⟩) from ho 18 rfl)) ⟨hg, trivial, rfl⟩⟩
              · exact fun ρ X9 hg ho hc hf hr => .inl ⟨rfl, Runs.val _ (op_load3 (show ρ (.tmp 81) = .pointer (some ⟨Z, 1, none⟩) from hr 0 81 rfl rfl) (cell_on hg z1)) ⟨hg, trivial, rfl⟩⟩
              · exact fun ρ X9 hg ho hc hf hr => .inl ⟨rfl, Runs.val _ (op_move (show ρ (.tmp 4) = .int .i64 t from ho 4 rfl)) ⟨hg, trivial, rfl⟩⟩
              · exact fun ρ X9 hg ho hc hf hr => .inl ⟨rfl, Runs.val _ (op_gtr3 (show ρ (.tmp 82) = .int .i64 H3[n + 1].ts from hr 1 82 rfl rfl) (show ρ (.tmp 83) = .int .i64 t from hr 2 83 rfl rfl) d1) ⟨hg, trivial, rfl⟩⟩
              · exact fun ρ X9 hg ho hc hf hr => .inl ⟨rfl, Runs.val _ (op_move (show ρ (.tmp 84) = .bool false from hr 3 84 rfl rfl)) ⟨hg, trivial, rfl⟩⟩
              · exact fun ρ X9 hg ho hc hf hr => .inr (.inl ⟨4, 85, false, fun _ => rfl, rfl, hr 4 85 rfl rfl, Runs.val _ (op_f44_1 (show ρ (.tmp 18) = .pointer (some ⟨Z, 0, none⟩) from ho 18 rfl)) ⟨hg, trivial, rfl⟩⟩)
              · exact fun ρ X9 hg ho hc hf hr => .inr (.inl ⟨4, 85, false, fun _ => rfl, rfl, hr 4 85 rfl rfl, Runs.val _ (op_load3 (show ρ (.tmp 86) = .pointer (some ⟨Z, 1, none⟩) from hr 5 86 rfl rfl) (cell_on hg z1)) ⟨hg, trivial, rfl⟩⟩)
              · exact fun ρ X9 hg ho hc hf hr => .inr (.inl ⟨4, 85, false, fun _ => rfl, rfl, hr 4 85 rfl rfl, Runs.val _ (op_lss3 (show ρ (.tmp 87) = .int .i64 H3[n + 1].ts from hr 6 87 rfl rfl) (hc _) d2) ⟨hg, trivial, rfl⟩⟩)
              · exact fun ρ X9 hg ho hc hf hr => .inl ⟨rfl, Runs.val _ (op_pick (show ρ (.tmp 85) = .bool false from hr 4 85 rfl rfl) (show ρ (.tmp 88) = .bool false from hr 7 88 rfl rfl)) ⟨hg, trivial, rfl⟩⟩
              · exact fun ρ X9 hg ho hc hf hr => .inl ⟨rfl, Runs.val _ (op_move (show ρ (.tmp 89) = .bool false from hr 8 89 rfl rfl)) ⟨hg, trivial, rfl⟩⟩
              · exact fun ρ X9 hg ho hc hf hr => .inr (.inl ⟨9, 90, false, fun _ => rfl, rfl, hr 9 90 rfl rfl, Runs.val _ (op_f44_0 (show ρ (.tmp 18) = .pointer (some ⟨Z, 0, none⟩) from ho 18 rfl)) ⟨hg, trivial, rfl⟩⟩)
              · exact fun ρ X9 hg ho hc hf hr => .inr (.inl ⟨9, 90, false, fun _ => rfl, rfl, hr 9 90 rfl rfl, Runs.val _ (op_load9 (show ρ (.tmp 91) = .pointer (some ⟨Z, 0, none⟩) from hr 10 91 rfl rfl) (cell_on hg z0)) ⟨hg, trivial, rfl⟩⟩)
              · exact fun ρ X9 hg ho hc hf hr => .inr (.inl ⟨9, 90, false, fun _ => rfl, rfl, hr 9 90 rfl rfl, Runs.val _ (op_move (show ρ (.tmp 1) = .string a from ho 1 rfl)) ⟨hg, trivial, rfl⟩⟩)
              · exact fun ρ X9 hg ho hc hf hr => .inr (.inl ⟨9, 90, false, fun _ => rfl, rfl, hr 9 90 rfl rfl, Runs.val _ (op_move (show ρ (.tmp 3) = .string c from ho 3 rfl)) ⟨hg, trivial, rfl⟩⟩)
              · exact fun ρ X9 hg ho hc hf hr => .inr (.inl ⟨9, 90, false, fun _ => rfl, rfl, hr 9 90 rfl rfl, Runs.val _ (op_b33 (show ρ (.tmp 93) = .string a from hr 12 93 rfl rfl) (show ρ (.tmp 94) = .string c from hr 13 94 rfl rfl)) ⟨hg, trivial, rfl⟩⟩)
              · exact fun ρ X9 hg ho hc hf hr => .inr (.inl ⟨9, 90, false, fun _ => rfl, rfl, hr 9 90 rfl rfl, Runs.goes 22 _ (op_call2 hf call22 (show ρ (.tmp 92) = .string H3[n + 1].key from hr 11 92 rfl rfl) (show ρ (.tmp 95) = .agg #[.string a, .string c] from hr 14 95 rfl rfl)) ((within_any X9 H3[n + 1].key a c hkz HZa.out HZc.out).mono fun e w' ⟨he, hb⟩ => ⟨_, he, hg.trans (hb.mono hg.size), trivial, congrArg Value.bool hin⟩)⟩)
              · exact fun ρ X9 hg ho hc hf hr => .inr (.inl ⟨9, 90, false, fun _ => rfl, rfl, hr 9 90 rfl rfl, Runs.val _ (op_not (show ρ (.tmp 96) = .bool true from hr 15 96 rfl rfl)) ⟨hg, trivial, rfl⟩⟩)
              · exact fun ρ X9 hg ho hc hf hr => .inl ⟨rfl, Runs.val _ (op_pick (show ρ (.tmp 90) = .bool false from hr 9 90 rfl rfl) (show ρ (.tmp 97) = .bool false from hr 16 97 rfl rfl)) ⟨hg, trivial, rfl⟩⟩
              · exact fun ρ X9 hg ho hc hf hr => .inl ⟨rfl, Runs.val _ (op_move (show ρ (.tmp 98) = .bool false from hr 17 98 rfl rfl)) ⟨hg, trivial, rfl⟩⟩
              · exact fun ρ X9 hg ho hc hf hr => .inr (.inl ⟨18, 99, false, fun _ => rfl, rfl, hr 18 99 rfl rfl, Runs.val _ (op_move (show ρ (.tmp 17) = .int .i64 ((n + 1 : Nat) : Int) from ho 17 rfl)) ⟨hg, trivial, rfl⟩⟩)
              · exact fun ρ X9 hg ho hc hf hr => .inr (.inl ⟨18, 99, false, fun _ => rfl, rfl, hr 18 99 rfl rfl, Runs.val _ (op_gtr3 (show ρ (.tmp 100) = .int .i64 ((n + 1 : Nat) : Int) from hr 19 100 rfl rfl) (hc _) d3) ⟨hg, trivial, rfl⟩⟩)
              · exact fun ρ X9 hg ho hc hf hr => .inr (.inl ⟨18, 99, false, fun _ => rfl, rfl, hr 18 99 rfl rfl, Runs.val _ (op_move (show ρ (.tmp 101) = .bool true from hr 20 101 rfl rfl)) ⟨hg, trivial, rfl⟩⟩)
              · exact fun ρ X9 hg ho hc hf hr => .inr (.inl ⟨21, 102, true, fun _ => rfl, rfl, hr 21 102 rfl rfl, Runs.val _ (op_move (show ρ (.tmp 16) = .slice (some ⟨g, 0, none⟩) H3.length p7 from ho 16 rfl)) ⟨hg, trivial, rfl⟩⟩)
              · exact fun ρ X9 hg ho hc hf hr => .inr (.inl ⟨21, 102, true, fun _ => rfl, rfl, hr 21 102 rfl rfl, Runs.val _ (op_move (show ρ (.tmp 17) = .int .i64 ((n + 1 : Nat) : Int) from ho 17 rfl)) ⟨hg, trivial, rfl⟩⟩)
              · exact fun ρ X9 hg ho hc hf hr => .inr (.inl ⟨21, 102, true, fun _ => rfl, rfl, hr 21 102 rfl rfl, Runs.val _ (op_sub3 (show ρ (.tmp 104) = .int .i64 ((n + 1 : Nat) : Int) from hr 23 104 rfl rfl) (hc _) d4) ⟨hg, trivial, rfl⟩⟩)
              · exact fun ρ X9 hg ho hc hf hr => .inr (.inl ⟨21, 102, true, fun _ => rfl, rfl, hr 21 102 rfl rfl, Runs.val _ (op_i39 (show ρ (.tmp 103) = .slice (some ⟨g, 0, none⟩) H3.length p7 from hr 22 103 rfl rfl) (show ρ (.tmp 105) = .int .i64 (n : Int) from hr 24 105 rfl rfl) d5) ⟨hg, trivial, rfl⟩⟩)
              · exact fun ρ X9 hg ho hc hf hr => .inr (.inl ⟨21, 102, true, fun _ => rfl, rfl, hr 21 102 rfl rfl, Runs.val _ (op_f44_0 (show ρ (.tmp 106) = .pointer (some ⟨g, n * 3, none⟩) from hr 25 106 rfl rfl)) ⟨hg, trivial, rfl⟩⟩)
              · exact fun ρ X9 hg ho hc hf hr => .inr (.inl ⟨21, 102, true, fun _ => rfl, rfl, hr 21 102 rfl rfl, Runs.val _ (op_load9 (show ρ (.tmp 107) = .pointer (some ⟨g, n * 3, none⟩) from hr 26 107 rfl rfl) (cell_on hg z2)) ⟨hg, trivial, rfl⟩⟩)
              · exact fun ρ X9 hg ho hc hf hr => .inr (.inl ⟨21, 102, true, fun _ => rfl, rfl, hr 21 102 rfl rfl, Runs.val _ (op_f44_0 (show ρ (.tmp 18) = .pointer (some ⟨Z, 0, none⟩) from ho 18 rfl)) ⟨hg, trivial, rfl⟩⟩)
              · exact fun ρ X9 hg ho hc hf hr => .inr (.inl ⟨21, 102, true, fun _ => rfl, rfl, hr 21 102 rfl rfl, Runs.val _ (op_load9 (show ρ (.tmp 109) = .pointer (some ⟨Z, 0, none⟩) from hr 28 109 rfl rfl) (cell_on hg z0)) ⟨hg, trivial, rfl⟩⟩)
              · exact fun ρ X9 hg ho hc hf hr => .inr (.inl ⟨21, 102, true, fun _ => rfl, rfl, hr 21 102 rfl rfl, Runs.val _ (op_geq9 (show ρ (.tmp 108) = .string H3[n].key from hr 27 108 rfl rfl) (show ρ (.tmp 110) = .string H3[n + 1].key from hr 29 110 rfl rfl) d6) ⟨hg, trivial, rfl⟩⟩)
              · exact fun ρ X9 hg ho hc hf hr => .inr (.inl ⟨18, 99, false, fun _ => rfl, rfl, hr 18 99 rfl rfl, Runs.val _ (op_pick (show ρ (.tmp 102) = .bool true from hr 21 102 rfl rfl) (show ρ (.tmp 111) = .bool false from hr 30 111 rfl rfl)) ⟨hg, trivial, rfl⟩⟩)
              · exact fun ρ X9 hg ho hc hf hr => .inl ⟨rfl, Runs.val _ (op_pick (show ρ (.tmp 99) = .bool false from hr 18 99 rfl rfl) (show ρ (.tmp 112) = .bool false from hr 31 112 rfl rfl)) ⟨hg, trivial, rfl⟩⟩
            case en =>
              intro a9 X9 hg hs hd ho hr
              obtain ⟨x9, hx, hxt⟩ := act_put hs hd ho
              have x113 : x9 113 = .bool false := (hxt 113).symm.trans (hr 32 113 rfl)
              change a9 = putAll _ x9 [81, 82, 83, 84, 85, 86, 87, 88, 89, 90, 91, 92, 93, 94, 95, 96, 97, 98, 99, 100, 101, 102, 103, 104, 105, 106, 107, 108, 109, 110, 111, 112, 113] at hx
              simp only [putAll, Act.put, List.setIfInBounds_toArray, List.set_cons_zero, List.set_cons_succ, x113] at hx
              have HG := Lib.hid (HBv.out.trans (hg.mono HBv.out.size))
              clear hg hs hd ho hr hxt x113
              subst hx
              generalize x9 81 = z81, x9 82 = z82, x9 83 = z83, x9 84 = z84, x9 85 = z85, x9 86 = z86, x9 87 = z87, x9 88 = z88, x9 89 = z89, x9 90 = z90, x9 91 = z91, x9 92 = z92, x9 93 = z93, x9 94 = z94, x9 95 = z95, x9 96 = z96, x9 97 = z97, x9 98 = z98, x9 99 = z99, x9 100 = z100, x9 101 = z101, x9 102 = z102, x9 103 = z103, x9 104 = z104, x9 105 = z105, x9 106 = z106, x9 107 = z107, x9 108 = z108, x9 109 = z109, x9 110 = z110, x9 111 = z111, x9 112 = z112
              go_wp2
              go_roundw
              case rel => exact ⟨n + 1 + 1, hlt, by go_num, HG.out⟩
              case measure => simp [intOf]; omega
        · have k1 : ¬ ((i : Int) < H3.length) := by omega
          have HBV2 := Lib.hid (HB7.out.trans (hb.mono HB7.out.size))
          have hO5 := own_below HO5.out hb
          have hO6 := own_below HO6'.out hb
          have hal : Below V.heap.size V (V.alloc (.cells #[] 44)) := (Below.refl _ V).alloc (Nat.le_refl _) _
          obtain ⟨ra, ca, wA, hrunA, hoA, hgA, _⟩ := run_hi (own_empty44 V) hal.size (hi_src (own_below hO5 hal)) (hiC_one _) (by have := HLN.out; omega)
          rw [Nat.zero_add, List.nil_append] at hoA
          rw [Nat.zero_add] at hrunA
          have hbA := hal.grown hgA hal.size (fun k hk => ((own_empty44 V).lt k hk).1)
          obtain ⟨rb, cb', wB, hrunB, hoB, hgB, _⟩ := run_hi hoA hbA.size (hi_src (own_below hO6 hbA)) (hiC_one _) (by have := HLN.out; omega)
          have hbB := hbA.grown hgB hbA.size (fun k hk => (hoA.lt k hk).1)
          have hoB' : wB.ownsRow V.heap.size 44 3 (.slice rb (H1.length + H2.length) cb') H3.length (hiC H3) := by
            have e := HJ.out
            rw [← e, List.length_append, hiC_append]
            exact hoB
          have hAll : Hm wB H3 (.slice a7 H3.length p7) := (Hm.on ⟨a7, p7, rfl, HZ1.out, HZ2.out, HC7.out⟩ hb).on hbB
          have hsame := same_hits (hi_own hoB') hAll
          have HBB := Lib.hid (HBV2.out.trans (hbB.mono HBV2.out.size))
          clear hO5 hO6 hal hoA hgA hbA hoB hgB hbB hoB' hAll hb
          go_wp2_with (at_builtin; first | refine wpl_run2 _ _ rfl (by simp [Act.eval]) (by simp [Act.eval]) hrunA ?_ | refine wpl_run2 _ _ rfl (by simp [Act.eval]) (by simp [Act.eval]) hrunB ?_)
          refine hsame.mono ?_
          rintro e w9 ⟨rfl, b9⟩
          have HB9 := Lib.hid (HBB.out.trans (b9.mono HBB.out.size))
          clear hsame b9 hrunA hrunB
          go_wp2
          go_ret
          exact ⟨rfl, HB9.out⟩
end
end Go.Proofs.Ythjnfkgheihgkaa
