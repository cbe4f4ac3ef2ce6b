/- The walk of AgendaSplits. -/
import Derived.Test.YtmehdhjelggkpaaLh
namespace Go.Proofs.Ytmehdhjelggkpaa
open Go.RowKit Go.Maps

set_option maxHeartbeats 2000000 in
set_option maxRecDepth 100000 in
theorem splits_out (L : List O) (ad : Option Addr) (cap : Nat) (one two : Int) (w : World) (hl : 400 < L.length) : Calls Try.prog 7 #[.slice ad L.length cap, .int .i64 one, .int .i64 two] w fun e w' => e = .returned (.bool true) ∧ Below w.heap.size w w' := by
  have h1 : 400 < (L.length : Int) := by omega
  go_enter Try.func7, Try.ntmps7
  go_wp2_with fail
  refine (awake_any _).mono ?_
  rintro e w1 ⟨rfl, b1⟩
  go_wp2_with fail
  refine (awake_any _).mono ?_
  rintro e w2 ⟨rfl, b2⟩
  go_wp2
  go_ret
  exact ⟨rfl, b1.trans (b2.mono b1.size)⟩

set_option maxHeartbeats 2000000 in
set_option maxRecDepth 100000 in
theorem splits_in (L : List O) (ad : Option Addr) (cap : Nat) (one two : Int) (w : World) (hL : Li L ad w.heap.size w) (hf : Fits L) (hl : L.length ≤ 400) : Calls Try.prog 7 #[.slice ad L.length cap, .int .i64 one, .int .i64 two] w fun e w' => e = .returned (.bool true) ∧ Below w.heap.size w w' := by
  have h1 : ¬ 400 < (L.length : Int) := by omega
  have h1' : decide (400 < (L.length : Int)) = false := by simpa using h1
  obtain ⟨mn, hmin⟩ : ∃ mn, (if two < one then two else one) = mn := ⟨_, rfl⟩
  obtain ⟨mx, hmax⟩ : ∃ mx, (if one < two then two else one) = mx := ⟨_, rfl⟩
  have hmm : mn ≤ mx := by rw [← hmin, ← hmax]; split <;> split <;> omega
  go_enter Try.func7, Try.ntmps7
  go_wp2_with fail
  refine (awake_any _).mono ?_
  rintro e w1 ⟨rfl, b1⟩
  go_wp2_with fail
  refine (setf_any L ad cap w.heap.size w1 (hL.on b1) hf b1.size hl).mono ?_
  rintro e w2 ⟨A, rfl, o2, b2⟩
  have b2' := b1.trans (b2.mono b1.size)
  go_wp2_with fail
  refine (setf_any L ad cap w.heap.size w2 (hL.on b2') hf b2'.size hl).mono ?_
  rintro e w3 ⟨B, rfl, o3, b3⟩
  have b3' : Below w.heap.size w w3 := b2'.trans (b3.mono b2'.size)
  have hp3 := Pr.start b1.size o2 b2 o3 b3
  obtain ⟨R0, hR0⟩ : ∃ R0, R0 = sets L := ⟨_, rfl⟩
  rw [← hR0] at hp3 ⊢
  have hn9 : R0.length ≤ 900000 := by rw [hR0]; exact o2.2.fits
  clear hR0 o2 o3
  obtain ⟨i0, hi, hz0, hz1, hz2⟩ := info_parts infoI
  go_wp2
  go_loopw [11, 45] (fun xv t wr => ∃ (k : Nat) (xs : List Int) (R : List Ti), t = .int .i64 k ∧ k ≤ 2 ∧ Pr w.heap.size wr A B L.length R R0 xv (.slice none 0 0) xs [] ∧ SoFar mx R0 xs R ∧ (k = 2 → taken mx R0 = (xs, R)) ∧ xs.length + R.length = R0.length ∧ Below w.heap.size w wr) (fun _ t _ => 2 - (intOf t).toNat)
  case atStart => exact ⟨0, [], R0, rfl, by omega, hp3, far_start _ _, fun h => by omega, by simp, b3'⟩
  case round =>
    obtain ⟨k, xs, R, rfl, hk, hp, hsf, hk2, hlen, hb⟩ := hrel
    by_cases hlt : k < 2
    · have q1 : (k : Int) < 2 := by omega
      have q0 : (0 : Int) ≤ k := by omega
      obtain ⟨t, ht1, ht2, hix⟩ : ∃ t, t ≤ mx ∧ (k = 1 → t = mx) ∧ ∀ w' : World, (Instr.index 47 (.agg #[.int .i64 mn, .int .i64 mx]) (.int .i64 k)).run Try.prog w' = .ok (.int .i64 t) w' := by
        rcases (by omega : k = 0 ∨ k = 1) with rfl | rfl
        · exact ⟨mn, hmm, fun h => by omega, fun w' => by kernel_rfl⟩
        · exact ⟨mx, Int.le_refl _, fun _ => rfl, fun w' => by kernel_rfl⟩
      have HT1 := Lib.hid ht1
      have HT2 := Lib.hid ht2
      have HLen := Lib.hid hlen
      clear ht1 ht2 hk2 hlen
      go_wp2_with fail
      refine (hp.pop1 hb.size).mono ?_
      rintro e w4 ⟨u, ok, rfl, h4⟩
      have hin4 := inAt_pop hp hsf HLen.out HT1.out h4
      have hb4 : Below w.heap.size w w4 := hb.trans h4.1
      go_wp2
      go_loopw [11, 15, 16] (fun xv wv okv wr => ∃ (u : Int) (ok : Bool), wv = .int .i64 u ∧ okv = .bool ok ∧ InAt w.heap.size t mx A B L.length R0 R0 (.slice none 0 0) [] wr xv u ok ∧ Below w.heap.size w wr) (fun _ _ okv wr => 2 * lenAt wr A + okN okv)
      case atStart => exact ⟨u, ok, rfl, rfl, hin4, hb4⟩
      case round =>
        obtain ⟨u, ok, rfl, rfl, ⟨xs, R, hp, hcase⟩, hb⟩ := hrel
        rcases hcase with ⟨rfl, hsf, hlen⟩ | ⟨rfl, hsf, hfin, hlen⟩
        · have ho := hp.own
          have hx9 : xs.length ≤ 900000 := by omega
          obtain ⟨S0, ha0⟩ := hp.agd
          have HLen := Lib.hid hlen
          clear hlen
          go_wp2_with (at_builtin; refine wpList_append_own_at _ rfl _ _ 46 rfl w.heap.size 3 i0 (.int .i64 0) 1 8 Try.underlying46 hi hz0 hz1 hz2 rfl (by decide) _ _ _ rfl (ho.alloc _) ⟨wr.heap.size, 0, none⟩ 1 1 [Value.int .i64 u] rfl rfl (news_one _ _ _) (by intro u' hu'; simp at hu'; subst hu'; rfl) (by unfold maxLen; omega) (by omega) (by have := hb.size; simp; omega) ?_; intro v5 w5 hown5 hgrow5 hnil hloc; have hput := hp.put hb.size hown5 hgrow5 hloc; refine Hid.out ?_)
          refine Lib.hid ?_
          go_wp2_with fail
          refine (hput.1.pop1 (Nat.le_trans hb.size hput.2.size)).mono ?_
          rintro e w6 ⟨u6, ok6, rfl, h6⟩
          have hin6 := inAt_pop hput.1 hsf (by have := HLen.out; simp; omega) HT1.out h6
          have hb6 : Below w.heap.size w w6 := (hb.trans hput.2).trans h6.1
          have hms := Lib.hid (pop_less ha0 h6)
          go_wp2
          go_roundw
          case rel => exact ⟨u6, ok6, rfl, rfl, hin6, hb6⟩
          case measure => exact hms.out
        · have HS := Lib.hid hsf
          have HLen := Lib.hid hlen
          have HF := Lib.hid hfin
          clear hsf hlen hfin
          go_wp2
          go_roundw
          case rel =>
            refine ⟨k + 1, xs, R, by go_num, by omega, hp, HS.out, fun h => ?_, HLen.out, hb⟩
            have e := HT2.out (by omega)
            exact far_end HS.out (by rw [← e]; exact HF.out)
          case measure => simp [intOf]; omega
    · have hk' : k = 2 := by omega
      subst hk'
      have htk := hk2 rfl
      have HTk := Lib.hid htk
      have hx9 : xs.length ≤ 900000 := by omega
      have hlx := hlen
      clear hsf hk2 htk hlen
      go_wp2_with fail
      refine (hp.symm.pop1 hb.size).mono ?_
      rintro e w4 ⟨u, ok, rfl, h4⟩
      have hin4 := inAt_pop hp.symm (far_start mx R0) (by simp) (Int.le_refl mx) h4
      have hb4 : Below w.heap.size w w4 := hb.trans h4.1
      go_wp2
      go_loopw [12, 17, 18] (fun yv wv okv wr => ∃ (u : Int) (ok : Bool), wv = .int .i64 u ∧ okv = .bool ok ∧ InAt w.heap.size mx mx B A L.length R0 R u11 xs wr yv u ok ∧ Below w.heap.size w wr) (fun _ _ okv wr => 2 * lenAt wr B + okN okv)
      case atStart => exact ⟨u, ok, rfl, rfl, hin4, hb4⟩
      case round =>
        obtain ⟨u, ok, rfl, rfl, ⟨ys, Rb, hpb, hcase⟩, hb⟩ := hrel
        rcases hcase with ⟨rfl, hsf, hlen⟩ | ⟨rfl, hsf, hfin, hlen⟩
        · have ho := hpb.own
          have hy9 : ys.length ≤ 900000 := by omega
          obtain ⟨S0, ha0⟩ := hpb.agd
          have HLen := Lib.hid hlen
          clear hlen
          go_wp2_with (at_builtin; refine wpList_append_own_at _ rfl _ _ 46 rfl w.heap.size 3 i0 (.int .i64 0) 1 8 Try.underlying46 hi hz0 hz1 hz2 rfl (by decide) _ _ _ rfl (ho.alloc _) ⟨wr.heap.size, 0, none⟩ 1 1 [Value.int .i64 u] rfl rfl (news_one _ _ _) (by intro u' hu'; simp at hu'; subst hu'; rfl) (by unfold maxLen; omega) (by omega) (by have := hb.size; simp; omega) ?_; intro v5 w5 hown5 hgrow5 hnil hloc; have hput := hpb.put hb.size hown5 hgrow5 hloc; refine Hid.out ?_)
          refine Lib.hid ?_
          go_wp2_with fail
          refine (hput.1.pop1 (Nat.le_trans hb.size hput.2.size)).mono ?_
          rintro e w6 ⟨u6, ok6, rfl, h6⟩
          have hin6 := inAt_pop hput.1 hsf (by have := HLen.out; simp; omega) (Int.le_refl mx) h6
          have hb6 : Below w.heap.size w w6 := (hb.trans hput.2).trans h6.1
          have hms := Lib.hid (pop_less ha0 h6)
          go_wp2
          go_roundw
          case rel => exact ⟨u6, ok6, rfl, rfl, hin6, hb6⟩
          case measure => exact hms.out
        · have hte := far_end hsf hfin
          rw [HTk.out] at hte
          simp only [Prod.mk.injEq] at hte
          obtain ⟨rfl, rfl⟩ := hte
          obtain ⟨S1, hb1⟩ := hpb.agd
          obtain ⟨S2, ha1⟩ := hpb.symm.agd
          have oy := hpb.own
          have ox := hpb.symm.own
          clear hsf hfin hlen
          obtain ⟨adx, capx, hxs⟩ := own_shape' ox
          obtain ⟨ady, capy, hys⟩ := own_shape' oy
          subst hxs
          subst hys
          go_wp2_with fail
          refine (alen_any ha1).mono ?_
          rintro e w7 ⟨rfl, rfl⟩
          go_wp2_with fail
          refine (alen_any hb1).mono ?_
          rintro e w8 ⟨rfl, rfl⟩
          have x9 : (xs.length : Int) ≤ 900000 := by omega
          go_wp2
          go_loopw [101] (fun t wr => ∃ (k nd : Nat), t = .int .i64 k ∧ k ≤ xs.length ∧ wr = w8.drewN nd) (fun t _ => xs.length - (intOf t).toNat)
          case atStart => exact ⟨0, 0, rfl, Nat.zero_le _, rfl⟩
          case round =>
            obtain ⟨k, nd, rfl, hk, rfl⟩ := hrel
            by_cases hlt : k < xs.length
            · have q1 : (k : Int) < xs.length := by omega
              have q0 : (0 : Int) ≤ k := by omega
              obtain ⟨gx, cx, e1⟩ := Joins.ownsRow_form ox (by omega)
              obtain ⟨gy, cy, e2⟩ := Joins.ownsRow_form oy (by omega)
              simp only [Value.slice.injEq] at e1 e2
              obtain ⟨rfl, _, rfl⟩ := e1
              obtain ⟨rfl, _, rfl⟩ := e2
              have c1 := (ox.cellAt k (by omega)).trans (intsV_get xs k hlt)
              have c2 := (oy.cellAt k (by omega)).trans (intsV_get xs k hlt)
              obtain ⟨z, hz⟩ : ∃ z, z = xs[k] := ⟨_, rfl⟩
              rw [← hz] at c1 c2
              clear hz
              go_wp2
              go_quiet (fail)
              go_wp2
              go_roundw
              case rel => exact ⟨k + 1, _, by go_num, by omega, rfl⟩
              case measure => simp [intOf]; omega
            · go_wp2
              go_ret
              exact ⟨rfl, ⟨hb.os, hb.tape, hb.output, hb.size, hb.block⟩⟩

theorem agendaSplits_any (L : List O) (ad : Option Addr) (cap : Nat) (one two : Int) (w : World) (hL : Li L ad w.heap.size w) (hf : Fits L) : Calls Try.prog 7 #[.slice ad L.length cap, .int .i64 one, .int .i64 two] w fun e w' => e = .returned (.bool true) ∧ Below w.heap.size w w' := by
  by_cases h : 400 < L.length
  · exact splits_out L ad cap one two w h
  · exact splits_in L ad cap one two w hL hf (by omega)
end Go.Proofs.Ytmehdhjelggkpaa
