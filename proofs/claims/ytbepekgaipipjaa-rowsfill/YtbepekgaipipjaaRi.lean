/- The document's Put. -/
import Derived.Test.YtbepekgaipipjaaRh
import Derived.BigQuiet
import Derived.Deep.QuietTactic
namespace Go.Proofs.Ytbepekgaipipjaa
open Go.RowKit
theorem lastF_pos : ∀ {l : Int} {A : List Ce}, okC l A = true → A ≠ [] → l < lastF l A
  | l, [], _, h => absurd rfl h
  | l, [c], h, _ => by
    simp only [okC, cOk, Bool.and_eq_true, decide_eq_true_eq] at h
    exact h.1.1
  | l, c :: d :: A, h, _ => by
    have h0 := h
    simp only [okC, cOk, Bool.and_eq_true, decide_eq_true_eq] at h0
    have : okC c.id (d :: A) = true := by
      unfold okC at h
      simp only [Bool.and_eq_true] at h
      exact h.2
    have := lastF_pos this (by simp)
    show l < lastF c.id (d :: A)
    omega
theorem own_one (w : World) (c : Value) (B : Nat) (hB : B ≤ w.heap.size) : (w.alloc (.cells #[c] 5)).ownsRow B 5 1 (.slice (some ⟨w.heap.size, 0, none⟩) 1 1) 1 [c] :=
  ⟨rfl, .inr ⟨w.heap.size, 1, #[c], rfl, hB, heap_alloc_new w _, Nat.le_refl _, by decide, rfl, rfl⟩⟩
theorem conv_one (w : World) {n : Nat} (hn : n ≤ 140) : (Go.convert 87 9 (.slice (some ⟨w.heap.size, 0, none⟩) 1 1)).run Try.prog (w.alloc (.cells #[.int .u8 (n : Int)] 5)) = .ok (.string (bs [UInt8.ofNat n])) (w.alloc (.cells #[.int .u8 (n : Int)] 5)) := by
  have h := own_one w (.int .u8 (n : Int)) 0 (Nat.zero_le _)
  have e : Lib.byteCells [UInt8.ofNat n] = [.int .u8 (n : Int)] := by
    unfold Lib.byteCells
    rw [List.map_cons, ofNat_len hn]
    rfl
  exact conv_own' (l := [UInt8.ofNat n]) (by rw [e]; exact h)
theorem bs_app (a b : List UInt8) : bs a ++ bs b = bs (a ++ b) := by
  have : (bs a ++ bs b).data.toList = (bs (a ++ b)).data.toList := by rw [app_data]; rfl
  exact key_inj this
set_option maxHeartbeats 8000000 in
set_option maxRecDepth 100000 in
theorem refPut_any {L : List Ce} {v : Value} (w : World) (hL : Lr ceE 4 w L v) (hf : ∀ c ∈ L, FitC c) (hlen : L.length ≤ 1000) : Calls Try.prog 23 #[v] w fun e w' => e = .returned (.tuple #[.string (bs (putS L)), .int .i64 (putE L)]) ∧ Below w.heap.size w w' := by
  obtain ⟨ad, cap, rfl, hr0⟩ := hL
  have hL : Lr ceE 4 w L (.slice ad L.length cap) := ⟨ad, cap, rfl, hr0⟩
  have hmx : (L.length : Int) ≤ 1000 := by omega
  have HL := Lib.hid hL
  have HF := Lib.hid hf
  clear hL hr0 hf
  go_enter Try.func23, Try.ntmps23
  go_wp2
  go_loopw [4, 5] (fun v i wr => ∃ (k : Nat) (t : ByteArray), k ≤ L.length ∧ i = .int .i64 (k : Int) ∧ v = .string t ∧ Hid (t = bs (rowB (L.take k))) ∧ Below w.heap.size w wr ∧ Hid (okC 0 (L.take k) = true)) (fun _ i _ => L.length - (intOf i).toNat)
  case atStart => exact ⟨0, ⟨#[]⟩, Nat.zero_le _, rfl, rfl, rfl, Below.refl _ _, rfl⟩
  case round =>
    obtain ⟨k, t, hk, rfl, rfl, HT, hb, HO⟩ := hrel
    have hlR : t.size ≤ 141000 := by
      have h1 := rowB_len (L.take k) (okC_mem HO.out) (fun c hc => HF.out c (List.mem_of_mem_take hc))
      have h2 : (L.take k).length ≤ k := List.length_take_le _ _
      rw [HT.out, bs_size]
      omega
    have HB := Lib.hid hb
    by_cases hlt : k < L.length
    · have hLr := HL.out.on ceE_held hb
      obtain ⟨_, _, _, hcells⟩ := hLr.at4
      obtain ⟨b, o, rfl, hbl, c0, c1, c2, c3⟩ := hcells k hlt
      obtain ⟨x, hx⟩ : ∃ x, L[k] = x := ⟨_, rfl⟩
      have hfx : FitC x := by rw [← hx]; exact HF.out _ (List.getElem_mem hlt)
      have hst := okC_take hlt
      have hrs := rowB_take hlt
      rw [HO.out, hx, Bool.true_and] at hst
      rw [hx] at c0 c1 c2 c3 hrs
      have k1 : (k : Int) < L.length := by omega
      have k0 : (0 : Int) ≤ k := by omega
      have hfit : Fits [nv x.id, x.v] := fits2 hfx.1 hfx.2
      have HC : Hid (∀ i (h : i < L.length), ∃ b' o', (some ⟨b, o, none⟩ : Option Addr) = some ⟨b', o', none⟩ ∧ wr.cell? ⟨b', o' + i * 4, none⟩ = some (.int .i64 L[i].id)) := Lib.hid fun i hi => by
        obtain ⟨b', o', e, _, q, _⟩ := hcells i hi
        exact ⟨b', o', e, q⟩
      have HST := Lib.hid hst
      have HRS := Lib.hid hrs
      have HFX := Lib.hid hfx
      have HX := Lib.hid hx
      have HKL : Hid (k < L.length) := Lib.hid hlt
      clear hb hcells hx hst hrs hfx hbl hLr
      go_upto_region 5 with fail
      refine wp_region_fb (fun _ X9 => Below wr.heap.size wr X9) (fun X9 X8 => Below X9.heap.size X9 X8) [
        fun v9 _ => v9 = .slice (some ⟨b, o, none⟩) L.length cap,
        fun v9 _ => v9 = .int .i64 (k : Int),
        fun v9 _ => v9 = .pointer (some ⟨b, o + k * 4, none⟩),
        fun v9 _ => v9 = .pointer (some ⟨b, o + k * 4, none⟩),
        fun v9 _ => v9 = .int .i64 x.id,
        fun v9 _ => v9 = vlV (nv x.id),
        fun v9 _ => v9 = .slice (some ⟨b, o, none⟩) L.length cap,
        fun v9 _ => v9 = .int .i64 (k : Int),
        fun v9 _ => v9 = .pointer (some ⟨b, o + k * 4, none⟩),
        fun v9 _ => v9 = .pointer (some ⟨b, o + k * 4 + 1, none⟩),
        fun v9 _ => v9 = vlV x.v,
        fun v9 X9 => ∃ F9, v9 = .slice (some ⟨F9, 0, none⟩) 2 2 ∧ Li [nv x.id, x.v] (some ⟨F9, 0, none⟩) X9,
        fun v9 _ => v9 = .tuple #[.string (bs (ckey x)), .int .i64 (encE [nv x.id, x.v])],
        fun v9 _ => v9 = .tuple #[.string (bs (ckey x)), .int .i64 (encE [nv x.id, x.v])],
        fun v9 _ => v9 = .string (bs (ckey x)),
        fun v9 _ => v9 = .int .i64 (encE [nv x.id, x.v]),
        fun v9 _ => v9 = .string (bs (ckey x)),
        fun v9 _ => v9 = .int .i64 (encE [nv x.id, x.v])]
        (by kernel_rfl) (by kernel_rfl) (by kernel_rfl) ?st ?g0 ?os ?en
      case st => exact ⟨fun _ _ _ _ h => h, fun _ _ _ _ h => h, fun _ _ _ _ h => h, fun _ _ _ _ h => h, fun _ _ _ _ h => h, fun _ _ _ _ h => h, fun _ _ _ _ h => h, fun _ _ _ _ h => h, fun _ _ _ _ h => h, fun _ _ _ _ h => h, fun _ _ _ _ h => h, (fun _ _ _ hb h => by obtain ⟨F9, e9, h9⟩ := h; exact ⟨F9, e9, h9.on hb⟩), fun _ _ _ _ h => h, fun _ _ _ _ h => h, fun _ _ _ _ h => h, fun _ _ _ _ h => h, fun _ _ _ _ h => h, fun _ _ _ _ h => h, trivial⟩
      case g0 => exact ⟨rfl, rfl, rfl, Nat.le_refl _, fun _ _ => rfl⟩
      case os =>
        refine ⟨?_, ?_, ?_, ?_, ?_, ?_, ?_, ?_, ?_, ?_, ?_, ?_, ?_, ?_, ?_, ?_, ?_, ?_, trivial⟩
        · exact fun ρ X9 fl hg hn hl hp ho hc hf hr => .inl ⟨rfl, Runs.val _ (op_move (show ρ (.tmp 0) = .slice (some ⟨b, o, none⟩) L.length cap from ho 0 rfl)) ⟨hg, Below.refl _ _, rfl⟩⟩
        · exact fun ρ X9 fl hg hn hl hp ho hc hf hr => .inl ⟨rfl, Runs.val _ (op_move (show ρ (.tmp 5) = .int .i64 (k : Int) from ho 5 rfl)) ⟨hg, Below.refl _ _, rfl⟩⟩
        · exact fun ρ X9 fl hg hn hl hp ho hc hf hr => .inl ⟨rfl, Runs.val _ (op_i40 (show ρ (.tmp 15) = .slice (some ⟨b, o, none⟩) L.length cap from hr 0 15 rfl rfl) (show ρ (.tmp 16) = .int .i64 (k : Int) from hr 1 16 rfl rfl) HKL.out) ⟨hg, Below.refl _ _, rfl⟩⟩
        · exact fun ρ X9 fl hg hn hl hp ho hc hf hr => .inl ⟨rfl, Runs.val _ (op_f89_0 (show ρ (.tmp 17) = .pointer (some ⟨b, o + k * 4, none⟩) from hr 2 17 rfl rfl)) ⟨hg, Below.refl _ _, rfl⟩⟩
        · exact fun ρ X9 fl hg hn hl hp ho hc hf hr => .inl ⟨rfl, Runs.val _ (op_load3 (show ρ (.tmp 18) = .pointer (some ⟨b, o + k * 4, none⟩) from hr 3 18 rfl rfl) (cell_on hg c0)) ⟨hg, Below.refl _ _, rfl⟩⟩
        · intro ρ X9 fl hg hn hl hp ho hc hf hr
          refine .inl ⟨rfl, ?_⟩
          refine Runs.goes 17 #[.int .i64 x.id] (op_call1 hf (by go_simp) (show ρ (.tmp 19) = .int .i64 x.id from hr 4 19 rfl rfl)) ((num_any _ X9).mono ?_)
          rintro e7 w7 ⟨rfl, b7⟩
          exact ⟨_, rfl, bgo hg b7, b7, rfl⟩
        · exact fun ρ X9 fl hg hn hl hp ho hc hf hr => .inl ⟨rfl, Runs.val _ (op_move (show ρ (.tmp 0) = .slice (some ⟨b, o, none⟩) L.length cap from ho 0 rfl)) ⟨hg, Below.refl _ _, rfl⟩⟩
        · exact fun ρ X9 fl hg hn hl hp ho hc hf hr => .inl ⟨rfl, Runs.val _ (op_move (show ρ (.tmp 5) = .int .i64 (k : Int) from ho 5 rfl)) ⟨hg, Below.refl _ _, rfl⟩⟩
        · exact fun ρ X9 fl hg hn hl hp ho hc hf hr => .inl ⟨rfl, Runs.val _ (op_i40 (show ρ (.tmp 21) = .slice (some ⟨b, o, none⟩) L.length cap from hr 6 21 rfl rfl) (show ρ (.tmp 22) = .int .i64 (k : Int) from hr 7 22 rfl rfl) HKL.out) ⟨hg, Below.refl _ _, rfl⟩⟩
        · exact fun ρ X9 fl hg hn hl hp ho hc hf hr => .inl ⟨rfl, Runs.val _ (op_f89_1 (show ρ (.tmp 23) = .pointer (some ⟨b, o + k * 4, none⟩) from hr 8 23 rfl rfl)) ⟨hg, Below.refl _ _, rfl⟩⟩
        · exact fun ρ X9 fl hg hn hl hp ho hc hf hr => .inl ⟨rfl, Runs.val _ (op_load23 (show ρ (.tmp 24) = .pointer (some ⟨b, o + k * 4 + 1, none⟩) from hr 9 24 rfl rfl) (cell_on hg c1) (cell_on hg c2) (cell_on hg c3)) ⟨hg, Below.refl _ _, rfl⟩⟩
        · intro ρ X9 fl hg hn hl hp ho hc hf hr
          refine .inl ⟨rfl, ?_⟩
          exact Runs.val _ (op_s32_2 (show ρ (.tmp 20) = vlV (nv x.id) from hr 5 20 rfl rfl) (show ρ (.tmp 25) = vlV x.v from hr 10 25 rfl rfl)) ⟨bgo hg (bnew _ _), bnew _ _, _, rfl, li_new _ _⟩
        · intro ρ X9 fl hg hn hl hp ho hc hf hr
          obtain ⟨F9, e9, h9⟩ : ∃ F9, ρ (.tmp 26) = .slice (some ⟨F9, 0, none⟩) 2 2 ∧ Li [nv x.id, x.v] (some ⟨F9, 0, none⟩) X9 := hr 11 26 rfl rfl
          refine .inl ⟨rfl, ?_⟩
          refine Runs.goes 40 #[.slice (some ⟨F9, 0, none⟩) 2 2] (op_call1 hf (by go_simp) e9) ((refEnc_any [nv x.id, x.v] _ 2 X9 h9 hfit).mono ?_)
          rintro e7 w7 ⟨rfl, b7⟩
          exact ⟨_, rfl, bgo hg b7, b7, rfl⟩
        · exact fun ρ X9 fl hg hn hl hp ho hc hf hr => .inl ⟨rfl, Runs.val _ (op_move (show ρ (.tmp 27) = .tuple #[.string (bs (ckey x)), .int .i64 (encE [nv x.id, x.v])] from hr 12 27 rfl rfl)) ⟨hg, Below.refl _ _, rfl⟩⟩
        · exact fun ρ X9 fl hg hn hl hp ho hc hf hr => .inl ⟨rfl, Runs.val _ (op_extract0 (show ρ (.tmp 14) = .tuple #[.string (bs (ckey x)), .int .i64 (encE [nv x.id, x.v])] from hr 13 14 rfl rfl)) ⟨hg, Below.refl _ _, rfl⟩⟩
        · exact fun ρ X9 fl hg hn hl hp ho hc hf hr => .inl ⟨rfl, Runs.val _ (op_extract1 (show ρ (.tmp 14) = .tuple #[.string (bs (ckey x)), .int .i64 (encE [nv x.id, x.v])] from hr 13 14 rfl rfl)) ⟨hg, Below.refl _ _, rfl⟩⟩
        · exact fun ρ X9 fl hg hn hl hp ho hc hf hr => .inl ⟨rfl, Runs.val _ (op_assign (show ρ (.tmp 28) = .string (bs (ckey x)) from hr 14 28 rfl rfl)) ⟨hg, Below.refl _ _, rfl⟩⟩
        · exact fun ρ X9 fl hg hn hl hp ho hc hf hr => .inl ⟨rfl, Runs.val _ (op_assign (show ρ (.tmp 29) = .int .i64 (encE [nv x.id, x.v]) from hr 15 29 rfl rfl)) ⟨hg, Below.refl _ _, rfl⟩⟩
      case en =>
        intro a9 w6 fl hfl b6 hs9 hd9 ho9 hr9
        obtain ⟨x9, hx, hxt⟩ := act_put hs9 hd9 ho9
        have x6 : x9 6 = .string (bs (ckey x)) := (hxt 6).symm.trans (hr9 16 6 rfl)
        have x7 : x9 7 = .int .i64 (encE [nv x.id, x.v]) := (hxt 7).symm.trans (hr9 17 7 rfl)
        change a9 = putAll _ x9 [15, 16, 17, 18, 19, 20, 21, 22, 23, 24, 25, 26, 27, 14, 28, 29, 6, 7] at hx
        simp only [putAll, Act.put, List.setIfInBounds_toArray, List.set_cons_zero, List.set_cons_succ, x6, x7] at hx
        subst hx
        clear hs9 hd9 ho9 hr9 hfl x6 x7
        generalize x9 15 = z15, x9 16 = z16, x9 17 = z17, x9 18 = z18, x9 19 = z19, x9 20 = z20, x9 21 = z21, x9 22 = z22, x9 23 = z23, x9 24 = z24, x9 25 = z25, x9 26 = z26, x9 27 = z27, x9 14 = z14, x9 28 = z28, x9 29 = z29
        have HB6 := Lib.hid (bgo HB.out b6)
        have e0 : w6.cell? ⟨b, o + k * 4, none⟩ = some (.int .i64 x.id) := cell_on b6 c0
        obtain ⟨S, hS⟩ : ∃ S, bs (ckey x) = S := ⟨_, rfl⟩
        obtain ⟨E, hE⟩ : ∃ E, encE [nv x.id, x.v] = E := ⟨_, rfl⟩
        rw [hS, hE]
        have HC6 : Hid (∀ i (h : i < L.length), w6.cell? ⟨b, o + i * 4, none⟩ = some (.int .i64 L[i].id)) := Lib.hid fun i hi => by
          obtain ⟨b', o', e, q⟩ := HC.out i hi
          cases e
          exact cell_on b6 q
        clear c0 c1 c2 c3 b6 hfit HC
        cases hr : rightV x.v with
        | false =>
          have HN := Lib.hid (putS_no (L := L) (okC_no (k := k + 1) (by rw [HST.out]; unfold cOk; rw [hr, Bool.and_false])))
          obtain rfl : E = 10 := by rw [← hE]; exact encE_bad (by simp) (by simp [rightV_nv, hr])
          clear hS hE
          go_wp2
          go_quiet (fail)
          go_wp2
          go_ret2
          rw [HN.out.1, HN.out.2]
          exact ⟨rfl, below_draw HB6.out _⟩
        | true =>
          obtain rfl : E = 0 := by rw [← hE]; exact encE_ok (by simp) (by simp [rightV_nv, hr])
          by_cases hid1 : x.id < 1
          · have HN := Lib.hid (putS_no (L := L) (okC_no (k := k + 1) (by
              rw [HST.out]
              unfold cOk
              rcases hT : L.take k with _ | ⟨c, A⟩
              · rw [decide_eq_false (show ¬ lastF 0 [] < x.id by show ¬ (0 : Int) < _; omega)]; rfl
              · have := lastF_pos HO.out (by rw [hT]; simp)
                rw [hT] at this
                rw [decide_eq_false (by omega)]; rfl)))
            clear hS hE
            go_wp2
            go_quiet (fail)
            go_wp2
            go_ret2
            rw [HN.out.1, HN.out.2]
            exact ⟨rfl, below_draw HB6.out _⟩
          · have HR1 := Lib.hid hr
            have hkl := ckey_len hr HFX.out
            have hSz : S.size ≤ 140 := by rw [← hS, bs_size]; exact hkl
            have hnb : ¬ 9223372036854775807 < t.size + 1 := by omega
            have hnb2 : ¬ 9223372036854775807 < t.size + 1 + S.size := by omega
            have hu8 : IntKind.u8.wrap (S.size : Int) = (S.size : Int) := by rw [IntKind.wrap_u8]; omega
            have HSE : Hid (S = bs (ckey x)) := Lib.hid hS.symm
            have HKY := Lib.hid hkl
            clear hkl hr
            rcases Nat.eq_zero_or_pos k with hk0 | hkp
            · subst hk0
              have e0 : w6.cell? ⟨b, o, none⟩ = some (.int .i64 x.id) := by simpa using e0
              have hok : okC 0 (L.take (0 + 1)) = true := by
                rw [HST.out]
                unfold cOk
                rw [decide_eq_true (show lastF 0 (L.take 0) < x.id by show (0 : Int) < _; omega), HR1.out]; rfl
              have HOK := Lib.hid hok
              clear hok hS hE
              go_upto_region 6 with fail
              refine wp_region_fb (fun _ X9 => Below w6.heap.size w6 X9) (fun X9 X8 => Below X9.heap.size X9 X8) [
                fun v9 _ => v9 = .int .i64 0,
                fun v9 _ => v9 = .bool false,
                fun v9 _ => v9 = .bool false,
                fun v9 _ => v9 = .slice (some ⟨b, o, none⟩) L.length cap,
                fun v9 _ => v9 = .int .i64 0,
                fun v9 _ => v9 = .pointer (some ⟨b, o + 0 * 4, none⟩),
                fun v9 _ => v9 = .pointer (some ⟨b, o + 0 * 4, none⟩),
                fun v9 _ => v9 = .int .i64 x.id,
                fun v9 _ => v9 = .bool false,
                fun v9 _ => v9 = .bool false,
                fun v9 _ => v9 = .bool false,
                fun v9 _ => v9 = .int .i64 0,
                fun v9 _ => v9 = .bool false,
                fun v9 _ => v9 = .bool false,
                fun v9 _ => v9 = undef,
                fun v9 _ => v9 = undef,
                fun v9 _ => v9 = undef,
                fun v9 _ => v9 = undef,
                fun v9 _ => v9 = undef,
                fun v9 _ => v9 = undef,
                fun v9 _ => v9 = undef,
                fun v9 _ => v9 = undef,
                fun v9 _ => v9 = undef,
                fun v9 _ => v9 = undef,
                fun v9 _ => v9 = undef,
                fun v9 _ => v9 = undef,
                fun v9 _ => v9 = .bool false,
                fun v9 _ => v9 = .bool false]
                (by kernel_rfl) (by kernel_rfl) (by kernel_rfl) ?st ?g0 ?os ?en
              case st => exact ⟨fun _ _ _ _ h => h, fun _ _ _ _ h => h, fun _ _ _ _ h => h, fun _ _ _ _ h => h, fun _ _ _ _ h => h, fun _ _ _ _ h => h, fun _ _ _ _ h => h, fun _ _ _ _ h => h, fun _ _ _ _ h => h, fun _ _ _ _ h => h, fun _ _ _ _ h => h, fun _ _ _ _ h => h, fun _ _ _ _ h => h, fun _ _ _ _ h => h, fun _ _ _ _ h => h, fun _ _ _ _ h => h, fun _ _ _ _ h => h, fun _ _ _ _ h => h, fun _ _ _ _ h => h, fun _ _ _ _ h => h, fun _ _ _ _ h => h, fun _ _ _ _ h => h, fun _ _ _ _ h => h, fun _ _ _ _ h => h, fun _ _ _ _ h => h, fun _ _ _ _ h => h, fun _ _ _ _ h => h, fun _ _ _ _ h => h, trivial⟩
              case g0 => exact ⟨rfl, rfl, rfl, Nat.le_refl _, fun _ _ => rfl⟩
              case os =>
                refine ⟨?_, ?_, ?_, ?_, ?_, ?_, ?_, ?_, ?_, ?_, ?_, ?_, ?_, ?_, ?_, ?_, ?_, ?_, ?_, ?_, ?_, ?_, ?_, ?_, ?_, ?_, ?_, ?_, trivial⟩
                · exact fun ρ X9 fl hg hn hl hp ho hc hf hr => .inl ⟨rfl, Runs.val _ (op_move (show ρ (.tmp 7) = .int .i64 0 from ho 7 rfl)) ⟨hg, Below.refl _ _, rfl⟩⟩
                · exact fun ρ X9 fl hg hn hl hp ho hc hf hr => .inl ⟨rfl, Runs.val _ (op_neq3 (show ρ (.tmp 30) = .int .i64 0 from hr 0 30 rfl rfl) (hc _) (b := false) (by simp)) ⟨hg, Below.refl _ _, rfl⟩⟩
                · exact fun ρ X9 fl hg hn hl hp ho hc hf hr => .inl ⟨rfl, Runs.val _ (op_move (show ρ (.tmp 31) = .bool false from hr 1 31 rfl rfl)) ⟨hg, Below.refl _ _, rfl⟩⟩
                · exact fun ρ X9 fl hg hn hl hp ho hc hf hr => .inr (.inl ⟨2, 32, false, fun _ => rfl, rfl, hr 2 32 rfl rfl, Runs.val _ (op_move (show ρ (.tmp 0) = .slice (some ⟨b, o, none⟩) L.length cap from ho 0 rfl)) ⟨hg, Below.refl _ _, rfl⟩⟩)
                · exact fun ρ X9 fl hg hn hl hp ho hc hf hr => .inr (.inl ⟨2, 32, false, fun _ => rfl, rfl, hr 2 32 rfl rfl, Runs.val _ (op_move (show ρ (.tmp 5) = .int .i64 0 from ho 5 rfl)) ⟨hg, Below.refl _ _, rfl⟩⟩)
                · exact fun ρ X9 fl hg hn hl hp ho hc hf hr => .inr (.inl ⟨2, 32, false, fun _ => rfl, rfl, hr 2 32 rfl rfl, Runs.val _ (op_i40 (show ρ (.tmp 33) = .slice (some ⟨b, o, none⟩) L.length cap from hr 3 33 rfl rfl) (i := 0) (show ρ (.tmp 34) = .int .i64 0 from hr 4 34 rfl rfl) HKL.out) ⟨hg, Below.refl _ _, rfl⟩⟩)
                · exact fun ρ X9 fl hg hn hl hp ho hc hf hr => .inr (.inl ⟨2, 32, false, fun _ => rfl, rfl, hr 2 32 rfl rfl, Runs.val _ (op_f89_0 (show ρ (.tmp 35) = .pointer (some ⟨b, o + 0 * 4, none⟩) from hr 5 35 rfl rfl)) ⟨hg, Below.refl _ _, rfl⟩⟩)
                · exact fun ρ X9 fl hg hn hl hp ho hc hf hr => .inr (.inl ⟨2, 32, false, fun _ => rfl, rfl, hr 2 32 rfl rfl, Runs.val _ (op_load3 (show ρ (.tmp 36) = .pointer (some ⟨b, o + 0 * 4, none⟩) from hr 6 36 rfl rfl) (cell_on hg e0)) ⟨hg, Below.refl _ _, rfl⟩⟩)
                · exact fun ρ X9 fl hg hn hl hp ho hc hf hr => .inr (.inl ⟨2, 32, false, fun _ => rfl, rfl, hr 2 32 rfl rfl, Runs.val _ (op_lss3 (show ρ (.tmp 37) = .int .i64 x.id from hr 7 37 rfl rfl) (hc _) (b := false) (decide_eq_false hid1)) ⟨hg, Below.refl _ _, rfl⟩⟩)
                · exact fun ρ X9 fl hg hn hl hp ho hc hf hr => .inl ⟨rfl, Runs.val _ (op_pick (show ρ (.tmp 32) = .bool false from hr 2 32 rfl rfl) (show ρ (.tmp 38) = .bool false from hr 8 38 rfl rfl)) ⟨hg, Below.refl _ _, rfl⟩⟩
                · exact fun ρ X9 fl hg hn hl hp ho hc hf hr => .inl ⟨rfl, Runs.val _ (op_move (show ρ (.tmp 39) = .bool false from hr 9 39 rfl rfl)) ⟨hg, Below.refl _ _, rfl⟩⟩
                · exact fun ρ X9 fl hg hn hl hp ho hc hf hr => .inr (.inl ⟨10, 40, false, fun _ => rfl, rfl, hr 10 40 rfl rfl, Runs.val _ (op_move (show ρ (.tmp 5) = .int .i64 0 from ho 5 rfl)) ⟨hg, Below.refl _ _, rfl⟩⟩)
                · exact fun ρ X9 fl hg hn hl hp ho hc hf hr => .inr (.inl ⟨10, 40, false, fun _ => rfl, rfl, hr 10 40 rfl rfl, Runs.val _ (op_gtr3 (show ρ (.tmp 41) = .int .i64 0 from hr 11 41 rfl rfl) (hc _) (b := false) (by simp)) ⟨hg, Below.refl _ _, rfl⟩⟩)
                · exact fun ρ X9 fl hg hn hl hp ho hc hf hr => .inr (.inl ⟨10, 40, false, fun _ => rfl, rfl, hr 10 40 rfl rfl, Runs.val _ (op_move (show ρ (.tmp 42) = .bool false from hr 12 42 rfl rfl)) ⟨hg, Below.refl _ _, rfl⟩⟩)
                · exact fun ρ X9 fl hg hn hl hp ho hc hf hr => .inr (.inr ⟨13, 43, true, fun _ => rfl, rfl, (fun q => by rw [show ρ (.tmp 43) = .bool false from hr 13 43 rfl rfl] at q; cases q), hg, Below.refl _ _, rfl⟩)
                · exact fun ρ X9 fl hg hn hl hp ho hc hf hr => .inr (.inr ⟨13, 43, true, fun _ => rfl, rfl, (fun q => by rw [show ρ (.tmp 43) = .bool false from hr 13 43 rfl rfl] at q; cases q), hg, Below.refl _ _, rfl⟩)
                · exact fun ρ X9 fl hg hn hl hp ho hc hf hr => .inr (.inr ⟨13, 43, true, fun _ => rfl, rfl, (fun q => by rw [show ρ (.tmp 43) = .bool false from hr 13 43 rfl rfl] at q; cases q), hg, Below.refl _ _, rfl⟩)
                · exact fun ρ X9 fl hg hn hl hp ho hc hf hr => .inr (.inr ⟨13, 43, true, fun _ => rfl, rfl, (fun q => by rw [show ρ (.tmp 43) = .bool false from hr 13 43 rfl rfl] at q; cases q), hg, Below.refl _ _, rfl⟩)
                · exact fun ρ X9 fl hg hn hl hp ho hc hf hr => .inr (.inr ⟨13, 43, true, fun _ => rfl, rfl, (fun q => by rw [show ρ (.tmp 43) = .bool false from hr 13 43 rfl rfl] at q; cases q), hg, Below.refl _ _, rfl⟩)
                · exact fun ρ X9 fl hg hn hl hp ho hc hf hr => .inr (.inr ⟨13, 43, true, fun _ => rfl, rfl, (fun q => by rw [show ρ (.tmp 43) = .bool false from hr 13 43 rfl rfl] at q; cases q), hg, Below.refl _ _, rfl⟩)
                · exact fun ρ X9 fl hg hn hl hp ho hc hf hr => .inr (.inr ⟨13, 43, true, fun _ => rfl, rfl, (fun q => by rw [show ρ (.tmp 43) = .bool false from hr 13 43 rfl rfl] at q; cases q), hg, Below.refl _ _, rfl⟩)
                · exact fun ρ X9 fl hg hn hl hp ho hc hf hr => .inr (.inr ⟨13, 43, true, fun _ => rfl, rfl, (fun q => by rw [show ρ (.tmp 43) = .bool false from hr 13 43 rfl rfl] at q; cases q), hg, Below.refl _ _, rfl⟩)
                · exact fun ρ X9 fl hg hn hl hp ho hc hf hr => .inr (.inr ⟨13, 43, true, fun _ => rfl, rfl, (fun q => by rw [show ρ (.tmp 43) = .bool false from hr 13 43 rfl rfl] at q; cases q), hg, Below.refl _ _, rfl⟩)
                · exact fun ρ X9 fl hg hn hl hp ho hc hf hr => .inr (.inr ⟨13, 43, true, fun _ => rfl, rfl, (fun q => by rw [show ρ (.tmp 43) = .bool false from hr 13 43 rfl rfl] at q; cases q), hg, Below.refl _ _, rfl⟩)
                · exact fun ρ X9 fl hg hn hl hp ho hc hf hr => .inr (.inr ⟨13, 43, true, fun _ => rfl, rfl, (fun q => by rw [show ρ (.tmp 43) = .bool false from hr 13 43 rfl rfl] at q; cases q), hg, Below.refl _ _, rfl⟩)
                · exact fun ρ X9 fl hg hn hl hp ho hc hf hr => .inr (.inr ⟨13, 43, true, fun _ => rfl, rfl, (fun q => by rw [show ρ (.tmp 43) = .bool false from hr 13 43 rfl rfl] at q; cases q), hg, Below.refl _ _, rfl⟩)
                · exact fun ρ X9 fl hg hn hl hp ho hc hf hr => .inr (.inl ⟨10, 40, false, fun _ => rfl, rfl, hr 10 40 rfl rfl, Runs.val _ (op_pick (show ρ (.tmp 43) = .bool false from hr 13 43 rfl rfl) (hc _)) ⟨hg, Below.refl _ _, rfl⟩⟩)
                · exact fun ρ X9 fl hg hn hl hp ho hc hf hr => .inl ⟨rfl, Runs.val _ (op_pick (show ρ (.tmp 40) = .bool false from hr 10 40 rfl rfl) (show ρ (.tmp 56) = .bool false from hr 26 56 rfl rfl)) ⟨hg, Below.refl _ _, rfl⟩⟩
              case en =>
                intro a9 w7 fl hfl b7 hs9 hd9 ho9 hr9
                obtain ⟨x9, hx, hxt⟩ := act_put hs9 hd9 ho9
                have x57 : x9 57 = .bool false := (hxt 57).symm.trans (hr9 27 57 rfl)
                change a9 = putAll _ x9 [30, 31, 32, 33, 34, 35, 36, 37, 38, 39, 40, 41, 42, 43, 44, 45, 46, 47, 48, 49, 50, 51, 52, 53, 54, 55, 56, 57] at hx
                simp only [putAll, Act.put, List.setIfInBounds_toArray, List.set_cons_zero, List.set_cons_succ, x57] at hx
                subst hx
                clear hs9 hd9 ho9 hr9 hfl x57
                generalize x9 30 = z30, x9 31 = z31, x9 32 = z32, x9 33 = z33, x9 34 = z34, x9 35 = z35, x9 36 = z36, x9 37 = z37, x9 38 = z38, x9 39 = z39, x9 40 = z40, x9 41 = z41, x9 42 = z42, x9 43 = z43, x9 44 = z44, x9 45 = z45, x9 46 = z46, x9 47 = z47, x9 48 = z48, x9 49 = z49, x9 50 = z50, x9 51 = z51, x9 52 = z52, x9 53 = z53, x9 54 = z54, x9 55 = z55, x9 56 = z56
                have HB7 := Lib.hid (bgo HB6.out b7)
                clear b7 e0
                have hcv := conv_one w7 hSz
                go_wp2
                go_roundw
                case rel => 
                  refine ⟨_, _, HKL.out, by go_num, rfl, ?_, HB7.out.alloc HB7.out.size _, HOK⟩
                  rw [HRS.out, HT.out, HSE.out]
                  exact Lib.hid (by rw [bs_app, bs_app, bs_size, List.append_assoc]; rfl)
                case measure => simp [intOf]; omega
            · obtain ⟨m, hkm⟩ : ∃ m, k = m + 1 := ⟨k - 1, by omega⟩
              have hmi : (k : Int) - 1 = (m : Int) := by omega
              have hml : m < L.length := by have := HKL.out; omega
              obtain ⟨p, hp⟩ : ∃ p, L[m]'hml = p := ⟨_, rfl⟩
              have e1 := HC6.out m hml
              rw [hp] at e1
              have hls : lastF 0 (L.take k) = p.id := by rw [hkm, List.take_succ_eq_append_getElem hml, lastF_snoc, hp]
              have m0 : (0 : Int) ≤ m := by omega
              have m1 : (m : Int) < L.length := by omega
              have m2 : (0 : Int) < (k : Int) := by omega
              have m3 : (m : Int) ≤ 1000 := by omega
              by_cases hle : x.id ≤ p.id
              · have HN := Lib.hid (putS_no (L := L) (okC_no (k := k + 1) (by rw [HST.out, hls]; unfold cOk; rw [decide_eq_false (by omega)]; rfl)))
                clear hls hp hkm
                go_upto_region 6 with fail
                refine wp_region_fb (fun _ X9 => Below w6.heap.size w6 X9) (fun X9 X8 => Below X9.heap.size X9 X8) [
                  fun v9 _ => v9 = .int .i64 0,
                  fun v9 _ => v9 = .bool false,
                  fun v9 _ => v9 = .bool false,
                  fun v9 _ => v9 = .slice (some ⟨b, o, none⟩) L.length cap,
                  fun v9 _ => v9 = .int .i64 (k : Int),
                  fun v9 _ => v9 = .pointer (some ⟨b, o + k * 4, none⟩),
                  fun v9 _ => v9 = .pointer (some ⟨b, o + k * 4, none⟩),
                  fun v9 _ => v9 = .int .i64 x.id,
                  fun v9 _ => v9 = .bool false,
                  fun v9 _ => v9 = .bool false,
                  fun v9 _ => v9 = .bool false,
                  fun v9 _ => v9 = .int .i64 (k : Int),
                  fun v9 _ => v9 = .bool true,
                  fun v9 _ => v9 = .bool true,
                  fun v9 _ => v9 = .slice (some ⟨b, o, none⟩) L.length cap,
                  fun v9 _ => v9 = .int .i64 (k : Int),
                  fun v9 _ => v9 = .pointer (some ⟨b, o + k * 4, none⟩),
                  fun v9 _ => v9 = .pointer (some ⟨b, o + k * 4, none⟩),
                  fun v9 _ => v9 = .int .i64 x.id,
                  fun v9 _ => v9 = .slice (some ⟨b, o, none⟩) L.length cap,
                  fun v9 _ => v9 = .int .i64 (k : Int),
                  fun v9 _ => v9 = .int .i64 (m : Int),
                  fun v9 _ => v9 = .pointer (some ⟨b, o + m * 4, none⟩),
                  fun v9 _ => v9 = .pointer (some ⟨b, o + m * 4, none⟩),
                  fun v9 _ => v9 = .int .i64 p.id,
                  fun v9 _ => v9 = .bool true,
                  fun v9 _ => v9 = .bool true,
                  fun v9 _ => v9 = .bool true]
                  (by kernel_rfl) (by kernel_rfl) (by kernel_rfl) ?st ?g0 ?os ?en
                case st => exact ⟨fun _ _ _ _ h => h, fun _ _ _ _ h => h, fun _ _ _ _ h => h, fun _ _ _ _ h => h, fun _ _ _ _ h => h, fun _ _ _ _ h => h, fun _ _ _ _ h => h, fun _ _ _ _ h => h, fun _ _ _ _ h => h, fun _ _ _ _ h => h, fun _ _ _ _ h => h, fun _ _ _ _ h => h, fun _ _ _ _ h => h, fun _ _ _ _ h => h, fun _ _ _ _ h => h, fun _ _ _ _ h => h, fun _ _ _ _ h => h, fun _ _ _ _ h => h, fun _ _ _ _ h => h, fun _ _ _ _ h => h, fun _ _ _ _ h => h, fun _ _ _ _ h => h, fun _ _ _ _ h => h, fun _ _ _ _ h => h, fun _ _ _ _ h => h, fun _ _ _ _ h => h, fun _ _ _ _ h => h, fun _ _ _ _ h => h, trivial⟩
                case g0 => exact ⟨rfl, rfl, rfl, Nat.le_refl _, fun _ _ => rfl⟩
                case os =>
                  refine ⟨?_, ?_, ?_, ?_, ?_, ?_, ?_, ?_, ?_, ?_, ?_, ?_, ?_, ?_, ?_, ?_, ?_, ?_, ?_, ?_, ?_, ?_, ?_, ?_, ?_, ?_, ?_, ?_, trivial⟩
                  · exact fun ρ X9 fl hg hn hl hp ho hc hf hr => .inl ⟨rfl, Runs.val _ (op_move (show ρ (.tmp 7) = .int .i64 0 from ho 7 rfl)) ⟨hg, Below.refl _ _, rfl⟩⟩
                  · exact fun ρ X9 fl hg hn hl hp ho hc hf hr => .inl ⟨rfl, Runs.val _ (op_neq3 (show ρ (.tmp 30) = .int .i64 0 from hr 0 30 rfl rfl) (hc _) (b := false) (by simp)) ⟨hg, Below.refl _ _, rfl⟩⟩
                  · exact fun ρ X9 fl hg hn hl hp ho hc hf hr => .inl ⟨rfl, Runs.val _ (op_move (show ρ (.tmp 31) = .bool false from hr 1 31 rfl rfl)) ⟨hg, Below.refl _ _, rfl⟩⟩
                  · exact fun ρ X9 fl hg hn hl hp ho hc hf hr => .inr (.inl ⟨2, 32, false, fun _ => rfl, rfl, hr 2 32 rfl rfl, Runs.val _ (op_move (show ρ (.tmp 0) = .slice (some ⟨b, o, none⟩) L.length cap from ho 0 rfl)) ⟨hg, Below.refl _ _, rfl⟩⟩)
                  · exact fun ρ X9 fl hg hn hl hp ho hc hf hr => .inr (.inl ⟨2, 32, false, fun _ => rfl, rfl, hr 2 32 rfl rfl, Runs.val _ (op_move (show ρ (.tmp 5) = .int .i64 (k : Int) from ho 5 rfl)) ⟨hg, Below.refl _ _, rfl⟩⟩)
                  · exact fun ρ X9 fl hg hn hl hp ho hc hf hr => .inr (.inl ⟨2, 32, false, fun _ => rfl, rfl, hr 2 32 rfl rfl, Runs.val _ (op_i40 (show ρ (.tmp 33) = .slice (some ⟨b, o, none⟩) L.length cap from hr 3 33 rfl rfl) (show ρ (.tmp 34) = .int .i64 (k : Int) from hr 4 34 rfl rfl) HKL.out) ⟨hg, Below.refl _ _, rfl⟩⟩)
                  · exact fun ρ X9 fl hg hn hl hp ho hc hf hr => .inr (.inl ⟨2, 32, false, fun _ => rfl, rfl, hr 2 32 rfl rfl, Runs.val _ (op_f89_0 (show ρ (.tmp 35) = .pointer (some ⟨b, o + k * 4, none⟩) from hr 5 35 rfl rfl)) ⟨hg, Below.refl _ _, rfl⟩⟩)
                  · exact fun ρ X9 fl hg hn hl hp ho hc hf hr => .inr (.inl ⟨2, 32, false, fun _ => rfl, rfl, hr 2 32 rfl rfl, Runs.val _ (op_load3 (show ρ (.tmp 36) = .pointer (some ⟨b, o + k * 4, none⟩) from hr 6 36 rfl rfl) (cell_on hg e0)) ⟨hg, Below.refl _ _, rfl⟩⟩)
                  · exact fun ρ X9 fl hg hn hl hp ho hc hf hr => .inr (.inl ⟨2, 32, false, fun _ => rfl, rfl, hr 2 32 rfl rfl, Runs.val _ (op_lss3 (show ρ (.tmp 37) = .int .i64 x.id from hr 7 37 rfl rfl) (hc _) (b := false) (decide_eq_false hid1)) ⟨hg, Below.refl _ _, rfl⟩⟩)
                  · exact fun ρ X9 fl hg hn hl hp ho hc hf hr => .inl ⟨rfl, Runs.val _ (op_pick (show ρ (.tmp 32) = .bool false from hr 2 32 rfl rfl) (show ρ (.tmp 38) = .bool false from hr 8 38 rfl rfl)) ⟨hg, Below.refl _ _, rfl⟩⟩
                  · exact fun ρ X9 fl hg hn hl hp ho hc hf hr => .inl ⟨rfl, Runs.val _ (op_move (show ρ (.tmp 39) = .bool false from hr 9 39 rfl rfl)) ⟨hg, Below.refl _ _, rfl⟩⟩
                  · exact fun ρ X9 fl hg hn hl hp ho hc hf hr => .inr (.inl ⟨10, 40, false, fun _ => rfl, rfl, hr 10 40 rfl rfl, Runs.val _ (op_move (show ρ (.tmp 5) = .int .i64 (k : Int) from ho 5 rfl)) ⟨hg, Below.refl _ _, rfl⟩⟩)
                  · exact fun ρ X9 fl hg hn hl hp ho hc hf hr => .inr (.inl ⟨10, 40, false, fun _ => rfl, rfl, hr 10 40 rfl rfl, Runs.val _ (op_gtr3 (show ρ (.tmp 41) = .int .i64 (k : Int) from hr 11 41 rfl rfl) (hc _) (b := true) (decide_eq_true m2)) ⟨hg, Below.refl _ _, rfl⟩⟩)
                  · exact fun ρ X9 fl hg hn hl hp ho hc hf hr => .inr (.inl ⟨10, 40, false, fun _ => rfl, rfl, hr 10 40 rfl rfl, Runs.val _ (op_move (show ρ (.tmp 42) = .bool true from hr 12 42 rfl rfl)) ⟨hg, Below.refl _ _, rfl⟩⟩)
                  · exact fun ρ X9 fl hg hn hl hp ho hc hf hr => .inr (.inl ⟨13, 43, true, fun _ => rfl, rfl, hr 13 43 rfl rfl, Runs.val _ (op_move (show ρ (.tmp 0) = .slice (some ⟨b, o, none⟩) L.length cap from ho 0 rfl)) ⟨hg, Below.refl _ _, rfl⟩⟩)
                  · exact fun ρ X9 fl hg hn hl hp ho hc hf hr => .inr (.inl ⟨13, 43, true, fun _ => rfl, rfl, hr 13 43 rfl rfl, Runs.val _ (op_move (show ρ (.tmp 5) = .int .i64 (k : Int) from ho 5 rfl)) ⟨hg, Below.refl _ _, rfl⟩⟩)
                  · exact fun ρ X9 fl hg hn hl hp ho hc hf hr => .inr (.inl ⟨13, 43, true, fun _ => rfl, rfl, hr 13 43 rfl rfl, Runs.val _ (op_i40 (show ρ (.tmp 44) = .slice (some ⟨b, o, none⟩) L.length cap from hr 14 44 rfl rfl) (show ρ (.tmp 45) = .int .i64 (k : Int) from hr 15 45 rfl rfl) HKL.out) ⟨hg, Below.refl _ _, rfl⟩⟩)
                  · exact fun ρ X9 fl hg hn hl hp ho hc hf hr => .inr (.inl ⟨13, 43, true, fun _ => rfl, rfl, hr 13 43 rfl rfl, Runs.val _ (op_f89_0 (show ρ (.tmp 46) = .pointer (some ⟨b, o + k * 4, none⟩) from hr 16 46 rfl rfl)) ⟨hg, Below.refl _ _, rfl⟩⟩)
                  · exact fun ρ X9 fl hg hn hl hp ho hc hf hr => .inr (.inl ⟨13, 43, true, fun _ => rfl, rfl, hr 13 43 rfl rfl, Runs.val _ (op_load3 (show ρ (.tmp 47) = .pointer (some ⟨b, o + k * 4, none⟩) from hr 17 47 rfl rfl) (cell_on hg e0)) ⟨hg, Below.refl _ _, rfl⟩⟩)
                  · exact fun ρ X9 fl hg hn hl hp ho hc hf hr => .inr (.inl ⟨13, 43, true, fun _ => rfl, rfl, hr 13 43 rfl rfl, Runs.val _ (op_move (show ρ (.tmp 0) = .slice (some ⟨b, o, none⟩) L.length cap from ho 0 rfl)) ⟨hg, Below.refl _ _, rfl⟩⟩)
                  · exact fun ρ X9 fl hg hn hl hp ho hc hf hr => .inr (.inl ⟨13, 43, true, fun _ => rfl, rfl, hr 13 43 rfl rfl, Runs.val _ (op_move (show ρ (.tmp 5) = .int .i64 (k : Int) from ho 5 rfl)) ⟨hg, Below.refl _ _, rfl⟩⟩)
                  · exact fun ρ X9 fl hg hn hl hp ho hc hf hr => .inr (.inl ⟨13, 43, true, fun _ => rfl, rfl, hr 13 43 rfl rfl, Runs.val _ (op_sub3 (show ρ (.tmp 50) = .int .i64 (k : Int) from hr 20 50 rfl rfl) (hc _) hmi (by omega) (by omega)) ⟨hg, Below.refl _ _, rfl⟩⟩)
                  · exact fun ρ X9 fl hg hn hl hp ho hc hf hr => .inr (.inl ⟨13, 43, true, fun _ => rfl, rfl, hr 13 43 rfl rfl, Runs.val _ (op_i40 (show ρ (.tmp 49) = .slice (some ⟨b, o, none⟩) L.length cap from hr 19 49 rfl rfl) (show ρ (.tmp 51) = .int .i64 (m : Int) from hr 21 51 rfl rfl) hml) ⟨hg, Below.refl _ _, rfl⟩⟩)
                  · exact fun ρ X9 fl hg hn hl hp ho hc hf hr => .inr (.inl ⟨13, 43, true, fun _ => rfl, rfl, hr 13 43 rfl rfl, Runs.val _ (op_f89_0 (show ρ (.tmp 52) = .pointer (some ⟨b, o + m * 4, none⟩) from hr 22 52 rfl rfl)) ⟨hg, Below.refl _ _, rfl⟩⟩)
                  · exact fun ρ X9 fl hg hn hl hp ho hc hf hr => .inr (.inl ⟨13, 43, true, fun _ => rfl, rfl, hr 13 43 rfl rfl, Runs.val _ (op_load3 (show ρ (.tmp 53) = .pointer (some ⟨b, o + m * 4, none⟩) from hr 23 53 rfl rfl) (cell_on hg e1)) ⟨hg, Below.refl _ _, rfl⟩⟩)
                  · exact fun ρ X9 fl hg hn hl hp ho hc hf hr => .inr (.inl ⟨13, 43, true, fun _ => rfl, rfl, hr 13 43 rfl rfl, Runs.val _ (op_leq3 (show ρ (.tmp 48) = .int .i64 x.id from hr 18 48 rfl rfl) (show ρ (.tmp 54) = .int .i64 p.id from hr 24 54 rfl rfl) (b := true) (decide_eq_true hle)) ⟨hg, Below.refl _ _, rfl⟩⟩)
                  · exact fun ρ X9 fl hg hn hl hp ho hc hf hr => .inr (.inl ⟨10, 40, false, fun _ => rfl, rfl, hr 10 40 rfl rfl, Runs.val _ (op_pick (show ρ (.tmp 43) = .bool true from hr 13 43 rfl rfl) (show ρ (.tmp 55) = .bool true from hr 25 55 rfl rfl)) ⟨hg, Below.refl _ _, rfl⟩⟩)
                  · exact fun ρ X9 fl hg hn hl hp ho hc hf hr => .inl ⟨rfl, Runs.val _ (op_pick (show ρ (.tmp 40) = .bool false from hr 10 40 rfl rfl) (show ρ (.tmp 56) = .bool true from hr 26 56 rfl rfl)) ⟨hg, Below.refl _ _, rfl⟩⟩
                case en =>
                  intro a9 w7 fl hfl b7 hs9 hd9 ho9 hr9
                  obtain ⟨x9, hx, hxt⟩ := act_put hs9 hd9 ho9
                  have x57 : x9 57 = .bool true := (hxt 57).symm.trans (hr9 27 57 rfl)
                  change a9 = putAll _ x9 [30, 31, 32, 33, 34, 35, 36, 37, 38, 39, 40, 41, 42, 43, 44, 45, 46, 47, 48, 49, 50, 51, 52, 53, 54, 55, 56, 57] at hx
                  simp only [putAll, Act.put, List.setIfInBounds_toArray, List.set_cons_zero, List.set_cons_succ, x57] at hx
                  subst hx
                  clear hs9 hd9 ho9 hr9 hfl x57
                  generalize x9 30 = z30, x9 31 = z31, x9 32 = z32, x9 33 = z33, x9 34 = z34, x9 35 = z35, x9 36 = z36, x9 37 = z37, x9 38 = z38, x9 39 = z39, x9 40 = z40, x9 41 = z41, x9 42 = z42, x9 43 = z43, x9 44 = z44, x9 45 = z45, x9 46 = z46, x9 47 = z47, x9 48 = z48, x9 49 = z49, x9 50 = z50, x9 51 = z51, x9 52 = z52, x9 53 = z53, x9 54 = z54, x9 55 = z55, x9 56 = z56
                  have HB7 := Lib.hid (bgo HB6.out b7)
                  clear b7
                  go_wp2
                  go_ret2
                  rw [HN.out.1, HN.out.2]
                  exact ⟨rfl, HB7.out⟩
              · have hok : okC 0 (L.take (k + 1)) = true := by
                  rw [HST.out, hls]
                  unfold cOk
                  rw [decide_eq_true (by omega), HR1.out]; rfl
                have HOK := Lib.hid hok
                clear hok hS hE hls hp hkm hkp
                go_upto_region 6 with fail
                refine wp_region_fb (fun _ X9 => Below w6.heap.size w6 X9) (fun X9 X8 => Below X9.heap.size X9 X8) [
                  fun v9 _ => v9 = .int .i64 0,
                  fun v9 _ => v9 = .bool false,
                  fun v9 _ => v9 = .bool false,
                  fun v9 _ => v9 = .slice (some ⟨b, o, none⟩) L.length cap,
                  fun v9 _ => v9 = .int .i64 (k : Int),
                  fun v9 _ => v9 = .pointer (some ⟨b, o + k * 4, none⟩),
                  fun v9 _ => v9 = .pointer (some ⟨b, o + k * 4, none⟩),
                  fun v9 _ => v9 = .int .i64 x.id,
                  fun v9 _ => v9 = .bool false,
                  fun v9 _ => v9 = .bool false,
                  fun v9 _ => v9 = .bool false,
                  fun v9 _ => v9 = .int .i64 (k : Int),
                  fun v9 _ => v9 = .bool true,
                  fun v9 _ => v9 = .bool true,
                  fun v9 _ => v9 = .slice (some ⟨b, o, none⟩) L.length cap,
                  fun v9 _ => v9 = .int .i64 (k : Int),
                  fun v9 _ => v9 = .pointer (some ⟨b, o + k * 4, none⟩),
                  fun v9 _ => v9 = .pointer (some ⟨b, o + k * 4, none⟩),
                  fun v9 _ => v9 = .int .i64 x.id,
                  fun v9 _ => v9 = .slice (some ⟨b, o, none⟩) L.length cap,
                  fun v9 _ => v9 = .int .i64 (k : Int),
                  fun v9 _ => v9 = .int .i64 (m : Int),
                  fun v9 _ => v9 = .pointer (some ⟨b, o + m * 4, none⟩),
                  fun v9 _ => v9 = .pointer (some ⟨b, o + m * 4, none⟩),
                  fun v9 _ => v9 = .int .i64 p.id,
                  fun v9 _ => v9 = .bool false,
                  fun v9 _ => v9 = .bool false,
                  fun v9 _ => v9 = .bool false]
                  (by kernel_rfl) (by kernel_rfl) (by kernel_rfl) ?st ?g0 ?os ?en
                case st => exact ⟨fun _ _ _ _ h => h, fun _ _ _ _ h => h, fun _ _ _ _ h => h, fun _ _ _ _ h => h, fun _ _ _ _ h => h, fun _ _ _ _ h => h, fun _ _ _ _ h => h, fun _ _ _ _ h => h, fun _ _ _ _ h => h, fun _ _ _ _ h => h, fun _ _ _ _ h => h, fun _ _ _ _ h => h, fun _ _ _ _ h => h, fun _ _ _ _ h => h, fun _ _ _ _ h => h, fun _ _ _ _ h => h, fun _ _ _ _ h => h, fun _ _ _ _ h => h, fun _ _ _ _ h => h, fun _ _ _ _ h => h, fun _ _ _ _ h => h, fun _ _ _ _ h => h, fun _ _ _ _ h => h, fun _ _ _ _ h => h, fun _ _ _ _ h => h, fun _ _ _ _ h => h, fun _ _ _ _ h => h, fun _ _ _ _ h => h, trivial⟩
                case g0 => exact ⟨rfl, rfl, rfl, Nat.le_refl _, fun _ _ => rfl⟩
                case os =>
                  refine ⟨?_, ?_, ?_, ?_, ?_, ?_, ?_, ?_, ?_, ?_, ?_, ?_, ?_, ?_, ?_, ?_, ?_, ?_, ?_, ?_, ?_, ?_, ?_, ?_, ?_, ?_, ?_, ?_, trivial⟩
                  · exact fun ρ X9 fl hg hn hl hp ho hc hf hr => .inl ⟨rfl, Runs.val _ (op_move (show ρ (.tmp 7) = .int .i64 0 from ho 7 rfl)) ⟨hg, Below.refl _ _, rfl⟩⟩
                  · exact fun ρ X9 fl hg hn hl hp ho hc hf hr => .inl ⟨rfl, Runs.val _ (op_neq3 (show ρ (.tmp 30) = .int .i64 0 from hr 0 30 rfl rfl) (hc _) (b := false) (by simp)) ⟨hg, Below.refl _ _, rfl⟩⟩
                  · exact fun ρ X9 fl hg hn hl hp ho hc hf hr => .inl ⟨rfl, Runs.val _ (op_move (show ρ (.tmp 31) = .bool false from hr 1 31 rfl rfl)) ⟨hg, Below.refl _ _, rfl⟩⟩
                  · exact fun ρ X9 fl hg hn hl hp ho hc hf hr => .inr (.inl ⟨2, 32, false, fun _ => rfl, rfl, hr 2 32 rfl rfl, Runs.val _ (op_move (show ρ (.tmp 0) = .slice (some ⟨b, o, none⟩) L.length cap from ho 0 rfl)) ⟨hg, Below.refl _ _, rfl⟩⟩)
                  · exact fun ρ X9 fl hg hn hl hp ho hc hf hr => .inr (.inl ⟨2, 32, false, fun _ => rfl, rfl, hr 2 32 rfl rfl, Runs.val _ (op_move (show ρ (.tmp 5) = .int .i64 (k : Int) from ho 5 rfl)) ⟨hg, Below.refl _ _, rfl⟩⟩)
                  · exact fun ρ X9 fl hg hn hl hp ho hc hf hr => .inr (.inl ⟨2, 32, false, fun _ => rfl, rfl, hr 2 32 rfl rfl, Runs.val _ (op_i40 (show ρ (.tmp 33) = .slice (some ⟨b, o, none⟩) L.length cap from hr 3 33 rfl rfl) (show ρ (.tmp 34) = .int .i64 (k : Int) from hr 4 34 rfl rfl) HKL.out) ⟨hg, Below.refl _ _, rfl⟩⟩)
                  · exact fun ρ X9 fl hg hn hl hp ho hc hf hr => .inr (.inl ⟨2, 32, false, fun _ => rfl, rfl, hr 2 32 rfl rfl, Runs.val _ (op_f89_0 (show ρ (.tmp 35) = .pointer (some ⟨b, o + k * 4, none⟩) from hr 5 35 rfl rfl)) ⟨hg, Below.refl _ _, rfl⟩⟩)
                  · exact fun ρ X9 fl hg hn hl hp ho hc hf hr => .inr (.inl ⟨2, 32, false, fun _ => rfl, rfl, hr 2 32 rfl rfl, Runs.val _ (op_load3 (show ρ (.tmp 36) = .pointer (some ⟨b, o + k * 4, none⟩) from hr 6 36 rfl rfl) (cell_on hg e0)) ⟨hg, Below.refl _ _, rfl⟩⟩)
                  · exact fun ρ X9 fl hg hn hl hp ho hc hf hr => .inr (.inl ⟨2, 32, false, fun _ => rfl, rfl, hr 2 32 rfl rfl, Runs.val _ (op_lss3 (show ρ (.tmp 37) = .int .i64 x.id from hr 7 37 rfl rfl) (hc _) (b := false) (decide_eq_false hid1)) ⟨hg, Below.refl _ _, rfl⟩⟩)
                  · exact fun ρ X9 fl hg hn hl hp ho hc hf hr => .inl ⟨rfl, Runs.val _ (op_pick (show ρ (.tmp 32) = .bool false from hr 2 32 rfl rfl) (show ρ (.tmp 38) = .bool false from hr 8 38 rfl rfl)) ⟨hg, Below.refl _ _, rfl⟩⟩
                  · exact fun ρ X9 fl hg hn hl hp ho hc hf hr => .inl ⟨rfl, Runs.val _ (op_move (show ρ (.tmp 39) = .bool false from hr 9 39 rfl rfl)) ⟨hg, Below.refl _ _, rfl⟩⟩
                  · exact fun ρ X9 fl hg hn hl hp ho hc hf hr => .inr (.inl ⟨10, 40, false, fun _ => rfl, rfl, hr 10 40 rfl rfl, Runs.val _ (op_move (show ρ (.tmp 5) = .int .i64 (k : Int) from ho 5 rfl)) ⟨hg, Below.refl _ _, rfl⟩⟩)
                  · exact fun ρ X9 fl hg hn hl hp ho hc hf hr => .inr (.inl ⟨10, 40, false, fun _ => rfl, rfl, hr 10 40 rfl rfl, Runs.val _ (op_gtr3 (show ρ (.tmp 41) = .int .i64 (k : Int) from hr 11 41 rfl rfl) (hc _) (b := true) (decide_eq_true m2)) ⟨hg, Below.refl _ _, rfl⟩⟩)
                  · exact fun ρ X9 fl hg hn hl hp ho hc hf hr => .inr (.inl ⟨10, 40, false, fun _ => rfl, rfl, hr 10 40 rfl rfl, Runs.val _ (op_move (show ρ (.tmp 42) = .bool true from hr 12 42 rfl rfl)) ⟨hg, Below.refl _ _, rfl⟩⟩)
                  · exact fun ρ X9 fl hg hn hl hp ho hc hf hr => .inr (.inl ⟨13, 43, true, fun _ => rfl, rfl, hr 13 43 rfl rfl, Runs.val _ (op_move (show ρ (.tmp 0) = .slice (some ⟨b, o, none⟩) L.length cap from ho 0 rfl)) ⟨hg, Below.refl _ _, rfl⟩⟩)
                  · exact fun ρ X9 fl hg hn hl hp ho hc hf hr => .inr (.inl ⟨13, 43, true, fun _ => rfl, rfl, hr 13 43 rfl rfl, Runs.val _ (op_move (show ρ (.tmp 5) = .int .i64 (k : Int) from ho 5 rfl)) ⟨hg, Below.refl _ _, rfl⟩⟩)
                  · exact fun ρ X9 fl hg hn hl hp ho hc hf hr => .inr (.inl ⟨13, 43, true, fun _ => rfl, rfl, hr 13 43 rfl rfl, Runs.val _ (op_i40 (show ρ (.tmp 44) = .slice (some ⟨b, o, none⟩) L.length cap from hr 14 44 rfl rfl) (show ρ (.tmp 45) = .int .i64 (k : Int) from hr 15 45 rfl rfl) HKL.out) ⟨hg, Below.refl _ _, rfl⟩⟩)
                  · exact fun ρ X9 fl hg hn hl hp ho hc hf hr => .inr (.inl ⟨13, 43, true, fun _ => rfl, rfl, hr 13 43 rfl rfl, Runs.val _ (op_f89_0 (show ρ (.tmp 46) = .pointer (some ⟨b, o + k * 4, none⟩) from hr 16 46 rfl rfl)) ⟨hg, Below.refl _ _, rfl⟩⟩)
                  · exact fun ρ X9 fl hg hn hl hp ho hc hf hr => .inr (.inl ⟨13, 43, true, fun _ => rfl, rfl, hr 13 43 rfl rfl, Runs.val _ (op_load3 (show ρ (.tmp 47) = .pointer (some ⟨b, o + k * 4, none⟩) from hr 17 47 rfl rfl) (cell_on hg e0)) ⟨hg, Below.refl _ _, rfl⟩⟩)
                  · exact fun ρ X9 fl hg hn hl hp ho hc hf hr => .inr (.inl ⟨13, 43, true, fun _ => rfl, rfl, hr 13 43 rfl rfl, Runs.val _ (op_move (show ρ (.tmp 0) = .slice (some ⟨b, o, none⟩) L.length cap from ho 0 rfl)) ⟨hg, Below.refl _ _, rfl⟩⟩)
                  · exact fun ρ X9 fl hg hn hl hp ho hc hf hr => .inr (.inl ⟨13, 43, true, fun _ => rfl, rfl, hr 13 43 rfl rfl, Runs.val _ (op_move (show ρ (.tmp 5) = .int .i64 (k : Int) from ho 5 rfl)) ⟨hg, Below.refl _ _, rfl⟩⟩)
                  · exact fun ρ X9 fl hg hn hl hp ho hc hf hr => .inr (.inl ⟨13, 43, true, fun _ => rfl, rfl, hr 13 43 rfl rfl, Runs.val _ (op_sub3 (show ρ (.tmp 50) = .int .i64 (k : Int) from hr 20 50 rfl rfl) (hc _) hmi (by omega) (by omega)) ⟨hg, Below.refl _ _, rfl⟩⟩)
                  · exact fun ρ X9 fl hg hn hl hp ho hc hf hr => .inr (.inl ⟨13, 43, true, fun _ => rfl, rfl, hr 13 43 rfl rfl, Runs.val _ (op_i40 (show ρ (.tmp 49) = .slice (some ⟨b, o, none⟩) L.length cap from hr 19 49 rfl rfl) (show ρ (.tmp 51) = .int .i64 (m : Int) from hr 21 51 rfl rfl) hml) ⟨hg, Below.refl _ _, rfl⟩⟩)
                  · exact fun ρ X9 fl hg hn hl hp ho hc hf hr => .inr (.inl ⟨13, 43, true, fun _ => rfl, rfl, hr 13 43 rfl rfl, Runs.val _ (op_f89_0 (show ρ (.tmp 52) = .pointer (some ⟨b, o + m * 4, none⟩) from hr 22 52 rfl rfl)) ⟨hg, Below.refl _ _, rfl⟩⟩)
                  · exact fun ρ X9 fl hg hn hl hp ho hc hf hr => .inr (.inl ⟨13, 43, true, fun _ => rfl, rfl, hr 13 43 rfl rfl, Runs.val _ (op_load3 (show ρ (.tmp 53) = .pointer (some ⟨b, o + m * 4, none⟩) from hr 23 53 rfl rfl) (cell_on hg e1)) ⟨hg, Below.refl _ _, rfl⟩⟩)
                  · exact fun ρ X9 fl hg hn hl hp ho hc hf hr => .inr (.inl ⟨13, 43, true, fun _ => rfl, rfl, hr 13 43 rfl rfl, Runs.val _ (op_leq3 (show ρ (.tmp 48) = .int .i64 x.id from hr 18 48 rfl rfl) (show ρ (.tmp 54) = .int .i64 p.id from hr 24 54 rfl rfl) (b := false) (decide_eq_false hle)) ⟨hg, Below.refl _ _, rfl⟩⟩)
                  · exact fun ρ X9 fl hg hn hl hp ho hc hf hr => .inr (.inl ⟨10, 40, false, fun _ => rfl, rfl, hr 10 40 rfl rfl, Runs.val _ (op_pick (show ρ (.tmp 43) = .bool true from hr 13 43 rfl rfl) (show ρ (.tmp 55) = .bool false from hr 25 55 rfl rfl)) ⟨hg, Below.refl _ _, rfl⟩⟩)
                  · exact fun ρ X9 fl hg hn hl hp ho hc hf hr => .inl ⟨rfl, Runs.val _ (op_pick (show ρ (.tmp 40) = .bool false from hr 10 40 rfl rfl) (show ρ (.tmp 56) = .bool false from hr 26 56 rfl rfl)) ⟨hg, Below.refl _ _, rfl⟩⟩
                case en =>
                  intro a9 w7 fl hfl b7 hs9 hd9 ho9 hr9
                  obtain ⟨x9, hx, hxt⟩ := act_put hs9 hd9 ho9
                  have x57 : x9 57 = .bool false := (hxt 57).symm.trans (hr9 27 57 rfl)
                  change a9 = putAll _ x9 [30, 31, 32, 33, 34, 35, 36, 37, 38, 39, 40, 41, 42, 43, 44, 45, 46, 47, 48, 49, 50, 51, 52, 53, 54, 55, 56, 57] at hx
                  simp only [putAll, Act.put, List.setIfInBounds_toArray, List.set_cons_zero, List.set_cons_succ, x57] at hx
                  subst hx
                  clear hs9 hd9 ho9 hr9 hfl x57
                  generalize x9 30 = z30, x9 31 = z31, x9 32 = z32, x9 33 = z33, x9 34 = z34, x9 35 = z35, x9 36 = z36, x9 37 = z37, x9 38 = z38, x9 39 = z39, x9 40 = z40, x9 41 = z41, x9 42 = z42, x9 43 = z43, x9 44 = z44, x9 45 = z45, x9 46 = z46, x9 47 = z47, x9 48 = z48, x9 49 = z49, x9 50 = z50, x9 51 = z51, x9 52 = z52, x9 53 = z53, x9 54 = z54, x9 55 = z55, x9 56 = z56
                  have HB7 := Lib.hid (bgo HB6.out b7)
                  clear b7 e0
                  have hcv := conv_one w7 hSz
                  go_wp2
                  go_roundw
                  case rel => 
                    refine ⟨_, _, HKL.out, by go_num, rfl, ?_, HB7.out.alloc HB7.out.size _, HOK⟩
                    rw [HRS.out, HT.out, HSE.out]
                    exact Lib.hid (by rw [bs_app, bs_app, bs_size, List.append_assoc]; rfl)
                  case measure => simp [intOf]; omega
    · have k1 : ¬ ((k : Int) < L.length) := by omega
      have hk' : L.take k = L := List.take_of_length_le (by omega)
      have HN : Hid (putS L = rowB L ∧ putE L = 0) := Lib.hid (putS_ok (by rw [← hk']; exact HO.out))
      have HT2 : Hid (t = bs (rowB L)) := Lib.hid (by rw [HT.out, hk'])
      clear hk' hb hlR
      go_wp2
      go_ret2
      rw [HN.out.1, HN.out.2, HT2.out]
      exact ⟨rfl, HB.out⟩
end Go.Proofs.Ytbepekgaipipjaa
