/- The walk of the statement DiaryPlays. -/
import Derived.Test.YtoipmpaebngppaaEo
namespace Go.Proofs.Ytoipmpaebngppaa
open Go.RowKit Go.Maps

theorem str_self (s : ByteArray) : (s.toList == s.toList) = true := by simp
theorem Ls.none (w : World) : Ls [] none w := ⟨fun i h => absurd h (by simp)⟩
theorem op_cells {w : World} {b : Nat} {kd : Int} {x : O} {K : List (Nat × Obj)} (h : ∀ p ∈ (b, opO kd x) :: K, w.heap[p.1]? = some p.2) : w.cell? ⟨b, 0, none⟩ = some (.int .i64 kd) ∧ w.cell? ⟨b, 1, none⟩ = some (.slice x.lad x.list.length x.lc) ∧ w.cell? ⟨b, 2, none⟩ = some (.int .i64 x.n) ∧ w.cell? ⟨b, 3, none⟩ = some (.slice x.kad x.keep.length x.kc) := by
  have hb : w.heap[b]? = some (opO kd x) := h (b, opO kd x) List.mem_cons_self
  refine ⟨?_, ?_, ?_, ?_⟩ <;> (rw [cell_blk hb]; rfl)
/-- Two drives without files. -/
theorem tv_start {w0 w : World} {A : Nat} (h : DO w0 w A 0 ⟨[], 0, false⟩) : ∃ S T, TV w0 (w.alloc (rfO (.slice none 0 0) false 0)) A w.heap.size 0 S T ⟨[], 0, false⟩ ⟨[], 0, false⟩ [] := by
  obtain ⟨S, h1, h2, h3⟩ := h
  have hal : Below w.heap.size w (w.alloc (rfO (.slice none 0 0) false 0)) := (Below.refl _ w).alloc (Nat.le_refl _) _
  have hs := h3.size
  refine ⟨S, fun k => k = w.heap.size, h1.on hal, ⟨0, ⟨.slice none 0 0, ⟨heap_alloc_new w _, World.ownsRow_nil _ _ _ _, List.Pairwise.nil, ?_, ?_, ?_, rfl, (fun k hk => by cases hk), (fun k hk => ?_), Nat.zero_le _, by omega⟩⟩, fun _ => rfl, Nat.zero_le _, by omega⟩, fun k a b => ?_, h2, fun k a => ?_, h3.trans (hal.mono hs), fun p hp => by cases hp⟩
  · intro f hf; cases hf
  · intro f hf; cases hf
  · intro f hf; cases hf
  · have e : k = w.heap.size := hk
    rw [e]
    simp
  · have e : k = w.heap.size := b
    have := h1.lt k a
    omega
  · have e : k = w.heap.size := a
    omega
/-- What the loop keeps. -/
def PJ (L : List O) (n : ByteArray) (w wr : World) (d r x e y f i : Value) : Prop := ∃ k N A B X Y s K c, k ≤ L.length ∧ N ≤ 1 + 3 * k ∧ d = .pointer (some ⟨A, 0, none⟩) ∧ r = .pointer (some ⟨B, 0, none⟩) ∧ x = .pointer (some ⟨X, 0, none⟩) ∧ e = .int .i64 c ∧ y = .pointer (some ⟨Y, 0, none⟩) ∧ f = .int .i64 c ∧ i = .int .i64 ((k : Nat) : Int) ∧ TK w wr A B N s K ∧ (X, pdO A n) ∈ K ∧ (Y, rdO B n) ∈ K ∧ s.fits (bud k)

set_option maxHeartbeats 16000000 in
set_option maxRecDepth 100000 in
theorem plays_law {L : List O} {ad : Option Addr} {cap : Nat} {w : World} {n : ByteArray} (hn : n.size ≤ maxLen) (hL : Li L ad w) (hT : szL L ≤ 1000000000000000000) (hlen : L.length ≤ 1000000000000000000) (hR : ∀ x ∈ L, -9223372036854775808 ≤ x.n ∧ x.n ≤ 9223372036854775807) :
    Calls Try.prog 3 #[.string n, .slice ad L.length cap] w fun e w' => e = .returned (.bool true) ∧ Below w.heap.size w w' := by
  go_enter Try.func3, Try.ntmps3
  go_wp2_with fail
  refine (awake_any w).mono ?_
  rintro e w1 ⟨rfl, hb1⟩
  go_wp2_with fail
  refine (great_any (hL.on hb1) hT hlen).mono ?_
  rintro e w2 ⟨b, rfl, hgr, hb2⟩
  have hb12 := hb1.trans (hb2.mono hb1.size)
  cases b with
  | true =>
    go_wp2_with fail
    refine (awake_any w2).mono ?_
    rintro e w3 ⟨rfl, hb3⟩
    go_wp2
    go_ret
    exact ⟨rfl, hb12.trans (hb3.mono hb12.size)⟩
  | false =>
    obtain ⟨hl100, hsz⟩ := hgr rfl
    clear hT hlen
    go_wp2_with fail
    refine (do_new hb12).mono ?_
    rintro e w3 ⟨A, rfl, h3⟩
    obtain ⟨S, T, hV⟩ := tv_start h3
    clear h3
    have hop := tv_open hV hn (Nat.le_trans (fits_text (M := 0) (fun f hf => by cases hf) n) (Nat.zero_le _)) (by omega)
    go_wp2_with fail
    refine hop.mono ?_
    rintro e w4 ⟨ps, k, _, hc⟩
    rcases hc with ⟨hd, _⟩ | ⟨_, X, ad4, cap4, rfl, hcall⟩
    · have hd2 := opn_crash ⟨[], 0, false⟩ [] n k
      rw [show (Ds.crash ⟨[], 0, false⟩ []) = ⟨[], 0, false⟩ from rfl] at hd2
      rw [hd2] at hd
      cases hd
    have hfit0 : ((⟨[], 0, false⟩ : Ds).dOpn n k).fits (bud 0) := fits_dOpn (fun f hf => by cases hf) n k
    obtain ⟨s0, es0⟩ : ∃ s0, (⟨[], 0, false⟩ : Ds).dOpn n k = s0 := ⟨_, rfl⟩
    rw [es0] at hcall hfit0
    clear es0 hop hV
    go_wp2_with fail
    refine hcall.mono ?_
    rintro e w5 ⟨Y, ad5, cap5, rfl, hTK, _, _⟩
    clear hcall
    have l1 : (L.length : Int) ≤ 100 := by omega
    go_wp2
    go_loopw [5, 6, 7, 9, 10, 12, 58] (fun d r x e y f i wr => PJ L n w wr d r x e y f i) (fun _ _ _ _ _ _ i _ => L.length - (intOf i).toNat)
    case atStart => exact ⟨0, 1, A, _, X, Y, s0, _, 0, Nat.zero_le _, by omega, rfl, rfl, rfl, rfl, rfl, rfl, rfl, hTK, List.mem_cons_self, List.mem_cons_of_mem _ List.mem_cons_self, hfit0⟩
    case round =>
      clear hTK hfit0
      obtain ⟨k, N, A, B, X, Y, s, K, c, hk, hN, rfl, rfl, rfl, rfl, rfl, rfl, rfl, ⟨S, T, hV⟩, hX, hY, hfits⟩ := hrel
      by_cases hlt : k < L.length
      · have hbw := hV.old
        obtain ⟨b, o, rfl, hbl, c0, c1, c2, c3⟩ := hL.at_on hbw k hlt
        have hst0 := hL.strs k hlt
        have hin0 := hL.ints k hlt
        have hrn := hR _ (List.getElem_mem hlt)
        have hso := szL_at L k hlt
        obtain ⟨x, hx⟩ : ∃ x, L[k] = x := ⟨_, rfl⟩
        rw [hx] at c0 c1 c2 c3 hst0 hin0 hrn hso
        have hsx : szO x = 1 + x.keep.length + szT x.list := rfl
        have hxl := szT_len x.list
        have hxs := sumS_szT x.list
        have hsum : sumS x.list ≤ 131072 := by omega
        have hkl : x.keep.length ≤ 16384 := by omega
        have hll : x.list.length ≤ 16384 := by omega
        clear hx hso hsx hxl hxs
        have k0 : (0 : Int) ≤ k := by omega
        have k1 : (k : Int) < L.length := by omega
        obtain ⟨kd, hkd⟩ : ∃ kd, x.kind = kd := ⟨_, rfl⟩
        rw [hkd] at c0
        clear hkd
        have hbud := bud_le (k := k) (by omega)
        have hbs := bud_succ k
        have hold : (oldF s.F n).data.size ≤ 1000000000000 := Nat.le_trans (old_big hfits) (by omega)
        have htxt : (s.text n).size ≤ 1000000000000 := Nat.le_trans (fits_text hfits n) (by omega)
        have hbx := hV.box (opO kd x)
        clear hV
        have hX' : (X, pdO A n) ∈ (wr.heap.size, opO kd x) :: K := List.mem_cons_of_mem _ hX
        have hY' : (Y, rdO B n) ∈ (wr.heap.size, opO kd x) :: K := List.mem_cons_of_mem _ hY
        have hlz : wr.heap.size < (wr.alloc (opO kd x)).heap.size := by simp
        by_cases q1 : kd = 1
        · subst q1
          obtain ⟨Z, hZ⟩ : ∃ Z, Z = wr.alloc (opO 1 x) := ⟨_, rfl⟩
          rw [← hZ] at hbx hlz
          have hbd : TV w Z.drew A B N S T s s ((wr.heap.size, opO 1 x) :: K) := hbx.drewN 1
          obtain ⟨ad5, cap5, w5, hrun5, hls5, _, hb5⟩ := strs_copy (cap := x.lc) (hst0.on hbd.old) (by omega)
          have hcall := tv_append (cap := cap5) (cap0 := x.lc) (hbd.on hb5) hX' hY' hls5 hst0 (by omega) hn hold (by omega)
          have hfit := fits_dApp (n := n) hfits hsum
          obtain ⟨s1, es1⟩ : ∃ s1, (s.dApp n x.list).1 = s1 := ⟨_, rfl⟩
          obtain ⟨c1', ec1⟩ : ∃ c1, (s.dApp n x.list).2 = c1 := ⟨_, rfl⟩
          rw [es1, ec1] at hcall
          rw [es1, ← bud_succ] at hfit
          clear es1 ec1
          have y0 := (op_cells hbx.blk).2.1
          have y5 := (op_cells (hbd.on hb5).blk).2.1
          have hne : wr.heap.size ≠ Z.heap.size := by omega
          have HX : Hid (Z = wr.alloc (.cells #[.int .i64 1, .slice x.lad x.list.length x.lc, .int .i64 x.n, .slice x.kad x.keep.length x.kc] 41)) := hZ
          clear hbx hbd hZ
          go_wp2
          rw [← HX.out]
          go_region_held3 (fun V => V.cell? ⟨wr.heap.size, 1, none⟩ = some (.slice x.lad x.list.length x.lc)) (first | go_keep | exact y5 | exact (op_cells hk6).2.1 | exact (op_cells hk7).2.1) (first
            | ((refine step_run (.tmp 67) (.tmp 69) rfl rfl hrun5 ?_))
            | ((go_at_call 12; refine hcall.mono ?_; rintro e w6 ⟨rfl, hk6, hcall6⟩))
            | ((go_at_call 13; refine hcall6.mono ?_; rintro e w7 ⟨rfl, hk7, S7, T7, hV7⟩)))
          all_goals
            have z0 := (op_cells hk7).1
            obtain ⟨t9, et9⟩ : ∃ t9, s1.text n = t9 := ⟨_, rfl⟩
            obtain ⟨c9, ec9⟩ : ∃ c9, s1.code = c9 := ⟨_, rfl⟩
            have hrd9 := tv_read hV7 hn
            rw [et9, ec9] at hrd9
            have e9 := str_self t9
            clear et9 ec9
            go_wp2_with fail
            refine hrd9.mono ?_
            rintro e W1 ⟨rfl, hcall9⟩
            go_wp2_with fail
            refine hcall9.mono ?_
            rintro e W2 ⟨rfl, hT9⟩
            clear hrd9 hcall9
            go_wp2
            go_roundw
            case rel => exact ⟨k + 1, N + 2, A, B, X, Y, s1, _, c1', by omega, by omega, rfl, rfl, rfl, rfl, rfl, rfl, by go_num, hT9, hX', hY', hfit⟩
            case measure => simp [intOf]; omega
        · by_cases q2 : kd = 2
          · subst q2
            obtain ⟨Z, hZ⟩ : ∃ Z, Z = wr.alloc (opO 2 x) := ⟨_, rfl⟩
            rw [← hZ] at hbx hlz
            have hbd : TV w Z.drew A B N S T s s ((wr.heap.size, opO 2 x) :: K) := hbx.drewN 1
            obtain ⟨ad5, cap5, w5, hrun5, hls5, _, hb5⟩ := strs_copy (cap := x.lc) (hst0.on hbd.old) (by omega)
            have hcall := tv_rewrite (cap := cap5) (cap0 := x.lc) (hbd.on hb5) hX' hY' hls5 hst0 (by omega) hn (by omega)
            have hfit := fits_dRew (n := n) hfits hsum
            obtain ⟨s1, es1⟩ : ∃ s1, (s.dRew n x.list).1 = s1 := ⟨_, rfl⟩
            obtain ⟨c1', ec1⟩ : ∃ c1, (s.dRew n x.list).2 = c1 := ⟨_, rfl⟩
            rw [es1, ec1] at hcall
            rw [es1, ← bud_succ] at hfit
            clear es1 ec1
            have y0 := (op_cells hbx.blk).2.1
            have y5 := (op_cells (hbd.on hb5).blk).2.1
            have hne : wr.heap.size ≠ Z.heap.size := by omega
            have HX : Hid (Z = wr.alloc (.cells #[.int .i64 2, .slice x.lad x.list.length x.lc, .int .i64 x.n, .slice x.kad x.keep.length x.kc] 41)) := hZ
            clear hbx hbd hZ
            go_wp2
            rw [← HX.out]
            go_region_held3 (fun V => V.cell? ⟨wr.heap.size, 1, none⟩ = some (.slice x.lad x.list.length x.lc)) (first | go_keep | exact y5 | exact (op_cells hk6).2.1 | exact (op_cells hk7).2.1) (first
              | ((refine step_run (.tmp 79) (.tmp 81) rfl rfl hrun5 ?_))
              | ((go_at_call 14; refine hcall.mono ?_; rintro e w6 ⟨rfl, hk6, hcall6⟩))
              | ((go_at_call 15; refine hcall6.mono ?_; rintro e w7 ⟨rfl, hk7, S7, T7, hV7⟩)))
            all_goals
              have z0 := (op_cells hk7).1
              obtain ⟨t9, et9⟩ : ∃ t9, s1.text n = t9 := ⟨_, rfl⟩
              obtain ⟨c9, ec9⟩ : ∃ c9, s1.code = c9 := ⟨_, rfl⟩
              have hrd9 := tv_read hV7 hn
              rw [et9, ec9] at hrd9
              have e9 := str_self t9
              clear et9 ec9
              go_wp2_with fail
              refine hrd9.mono ?_
              rintro e W1 ⟨rfl, hcall9⟩
              go_wp2_with fail
              refine hcall9.mono ?_
              rintro e W2 ⟨rfl, hT9⟩
              clear hrd9 hcall9
              go_wp2
              go_roundw
              case rel => exact ⟨k + 1, N + 1, A, B, X, Y, s1, _, c1', by omega, by omega, rfl, rfl, rfl, rfl, rfl, rfl, by go_num, hT9, hX', hY', hfit⟩
              case measure => simp [intOf]; omega
          · by_cases q3 : kd = 3
            · subst q3
              have hfit := fits_more (fits_arm hfits x.n) (show bud k ≤ bud (k + 1) by omega)
              have hcall := tv_arm hbx hrn
              obtain ⟨s1, es1⟩ : ∃ s1, s.arm x.n = s1 := ⟨_, rfl⟩
              rw [es1] at hcall hfit
              clear es1 hbx
              go_wp2_with fail
              refine hcall.mono ?_
              rintro e w6 ⟨rfl, hk6, hcall6⟩
              have y2 := (op_cells hk6).2.2.1
              go_wp2_with fail
              refine hcall6.mono ?_
              rintro e w7 ⟨rfl, hk7, S7, T7, hV7⟩
              have z0 := (op_cells hk7).1
              obtain ⟨t9, et9⟩ : ∃ t9, s1.text n = t9 := ⟨_, rfl⟩
              obtain ⟨c9, ec9⟩ : ∃ c9, s1.code = c9 := ⟨_, rfl⟩
              have hrd9 := tv_read hV7 hn
              rw [et9, ec9] at hrd9
              have e9 := str_self t9
              clear et9 ec9
              go_wp2_with fail
              refine hrd9.mono ?_
              rintro e W1 ⟨rfl, hcall9⟩
              go_wp2_with fail
              refine hcall9.mono ?_
              rintro e W2 ⟨rfl, hT9⟩
              clear hrd9 hcall9
              go_wp2
              go_roundw
              case rel => exact ⟨k + 1, N, A, B, X, Y, s1, _, c, by omega, by omega, rfl, rfl, rfl, rfl, rfl, rfl, by go_num, hT9, hX', hY', hfit⟩
              case measure => simp [intOf]; omega
            · by_cases q4 : kd = 4
              · subst q4
                obtain ⟨Z, hZ⟩ : ∃ Z, Z = wr.alloc (opO 4 x) := ⟨_, rfl⟩
                rw [← hZ] at hbx hlz
                have hbd : TV w Z.drew A B N S T s s ((wr.heap.size, opO 4 x) :: K) := hbx.drewN 1
                obtain ⟨cv, w5, hrun5, hI5, hb5⟩ := copy_run (hin0.on hbd.old) (by omega)
                have hcall := tv_crash (hbd.on hb5) hI5 hin0
                have hfitc : (s.crash x.keep).fits (bud k) := crashF_fit hfits x.keep
                have hup := opn_crash s x.keep n
                obtain ⟨s1, es1⟩ : ∃ s1, s.crash x.keep = s1 := ⟨_, rfl⟩
                rw [es1] at hcall hfitc
                rw [es1] at hup
                clear es1
                have y0 := (op_cells hbx.blk).2.2.2
                have y5 := (op_cells (hbd.on hb5).blk).2.2.2
                have hne : wr.heap.size ≠ Z.heap.size := by omega
                have HX : Hid (Z = wr.alloc (.cells #[.int .i64 4, .slice x.lad x.list.length x.lc, .int .i64 x.n, .slice x.kad x.keep.length x.kc] 41)) := hZ
                clear hbx hbd hZ
                go_wp2
                rw [← HX.out]
                go_region_held3 (fun V => V.cell? ⟨wr.heap.size, 3, none⟩ = some (.slice x.kad x.keep.length x.kc)) (first | go_keep | exact y5 | exact (op_cells hk6).2.2.2 | exact (op_cells hk7).2.2.2) (first
                  | ((refine step_run (.tmp 101) (.tmp 103) rfl rfl hrun5 ?_))
                  | ((go_at_call 18; refine hcall.mono ?_; rintro e w6 ⟨A', rfl, hk6, hcall6⟩))
                  | ((go_at_call 19; refine hcall6.mono ?_; rintro e w7 ⟨B', rfl, hk7, S7, T7, hV7⟩)))
                all_goals
                  have z0 := (op_cells hk7).1
                  go_wp2_with fail
                  refine (tv_open hV7 hn (Nat.le_trans (fits_text hfitc n) (by omega)) (by omega)).mono ?_
                  rintro e w8 ⟨ps, k8, hps, hc8⟩
                  have hpl : ps.length ≤ 1000000000000 := by
                    have := fits_text hfitc n
                    omega
                  rcases hc8 with ⟨hd, _⟩ | ⟨_, X8, ad8, cap8, rfl, hcall8⟩
                  · rw [hup k8] at hd
                    cases hd
                  have hfit := fits_more (fits_dOpn hfitc n k8) (show bud k ≤ bud (k + 1) by omega)
                  obtain ⟨s2, es2⟩ : ∃ s2, s1.dOpn n k8 = s2 := ⟨_, rfl⟩
                  rw [es2] at hcall8 hfit
                  clear es2 hup
                  go_wp2_with fail
                  refine hcall8.mono ?_
                  rintro e w9 ⟨Y9, ad9, cap9, rfl, ⟨S9, T9, hV9⟩, hl8, hl9⟩
                  clear hcall8
                  go_wp2_with fail
                  refine (same_t ps ad8 ad9 cap8 cap9 w9 hl8 hl9 (by omega)).mono ?_
                  rintro e w10 ⟨rfl, hb10⟩
                  have hV10 := hV9.on hb10
                  clear hl8 hl9 hV9
                  obtain ⟨t9, et9⟩ : ∃ t9, s2.text n = t9 := ⟨_, rfl⟩
                  obtain ⟨c9, ec9⟩ : ∃ c9, s2.code = c9 := ⟨_, rfl⟩
                  have hrd9 := tv_read hV10 hn
                  rw [et9, ec9] at hrd9
                  have e9 := str_self t9
                  clear et9 ec9
                  go_wp2_with fail
                  refine hrd9.mono ?_
                  rintro e W1 ⟨rfl, hcall9⟩
                  go_wp2_with fail
                  refine hcall9.mono ?_
                  rintro e W2 ⟨rfl, hT9⟩
                  clear hrd9 hcall9
                  go_wp2
                  go_roundw
                  case rel => exact ⟨k + 1, N + 1, A', B', X8, Y9, s2, _, c, by omega, by omega, rfl, rfl, rfl, rfl, rfl, rfl, by go_num, hT9, List.mem_cons_self, List.mem_cons_of_mem _ List.mem_cons_self, hfit⟩
                  case measure => simp [intOf]; omega
              · have hop := tv_open hbx hn htxt (by omega)
                have z0 := (op_cells hbx.blk).1
                obtain ⟨Z, hZ⟩ : ∃ Z, Z = wr.alloc (opO kd x) := ⟨_, rfl⟩
                rw [← hZ] at hop z0
                have HX : Hid (Z = wr.alloc (.cells #[.int .i64 kd, .slice x.lad x.list.length x.lc, .int .i64 x.n, .slice x.kad x.keep.length x.kc] 41)) := hZ
                clear hbx hZ hlz
                have hlow : kd < 1 ∨ (¬ kd < 1 ∧ 3 < kd) := by omega
                have hpt : (s.text n).size ≤ 1000000000000 := htxt
                rcases hlow with hlow | ⟨hlow, hhigh⟩
                all_goals
                  go_wp2_with fail
                  rw [← HX.out]
                  refine hop.mono ?_
                  rintro e w8 ⟨ps, k8, hps, hc8⟩
                  have hpl : ps.length ≤ 1000000000000 := by omega
                  have hfit := fits_more (fits_dOpn hfits n k8) (show bud k ≤ bud (k + 1) by omega)
                  obtain ⟨s2, es2⟩ : ∃ s2, s.dOpn n k8 = s2 := ⟨_, rfl⟩
                  rw [es2] at hc8 hfit
                  clear es2 hop
                  rcases hc8 with ⟨_, rfl, hcall8⟩ | ⟨_, X8, ad8, cap8, rfl, hcall8⟩
                  · go_wp2_with fail
                    refine hcall8.mono ?_
                    rintro e w9 ⟨rfl, ⟨S9, T9, hV9⟩⟩
                    clear hcall8
                    go_wp2_with fail
                    refine (same_t [] none none 0 0 w9 (Ls.none w9) (Ls.none w9) (by simp)).mono ?_
                    rintro e w10 ⟨rfl, hb10⟩
                    have hV10 := hV9.on hb10
                    clear hV9
                    obtain ⟨t9, et9⟩ : ∃ t9, s2.text n = t9 := ⟨_, rfl⟩
                    obtain ⟨c9, ec9⟩ : ∃ c9, s2.code = c9 := ⟨_, rfl⟩
                    have hrd9 := tv_read hV10 hn
                    rw [et9, ec9] at hrd9
                    have e9 := str_self t9
                    clear et9 ec9
                    go_wp2_with fail
                    refine hrd9.mono ?_
                    rintro e W1 ⟨rfl, hcall9⟩
                    go_wp2_with fail
                    refine hcall9.mono ?_
                    rintro e W2 ⟨rfl, hT9⟩
                    clear hrd9 hcall9
                    go_wp2
                    go_roundw
                    case rel => exact ⟨k + 1, N + 1, A, B, X, Y, s2, _, c, by omega, by omega, rfl, rfl, rfl, rfl, rfl, rfl, by go_num, hT9, hX', hY', hfit⟩
                    case measure => simp [intOf]; omega
                  · go_wp2_with fail
                    refine hcall8.mono ?_
                    rintro e w9 ⟨Y9, ad9, cap9, rfl, ⟨S9, T9, hV9⟩, hl8, hl9⟩
                    clear hcall8
                    go_wp2_with fail
                    refine (same_t ps ad8 ad9 cap8 cap9 w9 hl8 hl9 (by omega)).mono ?_
                    rintro e w10 ⟨rfl, hb10⟩
                    have hV10 := hV9.on hb10
                    clear hl8 hl9 hV9
                    obtain ⟨t9, et9⟩ : ∃ t9, s2.text n = t9 := ⟨_, rfl⟩
                    obtain ⟨c9, ec9⟩ : ∃ c9, s2.code = c9 := ⟨_, rfl⟩
                    have hrd9 := tv_read hV10 hn
                    rw [et9, ec9] at hrd9
                    have e9 := str_self t9
                    clear et9 ec9
                    go_wp2_with fail
                    refine hrd9.mono ?_
                    rintro e W1 ⟨rfl, hcall9⟩
                    go_wp2_with fail
                    refine hcall9.mono ?_
                    rintro e W2 ⟨rfl, hT9⟩
                    clear hrd9 hcall9
                    go_wp2
                    go_roundw
                    case rel => exact ⟨k + 1, N + 1, A, B, X8, Y9, s2, _, c, by omega, by omega, rfl, rfl, rfl, rfl, rfl, rfl, by go_num, hT9, List.mem_cons_self, List.mem_cons_of_mem _ List.mem_cons_self, hfit⟩
                    case measure => simp [intOf]; omega
      · have k1 : ¬ ((k : Int) < L.length) := by omega
        go_wp2
        go_ret
        exact ⟨rfl, hV.old⟩
end Go.Proofs.Ytoipmpaebngppaa
