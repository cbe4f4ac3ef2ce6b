/- The walk of the statement DiaryKeeps. -/
import Derived.Test.YtoipmpaebngppaaEm
namespace Go.Proofs.Ytoipmpaebngppaa
open Go.RowKit Go.Maps

theorem Kp.crash_size {s : Ds} {put : List ByteArray} {sure : Nat} (h : Kp s put sure) (keep : List Int) : ((s.crash keep).text nF).size ≤ sumS put := by
  have hz := h.size
  obtain ⟨D, c, hf, hp, he, hc, _⟩ := h.file
  obtain ⟨c', hc1, hc2, hf'⟩ := hf.crash hc keep
  rw [hf.old] at hz
  have hz' : D.size ≤ sumS put := hz
  show (oldF (crashF s.F keep) nF).data.size ≤ _
  rw [hf'.old]
  show (D.extract 0 c').size ≤ _
  rw [ext_size _ _ _ hc2]
  omega
/-- What the loop keeps. -/
def KJ (L : List O) (w wr : World) (d x pv sv i : Value) : Prop := ∃ k N A X s put sure bx ob, k ≤ L.length ∧ N ≤ 1 + 2 * k ∧ d = .pointer (some ⟨A, 0, none⟩) ∧ x = .pointer (some ⟨X, 0, none⟩) ∧ sv = .int .i64 ((sure : Nat) : Int) ∧ i = .int .i64 ((k : Nat) : Int) ∧ KS w wr A X N s put pv bx ob ∧ Kp s put sure ∧ sumS put ≤ bud k
theorem ks_start {w0 w : World} {A X N : Nat} {s : Ds} (h : DD w0 w A X N s nF) : KS w0 w A X N s [] (.slice none 0 0) X (pdO A nF) := by
  obtain ⟨S, h1, h2, h3, h4, h5, h6⟩ := h
  exact ⟨S, h1, h2, h3, ⟨World.ownsRow_nil _ _ _ _, fun j hj => (by cases hj)⟩, h4, h5, (fun q => by cases q), h4, h5, (fun q => by cases q)⟩

set_option maxHeartbeats 8000000 in
set_option maxRecDepth 100000 in
theorem keeps_law {L : List O} {ad : Option Addr} {cap : Nat} {w : World} (hL : Li L ad w) (hT : szL L ≤ 1000000000000000000) (hlen : L.length ≤ 1000000000000000000) (hR : ∀ x ∈ L, -9223372036854775808 ≤ x.n ∧ x.n ≤ 9223372036854775807) :
    Calls Try.prog 4 #[.slice ad L.length cap] w fun e w' => e = .returned (.bool true) ∧ Below w.heap.size w w' := by
  go_enter Try.func4, Try.ntmps4
  go_wp2_with fail
  refine (awake_any w).mono ?_
  rintro e w1 ⟨rfl, hb1⟩
  go_wp2_with fail
  refine (great_any (hL.on hb1) hT hlen).mono ?_
  rintro e w2 ⟨b, rfl, hgr, hb2⟩
  have hb12 := hb1.trans (hb2.mono hb1.size)
  cases b with
  | true =>
    go_wp2_with fail
    refine (awake_any w2).mono ?_
    rintro e w3 ⟨rfl, hb3⟩
    go_wp2
    go_ret
    exact ⟨rfl, hb12.trans (hb3.mono hb12.size)⟩
  | false =>
    obtain ⟨hl100, hsz⟩ := hgr rfl
    clear hT hlen
    go_wp2_with fail
    refine (do_new hb12).mono ?_
    rintro e w3 ⟨A, rfl, h3⟩
    go_wp2_with fail
    refine (do_open h3 (n := nF) (by decide) (by decide) (by omega)).mono ?_
    rintro e w4 ⟨ps, k, hsc, hk, hps, hc⟩
    have hk0 : k = 0 := by
      have : k ≤ 0 := hk
      omega
    subst hk0
    have hp0 : ps = [] := by
      have : 8 * ps.length ≤ 0 := hps
      exact List.length_eq_zero_iff.1 (by omega)
    subst hp0
    rcases hc with ⟨hd, _⟩ | ⟨_, X, ad4, cap4, rfl, h4, _⟩
    · cases hd
    have h4' : DD w w4 A X 1 ⟨[], 0, false⟩ nF := h4
    have hJ := ks_start h4'
    clear h3 h4 h4' hsc hk hps
    have l1 : (L.length : Int) ≤ 100 := by omega
    go_wp2
    go_loopw [3, 4, 7, 8, 33] (fun d x pv sv i wr => KJ L w wr d x pv sv i) (fun _ _ _ _ i _ => L.length - (intOf i).toNat)
    case atStart => exact ⟨0, 1, A, X, _, [], 0, _, _, Nat.zero_le _, by omega, rfl, rfl, rfl, rfl, hJ, Kp.start, Nat.zero_le _⟩
    case round =>
      clear hJ
      obtain ⟨k, N, A, X, s, put, sure, bx, ob, hk, hN, rfl, rfl, rfl, rfl, hKS, hKp, hput⟩ := hrel
      by_cases hlt : k < L.length
      · have hbw := hKS.below
        obtain ⟨b, o, rfl, hbl, c0, c1, c2, c3⟩ := hL.at_on hbw k hlt
        have hst0 := hL.strs k hlt
        have hin0 := hL.ints k hlt
        have hrn := hR _ (List.getElem_mem hlt)
        have hso := szL_at L k hlt
        obtain ⟨x, hx⟩ : ∃ x, L[k] = x := ⟨_, rfl⟩
        rw [hx] at c0 c1 c2 c3 hst0 hin0 hrn hso
        have hsx : szO x = 1 + x.keep.length + szT x.list := rfl
        have hxl := szT_len x.list
        have hxs := sumS_szT x.list
        clear hx
        have k0 : (0 : Int) ≤ k := by omega
        have k1 : (k : Int) < L.length := by omega
        obtain ⟨kd, hkd⟩ : ∃ kd, x.kind = kd := ⟨_, rfl⟩
        rw [hkd] at c0
        clear hkd
        have hW := hKS.newBox (opO kd x)
        have hbW := hW.below
        have hrow := hKS.row
        obtain ⟨pad, pcap, rfl, _, _, _⟩ := Ls.own hrow
        have hpl := sumS_len put
        have hsize := hKp.size
        have hbud := bud_le (k := k) (by omega)
        have hplen : put.length ≤ 1638400 := by omega
        have hpi : (put.length : Int) ≤ 1638400 := by omega
        have hsi : (sure : Int) ≤ 1638400 := by have := hKp.le; omega
        clear hrow hKS
        by_cases q1 : kd = 1
        · subst q1
          obtain ⟨ad5, cap5, w5, hrun5, hls5, _, hb5⟩ := strs_copy (cap := x.lc) (hst0.on hbW) (by omega)
          rw [size_box] at hrun5
          unfold opO at hrun5
          have hW5 := hW.on hb5
          have hcall := ks_append (cap := cap5) hW5 hls5 (by omega) (by omega) (by omega)
          cases hbg : bigL x.list with
          | true =>
            have e1 : s.dApp nF x.list = (s, 30) := by simp [Ds.dApp, hbg]
            rw [e1] at hcall
            clear e1 hbg
            go_wp2_with (at_builtin; refine wpl_run _ _ rfl hrun5 ?_)
            refine hcall.mono ?_
            rintro e w6 ⟨rfl, hW6⟩
            go_wp2
            go_ret
            exact ⟨rfl, hW6.below⟩
          | false =>
            obtain ⟨hup, hdn⟩ := hKp.append hbg
            obtain ⟨s1, es1⟩ : ∃ s1, (s.dApp nF x.list).1 = s1 := ⟨_, rfl⟩
            obtain ⟨c, ec⟩ : ∃ c, (s.dApp nF x.list).2 = c := ⟨_, rfl⟩
            rw [es1, ec] at hup hdn hcall
            clear es1 ec
            cases hd : s1.down with
            | false =>
              obtain ⟨rfl, hKp1⟩ := hup hd
              clear hup hdn
              go_wp2_with (at_builtin; refine wpl_run _ _ rfl hrun5 ?_)
              refine hcall.mono ?_
              rintro e w6 ⟨rfl, hW6⟩
              have hdown := ks_down hW6
              rw [hd] at hdown
              clear hcall hW5 hW hrun5 hls5
              go_wp2_with fail
              refine hdown.mono ?_
              rintro e w7 ⟨rfl, rfl⟩
              have y1 : w7.cell? ⟨wr.heap.size, 1, none⟩ = some (.slice x.lad x.list.length x.lc) := by rw [cell_blk hW6.box]; rfl
              obtain ⟨v8, w8, hrun8, ho8, hg8, hat8⟩ := strs_run (cap := x.lc) hW6.row (hst0.on hW6.below) hW6.below.size (by omega)
              have hW8 := hW6.grow ho8 hg8 hat8
              obtain ⟨pu, hpu⟩ : ∃ pu, put ++ x.list = pu := ⟨_, rfl⟩
              have hpu2 := sumS_append put x.list
              rw [hpu] at hW8 hKp1 hpu2
              obtain ⟨ad8, cap8, rfl, _, _, _⟩ := Ls.own hW8.row
              clear hpu ho8 hg8 hat8 hdown
              go_wp2_with (at_builtin; refine wpl_run _ _ rfl hrun8 ?_)
              go_roundw
              case rel => exact ⟨k + 1, N + 2, A, X, s1, pu, pu.length, _, _, by omega, by omega, rfl, rfl, rfl, by go_num, hW8, hKp1, by rw [hpu2]; exact bud_add hput (by omega)⟩
              case measure => simp [intOf]; omega
            | true =>
              obtain ⟨hcode, hKw, hKs, hKl⟩ := hdn hd
              clear hup hdn
              by_cases heq : put.length = sure
              · subst heq
                rcases hcode with rfl | rfl
                all_goals
                  go_wp2_with (at_builtin; refine wpl_run _ _ rfl hrun5 ?_)
                  refine hcall.mono ?_
                  rintro e w6 ⟨rfl, hW6⟩
                  have hdown := ks_down hW6
                  rw [hd] at hdown
                  go_wp2_with fail
                  refine hdown.mono ?_
                  rintro e w7 ⟨rfl, rfl⟩
                  have y1 : w7.cell? ⟨wr.heap.size, 1, none⟩ = some (.slice x.lad x.list.length x.lc) := by rw [cell_blk hW6.box]; rfl
                  obtain ⟨v8, w8, hrun8, ho8, hg8, hat8⟩ := strs_run (cap := x.lc) hW6.row (hst0.on hW6.below) hW6.below.size (by omega)
                  have hW8 := hW6.grow ho8 hg8 hat8
                  clear ho8 hg8 hat8 hdown hcall hW5 hW hrun5 hls5
                  go_wp2_with (at_builtin; refine wpl_run _ _ rfl hrun8 ?_)
                  go_roundw
                  case rel => exact ⟨k + 1, N + 2, A, X, s1, put ++ x.list, put.length, _, _, by omega, by omega, rfl, rfl, rfl, by go_num, hW8, hKw, by rw [sumS_append]; exact bud_add hput (by omega)⟩
                  case measure => simp [intOf]; omega
              · have heq' : ¬ (put.length : Int) = sure := by omega
                have hsd : s.down = true := by
                  cases e : s.down with
                  | true => rfl
                  | false => exact absurd (hKl e) heq
                have hKp1 := hKs hsd
                rcases hcode with rfl | rfl
                all_goals
                  go_wp2_with (at_builtin; refine wpl_run _ _ rfl hrun5 ?_)
                  refine hcall.mono ?_
                  rintro e w6 ⟨rfl, hW6⟩
                  have hdown := ks_down hW6
                  rw [hd] at hdown
                  clear hcall hW5 hW hrun5 hls5
                  go_wp2_with fail
                  refine hdown.mono ?_
                  rintro e w7 ⟨rfl, rfl⟩
                  go_wp2
                  go_roundw
                  case rel => exact ⟨k + 1, N + 2, A, X, s1, put, sure, _, _, by omega, by omega, rfl, rfl, rfl, by go_num, hW6, hKp1, bud_on hput⟩
                  case measure => simp [intOf]; omega
        · by_cases q2 : kd = 2
          · subst q2
            obtain ⟨ad5, cap5, w5, hrun5, hls5, _, hb5⟩ := strs_copy (cap := x.lc) (hst0.on hbW) (by omega)
            rw [size_box] at hrun5
            unfold opO at hrun5
            have hW5 := hW.on hb5
            have hcall := ks_rewrite (cap := cap5) hW5 hls5 (by omega) (by omega)
            have hrw := hKp.rewrite x.list
            obtain ⟨s1, es1⟩ : ∃ s1, (s.dRew nF x.list).1 = s1 := ⟨_, rfl⟩
            obtain ⟨c, ec⟩ : ∃ c, (s.dRew nF x.list).2 = c := ⟨_, rfl⟩
            rw [es1, ec] at hrw hcall
            clear es1 ec
            rcases hrw with ⟨hc, hKp1⟩ | ⟨hc, hKp1⟩
            · subst hc
              go_wp2_with (at_builtin; refine wpl_run _ _ rfl hrun5 ?_)
              refine hcall.mono ?_
              rintro e w6 ⟨rfl, hW6⟩
              have hal : Below w6.heap.size w6 (w6.alloc (.cells #[] 9)) := (Below.refl _ w6).alloc (Nat.le_refl _) _
              have y1 : (w6.alloc (.cells #[] 9)).cell? ⟨wr.heap.size, 1, none⟩ = some (.slice x.lad x.list.length x.lc) := by rw [cell_blk (hW6.on hal).box]; rfl
              obtain ⟨ad7, cap7, w7, hrun7, _, hown7, hb7⟩ := strs_copy (cap := x.lc) (hst0.on hW6.below) (by omega)
              have hW7 := hW6.other hb7 hown7
              clear hcall hW5 hW hrun5 hls5 hown7 hal
              go_wp2_with (at_builtin; refine wpl_run _ _ rfl hrun7 ?_)
              go_roundw
              case rel => exact ⟨k + 1, N + 1, A, X, s1, x.list, x.list.length, _, _, by omega, by omega, rfl, rfl, rfl, by go_num, hW7, hKp1, bud_one (by omega)⟩
              case measure => simp [intOf]; omega
            · go_wp2_with (at_builtin; refine wpl_run _ _ rfl hrun5 ?_)
              refine hcall.mono ?_
              rintro e w6 ⟨rfl, hW6⟩
              clear hcall hW5 hW hrun5 hls5
              go_wp2
              go_roundw
              case rel => exact ⟨k + 1, N + 1, A, X, s1, put, sure, _, _, by omega, by omega, rfl, rfl, rfl, by go_num, hW6, hKp1, bud_on hput⟩
              case measure => simp [intOf]; omega
          · by_cases q3 : kd = 3
            · subst q3
              have hm := ks_arm hW hrn
              go_wp2_with fail
              refine hm.mono ?_
              rintro e w5 ⟨rfl, hW5⟩
              go_wp2
              go_roundw
              case rel => exact ⟨k + 1, N, A, X, _, put, sure, _, _, by omega, by omega, rfl, rfl, rfl, by go_num, hW5, hKp.arm _, bud_on hput⟩
              case measure => simp [intOf]; omega
            · by_cases q4 : kd = 4
              · subst q4
                obtain ⟨cv, w5, hrun5, hI5, hb5⟩ := copy_run (hin0.on hbW) (by omega)
                rw [size_box] at hrun5
                unfold opO at hrun5
                have hcall := ks_crash (hW.on hb5) hI5
                go_wp2_with (at_builtin; refine wpl_run _ _ rfl hrun5 ?_)
                refine hcall.mono ?_
                rintro e w6 ⟨B, rfl, hR6⟩
                have hcs := hKp.crash_size x.keep
                clear hcall hW hrun5 hI5
                go_wp2_with fail
                refine (kr_open hR6 (by omega) (by omega)).mono ?_
                rintro e w7 ⟨ps, k7, hsc7, hc7⟩
                obtain ⟨hd7, ⟨j, hj1, hj2, hps⟩, hKp7⟩ := hKp.crash x.keep hsc7
                rcases hc7 with ⟨hd, _⟩ | ⟨X7, ad7, cap7, rfl, hS7, hls7⟩
                · rw [hd7] at hd
                  cases hd
                obtain ⟨pad', pcap', hpv, hlsp, hpc, _⟩ := Ls.own hS7.row
                have hlen7 : ps.length = j := by rw [hps, List.length_take]; omega
                have hsum7 : sumS ps ≤ sumS put := by rw [hps]; exact sumS_take put j
                have hlsj := hlsp.take j
                rw [← hps] at hlsj
                cases hpv
                have g1 : ¬ (ps.length : Int) < sure := by omega
                have g2 : ¬ (put.length : Int) < ps.length := by omega
                have g3 : (ps.length : Int) ≤ pcap := by omega
                have g4 : (ps.length : Int) ≤ put.length := by omega
                have g5 : ps.length ≤ 1638400 := by omega
                clear hsc7 hps hR6 hlsp hlen7 hj1 hj2
                go_wp2_with fail
                refine (same_t ps ad7 pad cap7 pcap w7 hls7 hlsj (by omega)).mono ?_
                rintro e w8 ⟨rfl, hb8⟩
                obtain ⟨ad9, cap9, w9, hrun9, _, hown9, hb9⟩ := strs_copy (cap := cap7) (hls7.on hb8) (by omega)
                have hS9 := (hS7.on hb8).other hb9 hown9
                clear hls7 hlsj hS7 hown9
                go_wp2_with (at_builtin; refine wpl_run _ _ rfl hrun9 ?_)
                go_roundw
                case rel => exact ⟨k + 1, N + 1, B, X7, _, ps, ps.length, _, _, by omega, by omega, rfl, rfl, rfl, by go_num, hS9, hKp7, bud_on (Nat.le_trans hsum7 hput)⟩
                case measure => simp [intOf]; omega
              · go_wp2
                go_roundw
                case rel => exact ⟨k + 1, N, A, X, _, put, sure, _, _, by omega, by omega, rfl, rfl, rfl, by go_num, hW, hKp, bud_on hput⟩
                case measure => simp [intOf]; omega
      · have k1 : ¬ ((k : Int) < L.length) := by omega
        go_wp2
        go_ret
        exact ⟨rfl, hKS.below⟩
end Go.Proofs.Ytoipmpaebngppaa
