/- The walk of the document's Load. -/
import Derived.Test.YtmiagjcihmenfaaXk
import Derived.Test.YtmiagjcihmenfaaXe
import Derived.Deep.DeepCutAuto
namespace Go.Proofs.Ytmiagjcihmenfaa
open Go.RowKit

/-- What the loop keeps. -/
def RJ (L : List Dq) (w wr : World) (b0 : Bs) (i : Value) : Prop := ∃ k b S, k ≤ L.length ∧ i = .int .i64 ((k : Nat) : Int) ∧ (b.touched = false ∧ b.whole = false) ∧ b.log.length ≤ szD (L.take k) ∧ Rb wr w.heap.size S b ∧ (∀ j, S j → w.heap.size ≤ j) ∧ Below w.heap.size w wr ∧ b.size = b0.size ∧ b0.overAll (L.map Prod.fst) = b.overAll ((L.drop k).map Prod.fst)
/-- What Load answers. -/
def RloadAns (w : World) (o : Option Bs) (e : Ending) (w' : World) : Prop := Below w.heap.size w w' ∧ match o with
  | some b => e = .returned (.tuple #[.pointer (some ⟨w.heap.size, 0, none⟩), .int .i64 0]) ∧ ∃ S, Rb w' w.heap.size S b ∧ ∀ j, S j → w.heap.size ≤ j
  | none => e = .returned (.tuple #[.pointer none, .int .i64 100])
theorem over_size {b : Bs} {d : De} : (b.over d).size = b.size := by
  unfold Bs.over
  split <;> rfl
theorem RJ.next {L : List Dq} {w W w' : World} {b0 b : Bs} {S : Nat → Prop} {k : Nat} {d : De} (hlt : k < L.length) (hd : L[k].1 = d) (hcalm : b.touched = false ∧ b.whole = false) (hlog : b.log.length ≤ szD (L.take k)) (hlo : ∀ j, S j → w.heap.size ≤ j) (hbl : Below w.heap.size w W) (hs : b.size = b0.size)
    (hall : b0.overAll (L.map Prod.fst) = b.overAll ((L.drop k).map Prod.fst)) (hmay : b.may d) (hR : Rb w' w.heap.size S (b.over d)) (hf : Fr W w' S) : RJ L w w' b0 (.int .i64 ((k + 1 : Nat) : Int)) := by
  subst hd
  refine ⟨k + 1, b.over L[k].1, S, hlt, rfl, over_calm hcalm, ?_, hR, hlo, ?_, over_size.trans hs, ?_⟩
  · have h1 := over_len (b := b) (d := L[k].1)
    have h2 := szD_take L k hlt
    omega
  · have f1 : Fr w w' (fun _ => False) := (Fr.ofBelow (fun _ => False) hbl).step hf (fun j q => .inr (hlo j q))
    exact f1.fresh (fun _ q => q.elim)
  · have hdr : (L.drop k).map Prod.fst = L[k].1 :: (L.drop (k + 1)).map Prod.fst := by rw [List.drop_eq_getElem_cons hlt, List.map_cons]
    rw [hall, hdr]
    show (if b.may L[k].1 then (b.over L[k].1).overAll _ else none) = _
    rw [if_pos hmay]
theorem load_none {L : List Dq} {b : Bs} {k id size : Nat} {d : De} (hlt : k < L.length) (hd : L[k].1 = d) (hall : (Bs.new id size).overAll (L.map Prod.fst) = b.overAll ((L.drop k).map Prod.fst)) (hmay : ¬ b.may d) : Bs.load id size (L.map Prod.fst) = none := by
  subst hd
  have hdr : (L.drop k).map Prod.fst = L[k].1 :: (L.drop (k + 1)).map Prod.fst := by rw [List.drop_eq_getElem_cons hlt, List.map_cons]
  unfold Bs.load
  rw [hall, hdr]
  show (if b.may L[k].1 then (b.over L[k].1).overAll _ else none).map _ = none
  rw [if_neg hmay]
  rfl

section
variable {w : World} {L : List Dq} {ad : Option Addr} {cap : Nat}
set_option maxHeartbeats 8000000 in
set_option maxRecDepth 100000 in
theorem refload_p (hL : Lq w L ad) (hc : L.length ≤ cap) (hm : cap ≤ maxLen) (hsz : szD L ≤ 800000) (id size : Nat) (h1 : 1 ≤ size) (h2 : size ≤ 5) (h3 : id < size) :
    Calls Try.prog 21 #[.int .i64 id, .int .i64 size, .slice ad L.length cap] w fun e w' => RloadAns w (Bs.load id size (L.map Prod.fst)) e w' := by
  have l1 : (L.length : Int) ≤ 9223372036854775807 := by unfold maxLen at hm; omega
  have hnew := refnew_yes w id size h1 h2 h3
  have s5 : (size : Int) ≤ 5 := by omega
  clear h1 h2 h3
  go_enter Try.func21, Try.ntmps21
  go_wp2_with fail
  refine hnew.mono ?_
  rintro e w1 ⟨rfl, hp1, hb1⟩
  clear hnew
  obtain ⟨A, hA⟩ : ∃ A, w.heap.size = A := ⟨_, rfl⟩
  have hJ0 : RJ L w w1 (Bs.new id size) (.int .i64 0) := ⟨0, Bs.new id size, _, Nat.zero_le _, rfl, ⟨rfl, rfl⟩, Nat.zero_le _, hp1, fun j q => Nat.le_of_eq (show w.heap.size = j from q.symm), hb1, rfl, by rw [List.drop_zero]⟩
  have HSZ := Lib.hid hsz
  have HA := Lib.hid hA
  clear hp1 hb1 hsz
  go_wp2
  clear hA
  go_loopw [10] (fun i wr => RJ L w wr (Bs.new id size) i) (fun i _ => L.length - (intOf i).toNat)
  case atStart => exact hJ0
  case round =>
    clear hJ0
    obtain ⟨k, b, S, hk, rfl, hcalm, hlog, hP, hlo, hbl, hbs, hall⟩ := hrel
    rw [HA.out] at hP
    have hbs' : (b.size : Int) = size := by rw [hbs]; rfl
    by_cases hlt : k < L.length
    · have k0 : (0 : Int) ≤ k := by omega
      have k1 : (k : Int) < L.length := by omega
      obtain ⟨bb, o, rfl, hbb, c0, c1, c2, c3, c4, c5, c6, c7⟩ := (hL.on hbl).at' k hlt
      have hE := hL.es _ (List.getElem_mem hlt)
      have hst := szD_take L k hlt
      have hsl := szD_le L (k + 1)
      obtain ⟨⟨d, dad, dcap⟩, hx⟩ : ∃ x, L[k] = x := ⟨_, rfl⟩
      have hxd : L[k].1 = d := by rw [hx]
      rw [hx] at c0 c1 c2 c3 c4 c5 c6 c7 hE hst
      simp only at c0 c1 c2 c3 c4 c5 c6 c7 hE hst
      have hz0 := HSZ.out
      have hzl : b.log.length + d.list.length ≤ 900000 := by omega
      obtain ⟨X, hX⟩ : ∃ X, wr.heap.size = X := ⟨_, rfl⟩
      obtain ⟨W1, hW1⟩ : ∃ W1, W1 = wr.alloc (deO d (.slice dad d.list.length dcap)) := ⟨_, rfl⟩
      have bW1 : Below wr.heap.size wr W1 := by rw [hW1]; exact (Below.refl _ wr).alloc (Nat.le_refl _) _
      have jd1 : W1.heap[X]? = some (deB d (.slice dad d.list.length dcap)) := by rw [hW1, ← hX]; exact heap_alloc_new wr _
      have hP1 := hP.on bW1
      have hbl1 : Below w.heap.size w W1 := hbl.trans (bW1.mono hbl.size)
      have hltS := hP.lt
      have hXS : ¬ S X := fun q => by have := hltS _ q; omega
      have hE1 : Es W1 S d.list (.slice dad d.list.length dcap) := hE.stays (S' := S) (Fr.ofBelow (fun _ => False) hbl1) (fun j z => .inr ⟨hlo j z, hP1.lt j z⟩)
      have e0 : W1.cell? ⟨X, 0, none⟩ = some (.int .i64 d.term) := cell_blk jd1 0
      have e1 : W1.cell? ⟨X, 1, none⟩ = some (.int .i64 d.vote) := cell_blk jd1 1
      have e2 : W1.cell? ⟨X, 2, none⟩ = some (.bool d.whole) := cell_blk jd1 2
      have e3 : W1.cell? ⟨X, 3, none⟩ = some (.int .i64 d.base) := cell_blk jd1 3
      have e4 : W1.cell? ⟨X, 4, none⟩ = some (.int .i64 d.baseTerm) := cell_blk jd1 4
      have e5 : W1.cell? ⟨X, 5, none⟩ = some (.string d.snap) := cell_blk jd1 5
      have e6 : W1.cell? ⟨X, 6, none⟩ = some (.int .i64 d.fr) := cell_blk jd1 6
      have e7 : W1.cell? ⟨X, 7, none⟩ = some (.slice dad d.list.length dcap) := cell_blk jd1 7
      have hXA : X ≠ A := by
        intro q
        obtain ⟨_, _, _, z⟩ := hP
        have := z.lt A z.covA
        omega
      have hAX : A ≠ X := fun q => hXA q.symm
      have HX := Lib.hid hX
      have HW1 := Lib.hid hW1
      have HXD := Lib.hid hxd
      have HCA := Lib.hid hcalm
      have HLO := Lib.hid hlog
      have HLL := Lib.hid hlo
      have HB1 := Lib.hid hbl1
      have HALL := Lib.hid hall
      have HP1 := Lib.hid hP1
      have HJ := Lib.hid jd1
      have HE1 := Lib.hid hE1
      have HBS := Lib.hid hbs
      have HZL := Lib.hid hzl
      have HBS' := Lib.hid hbs'
      clear hX hW1 hxd hcalm hlog hlo hbl hbl1 hall hP hP1 jd1 hE hE1 hbs hzl hx hst hsl hz0 bW1 hltS hk hbs'
      obtain ⟨T1, hT1⟩ : ∃ T1, decide (d.term < 0 ∨ 2199023255552 < d.term ∨ d.vote < -1 ∨ (size : Int) ≤ d.vote) = T1 := ⟨_, rfl⟩
      have HT1 := Lib.hid hT1
      clear hT1
      go_upto_region 8 with fail
      rw [← HW1.out, HX.out]
      go_cut [49] (fun v wx => v = .bool T1 ∧ wx = W1)
      case first =>
        by_cases q1 : d.term < 0
        · have hg : T1 = true := HT1.out.symm.trans (decide_eq_true (by omega))
          subst hg
          go_wp2_with fail
          go_meet
          exact ⟨rfl, rfl⟩
        · by_cases q2 : 2199023255552 < d.term
          · have hg : T1 = true := HT1.out.symm.trans (decide_eq_true (by omega))
            subst hg
            go_wp2_with fail
            go_meet
            exact ⟨rfl, rfl⟩
          · by_cases q3 : d.vote < -1
            · have hg : T1 = true := HT1.out.symm.trans (decide_eq_true (by omega))
              subst hg
              go_wp2_with fail
              go_meet
              exact ⟨rfl, rfl⟩
            · by_cases q4 : (size : Int) ≤ d.vote
              · have hg : T1 = true := HT1.out.symm.trans (decide_eq_true (by omega))
                subst hg
                go_wp2_with fail
                go_meet
                exact ⟨rfl, rfl⟩
              · have hg : T1 = false := HT1.out.symm.trans (decide_eq_false (by omega))
                subst hg
                go_wp2_with fail
                go_meet
                exact ⟨rfl, rfl⟩
      case rest =>
        obtain ⟨rfl, rfl⟩ := hcut
        cases T1 with
        | true =>
          have hT := of_decide_eq_true HT1.out
          have hans := load_none hlt HXD.out HALL.out (by intro q; have := HBS'.out; omega)
          have HANS := Lib.hid hans
          clear hans hT
          go_wp2
          refine bodyPost_ret (v := .tuple #[.pointer none, .int .i64 100]) (by simp [results, Try.results21, go_sem]) rfl ?_
          rw [HANS.out]
          exact ⟨HB1.out, rfl⟩
        | false =>
          have hT := of_decide_eq_false HT1.out
          have HT := Lib.hid hT
          clear hT
          cases hwh : d.whole with
          | true =>
            rw [hwh] at e2
            obtain ⟨T2, hT2⟩ : ∃ T2, decide (d.base < 0 ∨ 2199023255552 < d.base ∨ d.baseTerm < 0 ∨ 2199023255552 < d.baseTerm) = T2 := ⟨_, rfl⟩
            have HT2 := Lib.hid hT2
            have HWH := Lib.hid hwh
            clear hT2 hwh
            go_upto_region 11 with fail
            go_cut [69] (fun v wx => v = .bool T2 ∧ wx = wc)
            case first =>
              by_cases q1 : d.base < 0
              · have hg : T2 = true := HT2.out.symm.trans (decide_eq_true (by omega))
                subst hg
                go_wp2_with fail
                go_meet
                exact ⟨rfl, rfl⟩
              · by_cases q2 : 2199023255552 < d.base
                · have hg : T2 = true := HT2.out.symm.trans (decide_eq_true (by omega))
                  subst hg
                  go_wp2_with fail
                  go_meet
                  exact ⟨rfl, rfl⟩
                · by_cases q3 : d.baseTerm < 0
                  · have hg : T2 = true := HT2.out.symm.trans (decide_eq_true (by omega))
                    subst hg
                    go_wp2_with fail
                    go_meet
                    exact ⟨rfl, rfl⟩
                  · by_cases q4 : 2199023255552 < d.baseTerm
                    · have hg : T2 = true := HT2.out.symm.trans (decide_eq_true (by omega))
                      subst hg
                      go_wp2_with fail
                      go_meet
                      exact ⟨rfl, rfl⟩
                    · have hg : T2 = false := HT2.out.symm.trans (decide_eq_false (by omega))
                      subst hg
                      go_wp2_with fail
                      go_meet
                      exact ⟨rfl, rfl⟩
            case rest =>
              obtain ⟨rfl, hwc2⟩ := hcut
              subst hwc2
              cases T2 with
              | true =>
                have hT := of_decide_eq_true HT2.out
                have hans := load_none hlt HXD.out HALL.out (by intro q; have := q.2.2.2.2; rw [if_pos HWH.out] at this; omega)
                have HANS := Lib.hid hans
                clear hans hT
                go_wp2
                refine bodyPost_ret (v := .tuple #[.pointer none, .int .i64 100]) (by simp [results, Try.results21, go_sem]) rfl ?_
                rw [HANS.out]
                exact ⟨HB1.out, rfl⟩
              | false =>
                have hT2 := of_decide_eq_false HT2.out
                have hT1 := HT.out
                have hb' := HBS'.out
                have hmay : b.may d := ⟨by omega, by omega, by omega, by omega, by rw [if_pos HWH.out]; omega⟩
                obtain ⟨ad4, cap4, w4, lv4, ov4, hrun, jb4, f4, a5, f5⟩ := over_w HP1.out HWH.out HE1.out (by have := HZL.out; omega) (by omega) (by omega)
                have jd4 := (f4.block X (blk_lt HJ.out) hXS).trans HJ.out
                have hnext := RJ.next hlt HXD.out HCA.out HLO.out HLL.out HB1.out HBS.out HALL.out hmay (HA.out ▸ a5) f5
                have HN := Lib.hid hnext
                obtain ⟨lv, ov, O, hv⟩ := HP1.out
                have g6 : wc.cell? ⟨A, 6, none⟩ = some (.int .i64 b.base) := hv.cell 6
                have g7 : wc.cell? ⟨A, 7, none⟩ = some (.int .i64 b.baseTerm) := hv.cell 7
                have g8 : wc.cell? ⟨A, 8, none⟩ = some (.string b.snap) := hv.cell 8
                have z6 : wc.frozen? ⟨A, 6, none⟩ = false := frozen_blk hv.ob 6
                have z7 : wc.frozen? ⟨A, 7, none⟩ = false := frozen_blk hv.ob 7
                have z8 : wc.frozen? ⟨A, 8, none⟩ = false := frozen_blk hv.ob 8
                have y9 : w4.cell? ⟨A, 9, none⟩ = some lv4 := cell_blk jb4 9
                have y2 : w4.cell? ⟨A, 2, none⟩ = some (.int .i64 b.term) := cell_blk jb4 2
                have y3 : w4.cell? ⟨A, 3, none⟩ = some (.int .i64 b.vote) := cell_blk jb4 3
                have u9 : w4.frozen? ⟨A, 9, none⟩ = false := frozen_blk jb4 9
                have u2 : w4.frozen? ⟨A, 2, none⟩ = false := frozen_blk jb4 2
                have u3 : w4.frozen? ⟨A, 3, none⟩ = false := frozen_blk jb4 3
                have x0 : w4.cell? ⟨X, 0, none⟩ = some (.int .i64 d.term) := cell_blk jd4 0
                have x1 : w4.cell? ⟨X, 1, none⟩ = some (.int .i64 d.vote) := cell_blk jd4 1
                have hXl : X < wc.heap.size := blk_lt HJ.out
                have hAl : A < wc.heap.size := hv.lt A hv.covA
                have n1 : wc.heap.size ≠ X := by omega
                have n2 : wc.heap.size ≠ A := by omega
                clear hT1 hT2 hb' hmay hnext a5 f5 f4 jd4 jb4 hv
                go_wp2_with (at_builtin; refine wpl_run _ _ rfl hrun ?_)
                go_roundw
                case rel => exact HN.out
                case measure => simp [intOf]; omega
          | false =>
            rw [hwh] at e2
            have HWH := Lib.hid hwh
            clear hwh
            obtain ⟨V1, rfl⟩ : ∃ V1, V1 = wc := ⟨_, rfl⟩
            obtain ⟨l9, b0, b1⟩ := HP1.out.len
            have hlast := fun n => last_any (HP1.out.drewN n)
            obtain ⟨lv, ov, O, hv⟩ := HP1.out
            have g6 : V1.cell? ⟨A, 6, none⟩ = some (.int .i64 b.base) := hv.cell 6
            obtain ⟨T3, hT3⟩ : ∃ T3, decide (d.fr < b.base + 1 ∨ b.last + 1 < d.fr) = T3 := ⟨_, rfl⟩
            have HT3 := Lib.hid hT3
            obtain ⟨B1, hB1⟩ : ∃ B1, b.base + 1 = B1 := ⟨_, rfl⟩
            have i1 : IntKind.i64.wrap (b.base + 1) = B1 := by rw [IntKind.wrap_i64]; omega
            obtain ⟨La, hLa⟩ : ∃ La, b.last = La := ⟨_, rfl⟩
            obtain ⟨L1, hL1⟩ : ∃ L1, La + 1 = L1 := ⟨_, rfl⟩
            have i2 : IntKind.i64.wrap (La + 1) = L1 := by rw [IntKind.wrap_i64]; unfold Bs.last at hLa; omega
            rw [hLa] at hlast
            have HB := Lib.hid hB1
            have HLa := Lib.hid hLa
            have HL1 := Lib.hid hL1
            clear hT3 hB1 hLa hL1 hv
            go_upto_region 17 with fail
            go_cut [107] (fun v wx => v = .bool T3 ∧ ∃ n, wx = V1.drewN n)
            case first =>
              by_cases q1 : d.fr < B1
              · have hg : T3 = true := HT3.out.symm.trans (decide_eq_true (by have := HB.out; omega))
                have hd1 : decide (d.fr < B1) = true := decide_eq_true q1
                subst hg
                go_quiet (fail)
                go_wp2_with fail
                go_meet
                exact ⟨rfl, _, rfl⟩
              · have hd1 : decide (d.fr < B1) = false := decide_eq_false q1
                by_cases q2 : L1 < d.fr
                · have hg : T3 = true := HT3.out.symm.trans (decide_eq_true (by have := HL1.out; have := HLa.out; omega))
                  have hd2 : decide (L1 < d.fr) = true := decide_eq_true q2
                  subst hg
                  go_quiet ((go_at_call 38; exact Calls.quiet_of (hlast _)))
                  go_wp2_with fail
                  go_meet
                  exact ⟨rfl, _, rfl⟩
                · have hg : T3 = false := HT3.out.symm.trans (decide_eq_false (by have := HL1.out; have := HLa.out; have := HB.out; omega))
                  have hd2 : decide (L1 < d.fr) = false := decide_eq_false q2
                  subst hg
                  go_quiet ((go_at_call 38; exact Calls.quiet_of (hlast _)))
                  go_wp2_with fail
                  go_meet
                  exact ⟨rfl, _, rfl⟩
            case rest =>
              obtain ⟨rfl, n, hwc2⟩ := hcut
              have bn := below_draw (Below.refl V1.heap.size V1) n
              have hP2 := HP1.out.on bn
              have hE2 := HE1.out.on bn
              have jd2 := (bn.block X (blk_lt HJ.out)).trans HJ.out
              have hB2 := HB1.out.trans (bn.mono HB1.out.size)
              rw [← hwc2] at hP2 hE2 jd2 hB2
              have HX2 := Lib.hid jd2
              have HB2 := Lib.hid hB2
              have HP2 := Lib.hid hP2
              have HE2 := Lib.hid hE2
              clear hP2 hE2 jd2 hB2 bn hwc2 hlast
              cases T3 with
              | true =>
                have hT := of_decide_eq_true HT3.out
                have hans := load_none hlt HXD.out HALL.out (by intro q; have := q.2.2.2.2; rw [if_neg (by rw [HWH.out]; decide)] at this; omega)
                have HANS := Lib.hid hans
                clear hans hT
                go_wp2
                refine bodyPost_ret (v := .tuple #[.pointer none, .int .i64 100]) (by simp [results, Try.results21, go_sem]) rfl ?_
                rw [HANS.out]
                exact ⟨HB2.out, rfl⟩
              | false =>
                have hT3 := of_decide_eq_false HT3.out
                have hT1 := HT.out
                have hb' := HBS'.out
                have hmay : b.may d := ⟨by omega, by omega, by omega, by omega, by rw [if_neg (by rw [HWH.out]; decide)]; omega⟩
                obtain ⟨p, hp⟩ : ∃ p, (d.fr - b.base - 1).toNat = p := ⟨_, rfl⟩
                obtain ⟨lad, lcap, ov2, O2, v1, w3, ad4, cap4, w4, hv2, hpl, hpc, hlc, hrun1, hrun2, hb3, hb4, a5, f5⟩ := over_n HP2.out HWH.out HE2.out HZL.out (by omega) hp
                have hnext := RJ.next hlt HXD.out HCA.out HLO.out HLL.out HB2.out HBS.out HALL.out hmay (HA.out ▸ a5) f5
                have HN := Lib.hid hnext
                obtain ⟨p1, hp1⟩ : ∃ p1, p + 1 = p1 := ⟨_, rfl⟩
                have j1 : IntKind.i64.wrap (d.fr - b.base) = (p1 : Int) := by unfold Bs.last at hT3; rw [IntKind.wrap_i64]; omega
                have j5 : IntKind.i64.wrap ((p1 : Int) - 1) = (p : Int) := by rw [IntKind.wrap_i64]; omega
                have j2 : (0 : Int) ≤ (p : Int) := by omega
                have j4 : (p : Int) ≤ lcap := by omega
                have hal : Below wc.heap.size wc (wc.alloc (.cells #[] 49)) := (Below.refl _ wc).alloc (Nat.le_refl _) _
                have jA0 := (hal.block A (hv2.lt A hv2.covA)).trans hv2.ob
                have jX0 := (hal.block X (blk_lt HX2.out)).trans HX2.out
                have jA4 := (hb4.block A (hv2.lt A hv2.covA)).trans hv2.ob
                have jX3 := (hb3.block X (blk_lt HX2.out)).trans HX2.out
                have jX4 := (hb4.block X (blk_lt HX2.out)).trans HX2.out
                have m6 : wc.cell? ⟨A, 6, none⟩ = some (.int .i64 b.base) := hv2.cell 6
                have m9 : wc.cell? ⟨A, 9, none⟩ = some (.slice lad b.log.length lcap) := hv2.cell 9
                have mx : wc.cell? ⟨X, 6, none⟩ = some (.int .i64 d.fr) := cell_blk HX2.out 6
                have o6 : (wc.alloc (.cells #[] 49)).cell? ⟨A, 6, none⟩ = some (.int .i64 b.base) := cell_blk jA0 6
                have o9 : (wc.alloc (.cells #[] 49)).cell? ⟨A, 9, none⟩ = some (.slice lad b.log.length lcap) := cell_blk jA0 9
                have ox : (wc.alloc (.cells #[] 49)).cell? ⟨X, 6, none⟩ = some (.int .i64 d.fr) := cell_blk jX0 6
                have r7 : w3.cell? ⟨X, 7, none⟩ = some (.slice dad d.list.length dcap) := cell_blk jX3 7
                have y9 : w4.cell? ⟨A, 9, none⟩ = some (.slice lad b.log.length lcap) := cell_blk jA4 9
                have y2 : w4.cell? ⟨A, 2, none⟩ = some (.int .i64 b.term) := cell_blk jA4 2
                have y3 : w4.cell? ⟨A, 3, none⟩ = some (.int .i64 b.vote) := cell_blk jA4 3
                have u9 : w4.frozen? ⟨A, 9, none⟩ = false := frozen_blk jA4 9
                have u2 : w4.frozen? ⟨A, 2, none⟩ = false := frozen_blk jA4 2
                have u3 : w4.frozen? ⟨A, 3, none⟩ = false := frozen_blk jA4 3
                have x0 : w4.cell? ⟨X, 0, none⟩ = some (.int .i64 d.term) := cell_blk jX4 0
                have x1 : w4.cell? ⟨X, 1, none⟩ = some (.int .i64 d.vote) := cell_blk jX4 1
                clear hT1 hT3 hb' hmay hnext a5 f5 hb3 hb4 hv2 jA0 jX0 jA4 jX3 jX4 hal hp hp1 hlc
                go_wp2
                go_cut [12] (fun v wx => v = v1 ∧ wx = w3)
                case first =>
                  go_region_law (refine step_run (.tmp 108) (.tmp 121) rfl rfl hrun1 ?_)
                  all_goals
                    go_wp2_with fail
                    go_meet
                    exact ⟨rfl, rfl⟩
                case rest =>
                  obtain ⟨rfl, hwc3⟩ := hcut
                  subst hwc3
                  go_wp2_with (at_builtin; refine wpl_run _ _ rfl hrun2 ?_)
                  go_roundw
                  case rel => exact HN.out
                  case measure => simp [intOf]; omega
    · have k1 : ¬ (k : Int) < L.length := by omega
      have hkl : k = L.length := by omega
      subst hkl
      have hans : Bs.load id size (L.map Prod.fst) = some { b with commit := b.base, fr := b.last + 1 } := by
        unfold Bs.load
        rw [hall, List.drop_length]
        rfl
      obtain ⟨l9, b0, b1⟩ := hP.len
      have hl2 : IntKind.i64.wrap (b.last + 1) = b.last + 1 := by rw [IntKind.wrap_i64]; unfold Bs.last; omega
      obtain ⟨a1, f1⟩ := hP.setf (i := 25) (v := .int .i64 b.base) (b' := { b with commit := b.base }) (fun _ _ => rfl) rfl rfl rfl
      have hlast := last_any a1
      have hl3 : ({ b with commit := b.base } : Bs).last = b.last := rfl
      rw [hl3] at hlast
      obtain ⟨La, hLa⟩ : ∃ La, b.last = La := ⟨_, rfl⟩
      obtain ⟨L1, hL1⟩ : ∃ L1, La + 1 = L1 := ⟨_, rfl⟩
      have i2 : IntKind.i64.wrap (La + 1) = L1 := by rw [IntKind.wrap_i64]; unfold Bs.last at hLa; omega
      rw [hLa] at hlast
      have HE : Hid (∀ n, RloadAns w (Bs.load id size (L.map Prod.fst)) (.returned (.tuple #[.pointer (some ⟨A, 0, none⟩), .int .i64 0])) (((wr.setCell ⟨A, 25, none⟩ (.int .i64 b.base)).drewN n).setCell ⟨A, 28, none⟩ (.int .i64 L1))) := by
        intro n
        obtain ⟨a2, f2⟩ := (a1.drewN n).setf (i := 28) (v := .int .i64 L1) (b' := { b with commit := b.base, fr := L1 }) (fun _ _ => rfl) rfl rfl rfl
        have fn : Fr wr ((wr.setCell ⟨A, 25, none⟩ (.int .i64 b.base)).drewN n) S := f1.drewN n
        have f3 := fn.trans f2
        rw [hans]
        refine ⟨?_, by rw [HA.out], S, ?_, hlo⟩
        · exact ((Fr.ofBelow (fun _ => False) hbl).step f3 (fun j q => .inr (hlo j q))).fresh (fun _ q => q.elim)
        · rw [HA.out, show b.last + 1 = L1 by omega]
          exact a2
      obtain ⟨lv, ov, O, hv⟩ := hP
      have c6 : wr.cell? ⟨A, 6, none⟩ = some (.int .i64 b.base) := hv.cell 6
      have c25 : wr.cell? ⟨A, 25, none⟩ = some (.int .i64 b.commit) := hv.cell 25
      have c28 : wr.cell? ⟨A, 28, none⟩ = some (.int .i64 b.fr) := hv.cell 28
      have z25 : wr.frozen? ⟨A, 25, none⟩ = false := frozen_blk hv.ob 25
      have z28 : wr.frozen? ⟨A, 28, none⟩ = false := frozen_blk hv.ob 28
      clear hv a1 f1 hans hl2 hl3 hLa hL1 hall hcalm hlog hlo hbl hbs hbs'
      go_wp2_with fail
      refine hlast.mono ?_
      rintro e w2 ⟨rfl, n, rfl⟩
      clear hlast
      go_wp2
      refine bodyPost_ret (v := .tuple #[.pointer (some ⟨A, 0, none⟩), .int .i64 0]) (by simp [results, Try.results21, go_sem]) rfl ?_
      exact HE.out n
end
end Go.Proofs.Ytmiagjcihmenfaa
