/- The walk of the law's stands: a ballot and the document's that are one. -/
import Derived.Test.YtmiagjcihmenfaaXe
import Derived.Test.YtmiagjcihmenfaaXj
import Derived.Deep.DeepCutAuto
namespace Go.Proofs.Ytmiagjcihmenfaa
open Go.RowKit

theorem str_one (s : ByteArray) : (s.toList == s.toList) = true := by simp
theorem at_one {b : Bs} {k : Nat} (h : k < b.log.length) : b.at? (b.base + 1 + k) = some b.log[k] := by
  unfold Bs.at?
  rw [if_pos (by omega), show (b.base + 1 + (k : Int) - b.base - 1).toNat = k by omega, List.getElem?_eq_getElem h]
theorem at_base {b : Bs} : b.at? b.base = none := by
  unfold Bs.at?
  rw [if_neg (by omega)]
theorem at_over {b : Bs} : b.at? (b.last + 1) = none := by
  unfold Bs.at? Bs.last
  rw [if_pos (by omega), List.getElem?_eq_none (by omega)]
section
variable {w w' : World} {A B : Nat} {S T : Nat → Prop} {b : Bs}
set_option maxHeartbeats 8000000 in
set_option maxRecDepth 100000 in
theorem stands_p (h : Pb w A S b) (g : Rb w B T b) :
    Calls Try.prog 16 #[.pointer (some ⟨A, 0, none⟩), .pointer (some ⟨B, 0, none⟩)] w fun e w' => e = .returned (.bool true) ∧ Below w.heap.size w w' := by
  have hst := stand_any h
  obtain ⟨l9, b0, b1⟩ := g.len
  have HP := Lib.hid h
  have HG := Lib.hid g
  clear h g
  go_enter Try.func16, Try.ntmps16
  go_wp2_with fail
  refine hst.mono ?_
  rintro e w1 ⟨rfl, hb1⟩
  clear hst
  obtain ⟨W, hW⟩ : ∃ W, W = w1.alloc (.cells #[.int .i64 b.term, .int .i64 b.vote, .int .i64 b.role, .int .i64 b.lead, .int .i64 b.base, .int .i64 b.last, .int .i64 b.commit] 57) := ⟨_, rfl⟩
  obtain ⟨Y, hY⟩ : ∃ Y, w1.heap.size = Y := ⟨_, rfl⟩
  have bW : Below w.heap.size w W := by rw [hW]; exact hb1.alloc hb1.size _
  have jY : W.heap[Y]? = some (.cells #[.int .i64 b.term, .int .i64 b.vote, .int .i64 b.role, .int .i64 b.lead, .int .i64 b.base, .int .i64 b.last, .int .i64 b.commit] 57 (0, 0)) := by rw [hW, ← hY]; exact heap_alloc_new w1 _
  have hPW := HP.out.on bW
  have hGW := HG.out.on bW
  have hsnap := fun n => snap_any (hPW.drewN n)
  have hlast := fun n => last_any (hGW.drewN n)
  have HB := Lib.hid bW
  have HW := Lib.hid hW
  have HY := Lib.hid hY
  have HPW := Lib.hid hPW
  have HGW := Lib.hid hGW
  obtain ⟨lv, ov, O, hv⟩ := hGW
  have c2 : W.cell? ⟨B, 2, none⟩ = some (.int .i64 b.term) := hv.cell 2
  have c3 : W.cell? ⟨B, 3, none⟩ = some (.int .i64 b.vote) := hv.cell 3
  have c4 : W.cell? ⟨B, 4, none⟩ = some (.int .i64 b.role) := hv.cell 4
  have c5 : W.cell? ⟨B, 5, none⟩ = some (.int .i64 b.lead) := hv.cell 5
  have c6 : W.cell? ⟨B, 6, none⟩ = some (.int .i64 b.base) := hv.cell 6
  have c8 : W.cell? ⟨B, 8, none⟩ = some (.string b.snap) := hv.cell 8
  have c25 : W.cell? ⟨B, 25, none⟩ = some (.int .i64 b.commit) := hv.cell 25
  have y0 : W.cell? ⟨Y, 0, none⟩ = some (.int .i64 b.term) := cell_blk jY 0
  have y1 : W.cell? ⟨Y, 1, none⟩ = some (.int .i64 b.vote) := cell_blk jY 1
  have y2 : W.cell? ⟨Y, 2, none⟩ = some (.int .i64 b.role) := cell_blk jY 2
  have y3 : W.cell? ⟨Y, 3, none⟩ = some (.int .i64 b.lead) := cell_blk jY 3
  have y4 : W.cell? ⟨Y, 4, none⟩ = some (.int .i64 b.base) := cell_blk jY 4
  have y5 : W.cell? ⟨Y, 5, none⟩ = some (.int .i64 b.last) := cell_blk jY 5
  have y6 : W.cell? ⟨Y, 6, none⟩ = some (.int .i64 b.commit) := cell_blk jY 6
  have e1 := str_one b.snap
  have hlo : b.last ≤ 4398047511105 := by unfold Bs.last; omega
  have hlo2 : b.base ≤ b.last := by unfold Bs.last; omega
  have hlog : b.last = b.base + b.log.length := rfl
  have HLG := Lib.hid hlog
  clear hv hPW bW hW hY jY hb1 hlog
  go_upto_region 2 with fail
  rw [← HW.out, HY.out]
  go_cut [52] (fun v wx => v = .bool false ∧ ∃ n, wx = W.drewN n)
  case first =>
    go_quiet (first | (go_at_call 38; exact Calls.quiet_of (hlast _)) | (go_at_call 23; exact Calls.quiet_of_same (hsnap _)))
    go_wp2_with fail
    go_meet
    exact ⟨rfl, _, rfl⟩
  case rest =>
    obtain ⟨rfl, n, hwc⟩ := hcut
    have hP2 := HPW.out.drewN n
    have hG2 := HGW.out.drewN n
    have hB2 := HB.out.trans ((below_draw (Below.refl W.heap.size W) n).mono HB.out.size)
    rw [← hwc] at hP2 hG2 hB2
    obtain ⟨lv2, ov2, O2, hv2⟩ := hG2
    have HG2 := Lib.hid (show Rb wc B T b from ⟨lv2, ov2, O2, hv2⟩)
    have HP2 := Lib.hid hP2
    have HB2 := Lib.hid hB2
    obtain ⟨lad, lcap, rfl, hcap, hmx⟩ := hv2.log.shape
    have m9 : wc.cell? ⟨B, 9, none⟩ = some (.slice lad b.log.length lcap) := hv2.cell 9
    have lm : (b.log.length : Int) ≤ 900000 := by omega
    clear hP2 hB2 hv2 hwc hsnap hlast c2 c3 c4 c5 c6 c8 c25 y0 y1 y2 y3 y4 y5 y6 HPW HGW HB HW HY
    go_wp2
    go_loopw [58] (fun i wr => ∃ k : Nat, k ≤ b.log.length ∧ i = .int .i64 ((k : Nat) : Int) ∧ Pb wr A S b ∧ Rb wr B T b ∧ Below w.heap.size w wr) (fun i _ => b.log.length - (intOf i).toNat)
    case atStart => exact ⟨0, Nat.zero_le _, rfl, HP2.out, HG2.out, HB2.out⟩
    case round =>
      clear HP2 HG2 HB2 m9
      obtain ⟨k, hk, rfl, hP, hG, hB⟩ := hrel
      have HPr := Lib.hid hP
      have HGr := Lib.hid hG
      have HBr := Lib.hid hB
      by_cases hlt : k < b.log.length
      · have k0 : (0 : Int) ≤ k := by omega
        have k1 : (k : Int) < b.log.length := by omega
        have hen := entry_p hP (b.base + 1 + k)
        rw [at_one hlt] at hen
        simp only [Option.getD_some, Option.isSome_some] at hen
        obtain ⟨en, hen1⟩ : ∃ en, b.log[k] = en := ⟨_, rfl⟩
        rw [hen1] at hen
        obtain ⟨B1, hB1⟩ : ∃ B1, b.base + 1 = B1 := ⟨_, rfl⟩
        have i1 : IntKind.i64.wrap (b.base + 1) = B1 := by rw [IntKind.wrap_i64]; omega
        rw [hB1] at hen
        obtain ⟨B2, hB2⟩ : ∃ B2, B1 + (k : Int) = B2 := ⟨_, rfl⟩
        have i2 : IntKind.i64.wrap (B1 + (k : Int)) = B2 := by rw [IntKind.wrap_i64]; omega
        rw [hB2] at hen
        obtain ⟨lv3, ov3, O3, hv3⟩ := hG
        have c6 : wr.cell? ⟨B, 6, none⟩ = some (.int .i64 b.base) := hv3.cell 6
        have HEN := Lib.hid hen1
        clear hP hB hk hv3 hB1 hB2 hen1
        go_wp2_with fail
        refine hen.mono ?_
        rintro e w3 ⟨rfl, hb3⟩
        clear hen
        obtain ⟨V, hV⟩ : ∃ V, V = w3.alloc (.cells #[.int .i64 en.term, .int .i64 en.at', .int .i64 en.born, .string en.text] 49) := ⟨_, rfl⟩
        obtain ⟨Z, hZ⟩ : ∃ Z, w3.heap.size = Z := ⟨_, rfl⟩
        have bV : Below wr.heap.size wr V := by rw [hV]; exact hb3.alloc hb3.size _
        have jZ : V.heap[Z]? = some (.cells #[.int .i64 en.term, .int .i64 en.at', .int .i64 en.born, .string en.text] 49 (0, 0)) := by rw [hV, ← hZ]; exact heap_alloc_new w3 _
        have hPV := HPr.out.on bV
        have hGV := HGr.out.on bV
        have HREL : Hid (∀ n, ∃ k' : Nat, k' ≤ b.log.length ∧ (.int .i64 ((k + 1 : Nat) : Int) : Value) = .int .i64 ((k' : Nat) : Int) ∧ Pb (V.drewN n) A S b ∧ Rb (V.drewN n) B T b ∧ Below w.heap.size w (V.drewN n)) := fun n =>
          ⟨k + 1, hlt, rfl, hPV.drewN n, hGV.drewN n, HBr.out.trans ((bV.trans ((below_draw (Below.refl V.heap.size V) n).mono bV.size)).mono HBr.out.size)⟩
        obtain ⟨lv4, ov4, O4, hv4⟩ := hGV
        obtain ⟨lad4, lcap4, rfl, hcap4, hmx4⟩ := hv4.log.shape
        have m9 : V.cell? ⟨B, 9, none⟩ = some (.slice lad4 b.log.length lcap4) := hv4.cell 9
        obtain ⟨_, _, q0, _, _, _, q3⟩ := hv4.log
        cases q0
        obtain ⟨gb, o, rfl, _, _, x0, x1, x2, x3⟩ := q3 k hlt
        rw [HEN.out] at x0 x1 x2 x3
        have z0 : V.cell? ⟨Z, 0, none⟩ = some (.int .i64 en.term) := cell_blk jZ 0
        have z1 : V.cell? ⟨Z, 1, none⟩ = some (.int .i64 en.at') := cell_blk jZ 1
        have z2 : V.cell? ⟨Z, 2, none⟩ = some (.int .i64 en.born) := cell_blk jZ 2
        have z3 : V.cell? ⟨Z, 3, none⟩ = some (.string en.text) := cell_blk jZ 3
        have e2 := str_one en.text
        have HV := Lib.hid hV
        have HZ := Lib.hid hZ
        clear hV hZ bV jZ hPV hv4 q3 hb3 HPr HGr c6
        go_upto_region 8 with fail
        rw [← HV.out, HZ.out]
        go_cut [85] (fun v wx => v = .bool false ∧ ∃ n, wx = V.drewN n)
        case first =>
          go_quiet (fail)
          go_wp2_with fail
          go_meet
          exact ⟨rfl, _, rfl⟩
        case rest =>
          obtain ⟨rfl, n3, hwc3⟩ := hcut
          have hrl := HREL.out n3
          rw [← hwc3] at hrl
          have HRL := Lib.hid hrl
          clear hrl hwc3
          go_wp2
          go_roundw
          case rel => exact HRL.out
          case measure => simp [intOf]; omega
      · have k1 : ¬ (k : Int) < b.log.length := by omega
        have hen := entry_p hP b.base
        rw [at_base] at hen
        simp only [Option.getD_none, Option.isSome_none] at hen
        obtain ⟨lv3, ov3, O3, hv3⟩ := hG
        have c6 : wr.cell? ⟨B, 6, none⟩ = some (.int .i64 b.base) := hv3.cell 6
        clear hP hB hk hv3
        go_wp2_with fail
        refine hen.mono ?_
        rintro e w3 ⟨rfl, hb3⟩
        clear hen
        obtain ⟨V, hV⟩ : ∃ V, V = w3.alloc (.cells #[.int .i64 0, .int .i64 0, .int .i64 0, .string ⟨#[]⟩] 49) := ⟨_, rfl⟩
        have bV : Below wr.heap.size wr V := by rw [hV]; exact hb3.alloc hb3.size _
        have hPV := HPr.out.on bV
        have hGV := HGr.out.on bV
        have hlast2 := last_any hGV
        have hBV := HBr.out.trans (bV.mono HBr.out.size)
        have hen2 := fun n => entry_p (hPV.drewN n) (b.last + 1)
        rw [at_over] at hen2
        simp only [Option.getD_none, Option.isSome_none] at hen2
        obtain ⟨La, hLa⟩ : ∃ La, b.last = La := ⟨_, rfl⟩
        obtain ⟨L1, hL1⟩ : ∃ L1, La + 1 = L1 := ⟨_, rfl⟩
        have i2 : IntKind.i64.wrap (La + 1) = L1 := by rw [IntKind.wrap_i64]; omega
        rw [hLa] at hlast2 hen2
        rw [hL1] at hen2
        have HV := Lib.hid hV
        have HBV := Lib.hid hBV
        clear hV bV hPV hGV hBV hb3 hLa hL1 c6
        go_upto_region 12 with fail
        rw [← HV.out]
        go_wp2_with fail
        refine hlast2.mono ?_
        rintro e w4 ⟨rfl, n4, rfl⟩
        clear hlast2
        have hen3 := hen2 n4
        go_wp2_with fail
        refine hen3.mono ?_
        rintro e w5 ⟨rfl, hb5⟩
        have HB5 := Lib.hid hb5
        clear hen3 hen2 hb5
        go_wp2
        go_ret
        refine ⟨rfl, ?_⟩
        have hb6 := HBV.out.trans ((below_draw (Below.refl V.heap.size V) n4).mono HBV.out.size)
        exact (hb6.trans (HB5.out.mono hb6.size)).alloc (by have := hb6.size; have := HB5.out.size; omega) _
end
end Go.Proofs.Ytmiagjcihmenfaa
