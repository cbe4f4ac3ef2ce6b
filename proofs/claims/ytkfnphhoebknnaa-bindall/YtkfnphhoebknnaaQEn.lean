import Derived.Test.YtkfnphhoebknnaaQEm
import Derived.Test.YtkfnphhoebknnaaQRg1
import Derived.Test.YtkfnphhoebknnaaQPw
import Derived.BigQuiet
namespace Go.Proofs.Ytkfnphhoebknnaa
open Go.RowKit
def zDd : Dd := ⟨0, ⟨#[]⟩, ⟨#[]⟩, ⟨#[]⟩, ⟨#[]⟩, false, 0, ⟨0, 0, ⟨#[]⟩⟩, []⟩
def aw1S : St := ⟨2, ⟨#[116]⟩, [], ⟨#[98]⟩, ⟨2, 0, ⟨#[120]⟩⟩, ⟨#[97]⟩, ⟨1, 5, ⟨#[]⟩⟩, zDd⟩
def aw2S : St := ⟨4, ⟨#[116]⟩, [], ⟨#[]⟩, ⟨0, 0, ⟨#[]⟩⟩, ⟨#[]⟩, ⟨0, 0, ⟨#[]⟩⟩, zDd⟩
def aw3S : St := ⟨1, ⟨#[116]⟩, [⟨0, 0, ⟨#[]⟩⟩, ⟨2, 0, ⟨#[120]⟩⟩], ⟨#[]⟩, ⟨0, 0, ⟨#[]⟩⟩, ⟨#[]⟩, ⟨0, 0, ⟨#[]⟩⟩, zDd⟩
def aw1B : Bd := ⟨2, 1, [], 3, ⟨2, 0, ⟨#[120]⟩⟩, 2, ⟨1, 5, ⟨#[]⟩⟩⟩
theorem awE1 : bindE awS1 [aw1S] = (0, 0) := by kernel_rfl
theorem awE2 : bindE awS1 [aw2S, aw3S] = (1, 191) := by kernel_rfl
theorem awL1 : bindL awS1 [aw1S] = [aw1B] := by
  unfold bindL
  rw [awE1, if_pos rfl]
  kernel_rfl
theorem vals_nil (X : World) : Lr valsE 3 X [] (.slice none 0 0) := ⟨none, 0, rfl, fun _ => rfl, Nat.le_refl _, Nat.zero_le _, fun i hi => absurd hi (by simp)⟩
theorem vals_two {X : World} {F : Nat} (h : X.heap[F]? = some (.cells #[.int .i64 0, .int .i64 0, .string ⟨#[]⟩, .int .i64 2, .int .i64 0, .string ⟨#[120]⟩] 37 (0, 0))) : Lr valsE 3 X [⟨0, 0, ⟨#[]⟩⟩, ⟨2, 0, ⟨#[120]⟩⟩] (.slice (some ⟨F, 0, none⟩) 2 2) :=
  ⟨some ⟨F, 0, none⟩, 2, rfl, (fun e => by cases e), Nat.le_refl _, (by unfold maxLen; omega), fun i hi => by
    have h0 : i = 0 ∨ i = 1 := by have : i < 2 := hi; omega
    rcases h0 with rfl | rfl
    · exact ⟨F, 0, vlL ⟨0, 0, ⟨#[]⟩⟩, rfl, blk_lt h, rfl, rfl, fun j u hu => by
        have hj : j < 3 := (List.getElem?_eq_some_iff.1 hu).1
        rw [show 0 + 0 * 3 + j = j from by omega, cell_blk h j]
        match j, hj, hu with
        | 0, _, hu => exact hu
        | 1, _, hu => exact hu
        | 2, _, hu => exact hu⟩
    · exact ⟨F, 0, vlL ⟨2, 0, ⟨#[120]⟩⟩, rfl, blk_lt h, rfl, rfl, fun j u hu => by
        have hj : j < 3 := (List.getElem?_eq_some_iff.1 hu).1
        rw [show 0 + 1 * 3 + j = 3 + j from by omega, cell_blk h (3 + j)]
        match j, hj, hu with
        | 0, _, hu => exact hu
        | 1, _, hu => exact hu
        | 2, _, hu => exact hu⟩⟩
theorem stmt_one {X : World} {M : Nat} {x : St} {va : Option Addr} {vc : Nat} {da : Option Addr} {dc : Nat} (h : X.heap[M]? = some (.cells (stmtA x (.slice va x.vals.length vc) (.slice da x.dd.cols.length dc)) 46 (0, 0))) (hv : Lr valsE 3 X x.vals (.slice va x.vals.length vc)) : Lr stmtE 22 X [x] (.slice (some ⟨M, 0, none⟩) 1 1) :=
  ⟨some ⟨M, 0, none⟩, 1, rfl, (fun e => by cases e), Nat.le_refl _, (by unfold maxLen; omega), fun i hi => by
    obtain rfl : i = 0 := by have : i < 1 := hi; omega
    refine ⟨M, 0, _, rfl, blk_lt h, ⟨va, vc, da, dc, rfl, hv⟩, rfl, fun j u hu => ?_⟩
    rw [show 0 + 0 * 22 + j = j from by omega, cell_blk h j]
    simpa using hu⟩
theorem stmt_two {X : World} {M : Nat} {x y : St} {va vb : Option Addr} {vc vd : Nat} {da db : Option Addr} {dc dd : Nat} {cs : Array Value} (h : X.heap[M]? = some (.cells cs 46 (0, 0))) (hc : cs.toList = (stmtA x (.slice va x.vals.length vc) (.slice da x.dd.cols.length dc)).toList ++ (stmtA y (.slice vb y.vals.length vd) (.slice db y.dd.cols.length dd)).toList) (hv : Lr valsE 3 X x.vals (.slice va x.vals.length vc)) (hw : Lr valsE 3 X y.vals (.slice vb y.vals.length vd)) : Lr stmtE 22 X [x, y] (.slice (some ⟨M, 0, none⟩) 2 2) :=
  ⟨some ⟨M, 0, none⟩, 2, rfl, (fun e => by cases e), Nat.le_refl _, (by unfold maxLen; omega), fun i hi => by
    have hcell : ∀ j, X.cell? ⟨M, j, none⟩ = cs.toList[j]? := fun j => by rw [cell_blk h j]; simp
    have h0 : i = 0 ∨ i = 1 := by have : i < 2 := hi; omega
    rcases h0 with rfl | rfl
    · refine ⟨M, 0, _, rfl, blk_lt h, ⟨va, vc, da, dc, rfl, hv⟩, rfl, fun j u hu => ?_⟩
      have hj : j < 22 := (List.getElem?_eq_some_iff.1 hu).1
      rw [show 0 + 0 * 22 + j = j from by omega, hcell, hc, List.getElem?_append_left (by simpa using hj)]
      exact hu
    · refine ⟨M, 0, _, rfl, blk_lt h, ⟨vb, vd, db, dd, rfl, hw⟩, rfl, fun j u hu => ?_⟩
      rw [show 0 + 1 * 22 + j = 22 + j from by omega, hcell, hc, List.getElem?_append_right (by simp)]
      simpa using hu⟩
section
variable {w : World}
set_option maxHeartbeats 8000000 in
set_option maxRecDepth 100000 in
theorem awake_any (w : World) : Calls Try.prog 7 #[] w fun e w' => e = .returned (.bool true) ∧ Below w.heap.size w w' := by
  have hex := example_any w
  go_enter Try.func7, Try.ntmps7
  go_upto_region 1 with fail
  go_wp2_with (go_at_call 15; refine hex.mono ?_; rintro e w1 ⟨F, rfl, hF, b1⟩; refine Hid.out ?_)
  refine Lib.hid ?_
  have hturn : Calls Try.prog 14 #[.agg #[.int .i64 0, .int .i64 0, .slice none 0 0], .agg #[.int .i64 1, .string ⟨#[116]⟩, .string ⟨#[]⟩, .string ⟨#[]⟩, .string ⟨#[]⟩, .bool false, .int .i64 0, .int .i64 0, .int .i64 0, .string ⟨#[]⟩, .slice (some ⟨F, 0, none⟩) 2 2], .int .i64 3] w1 (TuAns w1 (turnS awS0 exD 3)) := turn_one (w := w1) (s := awS0) (tv := .slice none 0 0) (d := exD) (st := 3) (tb_nil w1) hF (by decide) rfl
  rw [aw1] at hturn
  have HB1 := Lib.hid b1
  clear hex hF b1
  go_upto_region 2 with (go_at_call 14; refine hturn.mono ?_; rintro e w2 ⟨G, tv, rfl, hG, hD, b2⟩; refine Hid.out ?_)
  refine Lib.hid ?_
  have HB2 := Lib.hid (bgo HB1.out b2)
  have HT := Lib.hid (show Lr tbE 5 w2 awS1.tabs tv by have := hD.reads; rw [hG] at this; exact this)
  obtain ⟨ua, uc, hu, -⟩ := HT.out.shape
  have hl1 : awS1.tabs.length = 1 := rfl
  rw [hl1] at hu
  subst hu
  obtain ⟨V, hV⟩ : ∃ V, V = w2.alloc (.cells #[.int .i64 awS1.ver, .int .i64 awS1.last, .slice ua 1 uc] 24) := ⟨_, rfl⟩
  obtain ⟨T1, hT1⟩ : ∃ T, w2.heap.size = T := ⟨_, rfl⟩
  have bV : Below w2.heap.size w2 V := by rw [hV]; exact bnew _ _
  have jT : V.heap[T1]? = some (.cells #[.int .i64 awS1.ver, .int .i64 awS1.last, .slice ua 1 uc] 24 (0, 0)) := by rw [hV, ← hT1]; exact heap_alloc_new _ _
  obtain ⟨V2, hV2⟩ : ∃ V2, V2 = (V.alloc (.cells #[.int .i64 1, .int .i64 5, .string ⟨#[]⟩] 37)).alloc (.cells #[.int .i64 2, .int .i64 0, .string ⟨#[120]⟩] 37) := ⟨_, rfl⟩
  obtain ⟨P3, hP3⟩ : ∃ P, V.heap.size = P := ⟨_, rfl⟩
  obtain ⟨P4, hP4⟩ : ∃ P, P3 + 1 = P := ⟨_, rfl⟩
  have bV2 : Below V.heap.size V V2 := by rw [hV2]; exact bgo (bnew _ _) (bnew _ _)
  have j3 : V2.heap[P3]? = some (.cells #[.int .i64 1, .int .i64 5, .string ⟨#[]⟩] 37 (0, 0)) := by
    rw [hV2, Below.heap_alloc _ _ _ (by simp only [World.size_alloc]; omega), ← hP3]
    exact heap_alloc_new _ _
  have j4 : V2.heap[P4]? = some (.cells #[.int .i64 2, .int .i64 0, .string ⟨#[120]⟩] 37 (0, 0)) := by
    rw [hV2, ← hP4, ← hP3]
    exact alloc2_new _ _ _
  have jT2 := (bV2.block T1 (blk_lt jT)).trans jT
  have HV := Lib.hid hV
  have HT1 := Lib.hid hT1
  have HV2 := Lib.hid hV2
  have HP3 := Lib.hid hP3
  have HP4 := Lib.hid hP4
  have HBV2 : Hid (Below w.heap.size w V2) := Lib.hid (bgo HB2.out (bgo bV bV2))
  have HTV2 := Lib.hid (HT.out.on tbE_held (bgo bV bV2))
  have J3 := Lib.hid j3
  have J4 := Lib.hid j4
  have JT := Lib.hid jT2
  clear hturn hG hD b2 hl1 hV hT1 hV2 hP3 hP4 bV bV2 jT
  go_upto_region 2 with fail
  rw [← HV.out, HT1.out]
  go_upto_region 3 with fail
  rw [← HV2.out, HP3.out, HP4.out]
  have t0 : V2.cell? ⟨T1, 0, none⟩ = some (.int .i64 awS1.ver) := cell_blk jT2 0
  have t1 : V2.cell? ⟨T1, 1, none⟩ = some (.int .i64 awS1.last) := cell_blk jT2 1
  have t2 : V2.cell? ⟨T1, 2, none⟩ = some (.slice ua 1 uc) := cell_blk jT2 2
  have p0 : V2.cell? ⟨P3, 0, none⟩ = some (.int .i64 1) := cell_blk j3 0
  have p1 : V2.cell? ⟨P3, 1, none⟩ = some (.int .i64 5) := cell_blk j3 1
  have p2 : V2.cell? ⟨P3, 2, none⟩ = some (.string ⟨#[]⟩) := cell_blk j3 2
  have q0 : V2.cell? ⟨P4, 0, none⟩ = some (.int .i64 2) := cell_blk j4 0
  have q1 : V2.cell? ⟨P4, 1, none⟩ = some (.int .i64 0) := cell_blk j4 1
  have q2 : V2.cell? ⟨P4, 2, none⟩ = some (.string ⟨#[120]⟩) := cell_blk j4 2
  obtain ⟨V3, hV3⟩ : ∃ V3, V3 = V2.alloc (.cells #[.int .i64 2, .string ⟨#[116]⟩, .slice none 0 0, .string ⟨#[98]⟩, .int .i64 2, .int .i64 0, .string ⟨#[120]⟩, .string ⟨#[97]⟩, .int .i64 1, .int .i64 5, .string ⟨#[]⟩, .int .i64 0, .string ⟨#[]⟩, .string ⟨#[]⟩, .string ⟨#[]⟩, .string ⟨#[]⟩, .bool false, .int .i64 0, .int .i64 0, .int .i64 0, .string ⟨#[]⟩, .slice none 0 0] 46) := ⟨_, rfl⟩
  obtain ⟨M1, hM1⟩ : ∃ M, V2.heap.size = M := ⟨_, rfl⟩
  have bV3 : Below V2.heap.size V2 V3 := by rw [hV3]; exact bnew _ _
  have jM : V3.heap[M1]? = some (.cells (stmtA aw1S (.slice none 0 0) (.slice none 0 0)) 46 (0, 0)) := by rw [hV3, ← hM1]; exact heap_alloc_new _ _
  have hI : ∀ t ∈ awS1.tabs, ∀ i ∈ idsT t, I64 i := by
    intro t ht i hi
    have ht' : t = awS1.tabs[0] := by
      have : t ∈ [awS1.tabs[0]] := ht
      simpa using this
    subst ht'
    have hi' : i ∈ ([1, 2, 3] : List Int) := hi
    simp only [List.mem_cons, List.not_mem_nil, or_false] at hi'
    rcases hi' with rfl | rfl | rfl <;> exact ⟨by decide, by decide⟩
  have hbind : Calls Try.prog 9 #[.agg #[.int .i64 awS1.ver, .int .i64 awS1.last, .slice ua 1 uc], .slice (some ⟨M1, 0, none⟩) 1 1] V3 _ := bind_any (w := V3) (s := awS1) (tv := .slice ua 1 uc) (L := [aw1S]) (HTV2.out.on tbE_held bV3) hI (stmt_one (x := aw1S) jM (vals_nil V3)) (by intro x hx; rw [List.mem_singleton.1 hx]; exact Nat.zero_le _) (by simp)
  rw [awE1, awL1] at hbind
  have HI := Lib.hid hI
  have HV3 := Lib.hid hV3
  have HM1 := Lib.hid hM1
  have HBV3 := Lib.hid bV3
  clear hI hV3 hM1 bV3 jM j3 j4 jT2
  go_wp2_with (rw [← HV3.out, HM1.out]; go_at_call 9; refine hbind.mono ?_; rintro e w4 ⟨av, rfl, hBO, b4⟩; refine Hid.out ?_)
  refine Lib.hid ?_
  have HB4 := Lib.hid (bgo HBV3.out b4)
  obtain ⟨aa, ac, eav, -⟩ := hBO.reads.shape
  have hl1 : ([aw1B] : List Bd).length = 1 := rfl
  rw [hl1] at eav
  subst eav
  obtain ⟨ab, ao, acs, eaa, -, ⟨bv, ebv, -⟩, har⟩ := hBO.reads.at.2.2.2 0 (by simp)
  subst eaa
  subst ebv
  have HAR := Lib.hid (show w4.rangeAt ab (ao + 0 * 11) (bdC (aw1B, bv)) from har)
  have jT4 := (HB4.out.block T1 (blk_lt JT.out)).trans JT.out
  have j34 := (HB4.out.block P3 (blk_lt J3.out)).trans J3.out
  have j44 := (HB4.out.block P4 (blk_lt J4.out)).trans J4.out
  obtain ⟨V5, hV5⟩ : ∃ V5, V5 = w4.alloc (.cells #[.int .i64 0, .int .i64 0, .string ⟨#[]⟩, .int .i64 2, .int .i64 0, .string ⟨#[120]⟩] 37) := ⟨_, rfl⟩
  obtain ⟨F2, hF2⟩ : ∃ F, w4.heap.size = F := ⟨_, rfl⟩
  have bV5 : Below w4.heap.size w4 V5 := by rw [hV5]; exact bnew _ _
  have jF2 : V5.heap[F2]? = some (.cells #[.int .i64 0, .int .i64 0, .string ⟨#[]⟩, .int .i64 2, .int .i64 0, .string ⟨#[120]⟩] 37 (0, 0)) := by rw [hV5, ← hF2]; exact heap_alloc_new _ _
  obtain ⟨V6, hV6⟩ : ∃ V6, V6 = V5.alloc (.cells #[.int .i64 4, .string ⟨#[116]⟩, .slice none 0 0, .string ⟨#[]⟩, .int .i64 0, .int .i64 0, .string ⟨#[]⟩, .string ⟨#[]⟩, .int .i64 0, .int .i64 0, .string ⟨#[]⟩, .int .i64 0, .string ⟨#[]⟩, .string ⟨#[]⟩, .string ⟨#[]⟩, .string ⟨#[]⟩, .bool false, .int .i64 0, .int .i64 0, .int .i64 0, .string ⟨#[]⟩, .slice none 0 0, .int .i64 1, .string ⟨#[116]⟩, .slice (some ⟨F2, 0, none⟩) 2 2, .string ⟨#[]⟩, .int .i64 0, .int .i64 0, .string ⟨#[]⟩, .string ⟨#[]⟩, .int .i64 0, .int .i64 0, .string ⟨#[]⟩, .int .i64 0, .string ⟨#[]⟩, .string ⟨#[]⟩, .string ⟨#[]⟩, .string ⟨#[]⟩, .bool false, .int .i64 0, .int .i64 0, .int .i64 0, .string ⟨#[]⟩, .slice none 0 0] 46) := ⟨_, rfl⟩
  obtain ⟨M2, hM2⟩ : ∃ M, V5.heap.size = M := ⟨_, rfl⟩
  have bV6 : Below V5.heap.size V5 V6 := by rw [hV6]; exact bnew _ _
  have jM2 : V6.heap[M2]? = some (.cells #[.int .i64 4, .string ⟨#[116]⟩, .slice none 0 0, .string ⟨#[]⟩, .int .i64 0, .int .i64 0, .string ⟨#[]⟩, .string ⟨#[]⟩, .int .i64 0, .int .i64 0, .string ⟨#[]⟩, .int .i64 0, .string ⟨#[]⟩, .string ⟨#[]⟩, .string ⟨#[]⟩, .string ⟨#[]⟩, .bool false, .int .i64 0, .int .i64 0, .int .i64 0, .string ⟨#[]⟩, .slice none 0 0, .int .i64 1, .string ⟨#[116]⟩, .slice (some ⟨F2, 0, none⟩) 2 2, .string ⟨#[]⟩, .int .i64 0, .int .i64 0, .string ⟨#[]⟩, .string ⟨#[]⟩, .int .i64 0, .int .i64 0, .string ⟨#[]⟩, .int .i64 0, .string ⟨#[]⟩, .string ⟨#[]⟩, .string ⟨#[]⟩, .string ⟨#[]⟩, .bool false, .int .i64 0, .int .i64 0, .int .i64 0, .string ⟨#[]⟩, .slice none 0 0] 46 (0, 0)) := by rw [hV6, ← hM2]; exact heap_alloc_new _ _
  have hvt := vals_two ((bV6.block F2 (blk_lt jF2)).trans jF2)
  have hbind2 : Calls Try.prog 9 #[.agg #[.int .i64 awS1.ver, .int .i64 awS1.last, .slice ua 1 uc], .slice (some ⟨M2, 0, none⟩) 2 2] V6 _ := bind_any (w := V6) (s := awS1) (tv := .slice ua 1 uc) (L := [aw2S, aw3S]) (HTV2.out.on tbE_held (bgo HB4.out (bgo bV5 bV6))) HI.out (stmt_two (x := aw2S) (y := aw3S) (dc := 0) (dd := 0) (da := none) (db := none) (va := none) (vc := 0) (vb := some ⟨F2, 0, none⟩) (vd := 2) jM2 rfl (vals_nil V6) hvt) (by
    intro x hx
    have : x = aw2S ∨ x = aw3S := by simpa using hx
    rcases this with rfl | rfl <;> decide) (by simp)
  rw [awE2] at hbind2
  have t0' : w4.cell? ⟨T1, 0, none⟩ = some (.int .i64 awS1.ver) := cell_blk jT4 0
  have t1' : w4.cell? ⟨T1, 1, none⟩ = some (.int .i64 awS1.last) := cell_blk jT4 1
  have t2' : w4.cell? ⟨T1, 2, none⟩ = some (.slice ua 1 uc) := cell_blk jT4 2
  have q0' : w4.cell? ⟨P4, 0, none⟩ = some (.int .i64 2) := cell_blk j44 0
  have q1' : w4.cell? ⟨P4, 1, none⟩ = some (.int .i64 0) := cell_blk j44 1
  have q2' : w4.cell? ⟨P4, 2, none⟩ = some (.string ⟨#[120]⟩) := cell_blk j44 2
  have HV5 := Lib.hid hV5
  have HF2 := Lib.hid hF2
  have HV6 := Lib.hid hV6
  have HM2 : Hid (F2 + 1 = M2) := Lib.hid (by rw [← hM2, hV5, World.size_alloc, hF2])
  have HB56 := Lib.hid (bgo bV5 bV6)
  have J34 := Lib.hid j34
  have J44 := Lib.hid j44
  clear hbind t0 t1 t2 p0 p1 p2 q0 q1 q2 hBO b4 hl1 har jT4 j34 j44 hV5 hF2 bV5 jF2 hV6 hM2 bV6 jM2 hvt
  go_upto_region 4 with fail
  go_wp2_with (rw [← HV5.out, HF2.out, ← HV6.out, HM2.out]; go_at_call 9; refine hbind2.mono ?_; rintro e w7 ⟨av2, rfl, _, b7⟩; refine Hid.out ?_)
  refine Lib.hid ?_
  have B47 := bgo HB56.out b7
  have HB7 := Lib.hid (bgo (bgo HBV2.out HB4.out) B47)
  have a0 : w7.cell? ⟨ab, ao, none⟩ = some (.int .i64 2) := cell_on B47 (by have := HAR.out 0 _ rfl; simp only [Nat.zero_mul, Nat.add_zero] at this; exact this)
  have a1 : w7.cell? ⟨ab, ao + 1, none⟩ = some (.int .i64 1) := cell_on B47 (by have := HAR.out 1 _ rfl; simp only [Nat.zero_mul, Nat.add_zero] at this; exact this)
  have a3 : w7.cell? ⟨ab, ao + 3, none⟩ = some (.int .i64 3) := cell_on B47 (by have := HAR.out 3 _ rfl; simp only [Nat.zero_mul, Nat.add_zero] at this; exact this)
  have a4 : w7.cell? ⟨ab, ao + 4, none⟩ = some (.int .i64 2) := cell_on B47 (by have := HAR.out 4 _ rfl; simp only [Nat.zero_mul, Nat.add_zero] at this; exact this)
  have a5 : w7.cell? ⟨ab, ao + 5, none⟩ = some (.int .i64 0) := cell_on B47 (by have := HAR.out 5 _ rfl; simp only [Nat.zero_mul, Nat.add_zero] at this; exact this)
  have a6 : w7.cell? ⟨ab, ao + 6, none⟩ = some (.string ⟨#[120]⟩) := cell_on B47 (by have := HAR.out 6 _ rfl; simp only [Nat.zero_mul, Nat.add_zero] at this; exact this)
  have a7 : w7.cell? ⟨ab, ao + 7, none⟩ = some (.int .i64 2) := cell_on B47 (by have := HAR.out 7 _ rfl; simp only [Nat.zero_mul, Nat.add_zero] at this; exact this)
  have a8 : w7.cell? ⟨ab, ao + 8, none⟩ = some (.int .i64 1) := cell_on B47 (by have := HAR.out 8 _ rfl; simp only [Nat.zero_mul, Nat.add_zero] at this; exact this)
  have a9 : w7.cell? ⟨ab, ao + 9, none⟩ = some (.int .i64 5) := cell_on B47 (by have := HAR.out 9 _ rfl; simp only [Nat.zero_mul, Nat.add_zero] at this; exact this)
  have a10 : w7.cell? ⟨ab, ao + 10, none⟩ = some (.string ⟨#[]⟩) := cell_on B47 (by have := HAR.out 10 _ rfl; simp only [Nat.zero_mul, Nat.add_zero] at this; exact this)
  have p0 : w7.cell? ⟨P3, 0, none⟩ = some (.int .i64 1) := cell_on B47 (cell_blk J34.out 0)
  have p1 : w7.cell? ⟨P3, 1, none⟩ = some (.int .i64 5) := cell_on B47 (cell_blk J34.out 1)
  have p2 : w7.cell? ⟨P3, 2, none⟩ = some (.string ⟨#[]⟩) := cell_on B47 (cell_blk J34.out 2)
  have q0 : w7.cell? ⟨P4, 0, none⟩ = some (.int .i64 2) := cell_on B47 (cell_blk J44.out 0)
  have q1 : w7.cell? ⟨P4, 1, none⟩ = some (.int .i64 0) := cell_on B47 (cell_blk J44.out 1)
  have q2 : w7.cell? ⟨P4, 2, none⟩ = some (.string ⟨#[120]⟩) := cell_on B47 (cell_blk J44.out 2)
  clear B47 b7 hbind2 t0' t1' t2' q0' q1' q2'
  go_upto_region 5 with fail
  go_quiet (fail)
  go_wp2
  go_ret
  exact ⟨rfl, ⟨HB7.out.os, HB7.out.tape, HB7.out.output, HB7.out.size, HB7.out.block⟩⟩
end
end Go.Proofs.Ytkfnphhoebknnaa
