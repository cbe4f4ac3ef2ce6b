/- The document's Plan. -/
import Derived.Test.YtjhgmncmcklnkaaVRq
import Derived.Test.YtjhgmncmcklnkaaVRg
import Derived.Test.YtjhgmncmcklnkaaVRn
import Derived.Test.YtjhgmncmcklnkaaVMo
import Derived.Test.YtjhgmncmcklnkaaVMl
import Derived.Test.YtjhgmncmcklnkaaVZo
import Derived.Test.YtjhgmncmcklnkaaVZ
namespace Go.Proofs.Ytjhgmncmcklnkaa
open Go.RowKit

section
variable {ρ : Operand → Value} {X : World} {d : Option Tmp} {ty : TypeId} {ps : String} {af : Array Edge} {g : Option (Nat × Bool)} {x : Operand} {B : Nat}
theorem op_j0 (e : ρ x = .pointer (some ⟨B, 0, none⟩)) : (execOp ρ ⟨d, .fieldAddr 85 x 0, ty, ps, af, g⟩).run Try.prog X = .ok (.value (.pointer (some ⟨B, 0, none⟩))) X := by
  simp only [execOp, e]
  go_simp
theorem op_j1 (e : ρ x = .pointer (some ⟨B, 0, none⟩)) : (execOp ρ ⟨d, .fieldAddr 85 x 1, ty, ps, af, g⟩).run Try.prog X = .ok (.value (.pointer (some ⟨B, 1, none⟩))) X := by
  simp only [execOp, e]
  go_simp
theorem op_j2 (e : ρ x = .pointer (some ⟨B, 0, none⟩)) : (execOp ρ ⟨d, .fieldAddr 85 x 2, ty, ps, af, g⟩).run Try.prog X = .ok (.value (.pointer (some ⟨B, 2, none⟩))) X := by
  simp only [execOp, e]
  go_simp
theorem op_j3 (e : ρ x = .pointer (some ⟨B, 0, none⟩)) : (execOp ρ ⟨d, .fieldAddr 85 x 3, ty, ps, af, g⟩).run Try.prog X = .ok (.value (.pointer (some ⟨B, 5, none⟩))) X := by
  simp only [execOp, e]
  go_simp
theorem op_j4 (e : ρ x = .pointer (some ⟨B, 0, none⟩)) : (execOp ρ ⟨d, .fieldAddr 85 x 4, ty, ps, af, g⟩).run Try.prog X = .ok (.value (.pointer (some ⟨B, 16, none⟩))) X := by
  simp only [execOp, e]
  go_simp
theorem op_j5 (e : ρ x = .pointer (some ⟨B, 0, none⟩)) : (execOp ρ ⟨d, .fieldAddr 85 x 5, ty, ps, af, g⟩).run Try.prog X = .ok (.value (.pointer (some ⟨B, 17, none⟩))) X := by
  simp only [execOp, e]
  go_simp
theorem op_j6 (e : ρ x = .pointer (some ⟨B, 0, none⟩)) : (execOp ρ ⟨d, .fieldAddr 85 x 6, ty, ps, af, g⟩).run Try.prog X = .ok (.value (.pointer (some ⟨B, 18, none⟩))) X := by
  simp only [execOp, e]
  go_simp
theorem op_j7 (e : ρ x = .pointer (some ⟨B, 0, none⟩)) : (execOp ρ ⟨d, .fieldAddr 85 x 7, ty, ps, af, g⟩).run Try.prog X = .ok (.value (.pointer (some ⟨B, 19, none⟩))) X := by
  simp only [execOp, e]
  go_simp
theorem op_j8 (e : ρ x = .pointer (some ⟨B, 0, none⟩)) : (execOp ρ ⟨d, .fieldAddr 85 x 8, ty, ps, af, g⟩).run Try.prog X = .ok (.value (.pointer (some ⟨B, 20, none⟩))) X := by
  simp only [execOp, e]
  go_simp
theorem op_j9 (e : ρ x = .pointer (some ⟨B, 0, none⟩)) : (execOp ρ ⟨d, .fieldAddr 85 x 9, ty, ps, af, g⟩).run Try.prog X = .ok (.value (.pointer (some ⟨B, 21, none⟩))) X := by
  simp only [execOp, e]
  go_simp
set_option maxHeartbeats 2000000 in
theorem op_load45j {m0 m6 m7 m8 : Int} {m1 m2 m3 m4 m9 : ByteArray} {m5 : Bool} {ma : Option Addr} {mn mc : Nat} (e : ρ x = .pointer (some ⟨B, 5, none⟩)) (y0 : X.cell? ⟨B, 5, none⟩ = some (.int .i64 m0)) (y1 : X.cell? ⟨B, 6, none⟩ = some (.string m1)) (y2 : X.cell? ⟨B, 7, none⟩ = some (.string m2)) (y3 : X.cell? ⟨B, 8, none⟩ = some (.string m3)) (y4 : X.cell? ⟨B, 9, none⟩ = some (.string m4)) (y5 : X.cell? ⟨B, 10, none⟩ = some (.bool m5)) (y6 : X.cell? ⟨B, 11, none⟩ = some (.int .i64 m6)) (y7 : X.cell? ⟨B, 12, none⟩ = some (.int .i64 m7)) (y8 : X.cell? ⟨B, 13, none⟩ = some (.int .i64 m8)) (y9 : X.cell? ⟨B, 14, none⟩ = some (.string m9)) (y10 : X.cell? ⟨B, 15, none⟩ = some (.slice ma mn mc)) : (execOp ρ ⟨d, .load 45 x, ty, ps, af, g⟩).run Try.prog X = .ok (.value (.agg #[.int .i64 m0, .string m1, .string m2, .string m3, .string m4, .bool m5, .int .i64 m6, .int .i64 m7, .int .i64 m8, .string m9, .slice ma mn mc])) X := by
  simp only [execOp, e]
  go_simp
theorem call29 {v : Value} : Sem.run Try.prog (callFunc 29 #[v]) X = .ok (.enter 29 #[v]) X := by go_simp
end
set_option maxHeartbeats 8000000 in
set_option maxRecDepth 100000 in
theorem plan_ref (w : World) {x : List At} {vs : List Value} (hx0 : hasS planT x) (hv0 : valsS w NoS x vs) (hl : (encS x).length ≤ 1000000000) : Calls Try.prog 24 #[.agg vs.toArray] w fun e w' => e = .returned (.string (txt (encS x))) ∧ Below w.heap.size w w' := by
  obtain ⟨a0, x0, rfl, k0, hx_0⟩ := hasS_cons hx0
  obtain ⟨n0, rfl, i0⟩ := has_num k0
  obtain ⟨u0, r0, rfl, l0, hv_0⟩ := valsS_cons hv0
  obtain rfl := lies_num l0
  obtain ⟨a1, x1, rfl, k1, hx_1⟩ := hasS_cons hx_0
  obtain ⟨n1, rfl, i1⟩ := has_num k1
  obtain ⟨u1, r1, rfl, l1, hv_1⟩ := valsS_cons hv_0
  obtain rfl := lies_num l1
  obtain ⟨a2, x2, rfl, k2, hx_2⟩ := hasS_cons hx_1
  obtain ⟨n2, rfl, m2, i2⟩ := has_list k2
  obtain ⟨u2, r2, rfl, l2, hv_2⟩ := valsS_cons hv_1
  obtain ⟨ad2, cp2, rfl⟩ := lies_list l2
  obtain ⟨a3, x3, rfl, k3, hx_3⟩ := hasS_cons hx_2
  obtain ⟨n3, rfl, m3, i3⟩ := has_list k3
  obtain ⟨u3, r3, rfl, l3, hv_3⟩ := valsS_cons hv_2
  obtain ⟨ad3, cp3, rfl⟩ := lies_list l3
  obtain ⟨a4, x4, rfl, k4, hx_4⟩ := hasS_cons hx_3
  obtain ⟨n4, rfl, m4, i4⟩ := has_list k4
  obtain ⟨u4, r4, rfl, l4, hv_4⟩ := valsS_cons hv_3
  obtain ⟨ad4, cp4, rfl⟩ := lies_list l4
  obtain rfl := hasS_end hx_4
  obtain rfl := valsS_end hv_4
  have es : encS [.num n0, .num n1, .list n2, .list n3, .list n4] = encS [.num n0, .num n1, .list n2] ++ num (n3.length : Int) ++ encL n3 ++ num (n4.length : Int) ++ encL n4 := by
    simp [encS, At.enc]
  rw [es] at hl ⊢
  simp only [List.length_append] at hl
  have hlen3 : n3.length ≤ 1000000000 := by
    have := encL_len (t := leaseT) (by simp) i3
    omega
  have hlen4 : n4.length ≤ 1000000000 := by
    have := encL_len (t := jobT) (by simp) i4
    omega
  obtain ⟨W, hW⟩ : ∃ W, W = w.alloc (.cells #[.int .i64 n0, .int .i64 n1, .slice ad2 n2.length cp2, .slice ad3 n3.length cp3, .slice ad4 n4.length cp4] 79) := ⟨_, rfl⟩
  have hbW : Below w.heap.size w W := by rw [hW]; exact (Below.refl _ _).alloc (Nat.le_refl _) _
  obtain ⟨Q0, hQ0⟩ : ∃ Q0, w.heap.size = Q0 := ⟨_, rfl⟩
  have hbk : W.heap[Q0]? = some (.cells #[.int .i64 n0, .int .i64 n1, .slice ad2 n2.length cp2, .slice ad3 n3.length cp3, .slice ad4 n4.length cp4] 79 (0, 0)) := by rw [hW, ← hQ0]; exact heap_alloc_new w _
  have c0 : W.cell? ⟨Q0, 0, none⟩ = some (.int .i64 n0) := cell_blk hbk 0
  have c1 : W.cell? ⟨Q0, 1, none⟩ = some (.int .i64 n1) := cell_blk hbk 1
  have c2 : W.cell? ⟨Q0, 2, none⟩ = some (.slice ad2 n2.length cp2) := cell_blk hbk 2
  have c3 : W.cell? ⟨Q0, 3, none⟩ = some (.slice ad3 n3.length cp3) := cell_blk hbk 3
  have c4 : W.cell? ⟨Q0, 4, none⟩ = some (.slice ad4 n4.length cp4) := cell_blk hbk 4
  have hI3 : I64 (n3.length : Int) := by unfold I64; omega
  have hI4 : I64 (n4.length : Int) := by unfold I64; omega
  have HI3 := Lib.hid hI3
  have HI4 := Lib.hid hI4
  have hsc : ∀ X qq, qq = #[.int .i64 n0, .int .i64 n1, .slice ad2 n2.length cp2] → Below W.heap.size W X → Calls Try.prog 51 #[.agg qq] X fun e X' => e = .returned (.string (txt (encS [.num n0, .num n1, .list n2]))) ∧ Below X.heap.size X X' := fun X qq zq hX => by rw [zq]; exact schema_ref X (x := [.num n0, .num n1, .list n2]) (vs := [.int .i64 n0, .int .i64 n1, .slice ad2 n2.length cp2]) (by simp only [hasS]; exact ⟨k0, k1, k2, trivial⟩) (by simp only [valsS]; exact ⟨(lies_on (lies_on l0 hbW) hX), (lies_on (lies_on l1 hbW) hX), (lies_on (lies_on l2 hbW) hX), trivial⟩) (by omega)
  have hsum1 : ¬ 9223372036854775807 < (txt (encS [.num n0, .num n1, .list n2])).size + (txt (num (n3.length : Int))).size := by
    simp only [txt_size]
    omega
  have HL3 := Lib.hid (lies_on l3 hbW)
  have HL4 := Lib.hid (lies_on l4 hbW)
  have HT3 := Lib.hid i3
  have HT4 := Lib.hid i4
  have HLL := Lib.hid hl
  have HKW : Hid (∀ X, Below W.heap.size W X → X.cell? ⟨Q0, 0, none⟩ = some (.int .i64 n0) ∧ X.cell? ⟨Q0, 1, none⟩ = some (.int .i64 n1) ∧ X.cell? ⟨Q0, 2, none⟩ = some (.slice ad2 n2.length cp2) ∧ X.cell? ⟨Q0, 3, none⟩ = some (.slice ad3 n3.length cp3) ∧ Hid (Below W.heap.size W X)) := fun X q => ⟨cell_on q c0, cell_on q c1, cell_on q c2, cell_on q c3, Lib.hid q⟩
  have HW := Lib.hid hW
  have HBW := Lib.hid hbW
  have HQ0 := Lib.hid hQ0
  clear hW hbW hQ0 hbk es hl hI3 hI4 k0 hx_0 hv_0 l0 i0 k1 hx_1 hv_1 l1 i1 k2 hx_2 hv_2 l2 i2 m2 k3 hx_3 hv_3 l3 i3 m3 k4 hx_4 hv_4 l4 i4 m4 hx0 hv0
  go_enter Try.func24, Try.ntmps24
  go_upto_region 1 with fail
  rw [← HW.out, HQ0.out]
  go_cut [3] (fun ov wr => ov = .string (txt (encS [.num n0, .num n1, .list n2]) ++ txt (num (n3.length : Int))) ∧ Below W.heap.size W wr)
  case first =>
    go_region_held3 (fun X => X.cell? ⟨Q0, 0, none⟩ = some (.int .i64 n0) ∧ X.cell? ⟨Q0, 1, none⟩ = some (.int .i64 n1) ∧ X.cell? ⟨Q0, 2, none⟩ = some (.slice ad2 n2.length cp2) ∧ X.cell? ⟨Q0, 3, none⟩ = some (.slice ad3 n3.length cp3) ∧ Hid (Below W.heap.size W X)) (exact HKW.out _ (by repeat (first | exact Below.refl _ _ | exact hx.out | apply bel_drew1 | apply bel_alloc))) (first
      | (go_at_call 51; refine Calls.mono (hsc _ _ ?_ ?_) ?_; (focus (exact rfl)); (focus ((repeat (first | exact Below.refl _ _ | exact hx.out | apply bel_drew1 | apply bel_alloc)); done)); rintro ee X ⟨rfl, hy⟩; have hx : Hid (Below W.heap.size W X) := bel_trans (by repeat (first | exact Below.refl _ _ | exact hx.out | apply bel_drew1 | apply bel_alloc)) hy)
      | (go_at_call 38; refine (num_ref _ _ HI3.out).mono ?_; rintro ee X ⟨rfl, hy⟩; have hx : Hid (Below W.heap.size W X) := bel_trans (by repeat (first | exact Below.refl _ _ | exact hx.out | apply bel_drew1 | apply bel_alloc)) hy))
    all_goals
      go_wp2_with fail
      go_meet
      exact ⟨rfl, hx.out⟩
  case rest =>
    obtain ⟨rfl, hbc⟩ := hcut
    obtain ⟨st0, hst0⟩ : ∃ q, q = txt (encS [.num n0, .num n1, .list n2]) ++ txt (num (n3.length : Int)) := ⟨_, rfl⟩
    obtain ⟨P0, hP0⟩ : ∃ P0, P0 = encS [.num n0, .num n1, .list n2] ++ num (n3.length : Int) := ⟨_, rfl⟩
    have HS0 : Hid (st0 = txt (P0 ++ encL (n3.take 0))) := by
      show _ = _
      rw [hst0, txt_append, hP0]
      simp [encL]
    have hP0l : P0.length + (encL n3).length + (num (n4.length : Int)).length + (encL n4).length ≤ 1000000000 := by
      have := HLL.out
      rw [hP0, List.length_append]
      omega
    have HP0 := Lib.hid hP0
    have HP0L := Lib.hid hP0l
    rw [← hst0]
    obtain ⟨W1, rfl⟩ : ∃ W1, W1 = wc := ⟨_, rfl⟩
    clear hst0 hsum1 HKW hsc hP0 hP0l
    go_wp2
    go_loopw [3, 4] (fun ov iv wr => ∃ (i : Nat) (str : ByteArray), i ≤ n3.length ∧ iv = .int .i64 i ∧ ov = .string str ∧ Hid (str = txt (P0 ++ encL (n3.take i))) ∧ Below W.heap.size W wr) (fun _ iv _ => n3.length - (intOf iv).toNat)
    case atStart => exact ⟨0, st0, Nat.zero_le _, rfl, rfl, HS0, hbc⟩
    case round =>
      obtain ⟨i, str, hik, rfl, rfl, HS, hb⟩ := hrel
      clear HS0 hbc
      obtain ⟨wo, rfl⟩ : ∃ wo, wo = wr := ⟨_, rfl⟩
      have c3o := cell_on hb c3
      have c4o := cell_on hb c4
      by_cases hlt : i < n3.length
      · have hltI : (i : Int) < (n3.length : Int) := by omega
        have hLI := HL3.out
        simp only [At.lies] at hLI
        obtain ⟨adz, cpz, ez, _, _, hmz⟩ := hLI
        cases ez
        obtain ⟨b, p, rfl, hbl, _, hL⟩ : ∃ b p, ad3 = some ⟨b, p, none⟩ ∧ b < W.heap.size ∧ ¬ NoS b ∧ liesL W NoS b p n3 := by
          rcases hmz with e | q
          · rw [e] at hlt; simp at hlt
          · exact q
        have hx := hasL_all HT3.out n3[i] (List.getElem_mem hlt)
        have hat := liesL_at n3 p (m := 3) (fun y hy => hasS_len (hasL_all HT3.out y hy)) hL i hlt
        have hsl := encL_item_le n3 i hlt
        have hstep := encL_take n3 i hlt
        have htl := encL_take_le n3 i
        generalize n3[i] = y at hx hat hsl hstep
        obtain ⟨at0, xt0, rfl, kt0, hx_t0⟩ := hasS_cons hx
        obtain ⟨nt0, rfl, it0⟩ := has_num kt0
        obtain ⟨ut0, ft0, lt0, hv_t0⟩ := liesS_cons hat
        obtain rfl := lies_num lt0
        obtain ⟨at1, xt1, rfl, kt1, hx_t1⟩ := hasS_cons hx_t0
        obtain ⟨nt1, rfl, it1⟩ := has_num kt1
        obtain ⟨ut1, ft1, lt1, hv_t1⟩ := liesS_cons hv_t0
        obtain rfl := lies_num lt1
        obtain ⟨at2, xt2, rfl, kt2, hx_t2⟩ := hasS_cons hx_t1
        obtain ⟨nt2, rfl, it2⟩ := has_num kt2
        obtain ⟨ut2, ft2, lt2, hv_t2⟩ := liesS_cons hv_t1
        obtain rfl := lies_num lt2
        obtain rfl := hasS_end hx_t2
        have e0 : wo.cell? ⟨b, p + i * 3, none⟩ = some (.int .i64 nt0) := by
          have := cell_on hb ft0
          simpa only [Nat.add_assoc, Nat.reduceAdd] using this
        have e1 : wo.cell? ⟨b, p + i * 3 + 1, none⟩ = some (.int .i64 nt1) := by
          have := cell_on hb ft1
          simpa only [Nat.add_assoc, Nat.reduceAdd] using this
        have e2 : wo.cell? ⟨b, p + i * 3 + 2, none⟩ = some (.int .i64 nt2) := by
          have := cell_on hb ft2
          simpa only [Nat.add_assoc, Nat.reduceAdd] using this
        have es : encS [.num nt0, .num nt1, .num nt2] = numsL [nt0, nt1, nt2] := by
          simp [encS, At.enc, numsL]
        rw [es] at hsl hstep
        have hll := HP0L.out
        have hstz : str.size ≤ 1000000000 := by rw [HS.out, txt_size, List.length_append]; omega
        have hsum1 : ¬ 9223372036854775807 < str.size + (txt (numsL [nt0, nt1, nt2])).size := by
          simp only [txt_size]
          omega
        have MK1 : Hid (Mk #[.int .i64 nt0, .int .i64 nt1, .int .i64 nt2] 3 [nt0, nt1, nt2]) := by
          refine ⟨fun i h => ?_, rfl, by omega, ?_⟩
          · have : i = 0 ∨ i = 1 ∨ i = 2 := by simp at h; omega
            rcases this with rfl | rfl | rfl <;> rfl
          · intro n hn
            simp at hn
            rcases hn with rfl | rfl | rfl
            · exact it0
            · exact it1
            · exact it2
        have HKwo : Hid (∀ X, Below wo.heap.size wo X → X.cell? ⟨b, p + i * 3, none⟩ = some (.int .i64 nt0) ∧ X.cell? ⟨b, p + i * 3 + 1, none⟩ = some (.int .i64 nt1) ∧ X.cell? ⟨b, p + i * 3 + 2, none⟩ = some (.int .i64 nt2) ∧ X.cell? ⟨Q0, 3, none⟩ = some (.slice (some ⟨b, p, none⟩) n3.length cp3) ∧ Hid (Below wo.heap.size wo X)) := fun X q => ⟨cell_on q e0, cell_on q e1, cell_on q e2, cell_on q c3o, Lib.hid q⟩
        have HST := Lib.hid hstep
        have HB := Lib.hid hb
        clear hstep hb hL es hsl htl hll hx hat hmz kt0 hx_t0 hv_t0 lt0 ft0 it0 kt1 hx_t1 hv_t1 lt1 ft1 it1 kt2 hx_t2 hv_t2 lt2 ft2 it2
        go_wp2
        go_region_held3 (fun X => X.cell? ⟨b, p + i * 3, none⟩ = some (.int .i64 nt0) ∧ X.cell? ⟨b, p + i * 3 + 1, none⟩ = some (.int .i64 nt1) ∧ X.cell? ⟨b, p + i * 3 + 2, none⟩ = some (.int .i64 nt2) ∧ X.cell? ⟨Q0, 3, none⟩ = some (.slice (some ⟨b, p, none⟩) n3.length cp3) ∧ Hid (Below wo.heap.size wo X)) (exact HKwo.out _ (by repeat (first | exact Below.refl _ _ | exact hx.out | apply bel_drew1 | apply bel_alloc))) (first
            | (go_at_call 28; refine Calls.mono (nums_gen (ns := [nt0, nt1, nt2]) _ ?_) ?_; (focus ((repeat (first | ((with_reducible refine IntsK.new MK1.out ?_) <;> simp) | (with_reducible apply IntsK.drew) | (with_reducible apply IntsK.alloc) | (with_reducible refine IntsK.onN (by assumption) (by simp) ?_))); done)); rintro ee X ⟨rfl, hy⟩; have hx : Hid (Below wo.heap.size wo X) := bel_trans (by repeat (first | exact Below.refl _ _ | exact hx.out | apply bel_drew1 | apply bel_alloc)) hy))
        all_goals
          go_wp2
          go_roundw
          case rel =>
            refine ⟨i + 1, _, by omega, by go_num, rfl, ?_, bel_trans HB.out hx.out⟩
            show _ = _
            rw [HST.out, HS.out]
            simp only [txt_append, List.append_assoc]
          case measure => simp [intOf]; omega
      · have hiF : i = n3.length := by omega
        subst hiF
        obtain ⟨P2, hP2⟩ : ∃ P2, P2 = P0 ++ encL n3 ++ num (n4.length : Int) := ⟨_, rfl⟩
        have hn4 := num_ref (n4.length : Int) wo HI4.out
        have hpl := HP0L.out
        have hstz2 : str.size ≤ 1000000000 := by rw [HS.out, txt_size, List.length_append, List.take_length]; omega
        have hsq : ¬ 9223372036854775807 < str.size + (txt (num (n4.length : Int))).size := by
          simp only [txt_size]
          omega
        obtain ⟨st2, hst2⟩ : ∃ q, q = str ++ txt (num (n4.length : Int)) := ⟨_, rfl⟩
        have HS3 : Hid (st2 = txt (P2 ++ encL (n4.take 0))) := by
          show _ = _
          rw [hst2, HS.out, hP2, List.take_length]
          simp only [txt_append, List.append_assoc, List.take_zero, encL, List.append_nil]
        have hP2l : P2.length + (encL n4).length ≤ 1000000000 := by
          rw [hP2]
          simp only [List.length_append]
          omega
        have HP2 := Lib.hid hP2
        have HP2L := Lib.hid hP2l
        have HB2 := Lib.hid hb
        have HH2 := Lib.hid hst2
        clear hb hP2 hst2 hpl hP2l
        go_wp2_with (go_at_call 38; refine hn4.mono ?_; rintro e w4 ⟨rfl, hb4⟩; refine Hid.out ?_)
        refine Lib.hid ?_
        have hb5 := bel_trans HB2.out hb4
        clear hn4 hb4 c3o c4o
        go_wp2
        rw [← HH2.out]
        clear HH2 hsq
        go_loopw [3, 5] (fun ov iv wr => ∃ (k : Nat) (PP : List UInt8), k ≤ n4.length ∧ iv = .int .i64 k ∧ ov = .string (txt PP) ∧ Hid (PP = P2 ++ encL (n4.take k)) ∧ Below W.heap.size W wr) (fun _ iv _ => n4.length - (intOf iv).toNat)
        case atStart => exact ⟨0, P2 ++ encL (n4.take 0), Nat.zero_le _, rfl, by rw [HS3.out], rfl, hb5⟩
        case round =>
          obtain ⟨k, PP, hkk, rfl, rfl, HS2, hb2⟩ := hrel
          clear HS3 hb5
          obtain ⟨wi, rfl⟩ : ∃ wi, wi = wr := ⟨_, rfl⟩
          have d4 := cell_on hb2 c4
          by_cases hlk : k < n4.length
          · have hlkI : (k : Int) < (n4.length : Int) := by omega
            have hLI := HL4.out
            simp only [At.lies] at hLI
            obtain ⟨adz, cpz, ez, _, _, hmz⟩ := hLI
            cases ez
            obtain ⟨bI, pI, rfl, hblI, _, hLL⟩ : ∃ bI pI, ad4 = some ⟨bI, pI, none⟩ ∧ bI < W.heap.size ∧ ¬ NoS bI ∧ liesL W NoS bI pI n4 := by
              rcases hmz with e | q
              · rw [e] at hlk; simp at hlk
              · exact q
            have hxI := hasL_all HT4.out n4[k] (List.getElem_mem hlk)
            have hatI := liesL_at n4 pI (m := 22) (fun y hy => hasS_len (hasL_all HT4.out y hy)) hLL k hlk
            have hslI := encL_item_le n4 k hlk
            have hstepI := encL_take n4 k hlk
            have htlI := encL_take_le n4 k
            generalize n4[k] = yI at hxI hatI hslI hstepI
            obtain ⟨aq0, xq0, rfl, kq0, hx_q0⟩ := hasS_cons hxI
            obtain ⟨nq0, rfl, iq0⟩ := has_num kq0
            obtain ⟨uq0, fq0, lq0, hv_q0⟩ := liesS_cons hatI
            obtain rfl := lies_num lq0
            obtain ⟨aq1, xq1, rfl, kq1, hx_q1⟩ := hasS_cons hx_q0
            obtain ⟨nq1, rfl, iq1⟩ := has_num kq1
            obtain ⟨uq1, fq1, lq1, hv_q1⟩ := liesS_cons hv_q0
            obtain rfl := lies_num lq1
            obtain ⟨aq2, xq2, rfl, kq2, hx_q2⟩ := hasS_cons hx_q1
            obtain ⟨nq2, rfl, iq2⟩ := has_num kq2
            obtain ⟨uq2, fq2, lq2, hv_q2⟩ := liesS_cons hv_q1
            obtain rfl := lies_num lq2
            obtain ⟨aq3, xq3, rfl, kq3, hx_q3⟩ := hasS_cons hx_q2
            obtain ⟨nq3, rfl, iq3⟩ := has_num kq3
            obtain ⟨uq3, fq3, lq3, hv_q3⟩ := liesS_cons hv_q2
            obtain rfl := lies_num lq3
            obtain ⟨aq4, xq4, rfl, kq4, hx_q4⟩ := hasS_cons hx_q3
            obtain ⟨nq4, rfl, iq4⟩ := has_num kq4
            obtain ⟨uq4, fq4, lq4, hv_q4⟩ := liesS_cons hv_q3
            obtain rfl := lies_num lq4
            obtain ⟨aq5, xq5, rfl, kq5, hx_q5⟩ := hasS_cons hx_q4
            obtain ⟨nq5, rfl, iq5⟩ := has_num kq5
            obtain ⟨uq5, fq5, lq5, hv_q5⟩ := liesS_cons hv_q4
            obtain rfl := lies_num lq5
            obtain ⟨aq6, xq6, rfl, kq6, hx_q6⟩ := hasS_cons hx_q5
            obtain ⟨nq6, rfl, iq6⟩ := has_text kq6
            obtain ⟨uq6, fq6, lq6, hv_q6⟩ := liesS_cons hv_q5
            obtain rfl := lies_text lq6
            obtain ⟨aq7, xq7, rfl, kq7, hx_q7⟩ := hasS_cons hx_q6
            obtain ⟨nq7, rfl, iq7⟩ := has_text kq7
            obtain ⟨uq7, fq7, lq7, hv_q7⟩ := liesS_cons hv_q6
            obtain rfl := lies_text lq7
            obtain ⟨aq8, xq8, rfl, kq8, hx_q8⟩ := hasS_cons hx_q7
            obtain ⟨nq8, rfl, iq8⟩ := has_text kq8
            obtain ⟨uq8, fq8, lq8, hv_q8⟩ := liesS_cons hv_q7
            obtain rfl := lies_text lq8
            obtain ⟨aq9, xq9, rfl, kq9, hx_q9⟩ := hasS_cons hx_q8
            obtain ⟨nq9, rfl, iq9⟩ := has_text kq9
            obtain ⟨uq9, fq9, lq9, hv_q9⟩ := liesS_cons hv_q8
            obtain rfl := lies_text lq9
            obtain ⟨aq10, xq10, rfl, kq10, hx_q10⟩ := hasS_cons hx_q9
            obtain ⟨nq10, rfl⟩ := has_yes kq10
            obtain ⟨uq10, fq10, lq10, hv_q10⟩ := liesS_cons hv_q9
            obtain rfl := lies_yes lq10
            obtain ⟨aq11, xq11, rfl, kq11, hx_q11⟩ := hasS_cons hx_q10
            obtain ⟨nq11, rfl, iq11⟩ := has_num kq11
            obtain ⟨uq11, fq11, lq11, hv_q11⟩ := liesS_cons hv_q10
            obtain rfl := lies_num lq11
            obtain ⟨aq12, xq12, rfl, kq12, hx_q12⟩ := hasS_cons hx_q11
            obtain ⟨nq12, rfl, iq12⟩ := has_num kq12
            obtain ⟨uq12, fq12, lq12, hv_q12⟩ := liesS_cons hv_q11
            obtain rfl := lies_num lq12
            obtain ⟨aq13, xq13, rfl, kq13, hx_q13⟩ := hasS_cons hx_q12
            obtain ⟨nq13, rfl, iq13⟩ := has_num kq13
            obtain ⟨uq13, fq13, lq13, hv_q13⟩ := liesS_cons hv_q12
            obtain rfl := lies_num lq13
            obtain ⟨aq14, xq14, rfl, kq14, hx_q14⟩ := hasS_cons hx_q13
            obtain ⟨nq14, rfl, iq14⟩ := has_text kq14
            obtain ⟨uq14, fq14, lq14, hv_q14⟩ := liesS_cons hv_q13
            obtain rfl := lies_text lq14
            obtain ⟨aq15, xq15, rfl, kq15, hx_q15⟩ := hasS_cons hx_q14
            obtain ⟨nq15, rfl, mq15, iq15⟩ := has_list kq15
            obtain ⟨uq15, fq15, lq15, hv_q15⟩ := liesS_cons hv_q14
            obtain ⟨adq15, cpq15, rfl⟩ := lies_list lq15
            obtain ⟨aq16, xq16, rfl, kq16, hx_q16⟩ := hasS_cons hx_q15
            obtain ⟨nq16, rfl, iq16⟩ := has_num kq16
            obtain ⟨uq16, fq16, lq16, hv_q16⟩ := liesS_cons hv_q15
            obtain rfl := lies_num lq16
            obtain ⟨aq17, xq17, rfl, kq17, hx_q17⟩ := hasS_cons hx_q16
            obtain ⟨nq17, rfl⟩ := has_yes kq17
            obtain ⟨uq17, fq17, lq17, hv_q17⟩ := liesS_cons hv_q16
            obtain rfl := lies_yes lq17
            obtain ⟨aq18, xq18, rfl, kq18, hx_q18⟩ := hasS_cons hx_q17
            obtain ⟨nq18, rfl⟩ := has_yes kq18
            obtain ⟨uq18, fq18, lq18, hv_q18⟩ := liesS_cons hv_q17
            obtain rfl := lies_yes lq18
            obtain ⟨aq19, xq19, rfl, kq19, hx_q19⟩ := hasS_cons hx_q18
            obtain ⟨nq19, rfl, iq19⟩ := has_text kq19
            obtain ⟨uq19, fq19, lq19, hv_q19⟩ := liesS_cons hv_q18
            obtain rfl := lies_text lq19
            obtain ⟨aq20, xq20, rfl, kq20, hx_q20⟩ := hasS_cons hx_q19
            obtain ⟨nq20, rfl, iq20⟩ := has_num kq20
            obtain ⟨uq20, fq20, lq20, hv_q20⟩ := liesS_cons hv_q19
            obtain rfl := lies_num lq20
            obtain ⟨aq21, xq21, rfl, kq21, hx_q21⟩ := hasS_cons hx_q20
            obtain ⟨nq21, rfl, iq21⟩ := has_num kq21
            obtain ⟨uq21, fq21, lq21, hv_q21⟩ := liesS_cons hv_q20
            obtain rfl := lies_num lq21
            obtain rfl := hasS_end hx_q21
            have eI0 : wi.cell? ⟨bI, pI + k * 22, none⟩ = some (.int .i64 nq0) := by
              have := cell_on hb2 fq0
              simpa only [Nat.add_assoc, Nat.reduceAdd] using this
            have eI1 : wi.cell? ⟨bI, pI + k * 22 + 1, none⟩ = some (.int .i64 nq1) := by
              have := cell_on hb2 fq1
              simpa only [Nat.add_assoc, Nat.reduceAdd] using this
            have eI2 : wi.cell? ⟨bI, pI + k * 22 + 2, none⟩ = some (.int .i64 nq2) := by
              have := cell_on hb2 fq2
              simpa only [Nat.add_assoc, Nat.reduceAdd] using this
            have eI3 : wi.cell? ⟨bI, pI + k * 22 + 3, none⟩ = some (.int .i64 nq3) := by
              have := cell_on hb2 fq3
              simpa only [Nat.add_assoc, Nat.reduceAdd] using this
            have eI4 : wi.cell? ⟨bI, pI + k * 22 + 4, none⟩ = some (.int .i64 nq4) := by
              have := cell_on hb2 fq4
              simpa only [Nat.add_assoc, Nat.reduceAdd] using this
            have eI5 : wi.cell? ⟨bI, pI + k * 22 + 5, none⟩ = some (.int .i64 nq5) := by
              have := cell_on hb2 fq5
              simpa only [Nat.add_assoc, Nat.reduceAdd] using this
            have eI6 : wi.cell? ⟨bI, pI + k * 22 + 6, none⟩ = some (.string nq6) := by
              have := cell_on hb2 fq6
              simpa only [Nat.add_assoc, Nat.reduceAdd] using this
            have eI7 : wi.cell? ⟨bI, pI + k * 22 + 7, none⟩ = some (.string nq7) := by
              have := cell_on hb2 fq7
              simpa only [Nat.add_assoc, Nat.reduceAdd] using this
            have eI8 : wi.cell? ⟨bI, pI + k * 22 + 8, none⟩ = some (.string nq8) := by
              have := cell_on hb2 fq8
              simpa only [Nat.add_assoc, Nat.reduceAdd] using this
            have eI9 : wi.cell? ⟨bI, pI + k * 22 + 9, none⟩ = some (.string nq9) := by
              have := cell_on hb2 fq9
              simpa only [Nat.add_assoc, Nat.reduceAdd] using this
            have eI10 : wi.cell? ⟨bI, pI + k * 22 + 10, none⟩ = some (.bool nq10) := by
              have := cell_on hb2 fq10
              simpa only [Nat.add_assoc, Nat.reduceAdd] using this
            have eI11 : wi.cell? ⟨bI, pI + k * 22 + 11, none⟩ = some (.int .i64 nq11) := by
              have := cell_on hb2 fq11
              simpa only [Nat.add_assoc, Nat.reduceAdd] using this
            have eI12 : wi.cell? ⟨bI, pI + k * 22 + 12, none⟩ = some (.int .i64 nq12) := by
              have := cell_on hb2 fq12
              simpa only [Nat.add_assoc, Nat.reduceAdd] using this
            have eI13 : wi.cell? ⟨bI, pI + k * 22 + 13, none⟩ = some (.int .i64 nq13) := by
              have := cell_on hb2 fq13
              simpa only [Nat.add_assoc, Nat.reduceAdd] using this
            have eI14 : wi.cell? ⟨bI, pI + k * 22 + 14, none⟩ = some (.string nq14) := by
              have := cell_on hb2 fq14
              simpa only [Nat.add_assoc, Nat.reduceAdd] using this
            have eI15 : wi.cell? ⟨bI, pI + k * 22 + 15, none⟩ = some (.slice adq15 nq15.length cpq15) := by
              have := cell_on hb2 fq15
              simpa only [Nat.add_assoc, Nat.reduceAdd] using this
            have eI16 : wi.cell? ⟨bI, pI + k * 22 + 16, none⟩ = some (.int .i64 nq16) := by
              have := cell_on hb2 fq16
              simpa only [Nat.add_assoc, Nat.reduceAdd] using this
            have eI17 : wi.cell? ⟨bI, pI + k * 22 + 17, none⟩ = some (.bool nq17) := by
              have := cell_on hb2 fq17
              simpa only [Nat.add_assoc, Nat.reduceAdd] using this
            have eI18 : wi.cell? ⟨bI, pI + k * 22 + 18, none⟩ = some (.bool nq18) := by
              have := cell_on hb2 fq18
              simpa only [Nat.add_assoc, Nat.reduceAdd] using this
            have eI19 : wi.cell? ⟨bI, pI + k * 22 + 19, none⟩ = some (.string nq19) := by
              have := cell_on hb2 fq19
              simpa only [Nat.add_assoc, Nat.reduceAdd] using this
            have eI20 : wi.cell? ⟨bI, pI + k * 22 + 20, none⟩ = some (.int .i64 nq20) := by
              have := cell_on hb2 fq20
              simpa only [Nat.add_assoc, Nat.reduceAdd] using this
            have eI21 : wi.cell? ⟨bI, pI + k * 22 + 21, none⟩ = some (.int .i64 nq21) := by
              have := cell_on hb2 fq21
              simpa only [Nat.add_assoc, Nat.reduceAdd] using this
            have esI : encS [.num nq0, .num nq1, .num nq2, .num nq3, .num nq4, .num nq5, .text nq6, .text nq7, .text nq8, .text nq9, .yes nq10, .num nq11, .num nq12, .num nq13, .text nq14, .list nq15, .num nq16, .yes nq17, .yes nq18, .text nq19, .num nq20, .num nq21] = numsL [nq0, nq1] ++ encS [.num nq2, .num nq3, .num nq4] ++ encS [.num nq5, .text nq6, .text nq7, .text nq8, .text nq9, .yes nq10, .num nq11, .num nq12, .num nq13, .text nq14, .list nq15] ++ num nq16 ++ (At.yes nq17).enc ++ (At.yes nq18).enc ++ (At.text nq19).enc ++ numsL [nq20, nq21] := by
              simp [encS, At.enc, numsL]
            rw [esI] at hslI hstepI
            simp only [List.length_append] at hslI
            have hpl := HP2L.out
            have hPPl : PP.length + (encL n4).length ≤ 2000000000 := by rw [HS2.out, List.length_append]; omega
            obtain ⟨VS, hVS⟩ : ∃ VS : Array Value, VS = #[.int .i64 nq0, .int .i64 nq1, .int .i64 nq2, .int .i64 nq3, .int .i64 nq4, .int .i64 nq5, .string nq6, .string nq7, .string nq8, .string nq9, .bool nq10, .int .i64 nq11, .int .i64 nq12, .int .i64 nq13, .string nq14, .slice adq15 nq15.length cpq15, .int .i64 nq16, .bool nq17, .bool nq18, .string nq19, .int .i64 nq20, .int .i64 nq21] := ⟨_, rfl⟩
            have hvs : VS.size = 22 := by rw [hVS]; rfl
            have sV : (Try.prog.info? 85).map (·.size) = some VS.size := by rw [hvs]; exact size85
            have oV : VS.all (·.oneCell') = true := by rw [hVS, ← Array.all_toList]; rfl
            have ld := load_mid (w := wi) (b := bI) (p := pI + k * 22) (vs := VS) (fun j hj => by
              rw [hvs] at hj
              rw [hVS]
              have : j = 0 ∨ j = 1 ∨ j = 2 ∨ j = 3 ∨ j = 4 ∨ j = 5 ∨ j = 6 ∨ j = 7 ∨ j = 8 ∨ j = 9 ∨ j = 10 ∨ j = 11 ∨ j = 12 ∨ j = 13 ∨ j = 14 ∨ j = 15 ∨ j = 16 ∨ j = 17 ∨ j = 18 ∨ j = 19 ∨ j = 20 ∨ j = 21 := by omega
              rcases this with rfl | rfl | rfl | rfl | rfl | rfl | rfl | rfl | rfl | rfl | rfl | rfl | rfl | rfl | rfl | rfl | rfl | rfl | rfl | rfl | rfl | rfl
              · exact eI0
              · exact eI1
              · exact eI2
              · exact eI3
              · exact eI4
              · exact eI5
              · exact eI6
              · exact eI7
              · exact eI8
              · exact eI9
              · exact eI10
              · exact eI11
              · exact eI12
              · exact eI13
              · exact eI14
              · exact eI15
              · exact eI16
              · exact eI17
              · exact eI18
              · exact eI19
              · exact eI20
              · exact eI21) Try.underlying85 rfl sV
            have st := store_new (cs := #[.int .i64 0, .int .i64 0, .int .i64 0, .int .i64 0, .int .i64 0, .int .i64 0, .string ⟨#[]⟩, .string ⟨#[]⟩, .string ⟨#[]⟩, .string ⟨#[]⟩, .bool false, .int .i64 0, .int .i64 0, .int .i64 0, .string ⟨#[]⟩, .slice none 0 0, .int .i64 0, .bool false, .bool false, .string ⟨#[]⟩, .int .i64 0, .int .i64 0]) wi hvs sV oV
            obtain ⟨V, hV⟩ : ∃ V, V = wi.alloc (.cells VS 85) := ⟨_, rfl⟩
            obtain ⟨Y, hY⟩ : ∃ Y, wi.heap.size = Y := ⟨_, rfl⟩
            have hbV : Below W.heap.size W V := by rw [hV]; exact hb2.alloc hb2.size _
            have jY : V.heap[Y]? = some (.cells #[.int .i64 nq0, .int .i64 nq1, .int .i64 nq2, .int .i64 nq3, .int .i64 nq4, .int .i64 nq5, .string nq6, .string nq7, .string nq8, .string nq9, .bool nq10, .int .i64 nq11, .int .i64 nq12, .int .i64 nq13, .string nq14, .slice adq15 nq15.length cpq15, .int .i64 nq16, .bool nq17, .bool nq18, .string nq19, .int .i64 nq20, .int .i64 nq21] 85 (0, 0)) := by rw [hV, ← hY, ← hVS]; exact heap_alloc_new wi _
            rw [← hV] at st
            have y0 : V.cell? ⟨Y, 0, none⟩ = some (.int .i64 nq0) := cell_blk jY 0
            have y1 : V.cell? ⟨Y, 1, none⟩ = some (.int .i64 nq1) := cell_blk jY 1
            have y2 : V.cell? ⟨Y, 2, none⟩ = some (.int .i64 nq2) := cell_blk jY 2
            have y3 : V.cell? ⟨Y, 3, none⟩ = some (.int .i64 nq3) := cell_blk jY 3
            have y4 : V.cell? ⟨Y, 4, none⟩ = some (.int .i64 nq4) := cell_blk jY 4
            have y5 : V.cell? ⟨Y, 5, none⟩ = some (.int .i64 nq5) := cell_blk jY 5
            have y6 : V.cell? ⟨Y, 6, none⟩ = some (.string nq6) := cell_blk jY 6
            have y7 : V.cell? ⟨Y, 7, none⟩ = some (.string nq7) := cell_blk jY 7
            have y8 : V.cell? ⟨Y, 8, none⟩ = some (.string nq8) := cell_blk jY 8
            have y9 : V.cell? ⟨Y, 9, none⟩ = some (.string nq9) := cell_blk jY 9
            have y10 : V.cell? ⟨Y, 10, none⟩ = some (.bool nq10) := cell_blk jY 10
            have y11 : V.cell? ⟨Y, 11, none⟩ = some (.int .i64 nq11) := cell_blk jY 11
            have y12 : V.cell? ⟨Y, 12, none⟩ = some (.int .i64 nq12) := cell_blk jY 12
            have y13 : V.cell? ⟨Y, 13, none⟩ = some (.int .i64 nq13) := cell_blk jY 13
            have y14 : V.cell? ⟨Y, 14, none⟩ = some (.string nq14) := cell_blk jY 14
            have y15 : V.cell? ⟨Y, 15, none⟩ = some (.slice adq15 nq15.length cpq15) := cell_blk jY 15
            have y16 : V.cell? ⟨Y, 16, none⟩ = some (.int .i64 nq16) := cell_blk jY 16
            have y17 : V.cell? ⟨Y, 17, none⟩ = some (.bool nq17) := cell_blk jY 17
            have y18 : V.cell? ⟨Y, 18, none⟩ = some (.bool nq18) := cell_blk jY 18
            have y19 : V.cell? ⟨Y, 19, none⟩ = some (.string nq19) := cell_blk jY 19
            have y20 : V.cell? ⟨Y, 20, none⟩ = some (.int .i64 nq20) := cell_blk jY 20
            have y21 : V.cell? ⟨Y, 21, none⟩ = some (.int .i64 nq21) := cell_blk jY 21
            have MK2 : Hid (Mk #[.int .i64 nq0, .int .i64 nq1] 2 [nq0, nq1]) := by
              refine ⟨fun i h => ?_, rfl, by omega, ?_⟩
              · have : i = 0 ∨ i = 1 := by simp at h; omega
                rcases this with rfl | rfl <;> rfl
              · intro n hn
                simp at hn
                rcases hn with rfl | rfl
                · exact iq0
                · exact iq1
            have MK3 : Hid (Mk #[.int .i64 nq20, .int .i64 nq21] 2 [nq20, nq21]) := by
              refine ⟨fun i h => ?_, rfl, by omega, ?_⟩
              · have : i = 0 ∨ i = 1 := by simp at h; omega
                rcases this with rfl | rfl <;> rfl
              · intro n hn
                simp at hn
                rcases hn with rfl | rfl
                · exact iq20
                · exact iq21
            have hc2 : ∀ X qq, qq = #[.int .i64 nq2, .int .i64 nq3, .int .i64 nq4] → Below V.heap.size V X → Calls Try.prog 39 #[.agg qq] X fun e X' => e = .returned (.string (txt (encS [.num nq2, .num nq3, .num nq4]))) ∧ Below X.heap.size X X' := fun X qq zq hX => by rw [zq]; exact tid_ref X (x := [.num nq2, .num nq3, .num nq4]) (vs := [.int .i64 nq2, .int .i64 nq3, .int .i64 nq4]) (by simp only [hasS]; exact ⟨kq2, kq3, kq4, trivial⟩) (by simp only [valsS]; exact ⟨(lies_on (lies_on lq2 hbV) hX), (lies_on (lies_on lq3 hbV) hX), (lies_on (lies_on lq4 hbV) hX), trivial⟩) (by omega)
            have hc5 : ∀ X qq, qq = #[.int .i64 nq5, .string nq6, .string nq7, .string nq8, .string nq9, .bool nq10, .int .i64 nq11, .int .i64 nq12, .int .i64 nq13, .string nq14, .slice adq15 nq15.length cpq15] → Below V.heap.size V X → Calls Try.prog 42 #[.agg qq] X fun e X' => e = .returned (.string (txt (encS [.num nq5, .text nq6, .text nq7, .text nq8, .text nq9, .yes nq10, .num nq11, .num nq12, .num nq13, .text nq14, .list nq15]))) ∧ Below X.heap.size X X' := fun X qq zq hX => by rw [zq]; exact ddl_ref X (x := [.num nq5, .text nq6, .text nq7, .text nq8, .text nq9, .yes nq10, .num nq11, .num nq12, .num nq13, .text nq14, .list nq15]) (vs := [.int .i64 nq5, .string nq6, .string nq7, .string nq8, .string nq9, .bool nq10, .int .i64 nq11, .int .i64 nq12, .int .i64 nq13, .string nq14, .slice adq15 nq15.length cpq15]) (by simp only [hasS]; exact ⟨kq5, kq6, kq7, kq8, kq9, kq10, kq11, kq12, kq13, kq14, kq15, trivial⟩) (by simp only [valsS]; exact ⟨(lies_on (lies_on lq5 hbV) hX), (lies_on (lies_on lq6 hbV) hX), (lies_on (lies_on lq7 hbV) hX), (lies_on (lies_on lq8 hbV) hX), (lies_on (lies_on lq9 hbV) hX), (lies_on (lies_on lq10 hbV) hX), (lies_on (lies_on lq11 hbV) hX), (lies_on (lies_on lq12 hbV) hX), (lies_on (lies_on lq13 hbV) hX), (lies_on (lies_on lq14 hbV) hX), (lies_on (lies_on lq15 hbV) hX), trivial⟩) (by omega)
            have s19 : nq19.size ≤ 1000000000 := text_size (by omega)
            have HI16 := Lib.hid iq16
            have HST2 := Lib.hid hstepI
            have HB2 := Lib.hid hbV
            have HY := Lib.hid hY
            clear hstepI hb2 hLL esI htlI hpl hxI hatI hmz hV hY hVS hvs sV oV jY kq0 hx_q0 hv_q0 lq0 fq0 iq0 kq1 hx_q1 hv_q1 lq1 fq1 iq1 kq2 hx_q2 hv_q2 lq2 fq2 iq2 kq3 hx_q3 hv_q3 lq3 fq3 iq3 kq4 hx_q4 hv_q4 lq4 fq4 iq4 kq5 hx_q5 hv_q5 lq5 fq5 iq5 kq6 hx_q6 hv_q6 lq6 fq6 iq6 kq7 hx_q7 hv_q7 lq7 fq7 iq7 kq8 hx_q8 hv_q8 lq8 fq8 iq8 kq9 hx_q9 hv_q9 lq9 fq9 iq9 kq10 hx_q10 hv_q10 lq10 fq10 kq11 hx_q11 hv_q11 lq11 fq11 iq11 kq12 hx_q12 hv_q12 lq12 fq12 iq12 kq13 hx_q13 hv_q13 lq13 fq13 iq13 kq14 hx_q14 hv_q14 lq14 fq14 iq14 kq15 hx_q15 hv_q15 lq15 fq15 iq15 mq15 kq16 hx_q16 hv_q16 lq16 fq16 iq16 kq17 hx_q17 hv_q17 lq17 fq17 kq18 hx_q18 hv_q18 lq18 fq18 kq19 hx_q19 hv_q19 lq19 fq19 iq19 kq20 hx_q20 hv_q20 lq20 fq20 iq20 kq21 hx_q21 hv_q21 lq21 fq21 iq21
            go_upto_region 11 with (first | (refine wpl_load _ rfl (by simp [Act.eval]) ld ?_) | (refine wpl_store _ _ rfl (by simp [Act.eval, Act.put]) (by simp [Act.eval, Act.put]) st ?_))
            rw [HY.out]
            refine wp_region_fin (fun X => Below V.heap.size V X) (fun X X' => Below X.heap.size X X') [
              fun v _ => v = .string (txt (PP)),
              fun v _ => v = .pointer (some ⟨Y, 0, none⟩),
              fun v _ => v = .int .i64 nq0,
              fun v _ => v = .pointer (some ⟨Y, 1, none⟩),
              fun v _ => v = .int .i64 nq1,
              fun v X => ∃ F, v = .slice (some ⟨F, 0, none⟩) 2 2 ∧ IntsK X F 2 [nq0, nq1],
              fun v _ => v = .string (txt (numsL [nq0, nq1])),
              fun v _ => v = .string (txt (PP ++ numsL [nq0, nq1])),
              fun v _ => v = .pointer (some ⟨Y, 2, none⟩),
              fun v _ => v = .agg #[.int .i64 nq2, .int .i64 nq3, .int .i64 nq4],
              fun v _ => v = .string (txt (encS [.num nq2, .num nq3, .num nq4])),
              fun v _ => v = .string (txt (PP ++ numsL [nq0, nq1] ++ encS [.num nq2, .num nq3, .num nq4])),
              fun v _ => v = .pointer (some ⟨Y, 5, none⟩),
              fun v _ => v = .agg #[.int .i64 nq5, .string nq6, .string nq7, .string nq8, .string nq9, .bool nq10, .int .i64 nq11, .int .i64 nq12, .int .i64 nq13, .string nq14, .slice adq15 nq15.length cpq15],
              fun v _ => v = .string (txt (encS [.num nq5, .text nq6, .text nq7, .text nq8, .text nq9, .yes nq10, .num nq11, .num nq12, .num nq13, .text nq14, .list nq15])),
              fun v _ => v = .string (txt (PP ++ numsL [nq0, nq1] ++ encS [.num nq2, .num nq3, .num nq4] ++ encS [.num nq5, .text nq6, .text nq7, .text nq8, .text nq9, .yes nq10, .num nq11, .num nq12, .num nq13, .text nq14, .list nq15])),
              fun v _ => v = .pointer (some ⟨Y, 16, none⟩),
              fun v _ => v = .int .i64 nq16,
              fun v _ => v = .string (txt (num nq16)),
              fun v _ => v = .string (txt (PP ++ numsL [nq0, nq1] ++ encS [.num nq2, .num nq3, .num nq4] ++ encS [.num nq5, .text nq6, .text nq7, .text nq8, .text nq9, .yes nq10, .num nq11, .num nq12, .num nq13, .text nq14, .list nq15] ++ num nq16)),
              fun v _ => v = .pointer (some ⟨Y, 17, none⟩),
              fun v _ => v = .bool nq17,
              fun v _ => v = .string (txt ((At.yes nq17).enc)),
              fun v _ => v = .string (txt (PP ++ numsL [nq0, nq1] ++ encS [.num nq2, .num nq3, .num nq4] ++ encS [.num nq5, .text nq6, .text nq7, .text nq8, .text nq9, .yes nq10, .num nq11, .num nq12, .num nq13, .text nq14, .list nq15] ++ num nq16 ++ (At.yes nq17).enc)),
              fun v _ => v = .pointer (some ⟨Y, 18, none⟩),
              fun v _ => v = .bool nq18,
              fun v _ => v = .string (txt ((At.yes nq18).enc)),
              fun v _ => v = .string (txt (PP ++ numsL [nq0, nq1] ++ encS [.num nq2, .num nq3, .num nq4] ++ encS [.num nq5, .text nq6, .text nq7, .text nq8, .text nq9, .yes nq10, .num nq11, .num nq12, .num nq13, .text nq14, .list nq15] ++ num nq16 ++ (At.yes nq17).enc ++ (At.yes nq18).enc)),
              fun v _ => v = .pointer (some ⟨Y, 19, none⟩),
              fun v _ => v = .string nq19,
              fun v _ => v = .string (txt ((At.text nq19).enc)),
              fun v _ => v = .string (txt (PP ++ numsL [nq0, nq1] ++ encS [.num nq2, .num nq3, .num nq4] ++ encS [.num nq5, .text nq6, .text nq7, .text nq8, .text nq9, .yes nq10, .num nq11, .num nq12, .num nq13, .text nq14, .list nq15] ++ num nq16 ++ (At.yes nq17).enc ++ (At.yes nq18).enc ++ (At.text nq19).enc)),
              fun v _ => v = .pointer (some ⟨Y, 20, none⟩),
              fun v _ => v = .int .i64 nq20,
              fun v _ => v = .pointer (some ⟨Y, 21, none⟩),
              fun v _ => v = .int .i64 nq21,
              fun v X => ∃ F, v = .slice (some ⟨F, 0, none⟩) 2 2 ∧ IntsK X F 2 [nq20, nq21],
              fun v _ => v = .string (txt (numsL [nq20, nq21])),
              fun v _ => v = .string (txt (PP ++ numsL [nq0, nq1] ++ encS [.num nq2, .num nq3, .num nq4] ++ encS [.num nq5, .text nq6, .text nq7, .text nq8, .text nq9, .yes nq10, .num nq11, .num nq12, .num nq13, .text nq14, .list nq15] ++ num nq16 ++ (At.yes nq17).enc ++ (At.yes nq18).enc ++ (At.text nq19).enc ++ numsL [nq20, nq21]))]
              (fun v X => v = .string (txt (PP ++ numsL [nq0, nq1] ++ encS [.num nq2, .num nq3, .num nq4] ++ encS [.num nq5, .text nq6, .text nq7, .text nq8, .text nq9, .yes nq10, .num nq11, .num nq12, .num nq13, .text nq14, .list nq15] ++ num nq16 ++ (At.yes nq17).enc ++ (At.yes nq18).enc ++ (At.text nq19).enc ++ numsL [nq20, nq21])) ∧ Below V.heap.size V X) rfl (by kernel_rfl) (by kernel_rfl) (by kernel_rfl) (by kernel_rfl) ?st ?g0 ?os ?la ?en
            case st => exact ⟨fun _ _ _ _ h => h, fun _ _ _ _ h => h, fun _ _ _ _ h => h, fun _ _ _ _ h => h, fun _ _ _ _ h => h, fun _ _ _ hs ⟨F, e, q⟩ => ⟨F, e, q.on hs⟩, fun _ _ _ _ h => h, fun _ _ _ _ h => h, fun _ _ _ _ h => h, fun _ _ _ _ h => h, fun _ _ _ _ h => h, fun _ _ _ _ h => h, fun _ _ _ _ h => h, fun _ _ _ _ h => h, fun _ _ _ _ h => h, fun _ _ _ _ h => h, fun _ _ _ _ h => h, fun _ _ _ _ h => h, fun _ _ _ _ h => h, fun _ _ _ _ h => h, fun _ _ _ _ h => h, fun _ _ _ _ h => h, fun _ _ _ _ h => h, fun _ _ _ _ h => h, fun _ _ _ _ h => h, fun _ _ _ _ h => h, fun _ _ _ _ h => h, fun _ _ _ _ h => h, fun _ _ _ _ h => h, fun _ _ _ _ h => h, fun _ _ _ _ h => h, fun _ _ _ _ h => h, fun _ _ _ _ h => h, fun _ _ _ _ h => h, fun _ _ _ _ h => h, fun _ _ _ _ h => h, fun _ _ _ hs ⟨F, e, q⟩ => ⟨F, e, q.on hs⟩, fun _ _ _ _ h => h, fun _ _ _ _ h => h, trivial⟩
            case g0 => exact bel_drew1 (Below.refl _ _)
            case os =>
              refine ⟨?_, ?_, ?_, ?_, ?_, ?_, ?_, ?_, ?_, ?_, ?_, ?_, ?_, ?_, ?_, ?_, ?_, ?_, ?_, ?_, ?_, ?_, ?_, ?_, ?_, ?_, ?_, ?_, ?_, ?_, ?_, ?_, ?_, ?_, ?_, ?_, ?_, ?_, ?_, trivial⟩
              · exact ⟨rfl, fun ρ X hg ho hc hf hr => Runs.val _ (op_move (show ρ (.tmp 3) = .string (txt (PP)) from ho 3 rfl)) ⟨hg, Below.refl _ _, rfl⟩⟩
              · exact ⟨rfl, fun ρ X hg ho hc hf hr => Runs.val _ (op_j0 (show ρ (.tmp 6) = .pointer (some ⟨Y, 0, none⟩) from ho 6 rfl)) ⟨hg, Below.refl _ _, rfl⟩⟩
              · exact ⟨rfl, fun ρ X hg ho hc hf hr => Runs.val _ (op_load3 (show ρ (.tmp 63) = .pointer (some ⟨Y, 0, none⟩) from hr 1 63 rfl rfl) (cell_on hg y0)) ⟨hg, Below.refl _ _, rfl⟩⟩
              · exact ⟨rfl, fun ρ X hg ho hc hf hr => Runs.val _ (op_j1 (show ρ (.tmp 6) = .pointer (some ⟨Y, 0, none⟩) from ho 6 rfl)) ⟨hg, Below.refl _ _, rfl⟩⟩
              · exact ⟨rfl, fun ρ X hg ho hc hf hr => Runs.val _ (op_load3 (show ρ (.tmp 65) = .pointer (some ⟨Y, 1, none⟩) from hr 3 65 rfl rfl) (cell_on hg y1)) ⟨hg, Below.refl _ _, rfl⟩⟩
              · exact ⟨rfl, fun ρ X hg ho hc hf hr => Runs.made hg MK2.out (op_row2 (show ρ (.tmp 64) = .int .i64 nq0 from hr 2 64 rfl rfl) (show ρ (.tmp 66) = .int .i64 nq1 from hr 4 66 rfl rfl)) (fun w' h1 h2 h3 => ⟨h1, h2, h3⟩)⟩
              · exact ⟨rfl, fun ρ X hg ho hc hf hr => by
                obtain ⟨F, e, q⟩ : ∃ F, ρ (.tmp 67) = .slice (some ⟨F, 0, none⟩) 2 2 ∧ IntsK X F 2 [nq0, nq1] := hr 5 67 rfl rfl
                exact Runs.says hg (op_call1 hf call28 e) (nums_gen (ns := [nq0, nq1]) _ q) (fun w' h1 h2 => ⟨h1, h2, rfl⟩)⟩
              · exact ⟨rfl, fun ρ X hg ho hc hf hr => Runs.val _ (op_cat (show ρ (.tmp 62) = .string (txt (PP)) from hr 0 62 rfl rfl) (show ρ (.tmp 68) = .string (txt (numsL [nq0, nq1])) from hr 6 68 rfl rfl) (by first | omega | (simp only [List.length_append]; omega))) ⟨hg, Below.refl _ _, rfl⟩⟩
              · exact ⟨rfl, fun ρ X hg ho hc hf hr => Runs.val _ (op_j2 (show ρ (.tmp 6) = .pointer (some ⟨Y, 0, none⟩) from ho 6 rfl)) ⟨hg, Below.refl _ _, rfl⟩⟩
              · exact ⟨rfl, fun ρ X hg ho hc hf hr => Runs.val _ (op_load38 (show ρ (.tmp 70) = .pointer (some ⟨Y, 2, none⟩) from hr 8 70 rfl rfl) (cell_on hg y2) (cell_on hg y3) (cell_on hg y4)) ⟨hg, Below.refl _ _, rfl⟩⟩
              · exact ⟨rfl, fun ρ X hg ho hc hf hr => Runs.says hg (op_call1 hf call39 (show ρ (.tmp 71) = .agg #[.int .i64 nq2, .int .i64 nq3, .int .i64 nq4] from hr 9 71 rfl rfl)) (hc2 _ _ rfl hg) (fun w' h1 h2 => ⟨h1, h2, rfl⟩)⟩
              · exact ⟨rfl, fun ρ X hg ho hc hf hr => Runs.val _ (op_cat (show ρ (.tmp 69) = .string (txt (PP ++ numsL [nq0, nq1])) from hr 7 69 rfl rfl) (show ρ (.tmp 72) = .string (txt (encS [.num nq2, .num nq3, .num nq4])) from hr 10 72 rfl rfl) (by first | omega | (simp only [List.length_append]; omega))) ⟨hg, Below.refl _ _, rfl⟩⟩
              · exact ⟨rfl, fun ρ X hg ho hc hf hr => Runs.val _ (op_j3 (show ρ (.tmp 6) = .pointer (some ⟨Y, 0, none⟩) from ho 6 rfl)) ⟨hg, Below.refl _ _, rfl⟩⟩
              · exact ⟨rfl, fun ρ X hg ho hc hf hr => Runs.val _ (op_load45j (show ρ (.tmp 74) = .pointer (some ⟨Y, 5, none⟩) from hr 12 74 rfl rfl) (cell_on hg y5) (cell_on hg y6) (cell_on hg y7) (cell_on hg y8) (cell_on hg y9) (cell_on hg y10) (cell_on hg y11) (cell_on hg y12) (cell_on hg y13) (cell_on hg y14) (cell_on hg y15)) ⟨hg, Below.refl _ _, rfl⟩⟩
              · exact ⟨rfl, fun ρ X hg ho hc hf hr => Runs.says hg (op_call1 hf call42 (show ρ (.tmp 75) = .agg #[.int .i64 nq5, .string nq6, .string nq7, .string nq8, .string nq9, .bool nq10, .int .i64 nq11, .int .i64 nq12, .int .i64 nq13, .string nq14, .slice adq15 nq15.length cpq15] from hr 13 75 rfl rfl)) (hc5 _ _ rfl hg) (fun w' h1 h2 => ⟨h1, h2, rfl⟩)⟩
              · exact ⟨rfl, fun ρ X hg ho hc hf hr => Runs.val _ (op_cat (show ρ (.tmp 73) = .string (txt (PP ++ numsL [nq0, nq1] ++ encS [.num nq2, .num nq3, .num nq4])) from hr 11 73 rfl rfl) (show ρ (.tmp 76) = .string (txt (encS [.num nq5, .text nq6, .text nq7, .text nq8, .text nq9, .yes nq10, .num nq11, .num nq12, .num nq13, .text nq14, .list nq15])) from hr 14 76 rfl rfl) (by first | omega | (simp only [List.length_append]; omega))) ⟨hg, Below.refl _ _, rfl⟩⟩
              · exact ⟨rfl, fun ρ X hg ho hc hf hr => Runs.val _ (op_j4 (show ρ (.tmp 6) = .pointer (some ⟨Y, 0, none⟩) from ho 6 rfl)) ⟨hg, Below.refl _ _, rfl⟩⟩
              · exact ⟨rfl, fun ρ X hg ho hc hf hr => Runs.val _ (op_load3 (show ρ (.tmp 78) = .pointer (some ⟨Y, 16, none⟩) from hr 16 78 rfl rfl) (cell_on hg y16)) ⟨hg, Below.refl _ _, rfl⟩⟩
              · exact ⟨rfl, fun ρ X hg ho hc hf hr => Runs.says hg (op_call1 hf call38 (show ρ (.tmp 79) = .int .i64 nq16 from hr 17 79 rfl rfl)) (num_ref _ _ HI16.out) (fun w' h1 h2 => ⟨h1, h2, rfl⟩)⟩
              · exact ⟨rfl, fun ρ X hg ho hc hf hr => Runs.val _ (op_cat (show ρ (.tmp 77) = .string (txt (PP ++ numsL [nq0, nq1] ++ encS [.num nq2, .num nq3, .num nq4] ++ encS [.num nq5, .text nq6, .text nq7, .text nq8, .text nq9, .yes nq10, .num nq11, .num nq12, .num nq13, .text nq14, .list nq15])) from hr 15 77 rfl rfl) (show ρ (.tmp 80) = .string (txt (num nq16)) from hr 18 80 rfl rfl) (by first | omega | (simp only [List.length_append]; omega))) ⟨hg, Below.refl _ _, rfl⟩⟩
              · exact ⟨rfl, fun ρ X hg ho hc hf hr => Runs.val _ (op_j5 (show ρ (.tmp 6) = .pointer (some ⟨Y, 0, none⟩) from ho 6 rfl)) ⟨hg, Below.refl _ _, rfl⟩⟩
              · exact ⟨rfl, fun ρ X hg ho hc hf hr => Runs.val _ (op_load4 (show ρ (.tmp 82) = .pointer (some ⟨Y, 17, none⟩) from hr 20 82 rfl rfl) (cell_on hg y17)) ⟨hg, Below.refl _ _, rfl⟩⟩
              · exact ⟨rfl, fun ρ X hg ho hc hf hr => Runs.says hg (op_call1 hf call29 (show ρ (.tmp 83) = .bool nq17 from hr 21 83 rfl rfl)) (flag_ref _ _) (fun w' h1 h2 => ⟨h1, h2, rfl⟩)⟩
              · exact ⟨rfl, fun ρ X hg ho hc hf hr => Runs.val _ (op_cat (show ρ (.tmp 81) = .string (txt (PP ++ numsL [nq0, nq1] ++ encS [.num nq2, .num nq3, .num nq4] ++ encS [.num nq5, .text nq6, .text nq7, .text nq8, .text nq9, .yes nq10, .num nq11, .num nq12, .num nq13, .text nq14, .list nq15] ++ num nq16)) from hr 19 81 rfl rfl) (show ρ (.tmp 84) = .string (txt ((At.yes nq17).enc)) from hr 22 84 rfl rfl) (by first | omega | (simp only [List.length_append]; omega))) ⟨hg, Below.refl _ _, rfl⟩⟩
              · exact ⟨rfl, fun ρ X hg ho hc hf hr => Runs.val _ (op_j6 (show ρ (.tmp 6) = .pointer (some ⟨Y, 0, none⟩) from ho 6 rfl)) ⟨hg, Below.refl _ _, rfl⟩⟩
              · exact ⟨rfl, fun ρ X hg ho hc hf hr => Runs.val _ (op_load4 (show ρ (.tmp 86) = .pointer (some ⟨Y, 18, none⟩) from hr 24 86 rfl rfl) (cell_on hg y18)) ⟨hg, Below.refl _ _, rfl⟩⟩
              · exact ⟨rfl, fun ρ X hg ho hc hf hr => Runs.says hg (op_call1 hf call29 (show ρ (.tmp 87) = .bool nq18 from hr 25 87 rfl rfl)) (flag_ref _ _) (fun w' h1 h2 => ⟨h1, h2, rfl⟩)⟩
              · exact ⟨rfl, fun ρ X hg ho hc hf hr => Runs.val _ (op_cat (show ρ (.tmp 85) = .string (txt (PP ++ numsL [nq0, nq1] ++ encS [.num nq2, .num nq3, .num nq4] ++ encS [.num nq5, .text nq6, .text nq7, .text nq8, .text nq9, .yes nq10, .num nq11, .num nq12, .num nq13, .text nq14, .list nq15] ++ num nq16 ++ (At.yes nq17).enc)) from hr 23 85 rfl rfl) (show ρ (.tmp 88) = .string (txt ((At.yes nq18).enc)) from hr 26 88 rfl rfl) (by first | omega | (simp only [List.length_append]; omega))) ⟨hg, Below.refl _ _, rfl⟩⟩
              · exact ⟨rfl, fun ρ X hg ho hc hf hr => Runs.val _ (op_j7 (show ρ (.tmp 6) = .pointer (some ⟨Y, 0, none⟩) from ho 6 rfl)) ⟨hg, Below.refl _ _, rfl⟩⟩
              · exact ⟨rfl, fun ρ X hg ho hc hf hr => Runs.val _ (op_load9 (show ρ (.tmp 90) = .pointer (some ⟨Y, 19, none⟩) from hr 28 90 rfl rfl) (cell_on hg y19)) ⟨hg, Below.refl _ _, rfl⟩⟩
              · exact ⟨rfl, fun ρ X hg ho hc hf hr => Runs.says hg (op_call1 hf call31 (show ρ (.tmp 91) = .string nq19 from hr 29 91 rfl rfl)) (text_ref _ _ s19) (fun w' h1 h2 => ⟨h1, h2, rfl⟩)⟩
              · exact ⟨rfl, fun ρ X hg ho hc hf hr => Runs.val _ (op_cat (show ρ (.tmp 89) = .string (txt (PP ++ numsL [nq0, nq1] ++ encS [.num nq2, .num nq3, .num nq4] ++ encS [.num nq5, .text nq6, .text nq7, .text nq8, .text nq9, .yes nq10, .num nq11, .num nq12, .num nq13, .text nq14, .list nq15] ++ num nq16 ++ (At.yes nq17).enc ++ (At.yes nq18).enc)) from hr 27 89 rfl rfl) (show ρ (.tmp 92) = .string (txt ((At.text nq19).enc)) from hr 30 92 rfl rfl) (by first | omega | (simp only [List.length_append]; omega))) ⟨hg, Below.refl _ _, rfl⟩⟩
              · exact ⟨rfl, fun ρ X hg ho hc hf hr => Runs.val _ (op_j8 (show ρ (.tmp 6) = .pointer (some ⟨Y, 0, none⟩) from ho 6 rfl)) ⟨hg, Below.refl _ _, rfl⟩⟩
              · exact ⟨rfl, fun ρ X hg ho hc hf hr => Runs.val _ (op_load3 (show ρ (.tmp 94) = .pointer (some ⟨Y, 20, none⟩) from hr 32 94 rfl rfl) (cell_on hg y20)) ⟨hg, Below.refl _ _, rfl⟩⟩
              · exact ⟨rfl, fun ρ X hg ho hc hf hr => Runs.val _ (op_j9 (show ρ (.tmp 6) = .pointer (some ⟨Y, 0, none⟩) from ho 6 rfl)) ⟨hg, Below.refl _ _, rfl⟩⟩
              · exact ⟨rfl, fun ρ X hg ho hc hf hr => Runs.val _ (op_load27 (show ρ (.tmp 96) = .pointer (some ⟨Y, 21, none⟩) from hr 34 96 rfl rfl) (cell_on hg y21)) ⟨hg, Below.refl _ _, rfl⟩⟩
              · exact ⟨rfl, fun ρ X hg ho hc hf hr => Runs.made hg MK3.out (op_row2 (show ρ (.tmp 95) = .int .i64 nq20 from hr 33 95 rfl rfl) (show ρ (.tmp 97) = .int .i64 nq21 from hr 35 97 rfl rfl)) (fun w' h1 h2 h3 => ⟨h1, h2, h3⟩)⟩
              · exact ⟨rfl, fun ρ X hg ho hc hf hr => by
                obtain ⟨F, e, q⟩ : ∃ F, ρ (.tmp 98) = .slice (some ⟨F, 0, none⟩) 2 2 ∧ IntsK X F 2 [nq20, nq21] := hr 36 98 rfl rfl
                exact Runs.says hg (op_call1 hf call28 e) (nums_gen (ns := [nq20, nq21]) _ q) (fun w' h1 h2 => ⟨h1, h2, rfl⟩)⟩
              · exact ⟨rfl, fun ρ X hg ho hc hf hr => Runs.val _ (op_cat (show ρ (.tmp 93) = .string (txt (PP ++ numsL [nq0, nq1] ++ encS [.num nq2, .num nq3, .num nq4] ++ encS [.num nq5, .text nq6, .text nq7, .text nq8, .text nq9, .yes nq10, .num nq11, .num nq12, .num nq13, .text nq14, .list nq15] ++ num nq16 ++ (At.yes nq17).enc ++ (At.yes nq18).enc ++ (At.text nq19).enc)) from hr 31 93 rfl rfl) (show ρ (.tmp 99) = .string (txt (numsL [nq20, nq21])) from hr 37 99 rfl rfl) (by first | omega | (simp only [List.length_append]; omega))) ⟨hg, Below.refl _ _, rfl⟩⟩
            case la => exact ⟨rfl, fun ρ X hg ho hc hf hr => Runs.val _ (op_assign (show ρ (.tmp 100) = .string (txt (PP ++ numsL [nq0, nq1] ++ encS [.num nq2, .num nq3, .num nq4] ++ encS [.num nq5, .text nq6, .text nq7, .text nq8, .text nq9, .yes nq10, .num nq11, .num nq12, .num nq13, .text nq14, .list nq15] ++ num nq16 ++ (At.yes nq17).enc ++ (At.yes nq18).enc ++ (At.text nq19).enc ++ numsL [nq20, nq21])) from hr 38 100 (by decide) rfl)) ⟨rfl, hg⟩⟩
            case en =>
              intro a X Xb v hF hs hd ho hv hr
              obtain ⟨x, hx, hxt⟩ := act_put hs hd ho
              have x3 : x 3 = .string (txt (PP ++ numsL [nq0, nq1] ++ encS [.num nq2, .num nq3, .num nq4] ++ encS [.num nq5, .text nq6, .text nq7, .text nq8, .text nq9, .yes nq10, .num nq11, .num nq12, .num nq13, .text nq14, .list nq15] ++ num nq16 ++ (At.yes nq17).enc ++ (At.yes nq18).enc ++ (At.text nq19).enc ++ numsL [nq20, nq21])) := (hxt 3).symm.trans ((hv 3 rfl).trans hF.1)
              change a = putAll _ x [62, 63, 64, 65, 66, 67, 68, 69, 70, 71, 72, 73, 74, 75, 76, 77, 78, 79, 80, 81, 82, 83, 84, 85, 86, 87, 88, 89, 90, 91, 92, 93, 94, 95, 96, 97, 98, 99, 100, 3] at hx
              simp only [putAll, Act.put, List.setIfInBounds_toArray, List.set_cons_zero, List.set_cons_succ, x3] at hx
              have HG := Lib.hid hF.2
              clear hF hs hd ho hr hv hxt x3
              subst hx
              go_wp2
              go_roundw
              case rel =>
                refine ⟨k + 1, _, by omega, by go_num, rfl, ?_, bel_trans HB2.out HG.out⟩
                show _ = _
                rw [HST2.out, HS2.out]
                simp only [List.append_assoc]
              case measure => simp [intOf]; omega
          · have hkF : k = n4.length := by omega
            subst hkF
            have HB := Lib.hid hb2
            clear hb2
            go_wp2
            go_ret
            refine ⟨?_, bel_trans HBW.out HB.out⟩
            rw [HS2.out, HP2.out, HP0.out, List.take_length]
            rfl
end Go.Proofs.Ytjhgmncmcklnkaa
