/- The walk of WirePlans. -/
import Derived.Test.YtjhgmncmcklnkaaVGa
import Derived.Test.YtjhgmncmcklnkaaVNi
import Derived.Test.YtjhgmncmcklnkaaVRr
import Derived.Deep.CutBlock
namespace Go.Proofs.Ytjhgmncmcklnkaa
open Go.RowKit

set_option maxHeartbeats 8000000 in
set_option maxRecDepth 100000 in
theorem law_plan (w : World) {x : List At} {vs : List Value} (hx0 : hasS planT x) (hv0 : valsS w NoS x vs) (hl : (encS x).length ≤ 1000000000) : Calls Try.prog 7 #[.agg vs.toArray] w fun e w' => e = .returned (.bool true) ∧ Below w.heap.size w w' := by
  have HX := Lib.hid hx0
  have HV := Lib.hid hv0
  have HLN := Lib.hid hl
  obtain ⟨E, hE⟩ : ∃ E, txt (encS x) = E := ⟨_, rfl⟩
  have hEs : E.size ≤ 1000000000 := by rw [← hE, txt_size]; exact hl
  have hput : ∀ X, Below w.heap.size w X → Calls Try.prog 22 #[.agg vs.toArray] X fun e X' => e = .returned (.string E) ∧ Below X.heap.size X X' := fun X q => by
    rw [← hE]
    exact Put_plan X hx0 (valsS_keeps ⟨q.size, fun k hk hs => ⟨q.block k hk, hs⟩⟩ hv0) hl
  have href : ∀ X, Below w.heap.size w X → Calls Try.prog 24 #[.agg vs.toArray] X fun e X' => e = .returned (.string E) ∧ Below X.heap.size X X' := fun X q => by
    rw [← hE]
    exact plan_ref X hx0 (valsS_keeps ⟨q.size, fun k hk hs => ⟨q.block k hk, hs⟩⟩ hv0) hl
  have hget : ∀ X, Calls Try.prog 23 #[.string E] X fun e X' => ∃ us : Array Value, e = .returned (.tuple #[.agg us, .int .i64 0]) ∧ us.size = planT.length ∧ Below X.heap.size X X' ∧ Hid (valsS X' NoS x us.toList) := fun X => by
    refine (Get_plan X E hEs).mono ?_
    intro e X' q
    rw [← hE] at q
    obtain ⟨us, h1, h2, h3, h4⟩ := q.yes hx0
    exact ⟨us, h1, h2, h3, valsS_keeps ⟨Nat.le_refl _, fun k _ _ => ⟨rfl, fun q => q⟩⟩ (valsS_keeps (S := fun k => k < X.heap.size) (S' := NoS) ⟨Nat.le_refl _, fun k _ _ => ⟨rfl, fun q => q⟩⟩ h4)⟩
  have HEE := Lib.hid hE
  clear hE hEs hl
  have hl := HLN.out
  obtain ⟨a0, x0, rfl, k0, hx_0⟩ := hasS_cons hx0
  obtain ⟨n0, rfl, i0⟩ := has_num k0
  obtain ⟨u0, r0, rfl, l0, hv_0⟩ := valsS_cons hv0
  obtain rfl := lies_num l0
  obtain ⟨a1, x1, rfl, k1, hx_1⟩ := hasS_cons hx_0
  obtain ⟨n1, rfl, i1⟩ := has_num k1
  obtain ⟨u1, r1, rfl, l1, hv_1⟩ := valsS_cons hv_0
  obtain rfl := lies_num l1
  obtain ⟨a2, x2, rfl, k2, hx_2⟩ := hasS_cons hx_1
  obtain ⟨n2, rfl, m2, i2⟩ := has_list k2
  obtain ⟨u2, r2, rfl, l2, hv_2⟩ := valsS_cons hv_1
  obtain ⟨ad2, cp2, rfl⟩ := lies_list l2
  obtain ⟨a3, x3, rfl, k3, hx_3⟩ := hasS_cons hx_2
  obtain ⟨n3, rfl, m3, i3⟩ := has_list k3
  obtain ⟨u3, r3, rfl, l3, hv_3⟩ := valsS_cons hv_2
  obtain ⟨ad3, cp3, rfl⟩ := lies_list l3
  obtain ⟨a4, x4, rfl, k4, hx_4⟩ := hasS_cons hx_3
  obtain ⟨n4, rfl, m4, i4⟩ := has_list k4
  obtain ⟨u4, r4, rfl, l4, hv_4⟩ := valsS_cons hv_3
  obtain ⟨ad4, cp4, rfl⟩ := lies_list l4
  obtain rfl := hasS_end hx_4
  obtain rfl := valsS_end hv_4
  have es : encS [.num n0, .num n1, .list n2, .list n3, .list n4] = num n0 ++ num n1 ++ (At.list n2).enc ++ (At.list n3).enc ++ (At.list n4).enc := by
    simp [encS, At.enc]
  rw [es] at hl
  simp only [List.length_append] at hl
  have hn2 : n2.length ≤ 1000000000 ∧ (encL n2).length ≤ 1000000000 := by
    have := encL_len (t := tableT) (by simp) i2
    simp only [At.enc, List.length_append] at hl
    omega
  have hn3 : n3.length ≤ 1000000000 := by
    have := encL_len (t := leaseT) (by simp) i3
    simp only [At.enc, List.length_append] at hl
    omega
  have hn4 : n4.length ≤ 1000000000 ∧ (encL n4).length ≤ 1000000000 := by
    have := encL_len (t := jobT) (by simp) i4
    simp only [At.enc, List.length_append] at hl
    omega
  have HE2 := Lib.hid hn2.2
  have HE4 := Lib.hid hn4.2
  replace hn2 := hn2.1
  replace hn4 := hn4.1
  have HT2 := Lib.hid i2
  have HT4 := Lib.hid i4
  obtain ⟨W, hW⟩ : ∃ W, W = w.alloc (.cells #[.int .i64 n0, .int .i64 n1, .slice ad2 n2.length cp2, .slice ad3 n3.length cp3, .slice ad4 n4.length cp4] 79) := ⟨_, rfl⟩
  have hbW : Below w.heap.size w W := by rw [hW]; exact (Below.refl _ _).alloc (Nat.le_refl _) _
  have hbk : W.heap[w.heap.size]? = some (.cells #[.int .i64 n0, .int .i64 n1, .slice ad2 n2.length cp2, .slice ad3 n3.length cp3, .slice ad4 n4.length cp4] 79 (0, 0)) := by rw [hW]; exact heap_alloc_new w _
  have HV2 := Lib.hid (lies_on l2 hbW)
  have HV4 := Lib.hid (lies_on l4 hbW)
  have c0 : W.cell? ⟨w.heap.size, 0, none⟩ = some (.int .i64 n0) := cell_blk hbk 0
  have c1 : W.cell? ⟨w.heap.size, 1, none⟩ = some (.int .i64 n1) := cell_blk hbk 1
  have c2 : W.cell? ⟨w.heap.size, 2, none⟩ = some (.slice ad2 n2.length cp2) := cell_blk hbk 2
  have c3 : W.cell? ⟨w.heap.size, 3, none⟩ = some (.slice ad3 n3.length cp3) := cell_blk hbk 3
  have c4 : W.cell? ⟨w.heap.size, 4, none⟩ = some (.slice ad4 n4.length cp4) := cell_blk hbk 4
  have HWW := Lib.hid hW
  have HBW := Lib.hid hbW
  have HPUT := Lib.hid hput
  have HREF := Lib.hid href
  have HGET := Lib.hid hget
  clear hput href hget hW hbW hbk hl es k0 hx_0 hv_0 l0 i0 k1 hx_1 hv_1 l1 i1 k2 hx_2 hv_2 l2 i2 m2 k3 hx_3 hv_3 l3 i3 m3 k4 hx_4 hv_4 l4 i4 m4
  go_enter Try.func7, Try.ntmps7
  go_upto_region 1 with fail
  rw [← HWW.out]
  go_upto_block 0 with fail
  go_cut [3] (fun v wx => ∃ m : Int, v = .int .i64 m ∧ 0 ≤ m ∧ m ≤ 7000000000 ∧ Below W.heap.size W wx)
  case first =>
    go_wp2_with fail
    go_loopw [3, 27] (fun nv iv wr => ∃ (m : Int) (k : Nat), 0 ≤ m ∧ m ≤ 3000000000 ∧ k ≤ n2.length ∧ nv = .int .i64 m ∧ iv = .int .i64 k ∧ Below W.heap.size W wr) (fun _ iv _ => n2.length - (intOf iv).toNat)
    case atStart => exact ⟨((n2.length + n3.length + n4.length : Nat) : Int), 0, by omega, by omega, Nat.zero_le _, by go_num, rfl, Below.refl _ _⟩
    case round =>
      obtain ⟨m, k, hm0, hm1, hkk, rfl, rfl, hb2⟩ := hrel
      obtain ⟨wi, rfl⟩ : ∃ wi, wi = wr := ⟨_, rfl⟩
      have d2 := cell_on hb2 c2
      by_cases hlk : k < n2.length
      · have hlkI : (k : Int) < (n2.length : Int) := by omega
        have hLI := HV2.out
        simp only [At.lies] at hLI
        obtain ⟨adz, cpz, ez, _, _, hmz⟩ := hLI
        cases ez
        obtain ⟨bI, pI, rfl, hblI, _, hLL⟩ : ∃ bI pI, ad2 = some ⟨bI, pI, none⟩ ∧ bI < W.heap.size ∧ ¬ NoS bI ∧ liesL W NoS bI pI n2 := by
          rcases hmz with e | q
          · rw [e] at hlk; simp at hlk
          · exact q
        have hxI := hasL_all HT2.out n2[k] (List.getElem_mem hlk)
        have hatI := liesL_at n2 pI (m := 5) (fun y hy => hasS_len (hasL_all HT2.out y hy)) hLL k hlk
        have hslI := encL_item_le n2 k hlk
        generalize n2[k] = yI at hxI hatI hslI
        obtain ⟨at0, xt0, rfl, kt0, hx_t0⟩ := hasS_cons hxI
        obtain ⟨nt0, rfl, it0⟩ := has_num kt0
        obtain ⟨ut0, ft0, lt0, hv_t0⟩ := liesS_cons hatI
        obtain rfl := lies_num lt0
        obtain ⟨at1, xt1, rfl, kt1, hx_t1⟩ := hasS_cons hx_t0
        obtain ⟨nt1, rfl, it1⟩ := has_text kt1
        obtain ⟨ut1, ft1, lt1, hv_t1⟩ := liesS_cons hv_t0
        obtain rfl := lies_text lt1
        obtain ⟨at2, xt2, rfl, kt2, hx_t2⟩ := hasS_cons hx_t1
        obtain ⟨nt2, rfl, mt2, it2⟩ := has_list kt2
        obtain ⟨ut2, ft2, lt2, hv_t2⟩ := liesS_cons hv_t1
        obtain ⟨adt2, cpt2, rfl⟩ := lies_list lt2
        obtain ⟨at3, xt3, rfl, kt3, hx_t3⟩ := hasS_cons hx_t2
        obtain ⟨nt3, rfl, mt3, it3⟩ := has_list kt3
        obtain ⟨ut3, ft3, lt3, hv_t3⟩ := liesS_cons hv_t2
        obtain ⟨adt3, cpt3, rfl⟩ := lies_list lt3
        obtain ⟨at4, xt4, rfl, kt4, hx_t4⟩ := hasS_cons hx_t3
        obtain ⟨nt4, rfl, mt4, it4⟩ := has_list kt4
        obtain ⟨ut4, ft4, lt4, hv_t4⟩ := liesS_cons hv_t3
        obtain ⟨adt4, cpt4, rfl⟩ := lies_list lt4
        obtain rfl := hasS_end hx_t4
        have e0 : wi.cell? ⟨bI, pI + k * 5, none⟩ = some (.int .i64 nt0) := by
          have := cell_on hb2 ft0
          simpa only [Nat.add_assoc, Nat.reduceAdd] using this
        have e1 : wi.cell? ⟨bI, pI + k * 5 + 1, none⟩ = some (.string nt1) := by
          have := cell_on hb2 ft1
          simpa only [Nat.add_assoc, Nat.reduceAdd] using this
        have e2 : wi.cell? ⟨bI, pI + k * 5 + 2, none⟩ = some (.slice adt2 nt2.length cpt2) := by
          have := cell_on hb2 ft2
          simpa only [Nat.add_assoc, Nat.reduceAdd] using this
        have e3 : wi.cell? ⟨bI, pI + k * 5 + 3, none⟩ = some (.slice adt3 nt3.length cpt3) := by
          have := cell_on hb2 ft3
          simpa only [Nat.add_assoc, Nat.reduceAdd] using this
        have e4 : wi.cell? ⟨bI, pI + k * 5 + 4, none⟩ = some (.slice adt4 nt4.length cpt4) := by
          have := cell_on hb2 ft4
          simpa only [Nat.add_assoc, Nat.reduceAdd] using this
        have hen := HE2.out
        simp only [encS, At.enc, List.length_append] at hslI
        have hz2 : nt2.length ≤ 1000000000 := by
          have := encL_len (t := columnT) (by simp) it2
          omega
        have hz3 : nt3.length ≤ 1000000000 := by
          have := encL_len (t := indexT) (by simp) it3
          omega
        have hz4 : nt4.length ≤ 1000000000 := by
          have := encL_len (t := foreignT) (by simp) it4
          omega
        clear hLL hslI hen hxI hatI hmz kt0 hx_t0 hv_t0 lt0 ft0 it0 kt1 hx_t1 hv_t1 lt1 ft1 it1 kt2 hx_t2 hv_t2 lt2 ft2 it2 mt2 kt3 hx_t3 hv_t3 lt3 ft3 it3 mt3 kt4 hx_t4 hv_t4 lt4 ft4 it4 mt4
        by_cases hbig : (2000 : Int) < m + ((nt2.length : Int) + (nt3.length : Int) + (nt4.length : Int))
        · go_wp2
          go_meet
          exact ⟨m + ((nt2.length : Int) + (nt3.length : Int) + (nt4.length : Int)), by go_num, by omega, by omega, bel_alloc hb2 _⟩
        · go_wp2
          go_roundw
          case rel => exact ⟨m + ((nt2.length : Int) + (nt3.length : Int) + (nt4.length : Int)), k + 1, by omega, by omega, by omega, by go_num, by go_num, bel_alloc hb2 _⟩
          case measure => simp [intOf]; omega
      · go_wp2
        go_meet
        exact ⟨m, rfl, by omega, by omega, hb2⟩
  case rest =>
    obtain ⟨m1, rfl, hp0, hp1, hbA⟩ := hcut
    obtain ⟨WA, rfl⟩ : ∃ WA, WA = wc := ⟨_, rfl⟩
    have b4 := cell_on hbA c4
    go_upto_block 2 with fail
    go_cut [3] (fun v wx => ∃ m : Int, v = .int .i64 m ∧ 0 ≤ m ∧ m ≤ 10000000000 ∧ Below W.heap.size W wx)
    case first =>
      go_wp2_with fail
      go_loopw [3, 50] (fun nv iv wr => ∃ (m : Int) (k : Nat), 0 ≤ m ∧ m ≤ 7000000000 ∧ k ≤ n4.length ∧ nv = .int .i64 m ∧ iv = .int .i64 k ∧ Below W.heap.size W wr) (fun _ iv _ => n4.length - (intOf iv).toNat)
      case atStart => exact ⟨m1, 0, by omega, by omega, Nat.zero_le _, by go_num, rfl, hbA⟩
      case round =>
        obtain ⟨m, k, hm0, hm1, hkk, rfl, rfl, hb2⟩ := hrel
        obtain ⟨wi, rfl⟩ : ∃ wi, wi = wr := ⟨_, rfl⟩
        have d4 := cell_on hb2 c4
        by_cases hlk : k < n4.length
        · have hlkI : (k : Int) < (n4.length : Int) := by omega
          have hLI := HV4.out
          simp only [At.lies] at hLI
          obtain ⟨adz, cpz, ez, _, _, hmz⟩ := hLI
          cases ez
          obtain ⟨bI, pI, rfl, hblI, _, hLL⟩ : ∃ bI pI, ad4 = some ⟨bI, pI, none⟩ ∧ bI < W.heap.size ∧ ¬ NoS bI ∧ liesL W NoS bI pI n4 := by
            rcases hmz with e | q
            · rw [e] at hlk; simp at hlk
            · exact q
          have hxI := hasL_all HT4.out n4[k] (List.getElem_mem hlk)
          have hatI := liesL_at n4 pI (m := 22) (fun y hy => hasS_len (hasL_all HT4.out y hy)) hLL k hlk
          have hslI := encL_item_le n4 k hlk
          generalize n4[k] = yI at hxI hatI hslI
          obtain ⟨aq0, xq0, rfl, kq0, hx_q0⟩ := hasS_cons hxI
          obtain ⟨nq0, rfl, iq0⟩ := has_num kq0
          obtain ⟨uq0, fq0, lq0, hv_q0⟩ := liesS_cons hatI
          obtain rfl := lies_num lq0
          obtain ⟨aq1, xq1, rfl, kq1, hx_q1⟩ := hasS_cons hx_q0
          obtain ⟨nq1, rfl, iq1⟩ := has_num kq1
          obtain ⟨uq1, fq1, lq1, hv_q1⟩ := liesS_cons hv_q0
          obtain rfl := lies_num lq1
          obtain ⟨aq2, xq2, rfl, kq2, hx_q2⟩ := hasS_cons hx_q1
          obtain ⟨nq2, rfl, iq2⟩ := has_num kq2
          obtain ⟨uq2, fq2, lq2, hv_q2⟩ := liesS_cons hv_q1
          obtain rfl := lies_num lq2
          obtain ⟨aq3, xq3, rfl, kq3, hx_q3⟩ := hasS_cons hx_q2
          obtain ⟨nq3, rfl, iq3⟩ := has_num kq3
          obtain ⟨uq3, fq3, lq3, hv_q3⟩ := liesS_cons hv_q2
          obtain rfl := lies_num lq3
          obtain ⟨aq4, xq4, rfl, kq4, hx_q4⟩ := hasS_cons hx_q3
          obtain ⟨nq4, rfl, iq4⟩ := has_num kq4
          obtain ⟨uq4, fq4, lq4, hv_q4⟩ := liesS_cons hv_q3
          obtain rfl := lies_num lq4
          obtain ⟨aq5, xq5, rfl, kq5, hx_q5⟩ := hasS_cons hx_q4
          obtain ⟨nq5, rfl, iq5⟩ := has_num kq5
          obtain ⟨uq5, fq5, lq5, hv_q5⟩ := liesS_cons hv_q4
          obtain rfl := lies_num lq5
          obtain ⟨aq6, xq6, rfl, kq6, hx_q6⟩ := hasS_cons hx_q5
          obtain ⟨nq6, rfl, iq6⟩ := has_text kq6
          obtain ⟨uq6, fq6, lq6, hv_q6⟩ := liesS_cons hv_q5
          obtain rfl := lies_text lq6
          obtain ⟨aq7, xq7, rfl, kq7, hx_q7⟩ := hasS_cons hx_q6
          obtain ⟨nq7, rfl, iq7⟩ := has_text kq7
          obtain ⟨uq7, fq7, lq7, hv_q7⟩ := liesS_cons hv_q6
          obtain rfl := lies_text lq7
          obtain ⟨aq8, xq8, rfl, kq8, hx_q8⟩ := hasS_cons hx_q7
          obtain ⟨nq8, rfl, iq8⟩ := has_text kq8
          obtain ⟨uq8, fq8, lq8, hv_q8⟩ := liesS_cons hv_q7
          obtain rfl := lies_text lq8
          obtain ⟨aq9, xq9, rfl, kq9, hx_q9⟩ := hasS_cons hx_q8
          obtain ⟨nq9, rfl, iq9⟩ := has_text kq9
          obtain ⟨uq9, fq9, lq9, hv_q9⟩ := liesS_cons hv_q8
          obtain rfl := lies_text lq9
          obtain ⟨aq10, xq10, rfl, kq10, hx_q10⟩ := hasS_cons hx_q9
          obtain ⟨nq10, rfl⟩ := has_yes kq10
          obtain ⟨uq10, fq10, lq10, hv_q10⟩ := liesS_cons hv_q9
          obtain rfl := lies_yes lq10
          obtain ⟨aq11, xq11, rfl, kq11, hx_q11⟩ := hasS_cons hx_q10
          obtain ⟨nq11, rfl, iq11⟩ := has_num kq11
          obtain ⟨uq11, fq11, lq11, hv_q11⟩ := liesS_cons hv_q10
          obtain rfl := lies_num lq11
          obtain ⟨aq12, xq12, rfl, kq12, hx_q12⟩ := hasS_cons hx_q11
          obtain ⟨nq12, rfl, iq12⟩ := has_num kq12
          obtain ⟨uq12, fq12, lq12, hv_q12⟩ := liesS_cons hv_q11
          obtain rfl := lies_num lq12
          obtain ⟨aq13, xq13, rfl, kq13, hx_q13⟩ := hasS_cons hx_q12
          obtain ⟨nq13, rfl, iq13⟩ := has_num kq13
          obtain ⟨uq13, fq13, lq13, hv_q13⟩ := liesS_cons hv_q12
          obtain rfl := lies_num lq13
          obtain ⟨aq14, xq14, rfl, kq14, hx_q14⟩ := hasS_cons hx_q13
          obtain ⟨nq14, rfl, iq14⟩ := has_text kq14
          obtain ⟨uq14, fq14, lq14, hv_q14⟩ := liesS_cons hv_q13
          obtain rfl := lies_text lq14
          obtain ⟨aq15, xq15, rfl, kq15, hx_q15⟩ := hasS_cons hx_q14
          obtain ⟨nq15, rfl, mq15, iq15⟩ := has_list kq15
          obtain ⟨uq15, fq15, lq15, hv_q15⟩ := liesS_cons hv_q14
          obtain ⟨adq15, cpq15, rfl⟩ := lies_list lq15
          obtain ⟨aq16, xq16, rfl, kq16, hx_q16⟩ := hasS_cons hx_q15
          obtain ⟨nq16, rfl, iq16⟩ := has_num kq16
          obtain ⟨uq16, fq16, lq16, hv_q16⟩ := liesS_cons hv_q15
          obtain rfl := lies_num lq16
          obtain ⟨aq17, xq17, rfl, kq17, hx_q17⟩ := hasS_cons hx_q16
          obtain ⟨nq17, rfl⟩ := has_yes kq17
          obtain ⟨uq17, fq17, lq17, hv_q17⟩ := liesS_cons hv_q16
          obtain rfl := lies_yes lq17
          obtain ⟨aq18, xq18, rfl, kq18, hx_q18⟩ := hasS_cons hx_q17
          obtain ⟨nq18, rfl⟩ := has_yes kq18
          obtain ⟨uq18, fq18, lq18, hv_q18⟩ := liesS_cons hv_q17
          obtain rfl := lies_yes lq18
          obtain ⟨aq19, xq19, rfl, kq19, hx_q19⟩ := hasS_cons hx_q18
          obtain ⟨nq19, rfl, iq19⟩ := has_text kq19
          obtain ⟨uq19, fq19, lq19, hv_q19⟩ := liesS_cons hv_q18
          obtain rfl := lies_text lq19
          obtain ⟨aq20, xq20, rfl, kq20, hx_q20⟩ := hasS_cons hx_q19
          obtain ⟨nq20, rfl, iq20⟩ := has_num kq20
          obtain ⟨uq20, fq20, lq20, hv_q20⟩ := liesS_cons hv_q19
          obtain rfl := lies_num lq20
          obtain ⟨aq21, xq21, rfl, kq21, hx_q21⟩ := hasS_cons hx_q20
          obtain ⟨nq21, rfl, iq21⟩ := has_num kq21
          obtain ⟨uq21, fq21, lq21, hv_q21⟩ := liesS_cons hv_q20
          obtain rfl := lies_num lq21
          obtain rfl := hasS_end hx_q21
          have eI0 : wi.cell? ⟨bI, pI + k * 22, none⟩ = some (.int .i64 nq0) := by
            have := cell_on hb2 fq0
            simpa only [Nat.add_assoc, Nat.reduceAdd] using this
          have eI1 : wi.cell? ⟨bI, pI + k * 22 + 1, none⟩ = some (.int .i64 nq1) := by
            have := cell_on hb2 fq1
            simpa only [Nat.add_assoc, Nat.reduceAdd] using this
          have eI2 : wi.cell? ⟨bI, pI + k * 22 + 2, none⟩ = some (.int .i64 nq2) := by
            have := cell_on hb2 fq2
            simpa only [Nat.add_assoc, Nat.reduceAdd] using this
          have eI3 : wi.cell? ⟨bI, pI + k * 22 + 3, none⟩ = some (.int .i64 nq3) := by
            have := cell_on hb2 fq3
            simpa only [Nat.add_assoc, Nat.reduceAdd] using this
          have eI4 : wi.cell? ⟨bI, pI + k * 22 + 4, none⟩ = some (.int .i64 nq4) := by
            have := cell_on hb2 fq4
            simpa only [Nat.add_assoc, Nat.reduceAdd] using this
          have eI5 : wi.cell? ⟨bI, pI + k * 22 + 5, none⟩ = some (.int .i64 nq5) := by
            have := cell_on hb2 fq5
            simpa only [Nat.add_assoc, Nat.reduceAdd] using this
          have eI6 : wi.cell? ⟨bI, pI + k * 22 + 6, none⟩ = some (.string nq6) := by
            have := cell_on hb2 fq6
            simpa only [Nat.add_assoc, Nat.reduceAdd] using this
          have eI7 : wi.cell? ⟨bI, pI + k * 22 + 7, none⟩ = some (.string nq7) := by
            have := cell_on hb2 fq7
            simpa only [Nat.add_assoc, Nat.reduceAdd] using this
          have eI8 : wi.cell? ⟨bI, pI + k * 22 + 8, none⟩ = some (.string nq8) := by
            have := cell_on hb2 fq8
            simpa only [Nat.add_assoc, Nat.reduceAdd] using this
          have eI9 : wi.cell? ⟨bI, pI + k * 22 + 9, none⟩ = some (.string nq9) := by
            have := cell_on hb2 fq9
            simpa only [Nat.add_assoc, Nat.reduceAdd] using this
          have eI10 : wi.cell? ⟨bI, pI + k * 22 + 10, none⟩ = some (.bool nq10) := by
            have := cell_on hb2 fq10
            simpa only [Nat.add_assoc, Nat.reduceAdd] using this
          have eI11 : wi.cell? ⟨bI, pI + k * 22 + 11, none⟩ = some (.int .i64 nq11) := by
            have := cell_on hb2 fq11
            simpa only [Nat.add_assoc, Nat.reduceAdd] using this
          have eI12 : wi.cell? ⟨bI, pI + k * 22 + 12, none⟩ = some (.int .i64 nq12) := by
            have := cell_on hb2 fq12
            simpa only [Nat.add_assoc, Nat.reduceAdd] using this
          have eI13 : wi.cell? ⟨bI, pI + k * 22 + 13, none⟩ = some (.int .i64 nq13) := by
            have := cell_on hb2 fq13
            simpa only [Nat.add_assoc, Nat.reduceAdd] using this
          have eI14 : wi.cell? ⟨bI, pI + k * 22 + 14, none⟩ = some (.string nq14) := by
            have := cell_on hb2 fq14
            simpa only [Nat.add_assoc, Nat.reduceAdd] using this
          have eI15 : wi.cell? ⟨bI, pI + k * 22 + 15, none⟩ = some (.slice adq15 nq15.length cpq15) := by
            have := cell_on hb2 fq15
            simpa only [Nat.add_assoc, Nat.reduceAdd] using this
          have eI16 : wi.cell? ⟨bI, pI + k * 22 + 16, none⟩ = some (.int .i64 nq16) := by
            have := cell_on hb2 fq16
            simpa only [Nat.add_assoc, Nat.reduceAdd] using this
          have eI17 : wi.cell? ⟨bI, pI + k * 22 + 17, none⟩ = some (.bool nq17) := by
            have := cell_on hb2 fq17
            simpa only [Nat.add_assoc, Nat.reduceAdd] using this
          have eI18 : wi.cell? ⟨bI, pI + k * 22 + 18, none⟩ = some (.bool nq18) := by
            have := cell_on hb2 fq18
            simpa only [Nat.add_assoc, Nat.reduceAdd] using this
          have eI19 : wi.cell? ⟨bI, pI + k * 22 + 19, none⟩ = some (.string nq19) := by
            have := cell_on hb2 fq19
            simpa only [Nat.add_assoc, Nat.reduceAdd] using this
          have eI20 : wi.cell? ⟨bI, pI + k * 22 + 20, none⟩ = some (.int .i64 nq20) := by
            have := cell_on hb2 fq20
            simpa only [Nat.add_assoc, Nat.reduceAdd] using this
          have eI21 : wi.cell? ⟨bI, pI + k * 22 + 21, none⟩ = some (.int .i64 nq21) := by
            have := cell_on hb2 fq21
            simpa only [Nat.add_assoc, Nat.reduceAdd] using this
          have hen := HE4.out
          simp only [encS, At.enc, List.length_append] at hslI
          have hz15 : nq15.length ≤ 1000000000 := by
            have := encL_len (t := columnT) (by simp) iq15
            omega
          obtain ⟨VS, hVS⟩ : ∃ VS : Array Value, VS = #[.int .i64 nq0, .int .i64 nq1, .int .i64 nq2, .int .i64 nq3, .int .i64 nq4, .int .i64 nq5, .string nq6, .string nq7, .string nq8, .string nq9, .bool nq10, .int .i64 nq11, .int .i64 nq12, .int .i64 nq13, .string nq14, .slice adq15 nq15.length cpq15, .int .i64 nq16, .bool nq17, .bool nq18, .string nq19, .int .i64 nq20, .int .i64 nq21] := ⟨_, rfl⟩
          have hvs : VS.size = 22 := by rw [hVS]; rfl
          have sV : (Try.prog.info? 85).map (·.size) = some VS.size := by rw [hvs]; exact size85
          have oV : VS.all (·.oneCell') = true := by rw [hVS, ← Array.all_toList]; rfl
          have ld := load_mid (w := wi) (b := bI) (p := pI + k * 22) (vs := VS) (fun j hj => by
            rw [hvs] at hj
            rw [hVS]
            have : j = 0 ∨ j = 1 ∨ j = 2 ∨ j = 3 ∨ j = 4 ∨ j = 5 ∨ j = 6 ∨ j = 7 ∨ j = 8 ∨ j = 9 ∨ j = 10 ∨ j = 11 ∨ j = 12 ∨ j = 13 ∨ j = 14 ∨ j = 15 ∨ j = 16 ∨ j = 17 ∨ j = 18 ∨ j = 19 ∨ j = 20 ∨ j = 21 := by omega
            rcases this with rfl | rfl | rfl | rfl | rfl | rfl | rfl | rfl | rfl | rfl | rfl | rfl | rfl | rfl | rfl | rfl | rfl | rfl | rfl | rfl | rfl | rfl
            · exact eI0
            · exact eI1
            · exact eI2
            · exact eI3
            · exact eI4
            · exact eI5
            · exact eI6
            · exact eI7
            · exact eI8
            · exact eI9
            · exact eI10
            · exact eI11
            · exact eI12
            · exact eI13
            · exact eI14
            · exact eI15
            · exact eI16
            · exact eI17
            · exact eI18
            · exact eI19
            · exact eI20
            · exact eI21) Try.underlying85 rfl sV
          have st := store_new (cs := #[.int .i64 0, .int .i64 0, .int .i64 0, .int .i64 0, .int .i64 0, .int .i64 0, .string ⟨#[]⟩, .string ⟨#[]⟩, .string ⟨#[]⟩, .string ⟨#[]⟩, .bool false, .int .i64 0, .int .i64 0, .int .i64 0, .string ⟨#[]⟩, .slice none 0 0, .int .i64 0, .bool false, .bool false, .string ⟨#[]⟩, .int .i64 0, .int .i64 0]) wi hvs sV oV
          obtain ⟨V, hV⟩ : ∃ V, V = wi.alloc (.cells VS 85) := ⟨_, rfl⟩
          have hbV : Below W.heap.size W V := by rw [hV]; exact hb2.alloc hb2.size _
          have jY : V.heap[wi.heap.size]? = some (.cells #[.int .i64 nq0, .int .i64 nq1, .int .i64 nq2, .int .i64 nq3, .int .i64 nq4, .int .i64 nq5, .string nq6, .string nq7, .string nq8, .string nq9, .bool nq10, .int .i64 nq11, .int .i64 nq12, .int .i64 nq13, .string nq14, .slice adq15 nq15.length cpq15, .int .i64 nq16, .bool nq17, .bool nq18, .string nq19, .int .i64 nq20, .int .i64 nq21] 85 (0, 0)) := by rw [hV, ← hVS]; exact heap_alloc_new wi _
          rw [← hV] at st
          have y15 : V.cell? ⟨wi.heap.size, 15, none⟩ = some (.slice adq15 nq15.length cpq15) := cell_blk jY 15
          have HBV := Lib.hid hbV
          clear hLL hslI hen hxI hatI hmz hV hbV hVS hvs sV oV jY kq0 hx_q0 hv_q0 lq0 fq0 iq0 kq1 hx_q1 hv_q1 lq1 fq1 iq1 kq2 hx_q2 hv_q2 lq2 fq2 iq2 kq3 hx_q3 hv_q3 lq3 fq3 iq3 kq4 hx_q4 hv_q4 lq4 fq4 iq4 kq5 hx_q5 hv_q5 lq5 fq5 iq5 kq6 hx_q6 hv_q6 lq6 fq6 iq6 kq7 hx_q7 hv_q7 lq7 fq7 iq7 kq8 hx_q8 hv_q8 lq8 fq8 iq8 kq9 hx_q9 hv_q9 lq9 fq9 iq9 kq10 hx_q10 hv_q10 lq10 fq10 kq11 hx_q11 hv_q11 lq11 fq11 iq11 kq12 hx_q12 hv_q12 lq12 fq12 iq12 kq13 hx_q13 hv_q13 lq13 fq13 iq13 kq14 hx_q14 hv_q14 lq14 fq14 iq14 kq15 hx_q15 hv_q15 lq15 fq15 iq15 mq15 kq16 hx_q16 hv_q16 lq16 fq16 iq16 kq17 hx_q17 hv_q17 lq17 fq17 kq18 hx_q18 hv_q18 lq18 fq18 kq19 hx_q19 hv_q19 lq19 fq19 iq19 kq20 hx_q20 hv_q20 lq20 fq20 iq20 kq21 hx_q21 hv_q21 lq21 fq21 iq21 eI0 eI1 eI2 eI3 eI4 eI5 eI6 eI7 eI8 eI9 eI10 eI11 eI12 eI13 eI14 eI15 eI16 eI17 eI18 eI19 eI20 eI21
          by_cases hbig : (2000 : Int) < m + (nq15.length : Int)
          · go_wp2_with (first | (refine wpl_load _ rfl (by simp [Act.eval]) ld ?_) | (refine wpl_store _ _ rfl (by simp [Act.eval, Act.put]) (by simp [Act.eval, Act.put]) st ?_))
            go_meet
            exact ⟨m + (nq15.length : Int), by go_num, by omega, by omega, HBV.out⟩
          · go_wp2_with (first | (refine wpl_load _ rfl (by simp [Act.eval]) ld ?_) | (refine wpl_store _ _ rfl (by simp [Act.eval, Act.put]) (by simp [Act.eval, Act.put]) st ?_))
            go_roundw
            case rel => exact ⟨m + (nq15.length : Int), k + 1, by omega, by omega, by omega, by go_num, by go_num, HBV.out⟩
            case measure => simp [intOf]; omega
        · go_wp2
          go_meet
          exact ⟨m, rfl, by omega, by omega, hb2⟩
    case rest =>
      obtain ⟨m2, rfl, hr0, hr1, hbB⟩ := hcut
      have HBB := Lib.hid hbB
      have hput := HPUT.out
      have href := HREF.out
      have hget := HGET.out
      clear hbA hbB HPUT HREF HGET hp0 hp1
      go_wp2_with (go_at_call 9; refine (awake_any _).mono ?_; rintro e w1 ⟨rfl, hb1⟩; refine Hid.out ?_)
      refine Lib.hid ?_
      have hbC : Below W.heap.size W w1 := bel_trans HBB.out hb1
      have HB1 : Hid (Below w.heap.size w w1) := bel_trans HBW.out hbC
      have g0 := cell_on hbC c0
      have g1 := cell_on hbC c1
      have g2 := cell_on hbC c2
      have g3 := cell_on hbC c3
      have g4 := cell_on hbC c4
      clear hb1 hbC b4 c0 c1 c2 c3 c4
      by_cases h1 : (2000 : Int) < m2
      · clear hput href hget
        go_wp2_with (go_at_call 9; refine (awake_any _).mono ?_; rintro e w2 ⟨rfl, hb2⟩; refine Hid.out ?_)
        refine Lib.hid ?_
        go_wp2
        go_ret
        exact ⟨rfl, bel_trans HB1.out hb2⟩
      · have hp := hput w1 HB1.out
        clear hput
        go_wp2_with (go_at_call 22; refine hp.mono ?_; rintro e w2 ⟨rfl, hb2⟩; refine Hid.out ?_)
        refine Lib.hid ?_
        clear hp
        go_wp2_with (go_at_call 23; refine (hget _).mono ?_; rintro e w3 ⟨us, rfl, hus, hb3, hv3⟩; refine Hid.out ?_)
        refine Lib.hid ?_
        obtain ⟨a0, a1, a2, a3, a4, rfl⟩ := arr5 hus
        have hv4 := hv3.out
        simp only [valsS, At.lies, and_true] at hv4
        obtain ⟨rfl, rfl, ⟨bd2, bc2, rfl, _⟩, ⟨bd3, bc3, rfl, _⟩, ⟨bd4, bc4, rfl, _⟩⟩ := hv4
        obtain ⟨V, hV⟩ : ∃ V, V = w3.alloc (.cells #[.int .i64 n0, .int .i64 n1, .slice bd2 n2.length bc2, .slice bd3 n3.length bc3, .slice bd4 n4.length bc4] 79) := ⟨_, rfl⟩
        have hb4 : Below w3.heap.size w3 V := by rw [hV]; exact (Below.refl _ _).alloc (Nat.le_refl _) _
        have hbn : V.heap[w3.heap.size]? = some (.cells #[.int .i64 n0, .int .i64 n1, .slice bd2 n2.length bc2, .slice bd3 n3.length bc3, .slice bd4 n4.length bc4] 79 (0, 0)) := by rw [hV]; exact heap_alloc_new w3 _
        have d0 : V.cell? ⟨w.heap.size, 0, none⟩ = some (.int .i64 n0) := cell_on hb4 (cell_on hb3 (cell_on hb2 g0))
        have d1 : V.cell? ⟨w.heap.size, 1, none⟩ = some (.int .i64 n1) := cell_on hb4 (cell_on hb3 (cell_on hb2 g1))
        have d2 : V.cell? ⟨w.heap.size, 2, none⟩ = some (.slice ad2 n2.length cp2) := cell_on hb4 (cell_on hb3 (cell_on hb2 g2))
        have d3 : V.cell? ⟨w.heap.size, 3, none⟩ = some (.slice ad3 n3.length cp3) := cell_on hb4 (cell_on hb3 (cell_on hb2 g3))
        have d4 : V.cell? ⟨w.heap.size, 4, none⟩ = some (.slice ad4 n4.length cp4) := cell_on hb4 (cell_on hb3 (cell_on hb2 g4))
        have HBV : Hid (Below w.heap.size w V) := bel_trans (bel_trans (bel_trans HB1.out hb2) hb3) hb4
        have hr1 := href V HBV.out
        have HV3 : Hid (valsS V NoS _ _) := valsS_keeps (S := NoS) (S' := NoS) ⟨hb4.size, fun k hk hs => ⟨hb4.block k hk, hs⟩⟩ hv3.out
        have hr2 : ∀ X, Below V.heap.size V X → Calls Try.prog 24 #[.agg #[.int .i64 n0, .int .i64 n1, .slice bd2 n2.length bc2, .slice bd3 n3.length bc3, .slice bd4 n4.length bc4]] X fun e X' => e = .returned (.string E) ∧ Below X.heap.size X X' := fun X q => by
          rw [← HEE.out]
          exact plan_ref X HX.out (valsS_keeps (S := NoS) ⟨q.size, fun k hk hs => ⟨q.block k hk, hs⟩⟩ HV3.out) HLN.out
        have HVV := Lib.hid hV
        have HBN := Lib.hid hbn
        clear hV hbn hb2 hb3 hb4 hv3 hus href hget
        go_upto_region 18 with fail
        rw [← HVV.out]
        go_wp2_with (go_at_call 24; refine hr1.mono ?_; rintro e w4 ⟨rfl, hb5⟩; refine Hid.out ?_)
        refine Lib.hid ?_
        have e0 : w4.cell? ⟨w3.heap.size, 0, none⟩ = some (.int .i64 n0) := cell_on hb5 (cell_blk HBN.out 0)
        have e1 : w4.cell? ⟨w3.heap.size, 1, none⟩ = some (.int .i64 n1) := cell_on hb5 (cell_blk HBN.out 1)
        have e2 : w4.cell? ⟨w3.heap.size, 2, none⟩ = some (.slice bd2 n2.length bc2) := cell_on hb5 (cell_blk HBN.out 2)
        have e3 : w4.cell? ⟨w3.heap.size, 3, none⟩ = some (.slice bd3 n3.length bc3) := cell_on hb5 (cell_blk HBN.out 3)
        have e4 : w4.cell? ⟨w3.heap.size, 4, none⟩ = some (.slice bd4 n4.length bc4) := cell_on hb5 (cell_blk HBN.out 4)
        have hr3 := hr2 w4 hb5
        have HB5 := Lib.hid hb5
        clear hr1 hr2 hb5
        go_wp2_with (go_at_call 24; refine hr3.mono ?_; rintro e w5 ⟨rfl, hb6⟩; refine Hid.out ?_)
        refine Lib.hid ?_
        go_wp2
        go_ret
        exact ⟨rfl, bel_trans (bel_trans HBV.out HB5.out) hb6⟩
end Go.Proofs.Ytjhgmncmcklnkaa
