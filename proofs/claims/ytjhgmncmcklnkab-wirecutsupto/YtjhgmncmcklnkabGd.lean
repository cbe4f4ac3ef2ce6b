/- The walk of WireCuts. -/
import Derived.Test.YtjhgmncmcklnkabGa
import Derived.Test.YtjhgmncmcklnkabRe
namespace Go.Proofs.Ytjhgmncmcklnkab
open Go.RowKit

/-- What is cut off is nobody's. -/
theorem GetAns.less {w w' : World} {t : List Ty} {x : List At} {e : Ending} {k : Nat} (hk : k < (encS x).length) (hx : hasS t x) (h : GetAns w w' t (txt ((encS x).take k)) e) : e = .returned (.tuple #[.agg (zvS t), .int .i64 100]) ∧ Below w.heap.size w w' := by
  obtain ⟨vs, c, h1, h2, _, h4, h5⟩ := h
  rcases h5 with ⟨rfl, y, y1, y2, y3⟩ | ⟨rfl, rfl, q⟩
  · rw [txt_list] at y2
    have e : encS x ++ [] = encS y ++ (encS x).drop k := by rw [← y2, List.take_append_drop, List.append_nil]
    obtain ⟨_, e2⟩ := preS t x y [] _ hx y1 e
    have := congrArg List.length e2
    simp at this
    omega
  · exact ⟨h1, h4⟩
theorem empty_list : (⟨#[]⟩ : ByteArray).toList.isEmpty = true := by rw [Lib.toList_data]; rfl
set_option maxHeartbeats 16000000 in
set_option maxRecDepth 100000 in
theorem law_cuts (w : World) {x y : List At} {vs us : List Value} (hx0 : hasS msgT x) (hv0 : valsS w NoS x vs) (hl : (encS x).length ≤ 500000000) (hy0 : hasS msgT y) (hu0 : valsS w NoS y us) (hl2 : (encS y).length ≤ 500000000) (cut : Int) (more : ByteArray) (hmo : more.size ≤ 500000000) : Calls Try.prog 3 #[.agg vs.toArray, .agg us.toArray, .int .i64 cut, .string more] w fun e w' => e = .returned (.bool true) ∧ Below w.heap.size w w' := by
  obtain ⟨E, hE⟩ : ∃ E, txt (encS x) = E := ⟨_, rfl⟩
  obtain ⟨G, hG⟩ : ∃ G, txt (encS y) = G := ⟨_, rfl⟩
  have hEs : E.size ≤ 500000000 := by rw [← hE, txt_size]; exact hl
  have hput : ∀ X, Below w.heap.size w X → Calls Try.prog 5 #[.agg vs.toArray] X fun e X' => e = .returned (.string E) ∧ Below X.heap.size X X' := fun X q => by
    rw [← hE]
    exact Put_msg X hx0 (valsS_keeps ⟨q.size, fun k hk hs => ⟨q.block k hk, hs⟩⟩ hv0) (by omega)
  have hput2 : ∀ X, Below w.heap.size w X → Calls Try.prog 5 #[.agg us.toArray] X fun e X' => e = .returned (.string G) ∧ Below X.heap.size X X' := fun X q => by
    rw [← hG]
    exact Put_msg X hy0 (valsS_keeps ⟨q.size, fun k hk hs => ⟨q.block k hk, hs⟩⟩ hu0) (by omega)
  have href : ∀ X, Below w.heap.size w X → Calls Try.prog 7 #[.agg vs.toArray] X fun e X' => e = .returned (.string E) ∧ Below X.heap.size X X' := fun X q => by
    rw [← hE]
    exact msg_ref X hx0 (valsS_keeps ⟨q.size, fun k hk hs => ⟨q.block k hk, hs⟩⟩ hv0) (by omega)
  have href2 : ∀ X, Below w.heap.size w X → Calls Try.prog 7 #[.agg us.toArray] X fun e X' => e = .returned (.string G) ∧ Below X.heap.size X X' := fun X q => by
    rw [← hG]
    exact msg_ref X hy0 (valsS_keeps ⟨q.size, fun k hk hs => ⟨q.block k hk, hs⟩⟩ hu0) (by omega)
  have hless : ∀ k : Nat, k < E.size → ∀ X, Calls Try.prog 6 #[.string (E.extract 0 k)] X fun e X' => e = .returned (.tuple #[.agg #[.int .i64 0, .int .i64 0, .int .i64 0, .int .i64 0, .int .i64 0, .int .i64 0, .int .i64 0, .bool false, .slice none 0 0, .string ⟨#[]⟩], .int .i64 100]) ∧ Below X.heap.size X X' := fun k hk X => by
    have e1 : E.extract 0 k = txt ((encS x).take k) := by rw [← hE, txt_take]
    rw [e1]
    have hs : (txt ((encS x).take k)).size ≤ 1000000000 := by rw [txt_size, List.length_take]; omega
    refine (Get_msg X _ hs).mono ?_
    intro e X' q
    exact q.less (by rw [← hE, txt_size] at hk; exact hk) hx0
  have hmore : ∀ X, Calls Try.prog 6 #[.string (E ++ more)] X fun e X' => ∃ (k0 k1 k2 k3 k4 k5 k6 : Int) (k7 : Bool) (ak : Option Addr) (k8 ck : Nat) (k9 : ByteArray), e = .returned (.tuple #[.agg #[.int .i64 k0, .int .i64 k1, .int .i64 k2, .int .i64 k3, .int .i64 k4, .int .i64 k5, .int .i64 k6, .bool k7, .slice ak k8 ck, .string k9], .int .i64 (if more.toList.isEmpty then 0 else 100)]) ∧ Below X.heap.size X X' := fun X => by
    have e1 : E ++ more = txt (encS x ++ more.data.toList) := by rw [← hE, ← txt_append, txt_of]
    rw [e1]
    have hml : more.data.toList.length = more.size := by rw [Array.length_toList]; rfl
    have hs : (txt (encS x ++ more.data.toList)).size ≤ 1000000000 := by rw [txt_size, List.length_append]; omega
    refine (Get_msg X _ hs).mono ?_
    rintro e X' ⟨zs, c, rfl, h2, hkd, h4, h5⟩
    obtain ⟨z0, z1, z2, z3, z4, z5, z6, z7, z8, z9, rfl⟩ := arr10 h2
    obtain ⟨u0, g0, n0, rfl⟩ := hkd 0 (by decide)
    obtain ⟨u1, g1, n1, rfl⟩ := hkd 1 (by decide)
    obtain ⟨u2, g2, n2, rfl⟩ := hkd 2 (by decide)
    obtain ⟨u3, g3, n3, rfl⟩ := hkd 3 (by decide)
    obtain ⟨u4, g4, n4, rfl⟩ := hkd 4 (by decide)
    obtain ⟨u5, g5, n5, rfl⟩ := hkd 5 (by decide)
    obtain ⟨u6, g6, n6, rfl⟩ := hkd 6 (by decide)
    obtain ⟨u7, g7, n7, rfl⟩ := hkd 7 (by decide)
    obtain ⟨u8, g8, ad8, n8, cp8, rfl⟩ := hkd 8 (by decide)
    obtain ⟨u9, g9, n9, rfl⟩ := hkd 9 (by decide)
    simp at g0 g1 g2 g3 g4 g5 g6 g7 g8 g9
    subst g0 g1 g2 g3 g4 g5 g6 g7 g8 g9
    refine ⟨n0, n1, n2, n3, n4, n5, n6, n7, ad8, n8, cp8, n9, ?_, h4⟩
    rcases h5 with ⟨rfl, y', y1, y2, _⟩ | ⟨rfl, _, q⟩
    · rw [txt_list] at y2
      obtain ⟨_, e2⟩ := preS msgT x y' more.data.toList [] hx0 y1 (by simpa using y2)
      have e3 : more.toList.isEmpty = true := by rw [Lib.toList_data, e2]; rfl
      rw [e3]
      rfl
    · have e3 : more.toList.isEmpty = false := by
        refine not_empty (fun e => ?_)
        subst e
        exact q x hx0 (by rw [txt_list]; simp)
      rw [e3]
      rfl
  have hsum : ¬ 9223372036854775807 < E.size + more.size := sum_ok (by omega) (by omega)
  have HE := Lib.hid hE
  clear hl hl2
  obtain ⟨a0, x0, rfl, k0, hx_0⟩ := hasS_cons hx0
  obtain ⟨n0, rfl, i0⟩ := has_num k0
  obtain ⟨u0, r0, rfl, l0, hv_0⟩ := valsS_cons hv0
  obtain rfl := lies_num l0
  obtain ⟨a1, x1, rfl, k1, hx_1⟩ := hasS_cons hx_0
  obtain ⟨n1, rfl, i1⟩ := has_num k1
  obtain ⟨u1, r1, rfl, l1, hv_1⟩ := valsS_cons hv_0
  obtain rfl := lies_num l1
  obtain ⟨a2, x2, rfl, k2, hx_2⟩ := hasS_cons hx_1
  obtain ⟨n2, rfl, i2⟩ := has_num k2
  obtain ⟨u2, r2, rfl, l2, hv_2⟩ := valsS_cons hv_1
  obtain rfl := lies_num l2
  obtain ⟨a3, x3, rfl, k3, hx_3⟩ := hasS_cons hx_2
  obtain ⟨n3, rfl, i3⟩ := has_num k3
  obtain ⟨u3, r3, rfl, l3, hv_3⟩ := valsS_cons hv_2
  obtain rfl := lies_num l3
  obtain ⟨a4, x4, rfl, k4, hx_4⟩ := hasS_cons hx_3
  obtain ⟨n4, rfl, i4⟩ := has_num k4
  obtain ⟨u4, r4, rfl, l4, hv_4⟩ := valsS_cons hv_3
  obtain rfl := lies_num l4
  obtain ⟨a5, x5, rfl, k5, hx_5⟩ := hasS_cons hx_4
  obtain ⟨n5, rfl, i5⟩ := has_num k5
  obtain ⟨u5, r5, rfl, l5, hv_5⟩ := valsS_cons hv_4
  obtain rfl := lies_num l5
  obtain ⟨a6, x6, rfl, k6, hx_6⟩ := hasS_cons hx_5
  obtain ⟨n6, rfl, i6⟩ := has_num k6
  obtain ⟨u6, r6, rfl, l6, hv_6⟩ := valsS_cons hv_5
  obtain rfl := lies_num l6
  obtain ⟨a7, x7, rfl, k7, hx_7⟩ := hasS_cons hx_6
  obtain ⟨n7, rfl⟩ := has_yes k7
  obtain ⟨u7, r7, rfl, l7, hv_7⟩ := valsS_cons hv_6
  obtain rfl := lies_yes l7
  obtain ⟨a8, x8, rfl, k8, hx_8⟩ := hasS_cons hx_7
  obtain ⟨n8, rfl, m8, i8⟩ := has_list k8
  obtain ⟨u8, r8, rfl, l8, hv_8⟩ := valsS_cons hv_7
  obtain ⟨ad8, cp8, rfl⟩ := lies_list l8
  obtain ⟨a9, x9, rfl, k9, hx_9⟩ := hasS_cons hx_8
  obtain ⟨n9, rfl, i9⟩ := has_text k9
  obtain ⟨u9, r9, rfl, l9, hv_9⟩ := valsS_cons hv_8
  obtain rfl := lies_text l9
  obtain rfl := hasS_end hx_9
  obtain rfl := valsS_end hv_9
  obtain ⟨aB0, xB0, rfl, kB0, hx_B0⟩ := hasS_cons hy0
  obtain ⟨nB0, rfl, iB0⟩ := has_num kB0
  obtain ⟨uB0, rB0, rfl, lB0, hv_B0⟩ := valsS_cons hu0
  obtain rfl := lies_num lB0
  obtain ⟨aB1, xB1, rfl, kB1, hx_B1⟩ := hasS_cons hx_B0
  obtain ⟨nB1, rfl, iB1⟩ := has_num kB1
  obtain ⟨uB1, rB1, rfl, lB1, hv_B1⟩ := valsS_cons hv_B0
  obtain rfl := lies_num lB1
  obtain ⟨aB2, xB2, rfl, kB2, hx_B2⟩ := hasS_cons hx_B1
  obtain ⟨nB2, rfl, iB2⟩ := has_num kB2
  obtain ⟨uB2, rB2, rfl, lB2, hv_B2⟩ := valsS_cons hv_B1
  obtain rfl := lies_num lB2
  obtain ⟨aB3, xB3, rfl, kB3, hx_B3⟩ := hasS_cons hx_B2
  obtain ⟨nB3, rfl, iB3⟩ := has_num kB3
  obtain ⟨uB3, rB3, rfl, lB3, hv_B3⟩ := valsS_cons hv_B2
  obtain rfl := lies_num lB3
  obtain ⟨aB4, xB4, rfl, kB4, hx_B4⟩ := hasS_cons hx_B3
  obtain ⟨nB4, rfl, iB4⟩ := has_num kB4
  obtain ⟨uB4, rB4, rfl, lB4, hv_B4⟩ := valsS_cons hv_B3
  obtain rfl := lies_num lB4
  obtain ⟨aB5, xB5, rfl, kB5, hx_B5⟩ := hasS_cons hx_B4
  obtain ⟨nB5, rfl, iB5⟩ := has_num kB5
  obtain ⟨uB5, rB5, rfl, lB5, hv_B5⟩ := valsS_cons hv_B4
  obtain rfl := lies_num lB5
  obtain ⟨aB6, xB6, rfl, kB6, hx_B6⟩ := hasS_cons hx_B5
  obtain ⟨nB6, rfl, iB6⟩ := has_num kB6
  obtain ⟨uB6, rB6, rfl, lB6, hv_B6⟩ := valsS_cons hv_B5
  obtain rfl := lies_num lB6
  obtain ⟨aB7, xB7, rfl, kB7, hx_B7⟩ := hasS_cons hx_B6
  obtain ⟨nB7, rfl⟩ := has_yes kB7
  obtain ⟨uB7, rB7, rfl, lB7, hv_B7⟩ := valsS_cons hv_B6
  obtain rfl := lies_yes lB7
  obtain ⟨aB8, xB8, rfl, kB8, hx_B8⟩ := hasS_cons hx_B7
  obtain ⟨nB8, rfl, mB8, iB8⟩ := has_list kB8
  obtain ⟨uB8, rB8, rfl, lB8, hv_B8⟩ := valsS_cons hv_B7
  obtain ⟨adB8, cpB8, rfl⟩ := lies_list lB8
  obtain ⟨aB9, xB9, rfl, kB9, hx_B9⟩ := hasS_cons hx_B8
  obtain ⟨nB9, rfl, iB9⟩ := has_text kB9
  obtain ⟨uB9, rB9, rfl, lB9, hv_B9⟩ := valsS_cons hv_B8
  obtain rfl := lies_text lB9
  obtain rfl := hasS_end hx_B9
  obtain rfl := valsS_end hv_B9
  clear k0 hx_0 hv_0 l0 i0 k1 hx_1 hv_1 l1 i1 k2 hx_2 hv_2 l2 i2 k3 hx_3 hv_3 l3 i3 k4 hx_4 hv_4 l4 i4 k5 hx_5 hv_5 l5 i5 k6 hx_6 hv_6 l6 i6 k7 hx_7 hv_7 l7 k8 hx_8 hv_8 l8 i8 m8 k9 hx_9 hv_9 l9 i9
  clear kB0 hx_B0 hv_B0 lB0 iB0 kB1 hx_B1 hv_B1 lB1 iB1 kB2 hx_B2 hv_B2 lB2 iB2 kB3 hx_B3 hv_B3 lB3 iB3 kB4 hx_B4 hv_B4 lB4 iB4 kB5 hx_B5 hv_B5 lB5 iB5 kB6 hx_B6 hv_B6 lB6 iB6 kB7 hx_B7 hv_B7 lB7 kB8 hx_B8 hv_B8 lB8 iB8 mB8 kB9 hx_B9 hv_B9 lB9 iB9
  obtain ⟨W, hW⟩ : ∃ W, W = (w.alloc (.cells #[.int .i64 n0, .int .i64 n1, .int .i64 n2, .int .i64 n3, .int .i64 n4, .int .i64 n5, .int .i64 n6, .bool n7, .slice ad8 n8.length cp8, .string n9] 24)).alloc (.cells #[.int .i64 nB0, .int .i64 nB1, .int .i64 nB2, .int .i64 nB3, .int .i64 nB4, .int .i64 nB5, .int .i64 nB6, .bool nB7, .slice adB8 nB8.length cpB8, .string nB9] 24) := ⟨_, rfl⟩
  have z1 : (w.alloc (.cells #[.int .i64 n0, .int .i64 n1, .int .i64 n2, .int .i64 n3, .int .i64 n4, .int .i64 n5, .int .i64 n6, .bool n7, .slice ad8 n8.length cp8, .string n9] 24)).heap.size = w.heap.size + 1 := alloc_sz _ _
  have hbW : Below w.heap.size w W := by rw [hW]; exact bel_alloc (bel_alloc (Below.refl _ _) _) _
  have hbm : W.heap[w.heap.size]? = some (.cells #[.int .i64 n0, .int .i64 n1, .int .i64 n2, .int .i64 n3, .int .i64 n4, .int .i64 n5, .int .i64 n6, .bool n7, .slice ad8 n8.length cp8, .string n9] 24 (0, 0)) := by rw [hW, alloc_old _ _ (by rw [z1]; omega)]; exact alloc_at _ _
  have hbn : W.heap[w.heap.size + 1]? = some (.cells #[.int .i64 nB0, .int .i64 nB1, .int .i64 nB2, .int .i64 nB3, .int .i64 nB4, .int .i64 nB5, .int .i64 nB6, .bool nB7, .slice adB8 nB8.length cpB8, .string nB9] 24 (0, 0)) := by rw [hW, ← z1]; exact alloc_at _ _
  have HW := Lib.hid hW
  have HBW := Lib.hid hbW
  have HBM := Lib.hid hbm
  have HBN := Lib.hid hbn
  clear z1 hW hbW hbm hbn
  go_enter Try.func3, Try.ntmps3
  go_upto_region 1 with fail
  rw [← HW.out]
  go_wp2_with (go_at_call 4; refine (awake_any _).mono ?_; rintro e w1 ⟨rfl, hb1⟩; refine Hid.out ?_)
  refine Lib.hid ?_
  have HB1 : Hid (Below w.heap.size w w1) := bel_trans HBW.out hb1
  have c0 : w1.cell? ⟨w.heap.size, 0, none⟩ = some (.int .i64 n0) := cell_on hb1 (cell_blk HBM.out 0)
  have d0 : w1.cell? ⟨w.heap.size + 1, 0, none⟩ = some (.int .i64 nB0) := cell_on hb1 (cell_blk HBN.out 0)
  have c1 : w1.cell? ⟨w.heap.size, 1, none⟩ = some (.int .i64 n1) := cell_on hb1 (cell_blk HBM.out 1)
  have d1 : w1.cell? ⟨w.heap.size + 1, 1, none⟩ = some (.int .i64 nB1) := cell_on hb1 (cell_blk HBN.out 1)
  have c2 : w1.cell? ⟨w.heap.size, 2, none⟩ = some (.int .i64 n2) := cell_on hb1 (cell_blk HBM.out 2)
  have d2 : w1.cell? ⟨w.heap.size + 1, 2, none⟩ = some (.int .i64 nB2) := cell_on hb1 (cell_blk HBN.out 2)
  have c3 : w1.cell? ⟨w.heap.size, 3, none⟩ = some (.int .i64 n3) := cell_on hb1 (cell_blk HBM.out 3)
  have d3 : w1.cell? ⟨w.heap.size + 1, 3, none⟩ = some (.int .i64 nB3) := cell_on hb1 (cell_blk HBN.out 3)
  have c4 : w1.cell? ⟨w.heap.size, 4, none⟩ = some (.int .i64 n4) := cell_on hb1 (cell_blk HBM.out 4)
  have d4 : w1.cell? ⟨w.heap.size + 1, 4, none⟩ = some (.int .i64 nB4) := cell_on hb1 (cell_blk HBN.out 4)
  have c5 : w1.cell? ⟨w.heap.size, 5, none⟩ = some (.int .i64 n5) := cell_on hb1 (cell_blk HBM.out 5)
  have d5 : w1.cell? ⟨w.heap.size + 1, 5, none⟩ = some (.int .i64 nB5) := cell_on hb1 (cell_blk HBN.out 5)
  have c6 : w1.cell? ⟨w.heap.size, 6, none⟩ = some (.int .i64 n6) := cell_on hb1 (cell_blk HBM.out 6)
  have d6 : w1.cell? ⟨w.heap.size + 1, 6, none⟩ = some (.int .i64 nB6) := cell_on hb1 (cell_blk HBN.out 6)
  have c7 : w1.cell? ⟨w.heap.size, 7, none⟩ = some (.bool n7) := cell_on hb1 (cell_blk HBM.out 7)
  have d7 : w1.cell? ⟨w.heap.size + 1, 7, none⟩ = some (.bool nB7) := cell_on hb1 (cell_blk HBN.out 7)
  have c8 : w1.cell? ⟨w.heap.size, 8, none⟩ = some (.slice ad8 n8.length cp8) := cell_on hb1 (cell_blk HBM.out 8)
  have d8 : w1.cell? ⟨w.heap.size + 1, 8, none⟩ = some (.slice adB8 nB8.length cpB8) := cell_on hb1 (cell_blk HBN.out 8)
  have c9 : w1.cell? ⟨w.heap.size, 9, none⟩ = some (.string n9) := cell_on hb1 (cell_blk HBM.out 9)
  have d9 : w1.cell? ⟨w.heap.size + 1, 9, none⟩ = some (.string nB9) := cell_on hb1 (cell_blk HBN.out 9)
  clear hb1
  by_cases h1 : (300 : Int) < (n8.length : Int)
  · clear hput hput2 href href2 hless hmore
    go_wp2_with (go_at_call 4; refine (awake_any _).mono ?_; rintro e w2 ⟨rfl, hb2⟩; refine Hid.out ?_)
    refine Lib.hid ?_
    go_wp2
    go_ret
    exact ⟨rfl, bel_trans HB1.out hb2⟩
  by_cases h2 : (4096 : Int) < (n9.size : Int)
  · clear hput hput2 href href2 hless hmore
    go_wp2_with (go_at_call 4; refine (awake_any _).mono ?_; rintro e w2 ⟨rfl, hb2⟩; refine Hid.out ?_)
    refine Lib.hid ?_
    go_wp2
    go_ret
    exact ⟨rfl, bel_trans HB1.out hb2⟩
  by_cases h3 : (300 : Int) < (nB8.length : Int)
  · clear hput hput2 href href2 hless hmore
    go_wp2_with (go_at_call 4; refine (awake_any _).mono ?_; rintro e w2 ⟨rfl, hb2⟩; refine Hid.out ?_)
    refine Lib.hid ?_
    go_wp2
    go_ret
    exact ⟨rfl, bel_trans HB1.out hb2⟩
  by_cases h4 : (4096 : Int) < (nB9.size : Int)
  · clear hput hput2 href href2 hless hmore
    go_wp2_with (go_at_call 4; refine (awake_any _).mono ?_; rintro e w2 ⟨rfl, hb2⟩; refine Hid.out ?_)
    refine Lib.hid ?_
    go_wp2
    go_ret
    exact ⟨rfl, bel_trans HB1.out hb2⟩
  by_cases h5 : (4096 : Int) < (more.size : Int)
  · clear hput hput2 href href2 hless hmore
    go_wp2_with (go_at_call 4; refine (awake_any _).mono ?_; rintro e w2 ⟨rfl, hb2⟩; refine Hid.out ?_)
    refine Lib.hid ?_
    go_wp2
    go_ret
    exact ⟨rfl, bel_trans HB1.out hb2⟩
  have hp := hput w1 HB1.out
  clear hput
  go_wp2_with (first | (go_at_call 5; refine hp.mono ?_; rintro e w2 ⟨rfl, hb2⟩; refine Hid.out ?_) | fail)
  refine Lib.hid ?_
  clear hp
  have HB2 := Lib.hid hb2
  clear hb2
  go_upto_region 4 with fail
  obtain ⟨be, hbe⟩ : ∃ be : Bool, be = decide (0 ≤ cut ∧ cut < (E.size : Int)) := ⟨_, rfl⟩
  go_cut [55] (fun v wx => v = .bool be ∧ wx = w2)
  case first =>
    clear hless hmore hput2 href href2
    by_cases hc0 : 0 ≤ cut
    · by_cases hc1 : cut < (E.size : Int)
      · have hbt : be = true := by rw [hbe]; simp [hc0, hc1]
        clear hbe
        go_wp2_with fail
        go_meet
        exact ⟨by rw [hbt], rfl⟩
      · have hbt : be = false := by rw [hbe]; simp [hc1]
        clear hbe
        go_wp2_with fail
        go_meet
        exact ⟨by rw [hbt], rfl⟩
    · have hbt : be = false := by rw [hbe]; simp [hc0]
      clear hbe
      go_wp2_with fail
      go_meet
      exact ⟨by rw [hbt], rfl⟩
  case rest =>
    obtain ⟨rfl, rfl⟩ := hcut
    cases be with
    | true =>
      have hc : 0 ≤ cut ∧ cut < (E.size : Int) := by simpa using hbe.symm
      obtain ⟨k, rfl⟩ : ∃ k : Nat, cut = k := ⟨cut.toNat, by omega⟩
      have hc2 : (k : Int) < (E.size : Int) := hc.2
      have hq := hless k (by omega)
      clear hless hbe hc
      go_wp2_with (go_at_call 6; refine (hq _).mono ?_; rintro e w3 ⟨rfl, hb3⟩; refine Hid.out ?_)
      refine Lib.hid ?_
      clear hq
      cases hme : more.toList.isEmpty with
      | true =>
        simp only [hme, if_true] at hmore
        go_wp2_with (go_at_call 6; refine (hmore _).mono ?_; rintro e w4 ⟨k0, k1, k2, k3, k4, k5, k6, k7, ak, k8, ck, k9, rfl, hb4⟩; refine Hid.out ?_)
        refine Lib.hid ?_
        clear hmore
        obtain ⟨V, hV⟩ : ∃ V, V = w4.alloc (.cells #[.int .i64 k0, .int .i64 k1, .int .i64 k2, .int .i64 k3, .int .i64 k4, .int .i64 k5, .int .i64 k6, .bool k7, .slice ak k8 ck, .string k9] 24) := ⟨_, rfl⟩
        have hb5 : Below w1.heap.size w1 V := by rw [hV]; exact bel_alloc (bel_trans (bel_trans HB2.out (bel_alloc hb3 _)) hb4) _
        have HBV : Hid (Below w.heap.size w V) := bel_trans HB1.out hb5
        have p0 : V.cell? ⟨w.heap.size, 0, none⟩ = some (.int .i64 n0) := cell_on hb5 c0
        have q0 : V.cell? ⟨w.heap.size + 1, 0, none⟩ = some (.int .i64 nB0) := cell_on hb5 d0
        have p1 : V.cell? ⟨w.heap.size, 1, none⟩ = some (.int .i64 n1) := cell_on hb5 c1
        have q1 : V.cell? ⟨w.heap.size + 1, 1, none⟩ = some (.int .i64 nB1) := cell_on hb5 d1
        have p2 : V.cell? ⟨w.heap.size, 2, none⟩ = some (.int .i64 n2) := cell_on hb5 c2
        have q2 : V.cell? ⟨w.heap.size + 1, 2, none⟩ = some (.int .i64 nB2) := cell_on hb5 d2
        have p3 : V.cell? ⟨w.heap.size, 3, none⟩ = some (.int .i64 n3) := cell_on hb5 c3
        have q3 : V.cell? ⟨w.heap.size + 1, 3, none⟩ = some (.int .i64 nB3) := cell_on hb5 d3
        have p4 : V.cell? ⟨w.heap.size, 4, none⟩ = some (.int .i64 n4) := cell_on hb5 c4
        have q4 : V.cell? ⟨w.heap.size + 1, 4, none⟩ = some (.int .i64 nB4) := cell_on hb5 d4
        have p5 : V.cell? ⟨w.heap.size, 5, none⟩ = some (.int .i64 n5) := cell_on hb5 c5
        have q5 : V.cell? ⟨w.heap.size + 1, 5, none⟩ = some (.int .i64 nB5) := cell_on hb5 d5
        have p6 : V.cell? ⟨w.heap.size, 6, none⟩ = some (.int .i64 n6) := cell_on hb5 c6
        have q6 : V.cell? ⟨w.heap.size + 1, 6, none⟩ = some (.int .i64 nB6) := cell_on hb5 d6
        have p7 : V.cell? ⟨w.heap.size, 7, none⟩ = some (.bool n7) := cell_on hb5 c7
        have q7 : V.cell? ⟨w.heap.size + 1, 7, none⟩ = some (.bool nB7) := cell_on hb5 d7
        have p8 : V.cell? ⟨w.heap.size, 8, none⟩ = some (.slice ad8 n8.length cp8) := cell_on hb5 c8
        have q8 : V.cell? ⟨w.heap.size + 1, 8, none⟩ = some (.slice adB8 nB8.length cpB8) := cell_on hb5 d8
        have p9 : V.cell? ⟨w.heap.size, 9, none⟩ = some (.string n9) := cell_on hb5 c9
        have q9 : V.cell? ⟨w.heap.size + 1, 9, none⟩ = some (.string nB9) := cell_on hb5 d9
        have HK : Hid (∀ X, Below V.heap.size V X → X.cell? ⟨w.heap.size, 0, none⟩ = some (.int .i64 n0) ∧ X.cell? ⟨w.heap.size, 1, none⟩ = some (.int .i64 n1) ∧ X.cell? ⟨w.heap.size, 2, none⟩ = some (.int .i64 n2) ∧ X.cell? ⟨w.heap.size, 3, none⟩ = some (.int .i64 n3) ∧ X.cell? ⟨w.heap.size, 4, none⟩ = some (.int .i64 n4) ∧ X.cell? ⟨w.heap.size, 5, none⟩ = some (.int .i64 n5) ∧ X.cell? ⟨w.heap.size, 6, none⟩ = some (.int .i64 n6) ∧ X.cell? ⟨w.heap.size, 7, none⟩ = some (.bool n7) ∧ X.cell? ⟨w.heap.size, 8, none⟩ = some (.slice ad8 n8.length cp8) ∧ X.cell? ⟨w.heap.size, 9, none⟩ = some (.string n9) ∧ X.cell? ⟨w.heap.size + 1, 0, none⟩ = some (.int .i64 nB0) ∧ X.cell? ⟨w.heap.size + 1, 1, none⟩ = some (.int .i64 nB1) ∧ X.cell? ⟨w.heap.size + 1, 2, none⟩ = some (.int .i64 nB2) ∧ X.cell? ⟨w.heap.size + 1, 3, none⟩ = some (.int .i64 nB3) ∧ X.cell? ⟨w.heap.size + 1, 4, none⟩ = some (.int .i64 nB4) ∧ X.cell? ⟨w.heap.size + 1, 5, none⟩ = some (.int .i64 nB5) ∧ X.cell? ⟨w.heap.size + 1, 6, none⟩ = some (.int .i64 nB6) ∧ X.cell? ⟨w.heap.size + 1, 7, none⟩ = some (.bool nB7) ∧ X.cell? ⟨w.heap.size + 1, 8, none⟩ = some (.slice adB8 nB8.length cpB8) ∧ X.cell? ⟨w.heap.size + 1, 9, none⟩ = some (.string nB9) ∧ Hid (Below V.heap.size V X)) := fun X z => ⟨cell_on z p0, cell_on z p1, cell_on z p2, cell_on z p3, cell_on z p4, cell_on z p5, cell_on z p6, cell_on z p7, cell_on z p8, cell_on z p9, cell_on z q0, cell_on z q1, cell_on z q2, cell_on z q3, cell_on z q4, cell_on z q5, cell_on z q6, cell_on z q7, cell_on z q8, cell_on z q9, Lib.hid z⟩
        have HVV := Lib.hid hV
        have g1 : ∀ X q, q = #[.int .i64 nB0, .int .i64 nB1, .int .i64 nB2, .int .i64 nB3, .int .i64 nB4, .int .i64 nB5, .int .i64 nB6, .bool nB7, .slice adB8 nB8.length cpB8, .string nB9] → Below V.heap.size V X → Calls Try.prog 5 #[.agg q] X fun e X' => e = .returned (.string G) ∧ Below X.heap.size X X' := fun X q zq z => by rw [zq]; exact hput2 X (bel_trans HBV.out z)
        have g2 : ∀ X q, q = #[.int .i64 nB0, .int .i64 nB1, .int .i64 nB2, .int .i64 nB3, .int .i64 nB4, .int .i64 nB5, .int .i64 nB6, .bool nB7, .slice adB8 nB8.length cpB8, .string nB9] → Below V.heap.size V X → Calls Try.prog 7 #[.agg q] X fun e X' => e = .returned (.string G) ∧ Below X.heap.size X X' := fun X q zq z => by rw [zq]; exact href2 X (bel_trans HBV.out z)
        have g3 : ∀ X q, q = #[.int .i64 n0, .int .i64 n1, .int .i64 n2, .int .i64 n3, .int .i64 n4, .int .i64 n5, .int .i64 n6, .bool n7, .slice ad8 n8.length cp8, .string n9] → Below V.heap.size V X → Calls Try.prog 7 #[.agg q] X fun e X' => e = .returned (.string E) ∧ Below X.heap.size X X' := fun X q zq z => by rw [zq]; exact href X (bel_trans HBV.out z)
        clear hV hb4 hb5 hput2 href href2 c0 d0 c1 d1 c2 d2 c3 d3 c4 d4 c5 d5 c6 d6 c7 d7 c8 d8 c9 d9
        go_upto_region 9 with fail
        rw [← HVV.out]
        go_region_held3 (fun X => X.cell? ⟨w.heap.size, 0, none⟩ = some (.int .i64 n0) ∧ X.cell? ⟨w.heap.size, 1, none⟩ = some (.int .i64 n1) ∧ X.cell? ⟨w.heap.size, 2, none⟩ = some (.int .i64 n2) ∧ X.cell? ⟨w.heap.size, 3, none⟩ = some (.int .i64 n3) ∧ X.cell? ⟨w.heap.size, 4, none⟩ = some (.int .i64 n4) ∧ X.cell? ⟨w.heap.size, 5, none⟩ = some (.int .i64 n5) ∧ X.cell? ⟨w.heap.size, 6, none⟩ = some (.int .i64 n6) ∧ X.cell? ⟨w.heap.size, 7, none⟩ = some (.bool n7) ∧ X.cell? ⟨w.heap.size, 8, none⟩ = some (.slice ad8 n8.length cp8) ∧ X.cell? ⟨w.heap.size, 9, none⟩ = some (.string n9) ∧ X.cell? ⟨w.heap.size + 1, 0, none⟩ = some (.int .i64 nB0) ∧ X.cell? ⟨w.heap.size + 1, 1, none⟩ = some (.int .i64 nB1) ∧ X.cell? ⟨w.heap.size + 1, 2, none⟩ = some (.int .i64 nB2) ∧ X.cell? ⟨w.heap.size + 1, 3, none⟩ = some (.int .i64 nB3) ∧ X.cell? ⟨w.heap.size + 1, 4, none⟩ = some (.int .i64 nB4) ∧ X.cell? ⟨w.heap.size + 1, 5, none⟩ = some (.int .i64 nB5) ∧ X.cell? ⟨w.heap.size + 1, 6, none⟩ = some (.int .i64 nB6) ∧ X.cell? ⟨w.heap.size + 1, 7, none⟩ = some (.bool nB7) ∧ X.cell? ⟨w.heap.size + 1, 8, none⟩ = some (.slice adB8 nB8.length cpB8) ∧ X.cell? ⟨w.heap.size + 1, 9, none⟩ = some (.string nB9) ∧ Hid (Below V.heap.size V X)) (exact HK.out _ (by repeat (first | exact Below.refl _ _ | exact hx.out | apply bel_drew1 | apply bel_alloc))) (first
          | (go_at_call 7; refine Calls.mono (g2 _ _ ?_ ?_) ?_; (focus (exact rfl)); (focus ((repeat (first | exact Below.refl _ _ | exact hx.out | apply bel_drew1 | apply bel_alloc)); done)); rintro ee X ⟨rfl, hy⟩; have hx : Hid (Below V.heap.size V X) := bel_trans (by repeat (first | exact Below.refl _ _ | exact hx.out | apply bel_drew1 | apply bel_alloc)) hy)
          | (go_at_call 7; refine Calls.mono (g3 _ _ ?_ ?_) ?_; (focus (exact rfl)); (focus ((repeat (first | exact Below.refl _ _ | exact hx.out | apply bel_drew1 | apply bel_alloc)); done)); rintro ee X ⟨rfl, hy⟩; have hx : Hid (Below V.heap.size V X) := bel_trans (by repeat (first | exact Below.refl _ _ | exact hx.out | apply bel_drew1 | apply bel_alloc)) hy)
          | (go_at_call 5; refine Calls.mono (g1 _ _ ?_ ?_) ?_; (focus (exact rfl)); (focus ((repeat (first | exact Below.refl _ _ | exact hx.out | apply bel_drew1 | apply bel_alloc)); done)); rintro ee X ⟨rfl, hy⟩; have hx : Hid (Below V.heap.size V X) := bel_trans (by repeat (first | exact Below.refl _ _ | exact hx.out | apply bel_drew1 | apply bel_alloc)) hy))
        all_goals
          go_wp2
          go_ret
          exact ⟨rfl, bel_trans HBV.out hx.out⟩
      | false =>
        simp only [hme, Bool.false_eq_true, if_false] at hmore
        go_wp2_with (go_at_call 6; refine (hmore _).mono ?_; rintro e w4 ⟨k0, k1, k2, k3, k4, k5, k6, k7, ak, k8, ck, k9, rfl, hb4⟩; refine Hid.out ?_)
        refine Lib.hid ?_
        clear hmore
        obtain ⟨V, hV⟩ : ∃ V, V = w4.alloc (.cells #[.int .i64 k0, .int .i64 k1, .int .i64 k2, .int .i64 k3, .int .i64 k4, .int .i64 k5, .int .i64 k6, .bool k7, .slice ak k8 ck, .string k9] 24) := ⟨_, rfl⟩
        have hb5 : Below w1.heap.size w1 V := by rw [hV]; exact bel_alloc (bel_trans (bel_trans HB2.out (bel_alloc hb3 _)) hb4) _
        have HBV : Hid (Below w.heap.size w V) := bel_trans HB1.out hb5
        have p0 : V.cell? ⟨w.heap.size, 0, none⟩ = some (.int .i64 n0) := cell_on hb5 c0
        have q0 : V.cell? ⟨w.heap.size + 1, 0, none⟩ = some (.int .i64 nB0) := cell_on hb5 d0
        have p1 : V.cell? ⟨w.heap.size, 1, none⟩ = some (.int .i64 n1) := cell_on hb5 c1
        have q1 : V.cell? ⟨w.heap.size + 1, 1, none⟩ = some (.int .i64 nB1) := cell_on hb5 d1
        have p2 : V.cell? ⟨w.heap.size, 2, none⟩ = some (.int .i64 n2) := cell_on hb5 c2
        have q2 : V.cell? ⟨w.heap.size + 1, 2, none⟩ = some (.int .i64 nB2) := cell_on hb5 d2
        have p3 : V.cell? ⟨w.heap.size, 3, none⟩ = some (.int .i64 n3) := cell_on hb5 c3
        have q3 : V.cell? ⟨w.heap.size + 1, 3, none⟩ = some (.int .i64 nB3) := cell_on hb5 d3
        have p4 : V.cell? ⟨w.heap.size, 4, none⟩ = some (.int .i64 n4) := cell_on hb5 c4
        have q4 : V.cell? ⟨w.heap.size + 1, 4, none⟩ = some (.int .i64 nB4) := cell_on hb5 d4
        have p5 : V.cell? ⟨w.heap.size, 5, none⟩ = some (.int .i64 n5) := cell_on hb5 c5
        have q5 : V.cell? ⟨w.heap.size + 1, 5, none⟩ = some (.int .i64 nB5) := cell_on hb5 d5
        have p6 : V.cell? ⟨w.heap.size, 6, none⟩ = some (.int .i64 n6) := cell_on hb5 c6
        have q6 : V.cell? ⟨w.heap.size + 1, 6, none⟩ = some (.int .i64 nB6) := cell_on hb5 d6
        have p7 : V.cell? ⟨w.heap.size, 7, none⟩ = some (.bool n7) := cell_on hb5 c7
        have q7 : V.cell? ⟨w.heap.size + 1, 7, none⟩ = some (.bool nB7) := cell_on hb5 d7
        have p8 : V.cell? ⟨w.heap.size, 8, none⟩ = some (.slice ad8 n8.length cp8) := cell_on hb5 c8
        have q8 : V.cell? ⟨w.heap.size + 1, 8, none⟩ = some (.slice adB8 nB8.length cpB8) := cell_on hb5 d8
        have p9 : V.cell? ⟨w.heap.size, 9, none⟩ = some (.string n9) := cell_on hb5 c9
        have q9 : V.cell? ⟨w.heap.size + 1, 9, none⟩ = some (.string nB9) := cell_on hb5 d9
        have HK : Hid (∀ X, Below V.heap.size V X → X.cell? ⟨w.heap.size, 0, none⟩ = some (.int .i64 n0) ∧ X.cell? ⟨w.heap.size, 1, none⟩ = some (.int .i64 n1) ∧ X.cell? ⟨w.heap.size, 2, none⟩ = some (.int .i64 n2) ∧ X.cell? ⟨w.heap.size, 3, none⟩ = some (.int .i64 n3) ∧ X.cell? ⟨w.heap.size, 4, none⟩ = some (.int .i64 n4) ∧ X.cell? ⟨w.heap.size, 5, none⟩ = some (.int .i64 n5) ∧ X.cell? ⟨w.heap.size, 6, none⟩ = some (.int .i64 n6) ∧ X.cell? ⟨w.heap.size, 7, none⟩ = some (.bool n7) ∧ X.cell? ⟨w.heap.size, 8, none⟩ = some (.slice ad8 n8.length cp8) ∧ X.cell? ⟨w.heap.size, 9, none⟩ = some (.string n9) ∧ X.cell? ⟨w.heap.size + 1, 0, none⟩ = some (.int .i64 nB0) ∧ X.cell? ⟨w.heap.size + 1, 1, none⟩ = some (.int .i64 nB1) ∧ X.cell? ⟨w.heap.size + 1, 2, none⟩ = some (.int .i64 nB2) ∧ X.cell? ⟨w.heap.size + 1, 3, none⟩ = some (.int .i64 nB3) ∧ X.cell? ⟨w.heap.size + 1, 4, none⟩ = some (.int .i64 nB4) ∧ X.cell? ⟨w.heap.size + 1, 5, none⟩ = some (.int .i64 nB5) ∧ X.cell? ⟨w.heap.size + 1, 6, none⟩ = some (.int .i64 nB6) ∧ X.cell? ⟨w.heap.size + 1, 7, none⟩ = some (.bool nB7) ∧ X.cell? ⟨w.heap.size + 1, 8, none⟩ = some (.slice adB8 nB8.length cpB8) ∧ X.cell? ⟨w.heap.size + 1, 9, none⟩ = some (.string nB9) ∧ Hid (Below V.heap.size V X)) := fun X z => ⟨cell_on z p0, cell_on z p1, cell_on z p2, cell_on z p3, cell_on z p4, cell_on z p5, cell_on z p6, cell_on z p7, cell_on z p8, cell_on z p9, cell_on z q0, cell_on z q1, cell_on z q2, cell_on z q3, cell_on z q4, cell_on z q5, cell_on z q6, cell_on z q7, cell_on z q8, cell_on z q9, Lib.hid z⟩
        have HVV := Lib.hid hV
        have g1 : ∀ X q, q = #[.int .i64 nB0, .int .i64 nB1, .int .i64 nB2, .int .i64 nB3, .int .i64 nB4, .int .i64 nB5, .int .i64 nB6, .bool nB7, .slice adB8 nB8.length cpB8, .string nB9] → Below V.heap.size V X → Calls Try.prog 5 #[.agg q] X fun e X' => e = .returned (.string G) ∧ Below X.heap.size X X' := fun X q zq z => by rw [zq]; exact hput2 X (bel_trans HBV.out z)
        have g2 : ∀ X q, q = #[.int .i64 nB0, .int .i64 nB1, .int .i64 nB2, .int .i64 nB3, .int .i64 nB4, .int .i64 nB5, .int .i64 nB6, .bool nB7, .slice adB8 nB8.length cpB8, .string nB9] → Below V.heap.size V X → Calls Try.prog 7 #[.agg q] X fun e X' => e = .returned (.string G) ∧ Below X.heap.size X X' := fun X q zq z => by rw [zq]; exact href2 X (bel_trans HBV.out z)
        have g3 : ∀ X q, q = #[.int .i64 n0, .int .i64 n1, .int .i64 n2, .int .i64 n3, .int .i64 n4, .int .i64 n5, .int .i64 n6, .bool n7, .slice ad8 n8.length cp8, .string n9] → Below V.heap.size V X → Calls Try.prog 7 #[.agg q] X fun e X' => e = .returned (.string E) ∧ Below X.heap.size X X' := fun X q zq z => by rw [zq]; exact href X (bel_trans HBV.out z)
        clear hV hb4 hb5 hput2 href href2 c0 d0 c1 d1 c2 d2 c3 d3 c4 d4 c5 d5 c6 d6 c7 d7 c8 d8 c9 d9
        go_upto_region 9 with fail
        rw [← HVV.out]
        go_region_held3 (fun X => X.cell? ⟨w.heap.size, 0, none⟩ = some (.int .i64 n0) ∧ X.cell? ⟨w.heap.size, 1, none⟩ = some (.int .i64 n1) ∧ X.cell? ⟨w.heap.size, 2, none⟩ = some (.int .i64 n2) ∧ X.cell? ⟨w.heap.size, 3, none⟩ = some (.int .i64 n3) ∧ X.cell? ⟨w.heap.size, 4, none⟩ = some (.int .i64 n4) ∧ X.cell? ⟨w.heap.size, 5, none⟩ = some (.int .i64 n5) ∧ X.cell? ⟨w.heap.size, 6, none⟩ = some (.int .i64 n6) ∧ X.cell? ⟨w.heap.size, 7, none⟩ = some (.bool n7) ∧ X.cell? ⟨w.heap.size, 8, none⟩ = some (.slice ad8 n8.length cp8) ∧ X.cell? ⟨w.heap.size, 9, none⟩ = some (.string n9) ∧ X.cell? ⟨w.heap.size + 1, 0, none⟩ = some (.int .i64 nB0) ∧ X.cell? ⟨w.heap.size + 1, 1, none⟩ = some (.int .i64 nB1) ∧ X.cell? ⟨w.heap.size + 1, 2, none⟩ = some (.int .i64 nB2) ∧ X.cell? ⟨w.heap.size + 1, 3, none⟩ = some (.int .i64 nB3) ∧ X.cell? ⟨w.heap.size + 1, 4, none⟩ = some (.int .i64 nB4) ∧ X.cell? ⟨w.heap.size + 1, 5, none⟩ = some (.int .i64 nB5) ∧ X.cell? ⟨w.heap.size + 1, 6, none⟩ = some (.int .i64 nB6) ∧ X.cell? ⟨w.heap.size + 1, 7, none⟩ = some (.bool nB7) ∧ X.cell? ⟨w.heap.size + 1, 8, none⟩ = some (.slice adB8 nB8.length cpB8) ∧ X.cell? ⟨w.heap.size + 1, 9, none⟩ = some (.string nB9) ∧ Hid (Below V.heap.size V X)) (exact HK.out _ (by repeat (first | exact Below.refl _ _ | exact hx.out | apply bel_drew1 | apply bel_alloc))) (first
          | (go_at_call 7; refine Calls.mono (g2 _ _ ?_ ?_) ?_; (focus (exact rfl)); (focus ((repeat (first | exact Below.refl _ _ | exact hx.out | apply bel_drew1 | apply bel_alloc)); done)); rintro ee X ⟨rfl, hy⟩; have hx : Hid (Below V.heap.size V X) := bel_trans (by repeat (first | exact Below.refl _ _ | exact hx.out | apply bel_drew1 | apply bel_alloc)) hy)
          | (go_at_call 7; refine Calls.mono (g3 _ _ ?_ ?_) ?_; (focus (exact rfl)); (focus ((repeat (first | exact Below.refl _ _ | exact hx.out | apply bel_drew1 | apply bel_alloc)); done)); rintro ee X ⟨rfl, hy⟩; have hx : Hid (Below V.heap.size V X) := bel_trans (by repeat (first | exact Below.refl _ _ | exact hx.out | apply bel_drew1 | apply bel_alloc)) hy)
          | (go_at_call 5; refine Calls.mono (g1 _ _ ?_ ?_) ?_; (focus (exact rfl)); (focus ((repeat (first | exact Below.refl _ _ | exact hx.out | apply bel_drew1 | apply bel_alloc)); done)); rintro ee X ⟨rfl, hy⟩; have hx : Hid (Below V.heap.size V X) := bel_trans (by repeat (first | exact Below.refl _ _ | exact hx.out | apply bel_drew1 | apply bel_alloc)) hy))
        all_goals
          go_wp2
          go_ret
          exact ⟨rfl, bel_trans HBV.out hx.out⟩
    | false =>
      clear hbe hless
      cases hme : more.toList.isEmpty with
      | true =>
        simp only [hme, if_true] at hmore
        go_wp2_with (go_at_call 6; refine (hmore _).mono ?_; rintro e w4 ⟨k0, k1, k2, k3, k4, k5, k6, k7, ak, k8, ck, k9, rfl, hb4⟩; refine Hid.out ?_)
        refine Lib.hid ?_
        clear hmore
        obtain ⟨V, hV⟩ : ∃ V, V = w4.alloc (.cells #[.int .i64 k0, .int .i64 k1, .int .i64 k2, .int .i64 k3, .int .i64 k4, .int .i64 k5, .int .i64 k6, .bool k7, .slice ak k8 ck, .string k9] 24) := ⟨_, rfl⟩
        have hb5 : Below w1.heap.size w1 V := by rw [hV]; exact bel_alloc (bel_trans (bel_trans HB2.out (Below.refl _ _)) hb4) _
        have HBV : Hid (Below w.heap.size w V) := bel_trans HB1.out hb5
        have p0 : V.cell? ⟨w.heap.size, 0, none⟩ = some (.int .i64 n0) := cell_on hb5 c0
        have q0 : V.cell? ⟨w.heap.size + 1, 0, none⟩ = some (.int .i64 nB0) := cell_on hb5 d0
        have p1 : V.cell? ⟨w.heap.size, 1, none⟩ = some (.int .i64 n1) := cell_on hb5 c1
        have q1 : V.cell? ⟨w.heap.size + 1, 1, none⟩ = some (.int .i64 nB1) := cell_on hb5 d1
        have p2 : V.cell? ⟨w.heap.size, 2, none⟩ = some (.int .i64 n2) := cell_on hb5 c2
        have q2 : V.cell? ⟨w.heap.size + 1, 2, none⟩ = some (.int .i64 nB2) := cell_on hb5 d2
        have p3 : V.cell? ⟨w.heap.size, 3, none⟩ = some (.int .i64 n3) := cell_on hb5 c3
        have q3 : V.cell? ⟨w.heap.size + 1, 3, none⟩ = some (.int .i64 nB3) := cell_on hb5 d3
        have p4 : V.cell? ⟨w.heap.size, 4, none⟩ = some (.int .i64 n4) := cell_on hb5 c4
        have q4 : V.cell? ⟨w.heap.size + 1, 4, none⟩ = some (.int .i64 nB4) := cell_on hb5 d4
        have p5 : V.cell? ⟨w.heap.size, 5, none⟩ = some (.int .i64 n5) := cell_on hb5 c5
        have q5 : V.cell? ⟨w.heap.size + 1, 5, none⟩ = some (.int .i64 nB5) := cell_on hb5 d5
        have p6 : V.cell? ⟨w.heap.size, 6, none⟩ = some (.int .i64 n6) := cell_on hb5 c6
        have q6 : V.cell? ⟨w.heap.size + 1, 6, none⟩ = some (.int .i64 nB6) := cell_on hb5 d6
        have p7 : V.cell? ⟨w.heap.size, 7, none⟩ = some (.bool n7) := cell_on hb5 c7
        have q7 : V.cell? ⟨w.heap.size + 1, 7, none⟩ = some (.bool nB7) := cell_on hb5 d7
        have p8 : V.cell? ⟨w.heap.size, 8, none⟩ = some (.slice ad8 n8.length cp8) := cell_on hb5 c8
        have q8 : V.cell? ⟨w.heap.size + 1, 8, none⟩ = some (.slice adB8 nB8.length cpB8) := cell_on hb5 d8
        have p9 : V.cell? ⟨w.heap.size, 9, none⟩ = some (.string n9) := cell_on hb5 c9
        have q9 : V.cell? ⟨w.heap.size + 1, 9, none⟩ = some (.string nB9) := cell_on hb5 d9
        have HK : Hid (∀ X, Below V.heap.size V X → X.cell? ⟨w.heap.size, 0, none⟩ = some (.int .i64 n0) ∧ X.cell? ⟨w.heap.size, 1, none⟩ = some (.int .i64 n1) ∧ X.cell? ⟨w.heap.size, 2, none⟩ = some (.int .i64 n2) ∧ X.cell? ⟨w.heap.size, 3, none⟩ = some (.int .i64 n3) ∧ X.cell? ⟨w.heap.size, 4, none⟩ = some (.int .i64 n4) ∧ X.cell? ⟨w.heap.size, 5, none⟩ = some (.int .i64 n5) ∧ X.cell? ⟨w.heap.size, 6, none⟩ = some (.int .i64 n6) ∧ X.cell? ⟨w.heap.size, 7, none⟩ = some (.bool n7) ∧ X.cell? ⟨w.heap.size, 8, none⟩ = some (.slice ad8 n8.length cp8) ∧ X.cell? ⟨w.heap.size, 9, none⟩ = some (.string n9) ∧ X.cell? ⟨w.heap.size + 1, 0, none⟩ = some (.int .i64 nB0) ∧ X.cell? ⟨w.heap.size + 1, 1, none⟩ = some (.int .i64 nB1) ∧ X.cell? ⟨w.heap.size + 1, 2, none⟩ = some (.int .i64 nB2) ∧ X.cell? ⟨w.heap.size + 1, 3, none⟩ = some (.int .i64 nB3) ∧ X.cell? ⟨w.heap.size + 1, 4, none⟩ = some (.int .i64 nB4) ∧ X.cell? ⟨w.heap.size + 1, 5, none⟩ = some (.int .i64 nB5) ∧ X.cell? ⟨w.heap.size + 1, 6, none⟩ = some (.int .i64 nB6) ∧ X.cell? ⟨w.heap.size + 1, 7, none⟩ = some (.bool nB7) ∧ X.cell? ⟨w.heap.size + 1, 8, none⟩ = some (.slice adB8 nB8.length cpB8) ∧ X.cell? ⟨w.heap.size + 1, 9, none⟩ = some (.string nB9) ∧ Hid (Below V.heap.size V X)) := fun X z => ⟨cell_on z p0, cell_on z p1, cell_on z p2, cell_on z p3, cell_on z p4, cell_on z p5, cell_on z p6, cell_on z p7, cell_on z p8, cell_on z p9, cell_on z q0, cell_on z q1, cell_on z q2, cell_on z q3, cell_on z q4, cell_on z q5, cell_on z q6, cell_on z q7, cell_on z q8, cell_on z q9, Lib.hid z⟩
        have HVV := Lib.hid hV
        have g1 : ∀ X q, q = #[.int .i64 nB0, .int .i64 nB1, .int .i64 nB2, .int .i64 nB3, .int .i64 nB4, .int .i64 nB5, .int .i64 nB6, .bool nB7, .slice adB8 nB8.length cpB8, .string nB9] → Below V.heap.size V X → Calls Try.prog 5 #[.agg q] X fun e X' => e = .returned (.string G) ∧ Below X.heap.size X X' := fun X q zq z => by rw [zq]; exact hput2 X (bel_trans HBV.out z)
        have g2 : ∀ X q, q = #[.int .i64 nB0, .int .i64 nB1, .int .i64 nB2, .int .i64 nB3, .int .i64 nB4, .int .i64 nB5, .int .i64 nB6, .bool nB7, .slice adB8 nB8.length cpB8, .string nB9] → Below V.heap.size V X → Calls Try.prog 7 #[.agg q] X fun e X' => e = .returned (.string G) ∧ Below X.heap.size X X' := fun X q zq z => by rw [zq]; exact href2 X (bel_trans HBV.out z)
        have g3 : ∀ X q, q = #[.int .i64 n0, .int .i64 n1, .int .i64 n2, .int .i64 n3, .int .i64 n4, .int .i64 n5, .int .i64 n6, .bool n7, .slice ad8 n8.length cp8, .string n9] → Below V.heap.size V X → Calls Try.prog 7 #[.agg q] X fun e X' => e = .returned (.string E) ∧ Below X.heap.size X X' := fun X q zq z => by rw [zq]; exact href X (bel_trans HBV.out z)
        clear hV hb4 hb5 hput2 href href2 c0 d0 c1 d1 c2 d2 c3 d3 c4 d4 c5 d5 c6 d6 c7 d7 c8 d8 c9 d9
        go_upto_region 9 with fail
        rw [← HVV.out]
        go_region_held3 (fun X => X.cell? ⟨w.heap.size, 0, none⟩ = some (.int .i64 n0) ∧ X.cell? ⟨w.heap.size, 1, none⟩ = some (.int .i64 n1) ∧ X.cell? ⟨w.heap.size, 2, none⟩ = some (.int .i64 n2) ∧ X.cell? ⟨w.heap.size, 3, none⟩ = some (.int .i64 n3) ∧ X.cell? ⟨w.heap.size, 4, none⟩ = some (.int .i64 n4) ∧ X.cell? ⟨w.heap.size, 5, none⟩ = some (.int .i64 n5) ∧ X.cell? ⟨w.heap.size, 6, none⟩ = some (.int .i64 n6) ∧ X.cell? ⟨w.heap.size, 7, none⟩ = some (.bool n7) ∧ X.cell? ⟨w.heap.size, 8, none⟩ = some (.slice ad8 n8.length cp8) ∧ X.cell? ⟨w.heap.size, 9, none⟩ = some (.string n9) ∧ X.cell? ⟨w.heap.size + 1, 0, none⟩ = some (.int .i64 nB0) ∧ X.cell? ⟨w.heap.size + 1, 1, none⟩ = some (.int .i64 nB1) ∧ X.cell? ⟨w.heap.size + 1, 2, none⟩ = some (.int .i64 nB2) ∧ X.cell? ⟨w.heap.size + 1, 3, none⟩ = some (.int .i64 nB3) ∧ X.cell? ⟨w.heap.size + 1, 4, none⟩ = some (.int .i64 nB4) ∧ X.cell? ⟨w.heap.size + 1, 5, none⟩ = some (.int .i64 nB5) ∧ X.cell? ⟨w.heap.size + 1, 6, none⟩ = some (.int .i64 nB6) ∧ X.cell? ⟨w.heap.size + 1, 7, none⟩ = some (.bool nB7) ∧ X.cell? ⟨w.heap.size + 1, 8, none⟩ = some (.slice adB8 nB8.length cpB8) ∧ X.cell? ⟨w.heap.size + 1, 9, none⟩ = some (.string nB9) ∧ Hid (Below V.heap.size V X)) (exact HK.out _ (by repeat (first | exact Below.refl _ _ | exact hx.out | apply bel_drew1 | apply bel_alloc))) (first
          | (go_at_call 7; refine Calls.mono (g2 _ _ ?_ ?_) ?_; (focus (exact rfl)); (focus ((repeat (first | exact Below.refl _ _ | exact hx.out | apply bel_drew1 | apply bel_alloc)); done)); rintro ee X ⟨rfl, hy⟩; have hx : Hid (Below V.heap.size V X) := bel_trans (by repeat (first | exact Below.refl _ _ | exact hx.out | apply bel_drew1 | apply bel_alloc)) hy)
          | (go_at_call 7; refine Calls.mono (g3 _ _ ?_ ?_) ?_; (focus (exact rfl)); (focus ((repeat (first | exact Below.refl _ _ | exact hx.out | apply bel_drew1 | apply bel_alloc)); done)); rintro ee X ⟨rfl, hy⟩; have hx : Hid (Below V.heap.size V X) := bel_trans (by repeat (first | exact Below.refl _ _ | exact hx.out | apply bel_drew1 | apply bel_alloc)) hy)
          | (go_at_call 5; refine Calls.mono (g1 _ _ ?_ ?_) ?_; (focus (exact rfl)); (focus ((repeat (first | exact Below.refl _ _ | exact hx.out | apply bel_drew1 | apply bel_alloc)); done)); rintro ee X ⟨rfl, hy⟩; have hx : Hid (Below V.heap.size V X) := bel_trans (by repeat (first | exact Below.refl _ _ | exact hx.out | apply bel_drew1 | apply bel_alloc)) hy))
        all_goals
          go_wp2
          go_ret
          exact ⟨rfl, bel_trans HBV.out hx.out⟩
      | false =>
        simp only [hme, Bool.false_eq_true, if_false] at hmore
        go_wp2_with (go_at_call 6; refine (hmore _).mono ?_; rintro e w4 ⟨k0, k1, k2, k3, k4, k5, k6, k7, ak, k8, ck, k9, rfl, hb4⟩; refine Hid.out ?_)
        refine Lib.hid ?_
        clear hmore
        obtain ⟨V, hV⟩ : ∃ V, V = w4.alloc (.cells #[.int .i64 k0, .int .i64 k1, .int .i64 k2, .int .i64 k3, .int .i64 k4, .int .i64 k5, .int .i64 k6, .bool k7, .slice ak k8 ck, .string k9] 24) := ⟨_, rfl⟩
        have hb5 : Below w1.heap.size w1 V := by rw [hV]; exact bel_alloc (bel_trans (bel_trans HB2.out (Below.refl _ _)) hb4) _
        have HBV : Hid (Below w.heap.size w V) := bel_trans HB1.out hb5
        have p0 : V.cell? ⟨w.heap.size, 0, none⟩ = some (.int .i64 n0) := cell_on hb5 c0
        have q0 : V.cell? ⟨w.heap.size + 1, 0, none⟩ = some (.int .i64 nB0) := cell_on hb5 d0
        have p1 : V.cell? ⟨w.heap.size, 1, none⟩ = some (.int .i64 n1) := cell_on hb5 c1
        have q1 : V.cell? ⟨w.heap.size + 1, 1, none⟩ = some (.int .i64 nB1) := cell_on hb5 d1
        have p2 : V.cell? ⟨w.heap.size, 2, none⟩ = some (.int .i64 n2) := cell_on hb5 c2
        have q2 : V.cell? ⟨w.heap.size + 1, 2, none⟩ = some (.int .i64 nB2) := cell_on hb5 d2
        have p3 : V.cell? ⟨w.heap.size, 3, none⟩ = some (.int .i64 n3) := cell_on hb5 c3
        have q3 : V.cell? ⟨w.heap.size + 1, 3, none⟩ = some (.int .i64 nB3) := cell_on hb5 d3
        have p4 : V.cell? ⟨w.heap.size, 4, none⟩ = some (.int .i64 n4) := cell_on hb5 c4
        have q4 : V.cell? ⟨w.heap.size + 1, 4, none⟩ = some (.int .i64 nB4) := cell_on hb5 d4
        have p5 : V.cell? ⟨w.heap.size, 5, none⟩ = some (.int .i64 n5) := cell_on hb5 c5
        have q5 : V.cell? ⟨w.heap.size + 1, 5, none⟩ = some (.int .i64 nB5) := cell_on hb5 d5
        have p6 : V.cell? ⟨w.heap.size, 6, none⟩ = some (.int .i64 n6) := cell_on hb5 c6
        have q6 : V.cell? ⟨w.heap.size + 1, 6, none⟩ = some (.int .i64 nB6) := cell_on hb5 d6
        have p7 : V.cell? ⟨w.heap.size, 7, none⟩ = some (.bool n7) := cell_on hb5 c7
        have q7 : V.cell? ⟨w.heap.size + 1, 7, none⟩ = some (.bool nB7) := cell_on hb5 d7
        have p8 : V.cell? ⟨w.heap.size, 8, none⟩ = some (.slice ad8 n8.length cp8) := cell_on hb5 c8
        have q8 : V.cell? ⟨w.heap.size + 1, 8, none⟩ = some (.slice adB8 nB8.length cpB8) := cell_on hb5 d8
        have p9 : V.cell? ⟨w.heap.size, 9, none⟩ = some (.string n9) := cell_on hb5 c9
        have q9 : V.cell? ⟨w.heap.size + 1, 9, none⟩ = some (.string nB9) := cell_on hb5 d9
        have HK : Hid (∀ X, Below V.heap.size V X → X.cell? ⟨w.heap.size, 0, none⟩ = some (.int .i64 n0) ∧ X.cell? ⟨w.heap.size, 1, none⟩ = some (.int .i64 n1) ∧ X.cell? ⟨w.heap.size, 2, none⟩ = some (.int .i64 n2) ∧ X.cell? ⟨w.heap.size, 3, none⟩ = some (.int .i64 n3) ∧ X.cell? ⟨w.heap.size, 4, none⟩ = some (.int .i64 n4) ∧ X.cell? ⟨w.heap.size, 5, none⟩ = some (.int .i64 n5) ∧ X.cell? ⟨w.heap.size, 6, none⟩ = some (.int .i64 n6) ∧ X.cell? ⟨w.heap.size, 7, none⟩ = some (.bool n7) ∧ X.cell? ⟨w.heap.size, 8, none⟩ = some (.slice ad8 n8.length cp8) ∧ X.cell? ⟨w.heap.size, 9, none⟩ = some (.string n9) ∧ X.cell? ⟨w.heap.size + 1, 0, none⟩ = some (.int .i64 nB0) ∧ X.cell? ⟨w.heap.size + 1, 1, none⟩ = some (.int .i64 nB1) ∧ X.cell? ⟨w.heap.size + 1, 2, none⟩ = some (.int .i64 nB2) ∧ X.cell? ⟨w.heap.size + 1, 3, none⟩ = some (.int .i64 nB3) ∧ X.cell? ⟨w.heap.size + 1, 4, none⟩ = some (.int .i64 nB4) ∧ X.cell? ⟨w.heap.size + 1, 5, none⟩ = some (.int .i64 nB5) ∧ X.cell? ⟨w.heap.size + 1, 6, none⟩ = some (.int .i64 nB6) ∧ X.cell? ⟨w.heap.size + 1, 7, none⟩ = some (.bool nB7) ∧ X.cell? ⟨w.heap.size + 1, 8, none⟩ = some (.slice adB8 nB8.length cpB8) ∧ X.cell? ⟨w.heap.size + 1, 9, none⟩ = some (.string nB9) ∧ Hid (Below V.heap.size V X)) := fun X z => ⟨cell_on z p0, cell_on z p1, cell_on z p2, cell_on z p3, cell_on z p4, cell_on z p5, cell_on z p6, cell_on z p7, cell_on z p8, cell_on z p9, cell_on z q0, cell_on z q1, cell_on z q2, cell_on z q3, cell_on z q4, cell_on z q5, cell_on z q6, cell_on z q7, cell_on z q8, cell_on z q9, Lib.hid z⟩
        have HVV := Lib.hid hV
        have g1 : ∀ X q, q = #[.int .i64 nB0, .int .i64 nB1, .int .i64 nB2, .int .i64 nB3, .int .i64 nB4, .int .i64 nB5, .int .i64 nB6, .bool nB7, .slice adB8 nB8.length cpB8, .string nB9] → Below V.heap.size V X → Calls Try.prog 5 #[.agg q] X fun e X' => e = .returned (.string G) ∧ Below X.heap.size X X' := fun X q zq z => by rw [zq]; exact hput2 X (bel_trans HBV.out z)
        have g2 : ∀ X q, q = #[.int .i64 nB0, .int .i64 nB1, .int .i64 nB2, .int .i64 nB3, .int .i64 nB4, .int .i64 nB5, .int .i64 nB6, .bool nB7, .slice adB8 nB8.length cpB8, .string nB9] → Below V.heap.size V X → Calls Try.prog 7 #[.agg q] X fun e X' => e = .returned (.string G) ∧ Below X.heap.size X X' := fun X q zq z => by rw [zq]; exact href2 X (bel_trans HBV.out z)
        have g3 : ∀ X q, q = #[.int .i64 n0, .int .i64 n1, .int .i64 n2, .int .i64 n3, .int .i64 n4, .int .i64 n5, .int .i64 n6, .bool n7, .slice ad8 n8.length cp8, .string n9] → Below V.heap.size V X → Calls Try.prog 7 #[.agg q] X fun e X' => e = .returned (.string E) ∧ Below X.heap.size X X' := fun X q zq z => by rw [zq]; exact href X (bel_trans HBV.out z)
        clear hV hb4 hb5 hput2 href href2 c0 d0 c1 d1 c2 d2 c3 d3 c4 d4 c5 d5 c6 d6 c7 d7 c8 d8 c9 d9
        go_upto_region 9 with fail
        rw [← HVV.out]
        go_region_held3 (fun X => X.cell? ⟨w.heap.size, 0, none⟩ = some (.int .i64 n0) ∧ X.cell? ⟨w.heap.size, 1, none⟩ = some (.int .i64 n1) ∧ X.cell? ⟨w.heap.size, 2, none⟩ = some (.int .i64 n2) ∧ X.cell? ⟨w.heap.size, 3, none⟩ = some (.int .i64 n3) ∧ X.cell? ⟨w.heap.size, 4, none⟩ = some (.int .i64 n4) ∧ X.cell? ⟨w.heap.size, 5, none⟩ = some (.int .i64 n5) ∧ X.cell? ⟨w.heap.size, 6, none⟩ = some (.int .i64 n6) ∧ X.cell? ⟨w.heap.size, 7, none⟩ = some (.bool n7) ∧ X.cell? ⟨w.heap.size, 8, none⟩ = some (.slice ad8 n8.length cp8) ∧ X.cell? ⟨w.heap.size, 9, none⟩ = some (.string n9) ∧ X.cell? ⟨w.heap.size + 1, 0, none⟩ = some (.int .i64 nB0) ∧ X.cell? ⟨w.heap.size + 1, 1, none⟩ = some (.int .i64 nB1) ∧ X.cell? ⟨w.heap.size + 1, 2, none⟩ = some (.int .i64 nB2) ∧ X.cell? ⟨w.heap.size + 1, 3, none⟩ = some (.int .i64 nB3) ∧ X.cell? ⟨w.heap.size + 1, 4, none⟩ = some (.int .i64 nB4) ∧ X.cell? ⟨w.heap.size + 1, 5, none⟩ = some (.int .i64 nB5) ∧ X.cell? ⟨w.heap.size + 1, 6, none⟩ = some (.int .i64 nB6) ∧ X.cell? ⟨w.heap.size + 1, 7, none⟩ = some (.bool nB7) ∧ X.cell? ⟨w.heap.size + 1, 8, none⟩ = some (.slice adB8 nB8.length cpB8) ∧ X.cell? ⟨w.heap.size + 1, 9, none⟩ = some (.string nB9) ∧ Hid (Below V.heap.size V X)) (exact HK.out _ (by repeat (first | exact Below.refl _ _ | exact hx.out | apply bel_drew1 | apply bel_alloc))) (first
          | (go_at_call 7; refine Calls.mono (g2 _ _ ?_ ?_) ?_; (focus (exact rfl)); (focus ((repeat (first | exact Below.refl _ _ | exact hx.out | apply bel_drew1 | apply bel_alloc)); done)); rintro ee X ⟨rfl, hy⟩; have hx : Hid (Below V.heap.size V X) := bel_trans (by repeat (first | exact Below.refl _ _ | exact hx.out | apply bel_drew1 | apply bel_alloc)) hy)
          | (go_at_call 7; refine Calls.mono (g3 _ _ ?_ ?_) ?_; (focus (exact rfl)); (focus ((repeat (first | exact Below.refl _ _ | exact hx.out | apply bel_drew1 | apply bel_alloc)); done)); rintro ee X ⟨rfl, hy⟩; have hx : Hid (Below V.heap.size V X) := bel_trans (by repeat (first | exact Below.refl _ _ | exact hx.out | apply bel_drew1 | apply bel_alloc)) hy)
          | (go_at_call 5; refine Calls.mono (g1 _ _ ?_ ?_) ?_; (focus (exact rfl)); (focus ((repeat (first | exact Below.refl _ _ | exact hx.out | apply bel_drew1 | apply bel_alloc)); done)); rintro ee X ⟨rfl, hy⟩; have hx : Hid (Below V.heap.size V X) := bel_trans (by repeat (first | exact Below.refl _ _ | exact hx.out | apply bel_drew1 | apply bel_alloc)) hy))
        all_goals
          go_wp2
          go_ret
          exact ⟨rfl, bel_trans HBV.out hx.out⟩
end Go.Proofs.Ytjhgmncmcklnkab
