/- awake. -/
import Derived.Test.YtbepekgaipipjaaRr
import Derived.Test.YtbepekgaipipjaaRe
import Derived.Test.YtbepekgaipipjaaRg
namespace Go.Proofs.Ytbepekgaipipjaa
open Go.RowKit
def awA : List Wr := changesP (tab 2) (rowC 5 1) (rowC 5 2)
def awB : List Wr := changesP (tab 1) [] (rowC 5 1)
theorem awA_len : awA.map (·.dead) = [false, true, false] := by decide +kernel
theorem awB_len : awB.length = 1 := by decide +kernel
theorem awK : keyA (encS [nv 1, nv 4, nv 1, nv 5]) = nv 5 := by decide +kernel
theorem awE : keyE (encS [nv 1, nv 4, nv 1, nv 5]) = 0 := by decide +kernel
theorem awA_3 : awA.length = 3 := by have := congrArg List.length awA_len; simpa using this
theorem awA_at : ∀ (i : Nat) (h : i < awA.length), some awA[i].dead = [false, true, false][i]? := fun i h => by
  have := congrArg (·[i]?) awA_len
  simp only [List.getElem?_map, List.getElem?_eq_getElem h, Option.map_some] at this
  exact this
theorem fit5 {n : Int} (h0 : 0 ≤ n) (h1 : n ≤ 9) : Fit n := ⟨by omega, by omega⟩
set_option maxHeartbeats 8000000 in
set_option maxRecDepth 100000 in
theorem awake_any (w : World) : Calls Try.prog 10 #[] w fun e w' => e = .returned (.bool true) ∧ Below w.heap.size w w' := by
  go_enter Try.func10, Try.ntmps10
  go_wp2_with (go_at_call 36; refine (tab_yes 2 (by decide) _).mono ?_; rintro e w1 ⟨cv, iv, kv, rfl, h3, b1⟩; refine Hid.out ?_)
  refine Lib.hid ?_
  go_wp2_with (go_at_call 37; refine (cells_any 5 1 _).mono ?_; rintro e w2 ⟨u1, rfl, hu1, b2⟩; refine Hid.out ?_)
  refine Lib.hid ?_
  go_wp2_with (go_at_call 37; refine (cells_any 5 2 _).mono ?_; rintro e w3 ⟨u2, rfl, hu2, b3⟩; refine Hid.out ?_)
  refine Lib.hid ?_
  have hch := changes_any ((h3.on b2).on b3) (hu1.on ceE_held b3) hu2 (tab_in 2 (rowC_fit (fit5 (by decide) (by decide)) (fit5 (by decide) (by decide))) (rowC_fit (fit5 (by decide) (by decide)) (fit5 (by decide) (by decide))) (by decide))
  have HB3 := Lib.hid (bgo (bgo b1 b2) b3)
  clear h3 hu1 hu2 b1 b2 b3
  go_wp2_with (go_at_call 28; refine hch.mono ?_; rintro e w4 ⟨l1, rfl, hl1, b4⟩; refine Hid.out ?_)
  refine Lib.hid ?_
  have HL1 : Hid (Lr wrE 3 w4 awA l1) := Lib.hid hl1
  have HB4 := Lib.hid (HB3.out.trans (b4.mono HB3.out.size))
  clear hch hl1 b4 HB3
  go_wp2_with (go_at_call 36; refine (tab_yes 1 (by decide) _).mono ?_; rintro e w5 ⟨cv', iv', kv', rfl, h3, b5⟩; refine Hid.out ?_)
  refine Lib.hid ?_
  go_wp2_with (go_at_call 37; refine (cells_any 5 1 _).mono ?_; rintro e w6 ⟨u3, rfl, hu3, b6⟩; refine Hid.out ?_)
  refine Lib.hid ?_
  have hch := changes_any (old := []) (ov := .slice none 0 0) (h3.on b6) lr_nil hu3 (tab_in 1 (fun c hc => by cases hc) (rowC_fit (fit5 (by decide) (by decide)) (fit5 (by decide) (by decide))) (by decide))
  have HB6 := Lib.hid (bgo HB4.out (bgo b5 b6))
  have HL6 := Lib.hid (HL1.out.on wrE_held (bgo b5 b6))
  clear h3 hu3 b5 b6 HB4 HL1
  go_wp2_with (go_at_call 28; refine hch.mono ?_; rintro e w7 ⟨l2, rfl, hl2, b7⟩; refine Hid.out ?_)
  refine Lib.hid ?_
  have HL7 := Lib.hid (HL6.out.on wrE_held b7)
  have HM7 : Hid (Lr wrE 3 w7 awB l2) := Lib.hid hl2
  have HB7 := Lib.hid (bgo HB6.out b7)
  clear hch hl2 b7 HB6 HL6
  go_wp2_with (go_at_call 17; refine (num_any _ _).mono ?_; rintro e w8 ⟨rfl, b8⟩; refine Hid.out ?_)
  refine Lib.hid ?_
  go_wp2_with (go_at_call 17; refine (num_any _ _).mono ?_; rintro e w9 ⟨rfl, b9⟩; refine Hid.out ?_)
  refine Lib.hid ?_
  have hen := entry_any (id := 4) (v := nv 1) (k := nv 5) (fit5 (by decide) (by decide)) (fit5 (by decide) (by decide)) (fit5 (by decide) (by decide)) w9
  have HB9 := Lib.hid (bgo HB7.out (bgo b8 b9))
  have HL9 := Lib.hid (HL7.out.on wrE_held (bgo b8 b9))
  have HM9 := Lib.hid (HM7.out.on wrE_held (bgo b8 b9))
  clear b8 b9 HB7 HL7 HM7
  go_wp2_with (go_at_call 13; refine hen.mono ?_; rintro e w10 ⟨rfl, b10⟩; refine Hid.out ?_)
  refine Lib.hid ?_
  have hk := keyLast_any (bs (encS [nv 1, nv 4, nv 1, nv 5])) w10 (by rw [bs_size]; have := encS_len (L := [nv 1, nv 4, nv 1, nv 5]) ⟨fun v hv => by simp at hv; rcases hv with rfl | rfl | rfl | rfl <;> exact fit5 (by decide) (by decide)⟩; unfold maxLen; omega)
  rw [bs_data, awK, awE] at hk
  have HB10 := Lib.hid (bgo HB9.out b10)
  have HL10 := Lib.hid (HL9.out.on wrE_held b10)
  have HM10 := Lib.hid (HM9.out.on wrE_held b10)
  clear hen b10 HB9 HL9 HM9
  go_upto_region 4 with (go_at_call 20; refine hk.mono ?_; rintro e w11 ⟨rfl, b11⟩; refine Hid.out ?_)
  refine Lib.hid ?_
  obtain ⟨V, hV⟩ : ∃ V, V = w11.alloc (.cells (vlA (nv 5)) 23) := ⟨_, rfl⟩
  obtain ⟨K, hK⟩ : ∃ K, w11.heap.size = K := ⟨_, rfl⟩
  have bV : Below w11.heap.size w11 V := by rw [hV]; exact bnew _ _
  have jK : V.heap[K]? = some (.cells (vlA (nv 5)) 23 (0, 0)) := by rw [hV, ← hK]; exact heap_alloc_new w11 _
  have HBV := Lib.hid (bgo HB10.out (bgo b11 bV))
  have hL := HL10.out.on wrE_held (bgo b11 bV)
  have hM := HM10.out.on wrE_held (bgo b11 bV)
  obtain ⟨a1, c1, rfl, _⟩ := hL.shape
  obtain ⟨_, _, _, g1⟩ := hL.at3
  obtain ⟨b1, o1, rfl, _, _, _, e1⟩ := g1 1 (by rw [awA_3]; decide)
  obtain ⟨_, _, q, _, _, _, e2⟩ := g1 2 (by rw [awA_3]; decide)
  cases q
  rw [show (awA[1]'(by rw [awA_3]; decide)).dead = true from Option.some.inj (awA_at 1 _)] at e1
  rw [show (awA[2]'(by rw [awA_3]; decide)).dead = false from Option.some.inj (awA_at 2 _)] at e2
  obtain ⟨a2, c2, rfl, _⟩ := hM.shape
  rw [awA_3, awB_len]
  have k0 : V.cell? ⟨K, 0, none⟩ = some (.int .i64 (nv 5).k) := cell_blk jK 0
  have k1 : V.cell? ⟨K, 0 + 1, none⟩ = some (.int .i64 (nv 5).n) := cell_blk jK 1
  have k2 : V.cell? ⟨K, 0 + 2, none⟩ = some (.string (nv 5).s) := cell_blk jK 2
  have HV := Lib.hid hV
  have HK := Lib.hid hK
  clear hk b11 hL hM g1 hV hK bV jK HL10 HM10
  go_upto_region 4 with fail
  rw [← HV.out, HK.out]
  refine wp_region_fb (fun _ X9 => Below V.heap.size V X9) (fun X9 X8 => Below X9.heap.size X9 X8) [
    fun v9 _ => v9 = .slice (some ⟨b1, o1, none⟩) 3 c1,
    fun v9 _ => v9 = .int .i64 ((3 : Nat) : Int),
    fun v9 _ => v9 = .bool true,
    fun v9 _ => v9 = .bool true,
    fun v9 _ => v9 = .slice (some ⟨b1, o1, none⟩) 3 c1,
    fun v9 _ => v9 = .pointer (some ⟨b1, o1 + 1 * 3, none⟩),
    fun v9 _ => v9 = .pointer (some ⟨b1, o1 + 1 * 3 + 2, none⟩),
    fun v9 _ => v9 = .bool true,
    fun v9 _ => v9 = .bool true,
    fun v9 _ => v9 = .bool true,
    fun v9 _ => v9 = .slice (some ⟨b1, o1, none⟩) 3 c1,
    fun v9 _ => v9 = .pointer (some ⟨b1, o1 + 2 * 3, none⟩),
    fun v9 _ => v9 = .pointer (some ⟨b1, o1 + 2 * 3 + 2, none⟩),
    fun v9 _ => v9 = .bool false,
    fun v9 _ => v9 = .bool true,
    fun v9 _ => v9 = .bool true,
    fun v9 _ => v9 = .bool true,
    fun v9 _ => v9 = .slice a2 1 c2,
    fun v9 _ => v9 = .int .i64 ((1 : Nat) : Int),
    fun v9 _ => v9 = .bool true,
    fun v9 _ => v9 = .bool true,
    fun v9 _ => v9 = .bool true,
    fun v9 _ => v9 = vlV (nv 5),
    fun v9 _ => v9 = vlV (nv 5),
    fun v9 _ => v9 = .bool true,
    fun v9 _ => v9 = .bool true,
    fun v9 _ => v9 = .bool true,
    fun v9 _ => v9 = .int .i64 0,
    fun v9 _ => v9 = .bool true,
    fun v9 _ => v9 = .bool true,
    fun v9 _ => v9 = .bool true]
    (by kernel_rfl) (by kernel_rfl) (by kernel_rfl) ?st ?g0 ?os ?en
  case st => exact ⟨fun _ _ _ _ h => h, fun _ _ _ _ h => h, fun _ _ _ _ h => h, fun _ _ _ _ h => h, fun _ _ _ _ h => h, fun _ _ _ _ h => h, fun _ _ _ _ h => h, fun _ _ _ _ h => h, fun _ _ _ _ h => h, fun _ _ _ _ h => h, fun _ _ _ _ h => h, fun _ _ _ _ h => h, fun _ _ _ _ h => h, fun _ _ _ _ h => h, fun _ _ _ _ h => h, fun _ _ _ _ h => h, fun _ _ _ _ h => h, fun _ _ _ _ h => h, fun _ _ _ _ h => h, fun _ _ _ _ h => h, fun _ _ _ _ h => h, fun _ _ _ _ h => h, fun _ _ _ _ h => h, fun _ _ _ _ h => h, fun _ _ _ _ h => h, fun _ _ _ _ h => h, fun _ _ _ _ h => h, fun _ _ _ _ h => h, fun _ _ _ _ h => h, fun _ _ _ _ h => h, fun _ _ _ _ h => h, trivial⟩
  case g0 => exact ⟨rfl, rfl, rfl, Nat.le_refl _, fun _ _ => rfl⟩
  case os =>
    refine ⟨?_, ?_, ?_, ?_, ?_, ?_, ?_, ?_, ?_, ?_, ?_, ?_, ?_, ?_, ?_, ?_, ?_, ?_, ?_, ?_, ?_, ?_, ?_, ?_, ?_, ?_, ?_, ?_, ?_, ?_, ?_, trivial⟩
    · exact fun ρ X9 fl hg hn hl hp ho hc hf hr => .inl ⟨rfl, Runs.val _ (op_move (show ρ (.tmp 1) = .slice (some ⟨b1, o1, none⟩) 3 c1 from ho 1 rfl)) ⟨hg, Below.refl _ _, rfl⟩⟩
    · exact fun ρ X9 fl hg hn hl hp ho hc hf hr => .inl ⟨rfl, Runs.val _ (op_len57 (show ρ (.tmp 19) = .slice (some ⟨b1, o1, none⟩) 3 c1 from hr 0 19 rfl rfl)) ⟨hg, Below.refl _ _, rfl⟩⟩
    · exact fun ρ X9 fl hg hn hl hp ho hc hf hr => .inl ⟨rfl, Runs.val _ (op_eql3 (show ρ (.tmp 20) = .int .i64 ((3 : Nat) : Int) from hr 1 20 rfl rfl) (hc _) (b := true) (by decide)) ⟨hg, Below.refl _ _, rfl⟩⟩
    · exact fun ρ X9 fl hg hn hl hp ho hc hf hr => .inl ⟨rfl, Runs.val _ (op_move (show ρ (.tmp 21) = .bool true from hr 2 21 rfl rfl)) ⟨hg, Below.refl _ _, rfl⟩⟩
    · exact fun ρ X9 fl hg hn hl hp ho hc hf hr => .inr (.inl ⟨3, 22, true, fun _ => rfl, rfl, hr 3 22 rfl rfl, Runs.val _ (op_move (show ρ (.tmp 1) = .slice (some ⟨b1, o1, none⟩) 3 c1 from ho 1 rfl)) ⟨hg, Below.refl _ _, rfl⟩⟩)
    · exact fun ρ X9 fl hg hn hl hp ho hc hf hr => .inr (.inl ⟨3, 22, true, fun _ => rfl, rfl, hr 3 22 rfl rfl, Runs.val _ (op_i57 (show ρ (.tmp 23) = .slice (some ⟨b1, o1, none⟩) 3 c1 from hr 4 23 rfl rfl) (i := 1) (hc _) (by decide)) ⟨hg, Below.refl _ _, rfl⟩⟩)
    · exact fun ρ X9 fl hg hn hl hp ho hc hf hr => .inr (.inl ⟨3, 22, true, fun _ => rfl, rfl, hr 3 22 rfl rfl, Runs.val _ (op_f78_2 (show ρ (.tmp 24) = .pointer (some ⟨b1, o1 + 1 * 3, none⟩) from hr 5 24 rfl rfl)) ⟨hg, Below.refl _ _, rfl⟩⟩)
    · exact fun ρ X9 fl hg hn hl hp ho hc hf hr => .inr (.inl ⟨3, 22, true, fun _ => rfl, rfl, hr 3 22 rfl rfl, Runs.val _ (op_load4 (show ρ (.tmp 25) = .pointer (some ⟨b1, o1 + 1 * 3 + 2, none⟩) from hr 6 25 rfl rfl) (cell_on hg e1)) ⟨hg, Below.refl _ _, rfl⟩⟩)
    · exact fun ρ X9 fl hg hn hl hp ho hc hf hr => .inl ⟨rfl, Runs.val _ (op_pick (show ρ (.tmp 22) = .bool true from hr 3 22 rfl rfl) (show ρ (.tmp 26) = .bool true from hr 7 26 rfl rfl)) ⟨hg, Below.refl _ _, rfl⟩⟩
    · exact fun ρ X9 fl hg hn hl hp ho hc hf hr => .inl ⟨rfl, Runs.val _ (op_move (show ρ (.tmp 27) = .bool true from hr 8 27 rfl rfl)) ⟨hg, Below.refl _ _, rfl⟩⟩
    · exact fun ρ X9 fl hg hn hl hp ho hc hf hr => .inr (.inl ⟨9, 28, true, fun _ => rfl, rfl, hr 9 28 rfl rfl, Runs.val _ (op_move (show ρ (.tmp 1) = .slice (some ⟨b1, o1, none⟩) 3 c1 from ho 1 rfl)) ⟨hg, Below.refl _ _, rfl⟩⟩)
    · exact fun ρ X9 fl hg hn hl hp ho hc hf hr => .inr (.inl ⟨9, 28, true, fun _ => rfl, rfl, hr 9 28 rfl rfl, Runs.val _ (op_i57 (show ρ (.tmp 29) = .slice (some ⟨b1, o1, none⟩) 3 c1 from hr 10 29 rfl rfl) (i := 2) (hc _) (by decide)) ⟨hg, Below.refl _ _, rfl⟩⟩)
    · exact fun ρ X9 fl hg hn hl hp ho hc hf hr => .inr (.inl ⟨9, 28, true, fun _ => rfl, rfl, hr 9 28 rfl rfl, Runs.val _ (op_f78_2 (show ρ (.tmp 30) = .pointer (some ⟨b1, o1 + 2 * 3, none⟩) from hr 11 30 rfl rfl)) ⟨hg, Below.refl _ _, rfl⟩⟩)
    · exact fun ρ X9 fl hg hn hl hp ho hc hf hr => .inr (.inl ⟨9, 28, true, fun _ => rfl, rfl, hr 9 28 rfl rfl, Runs.val _ (op_load4 (show ρ (.tmp 31) = .pointer (some ⟨b1, o1 + 2 * 3 + 2, none⟩) from hr 12 31 rfl rfl) (cell_on hg e2)) ⟨hg, Below.refl _ _, rfl⟩⟩)
    · exact fun ρ X9 fl hg hn hl hp ho hc hf hr => .inr (.inl ⟨9, 28, true, fun _ => rfl, rfl, hr 9 28 rfl rfl, Runs.val _ (op_not (show ρ (.tmp 32) = .bool false from hr 13 32 rfl rfl) ) ⟨hg, Below.refl _ _, rfl⟩⟩)
    · exact fun ρ X9 fl hg hn hl hp ho hc hf hr => .inl ⟨rfl, Runs.val _ (op_pick (show ρ (.tmp 28) = .bool true from hr 9 28 rfl rfl) (show ρ (.tmp 33) = .bool true from hr 14 33 rfl rfl)) ⟨hg, Below.refl _ _, rfl⟩⟩
    · exact fun ρ X9 fl hg hn hl hp ho hc hf hr => .inl ⟨rfl, Runs.val _ (op_move (show ρ (.tmp 34) = .bool true from hr 15 34 rfl rfl)) ⟨hg, Below.refl _ _, rfl⟩⟩
    · exact fun ρ X9 fl hg hn hl hp ho hc hf hr => .inr (.inl ⟨16, 35, true, fun _ => rfl, rfl, hr 16 35 rfl rfl, Runs.val _ (op_move (show ρ (.tmp 2) = .slice a2 1 c2 from ho 2 rfl)) ⟨hg, Below.refl _ _, rfl⟩⟩)
    · exact fun ρ X9 fl hg hn hl hp ho hc hf hr => .inr (.inl ⟨16, 35, true, fun _ => rfl, rfl, hr 16 35 rfl rfl, Runs.val _ (op_len57 (show ρ (.tmp 36) = .slice a2 1 c2 from hr 17 36 rfl rfl)) ⟨hg, Below.refl _ _, rfl⟩⟩)
    · exact fun ρ X9 fl hg hn hl hp ho hc hf hr => .inr (.inl ⟨16, 35, true, fun _ => rfl, rfl, hr 16 35 rfl rfl, Runs.val _ (op_eql3 (show ρ (.tmp 37) = .int .i64 ((1 : Nat) : Int) from hr 18 37 rfl rfl) (hc _) (b := true) (by decide)) ⟨hg, Below.refl _ _, rfl⟩⟩)
    · exact fun ρ X9 fl hg hn hl hp ho hc hf hr => .inl ⟨rfl, Runs.val _ (op_pick (show ρ (.tmp 35) = .bool true from hr 16 35 rfl rfl) (show ρ (.tmp 38) = .bool true from hr 19 38 rfl rfl)) ⟨hg, Below.refl _ _, rfl⟩⟩
    · exact fun ρ X9 fl hg hn hl hp ho hc hf hr => .inl ⟨rfl, Runs.val _ (op_move (show ρ (.tmp 39) = .bool true from hr 20 39 rfl rfl)) ⟨hg, Below.refl _ _, rfl⟩⟩
    · exact fun ρ X9 fl hg hn hl hp ho hc hf hr => .inr (.inl ⟨21, 40, true, fun _ => rfl, rfl, hr 21 40 rfl rfl, Runs.val _ (op_load23 (show ρ (.tmp 3) = .pointer (some ⟨K, 0, none⟩) from ho 3 rfl) (cell_on hg k0) (cell_on hg k1) (cell_on hg k2)) ⟨hg, Below.refl _ _, rfl⟩⟩)
    · intro ρ X9 fl hg hn hl hp ho hc hf hr
      refine .inr (.inl ⟨21, 40, true, fun _ => rfl, rfl, hr 21 40 rfl rfl, ?_⟩)
      refine Runs.goes 17 #[.int .i64 5] (op_call1 hf (by go_simp) (hc _)) ((num_any _ X9).mono ?_)
      rintro e7 w7 ⟨rfl, b7⟩
      exact ⟨_, rfl, bgo hg b7, b7, rfl⟩
    · exact fun ρ X9 fl hg hn hl hp ho hc hf hr => .inr (.inl ⟨21, 40, true, fun _ => rfl, rfl, hr 21 40 rfl rfl, Runs.val _ (op_eql23 (show ρ (.tmp 41) = vlV (nv 5) from hr 22 41 rfl rfl) (show ρ (.tmp 42) = vlV (nv 5) from hr 23 42 rfl rfl) (r := true) (by simp)) ⟨hg, Below.refl _ _, rfl⟩⟩)
    · exact fun ρ X9 fl hg hn hl hp ho hc hf hr => .inl ⟨rfl, Runs.val _ (op_pick (show ρ (.tmp 40) = .bool true from hr 21 40 rfl rfl) (show ρ (.tmp 43) = .bool true from hr 24 43 rfl rfl)) ⟨hg, Below.refl _ _, rfl⟩⟩
    · exact fun ρ X9 fl hg hn hl hp ho hc hf hr => .inl ⟨rfl, Runs.val _ (op_move (show ρ (.tmp 44) = .bool true from hr 25 44 rfl rfl)) ⟨hg, Below.refl _ _, rfl⟩⟩
    · exact fun ρ X9 fl hg hn hl hp ho hc hf hr => .inr (.inl ⟨26, 45, true, fun _ => rfl, rfl, hr 26 45 rfl rfl, Runs.val _ (op_move (show ρ (.tmp 4) = .int .i64 0 from ho 4 rfl)) ⟨hg, Below.refl _ _, rfl⟩⟩)
    · exact fun ρ X9 fl hg hn hl hp ho hc hf hr => .inr (.inl ⟨26, 45, true, fun _ => rfl, rfl, hr 26 45 rfl rfl, Runs.val _ (op_eql34 (show ρ (.tmp 46) = .int .i64 0 from hr 27 46 rfl rfl) (hc _) (b := true) (by decide)) ⟨hg, Below.refl _ _, rfl⟩⟩)
    · exact fun ρ X9 fl hg hn hl hp ho hc hf hr => .inl ⟨rfl, Runs.val _ (op_pick (show ρ (.tmp 45) = .bool true from hr 26 45 rfl rfl) (show ρ (.tmp 47) = .bool true from hr 28 47 rfl rfl)) ⟨hg, Below.refl _ _, rfl⟩⟩
    · exact fun ρ X9 fl hg hn hl hp ho hc hf hr => .inl ⟨rfl, Runs.val _ (op_assign (show ρ (.tmp 48) = .bool true from hr 29 48 rfl rfl)) ⟨hg, Below.refl _ _, rfl⟩⟩
  case en =>
    intro a9 w6 fl hfl b6 hs9 hd9 ho9 hr9
    obtain ⟨x9, hx, hxt⟩ := act_put hs9 hd9 ho9
    have x0 : x9 0 = .bool true := (hxt 0).symm.trans (hr9 30 0 rfl)
    change a9 = putAll _ x9 [19, 20, 21, 22, 23, 24, 25, 26, 27, 28, 29, 30, 31, 32, 33, 34, 35, 36, 37, 38, 39, 40, 41, 42, 43, 44, 45, 46, 47, 48, 0] at hx
    simp only [putAll, Act.put, List.setIfInBounds_toArray, List.set_cons_zero, List.set_cons_succ, x0] at hx
    subst hx
    clear hs9 hd9 ho9 hr9 hfl x0
    generalize x9 19 = z19, x9 20 = z20, x9 21 = z21, x9 22 = z22, x9 23 = z23, x9 24 = z24, x9 25 = z25, x9 26 = z26, x9 27 = z27, x9 28 = z28, x9 29 = z29, x9 30 = z30, x9 31 = z31, x9 32 = z32, x9 33 = z33, x9 34 = z34, x9 35 = z35, x9 36 = z36, x9 37 = z37, x9 38 = z38, x9 39 = z39, x9 40 = z40, x9 41 = z41, x9 42 = z42, x9 43 = z43, x9 44 = z44, x9 45 = z45, x9 46 = z46, x9 47 = z47, x9 48 = z48
    have HB6 := Lib.hid (bgo HBV.out b6)
    clear b6
    go_wp2
    go_ret
    exact ⟨rfl, HB6.out⟩
end Go.Proofs.Ytbepekgaipipjaa
