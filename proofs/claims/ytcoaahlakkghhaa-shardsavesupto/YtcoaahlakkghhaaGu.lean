/- The document's text of rows. -/
import Derived.Test.YtcoaahlakkghhaaGt
namespace Go.Proofs.Ytcoaahlakkghhaa
open Go.RowKit
def veE (_ : World) (v : Ve) (cs : List Value) : Prop := cs = [.int .i64 v.ts, .string v.val, .bool v.dead]
theorem veE_held : Held veE := fun _ _ _ _ _ h => h
def rwE (w : World) (r : Rw) (cs : List Value) : Prop := ∃ sa sc, cs = [.string r.key, .slice sa r.list.length sc] ∧ Lr veE 3 w r.list (.slice sa r.list.length sc)
theorem rwE_held : Held rwE := fun _ _ _ _ hb ⟨sa, sc, e, h⟩ => ⟨sa, sc, e, h.on veE_held hb⟩
theorem ve_own {w : World} {B : Nat} {l : List Ve} {v : Value} (h : w.ownsRow B 125 3 v l.length (veC l)) : Lr veE 3 w l v :=
  Lr.own (f := fun v : Ve => [.int .i64 v.ts, .string v.val, .bool v.dead]) (fun _ => rfl) h
theorem rm_lr {w : World} {B : Nat} {P : List (Rw × Value)} {R : List Rw} {v : Value} (h : Rm w B P v) (hP : P.map Prod.fst = R) : Lr rwE 2 w R v := by
  subst hP
  obtain ⟨ad, cap, e, h0, h1, h2, h3⟩ := Lr.own (f := fun p : Rw × Value => [.string p.1.key, p.2]) (fun _ => rfl) h.own
  refine ⟨ad, cap, by rw [e, List.length_map], h0, by rw [List.length_map]; exact h1, h2, fun i hi => ?_⟩
  have hi' : i < P.length := by rw [List.length_map] at hi; exact hi
  obtain ⟨b, o, cs, a1, a2, a3, a4, a5⟩ := h3 i hi'
  have hE : cs = [.string P[i].1.key, P[i].2] := a3
  obtain ⟨sa, sc, es⟩ := own_shape (h.ls _ (List.getElem_mem hi'))
  refine ⟨b, o, cs, a1, a2, ?_, a4, a5⟩
  rw [List.getElem_map]
  refine ⟨sa, sc, by rw [hE, es], ?_⟩
  rw [← es]
  exact ve_own (h.ls _ (List.getElem_mem hi'))
section
variable {w : World}
set_option maxHeartbeats 4000000 in
set_option maxRecDepth 100000 in
theorem rows_ref {R : List Rw} {v : Value} (hl : Lr rwE 2 w R v) (hz : (rowsL R).length ≤ 1000000000) (hts : ∀ r ∈ R, ∀ x ∈ r.list, I64 x.ts) : Calls Try.prog 39 #[v] w fun e w' => e = .returned (.string (txt (rowsL R))) ∧ Below w.heap.size w w' := by
  have HL := Lib.hid hl
  obtain ⟨ad, cap, rfl, _, _, hcap, _⟩ := hl
  obtain ⟨n, hn⟩ : ∃ n, R.length = n := ⟨_, rfl⟩
  have hmx : (n : Int) ≤ 9223372036854775807 := by unfold maxLen at hcap; omega
  have hnum := num_ref (n : Int) w (by unfold I64; omega)
  have HN := Lib.hid hn
  have HZ := Lib.hid hz
  have HTS := Lib.hid hts
  have hfull : rowsL R = num (n : Int) ++ R.flatMap rw1L := by unfold rowsL; rw [hn]
  rw [hn]
  obtain ⟨pre, hpre⟩ : ∃ pre, num (n : Int) = pre := ⟨_, rfl⟩
  rw [hpre] at hnum hfull
  have HFU := Lib.hid hfull
  clear hn hz hcap hfull hpre hts
  go_enter Try.func39, Try.ntmps39
  go_wp2_with (go_at_call 41; refine hnum.mono ?_; rintro e w1 ⟨rfl, hb1⟩; refine Hid.out ?_)
  refine Lib.hid ?_
  have H0 : Hid (TJ w pre rw1L R w1 (.string (txt pre)) (.int .i64 0)) := Lib.hid ⟨0, Nat.zero_le _, rfl, by rw [List.take_zero]; simp, hb1⟩
  clear hb1 hnum
  go_wp2
  go_loopw [3, 4] (fun ov iv wr => TJ w pre rw1L R wr ov iv) (fun _ iv _ => n - (intOf iv).toNat)
  case atStart => exact H0.out
  case round =>
    clear H0
    obtain ⟨i, hi, rfl, rfl, hb⟩ := hrel
    obtain ⟨V, rfl⟩ : ∃ V, V = wr := ⟨_, rfl⟩
    have hin : i ≤ n := by rw [← HN.out]; exact hi
    by_cases hlt : i < n
    · have hiL : i < R.length := by rw [HN.out]; exact hlt
      have k0 : (0 : Int) ≤ i := by omega
      have k1 : (i : Int) < n := by omega
      obtain ⟨_, _, e1, _, _, _, hcs⟩ := HL.out.on rwE_held hb
      obtain ⟨b, o, cs, ha, hbl, ⟨la, lc, rfl, hlv⟩, _, hcell⟩ := hcs i hiL
      simp only [Value.slice.injEq] at e1
      obtain ⟨rfl, _, rfl⟩ := e1
      subst ha
      have c0 := hcell 0 _ rfl
      have c1 := hcell 1 _ rfl
      simp only [Nat.add_zero] at c0
      have hnx := fm_next rw1L hiL
      have hln : (pre ++ (R.take (i + 1)).flatMap rw1L).length ≤ 1000000000 := by
        have h1 := HZ.out
        rw [HFU.out, List.length_append] at h1
        have h2 := fmy_take rw1L R (i + 1)
        rw [List.length_append]
        omega
      have hti := HTS.out _ (List.getElem_mem hiL)
      obtain ⟨x, hx⟩ : ∃ x, R[i] = x := ⟨_, rfl⟩
      rw [hx] at c0 c1 hnx hlv hti
      obtain ⟨acc, hacc⟩ : ∃ acc, pre ++ (R.take i).flatMap rw1L = acc := ⟨_, rfl⟩
      have hna : pre ++ (R.take (i + 1)).flatMap rw1L = acc ++ rw1L x := by rw [hnx, ← List.append_assoc, hacc]
      rw [hna] at hln
      rw [hacc]
      have HNA := Lib.hid hna
      have HB := Lib.hid hb
      have HLV := Lib.hid hlv
      have HTI := Lib.hid hti
      obtain ⟨m, hm⟩ : ∃ m, x.list.length = m := ⟨_, rfl⟩
      have hmm : (m : Int) ≤ 9223372036854775807 := by
        obtain ⟨_, _, e9, _, h8, h9, _⟩ := hlv
        unfold maxLen at h9
        omega
      have hlx : (rw1L x).length = (textL x.key).length + (num (m : Int)).length + (x.list.flatMap ve1L).length := by unfold rw1L; rw [List.length_append, List.length_append, hm]
      rw [List.length_append] at hln
      have hk1 := textL_len x.key
      have s1 := sum_ok (a := txt acc) (b := txt (textL x.key)) (by rw [txt_size]; omega) (by rw [txt_size]; omega)
      have s2 := sum_ok (a := txt acc ++ txt (textL x.key)) (b := txt (num (m : Int))) (by rw [txt_append, txt_size, List.length_append]; omega) (by rw [txt_size]; omega)
      have HT1 := Lib.hid (fun X => text_ref x.key X (by omega))
      have HT2 := Lib.hid (fun X => num_ref (m : Int) X (by unfold I64; omega))
      obtain ⟨pre2, hp2⟩ : ∃ pre2, acc ++ textL x.key ++ num (m : Int) = pre2 := ⟨_, rfl⟩
      have hend : txt acc ++ txt (textL x.key) ++ txt (num (m : Int)) = txt pre2 := by rw [txt_append, txt_append, hp2]
      have hx2 : acc ++ rw1L x = pre2 ++ x.list.flatMap ve1L := by rw [← hp2]; unfold rw1L; rw [hm]; simp only [List.append_assoc]
      have hl2 : (pre2 ++ x.list.flatMap ve1L).length ≤ 1000000000 := by
        rw [← hx2, List.length_append]
        exact hln
      rw [hm] at c1 HLV
      have HEND := Lib.hid hend
      have HX2 := Lib.hid hx2
      have HL2 := Lib.hid hl2
      have HM := Lib.hid hm
      clear hcs hcell hb hx hnx hna hln hacc hlx hk1 hend hp2 hx2 hl2 hm hlv hti
      go_upto_region 5 with fail
      refine wp_region_fin (fun X9 => Below V.heap.size V X9) (fun X9 X' => Below X9.heap.size X9 X') [
        fun v9 _ => v9 = .string (txt acc),
        fun v9 _ => v9 = .slice (some ⟨b, o, none⟩) n cap,
        fun v9 _ => v9 = .int .i64 (i : Int),
        fun v9 _ => v9 = .pointer (some ⟨b, o + i * 2, none⟩),
        fun v9 _ => v9 = .pointer (some ⟨b, o + i * 2, none⟩),
        fun v9 _ => v9 = .string x.key,
        fun v9 _ => v9 = .string (txt (textL x.key)),
        fun v9 _ => v9 = .string (txt acc ++ txt (textL x.key)),
        fun v9 _ => v9 = .slice (some ⟨b, o, none⟩) n cap,
        fun v9 _ => v9 = .int .i64 (i : Int),
        fun v9 _ => v9 = .pointer (some ⟨b, o + i * 2, none⟩),
        fun v9 _ => v9 = .pointer (some ⟨b, o + i * 2 + 1, none⟩),
        fun v9 _ => v9 = .slice la m lc,
        fun v9 _ => v9 = .int .i64 (m : Int),
        fun v9 _ => v9 = .string (txt (num (m : Int))),
        fun v9 _ => v9 = .string (txt acc ++ txt (textL x.key) ++ txt (num (m : Int)))]
        (fun v9 X9 => v9 = .string (txt acc ++ txt (textL x.key) ++ txt (num (m : Int))) ∧ Below V.heap.size V X9) rfl (by kernel_rfl) (by kernel_rfl) (by kernel_rfl) (by kernel_rfl) ?st ?g0 ?os ?la ?en
      case st => exact ⟨fun _ _ _ _ h => h, fun _ _ _ _ h => h, fun _ _ _ _ h => h, fun _ _ _ _ h => h, fun _ _ _ _ h => h, fun _ _ _ _ h => h, fun _ _ _ _ h => h, fun _ _ _ _ h => h, fun _ _ _ _ h => h, fun _ _ _ _ h => h, fun _ _ _ _ h => h, fun _ _ _ _ h => h, fun _ _ _ _ h => h, fun _ _ _ _ h => h, fun _ _ _ _ h => h, fun _ _ _ _ h => h, trivial⟩
      case g0 => exact ⟨rfl, rfl, rfl, Nat.le_refl _, fun _ _ => rfl⟩
      case os =>
        refine ⟨?_, ?_, ?_, ?_, ?_, ?_, ?_, ?_, ?_, ?_, ?_, ?_, ?_, ?_, ?_, ?_, trivial⟩
        · exact ⟨rfl, fun ρ X9 hg ho hc hf hr => Runs.val _ (op_move (show ρ (.tmp 3) = .string (txt acc) from ho 3 rfl)) ⟨hg, Below.refl _ _, rfl⟩⟩
        · exact ⟨rfl, fun ρ X9 hg ho hc hf hr => Runs.val _ (op_move (show ρ (.tmp 0) = .slice (some ⟨b, o, none⟩) n cap from ho 0 rfl)) ⟨hg, Below.refl _ _, rfl⟩⟩
        · exact ⟨rfl, fun ρ X9 hg ho hc hf hr => Runs.val _ (op_move (show ρ (.tmp 4) = .int .i64 (i : Int) from ho 4 rfl)) ⟨hg, Below.refl _ _, rfl⟩⟩
        · exact ⟨rfl, fun ρ X9 hg ho hc hf hr => Runs.val _ (op_x61 (show ρ (.tmp 17) = .slice (some ⟨b, o, none⟩) n cap from hr 1 17 rfl rfl) (show ρ (.tmp 18) = .int .i64 (i : Int) from hr 2 18 rfl rfl) hlt) ⟨hg, Below.refl _ _, rfl⟩⟩
        · exact ⟨rfl, fun ρ X9 hg ho hc hf hr => Runs.val _ (op_g129_0 (show ρ (.tmp 19) = .pointer (some ⟨b, o + i * 2, none⟩) from hr 3 19 rfl rfl)) ⟨hg, Below.refl _ _, rfl⟩⟩
        · exact ⟨rfl, fun ρ X9 hg ho hc hf hr => Runs.val _ (op_load9 (show ρ (.tmp 20) = .pointer (some ⟨b, o + i * 2, none⟩) from hr 4 20 rfl rfl) (cell_on hg c0)) ⟨hg, Below.refl _ _, rfl⟩⟩
        · refine ⟨rfl, fun ρ X9 hg ho hc hf hr => ?_⟩
          refine Runs.goes 65 #[.string x.key] (op_call1 hf calls65 (show ρ (.tmp 21) = .string x.key from hr 5 21 rfl rfl)) ((HT1.out X9).mono ?_)
          rintro e7 w7 ⟨rfl, b7⟩
          exact ⟨_, rfl, hg.trans (b7.mono hg.size), b7, rfl⟩
        · exact ⟨rfl, fun ρ X9 hg ho hc hf hr => Runs.val _ (op_cat (show ρ (.tmp 16) = .string (txt acc) from hr 0 16 rfl rfl) (show ρ (.tmp 22) = .string (txt (textL x.key)) from hr 6 22 rfl rfl) s1) ⟨hg, Below.refl _ _, rfl⟩⟩
        · exact ⟨rfl, fun ρ X9 hg ho hc hf hr => Runs.val _ (op_move (show ρ (.tmp 0) = .slice (some ⟨b, o, none⟩) n cap from ho 0 rfl)) ⟨hg, Below.refl _ _, rfl⟩⟩
        · exact ⟨rfl, fun ρ X9 hg ho hc hf hr => Runs.val _ (op_move (show ρ (.tmp 4) = .int .i64 (i : Int) from ho 4 rfl)) ⟨hg, Below.refl _ _, rfl⟩⟩
        · exact ⟨rfl, fun ρ X9 hg ho hc hf hr => Runs.val _ (op_x61 (show ρ (.tmp 24) = .slice (some ⟨b, o, none⟩) n cap from hr 8 24 rfl rfl) (show ρ (.tmp 25) = .int .i64 (i : Int) from hr 9 25 rfl rfl) hlt) ⟨hg, Below.refl _ _, rfl⟩⟩
        · exact ⟨rfl, fun ρ X9 hg ho hc hf hr => Runs.val _ (op_g129_1 (show ρ (.tmp 26) = .pointer (some ⟨b, o + i * 2, none⟩) from hr 10 26 rfl rfl)) ⟨hg, Below.refl _ _, rfl⟩⟩
        · exact ⟨rfl, fun ρ X9 hg ho hc hf hr => Runs.val _ (op_load127 (show ρ (.tmp 27) = .pointer (some ⟨b, o + i * 2 + 1, none⟩) from hr 11 27 rfl rfl) (cell_on hg c1)) ⟨hg, Below.refl _ _, rfl⟩⟩
        · exact ⟨rfl, fun ρ X9 hg ho hc hf hr => Runs.val _ (op_n127 (show ρ (.tmp 28) = .slice la m lc from hr 12 28 rfl rfl)) ⟨hg, Below.refl _ _, rfl⟩⟩
        · refine ⟨rfl, fun ρ X9 hg ho hc hf hr => ?_⟩
          refine Runs.goes 41 #[.int .i64 (m : Int)] (op_call1 hf calls41 (show ρ (.tmp 29) = .int .i64 (m : Int) from hr 13 29 rfl rfl)) ((HT2.out X9).mono ?_)
          rintro e7 w7 ⟨rfl, b7⟩
          exact ⟨_, rfl, hg.trans (b7.mono hg.size), b7, rfl⟩
        · exact ⟨rfl, fun ρ X9 hg ho hc hf hr => Runs.val _ (op_cat (show ρ (.tmp 23) = .string (txt acc ++ txt (textL x.key)) from hr 7 23 rfl rfl) (show ρ (.tmp 30) = .string (txt (num (m : Int))) from hr 14 30 rfl rfl) s2) ⟨hg, Below.refl _ _, rfl⟩⟩
      case la =>
        refine ⟨rfl, fun ρ X9 hg ho hc hf hr => ?_⟩
        exact Runs.val _ (op_assign (show ρ (.tmp 31) = .string (txt acc ++ txt (textL x.key) ++ txt (num (m : Int))) from hr 15 31 (by decide) rfl)) ⟨rfl, hg⟩
      case en =>
        intro a9 X9 Xb v9 hF hs9 hd9 ho9 hv9 hr9
        obtain ⟨x9, hx, hxt⟩ := act_put hs9 hd9 ho9
        have e3 : x9 3 = .string (txt acc ++ txt (textL x.key) ++ txt (num (m : Int))) := (hxt 3).symm.trans ((hv9 3 rfl).trans hF.1)
        change a9 = putAll _ x9 [16, 17, 18, 19, 20, 21, 22, 23, 24, 25, 26, 27, 28, 29, 30, 31, 3] at hx
        simp only [putAll, Act.put, List.setIfInBounds_toArray, List.set_cons_zero, List.set_cons_succ, e3] at hx
        have HG := Lib.hid hF.2
        clear hF hs9 hd9 ho9 hv9 hr9 hxt e3
        subst hx
        generalize x9 16 = z16, x9 17 = z17, x9 18 = z18, x9 19 = z19, x9 20 = z20, x9 21 = z21, x9 22 = z22, x9 23 = z23, x9 24 = z24, x9 25 = z25, x9 26 = z26, x9 27 = z27, x9 28 = z28, x9 29 = z29, x9 30 = z30, x9 31 = z31
        rw [HEND.out]
        have HB2 := Lib.hid (HB.out.trans (HG.out.mono HB.out.size))
        have HCX : Hid (∀ Y, Below X9.heap.size X9 Y → Y.cell? ⟨b, o + i * 2 + 1, none⟩ = some (.slice la m lc)) := Lib.hid (fun Y hY => cell_on hY (cell_on HG.out c1))
        have HLX : Hid (Lr veE 3 X9 x.list (.slice la m lc)) := Lib.hid (HLV.out.on veE_held HG.out)
        clear HG HEND s1 s2 HT1 HT2 c0 c1 HLV
        obtain ⟨W, rfl⟩ : ∃ W, W = X9 := ⟨_, rfl⟩
        go_wp2
        go_loopw [3, 5] (fun ov iv wr => TJ W pre2 ve1L x.list wr ov iv) (fun _ iv _ => m - (intOf iv).toNat)
        case atStart => exact ⟨0, Nat.zero_le _, rfl, by rw [List.take_zero]; simp, Below.refl _ _⟩
        case round =>
          obtain ⟨j, hj, rfl, rfl, hbj⟩ := hrel
          obtain ⟨U, rfl⟩ : ∃ U, U = wr := ⟨_, rfl⟩
          have hjm : j ≤ m := by rw [← HM.out]; exact hj
          have cl := HCX.out U hbj
          by_cases hltj : j < m
          · have hjL : j < x.list.length := by rw [HM.out]; exact hltj
            have m0 : (0 : Int) ≤ j := by omega
            have m1 : (j : Int) < m := by omega
            obtain ⟨_, _, e1, _, _, _, hcs⟩ := HLX.out.on veE_held hbj
            obtain ⟨b3, o3, cs3, ha, _, hE, _, hcell⟩ := hcs j hjL
            have hE' : cs3 = [.int .i64 x.list[j].ts, .string x.list[j].val, .bool x.list[j].dead] := hE
            subst hE'
            simp only [Value.slice.injEq] at e1
            obtain ⟨rfl, _, rfl⟩ := e1
            subst ha
            have d0 := hcell 0 _ rfl
            have d1 := hcell 1 _ rfl
            have d2 := hcell 2 _ rfl
            simp only [Nat.add_zero] at d0
            have hnx := fm_next ve1L hjL
            have hln : (pre2 ++ (x.list.take (j + 1)).flatMap ve1L).length ≤ 1000000000 := by
              have h1 := HL2.out
              rw [List.length_append] at h1
              have h2 := fmy_take ve1L x.list (j + 1)
              rw [List.length_append]
              omega
            have hi9 := HTI.out _ (List.getElem_mem hjL)
            obtain ⟨y, hy⟩ : ∃ y, x.list[j] = y := ⟨_, rfl⟩
            rw [hy] at d0 d1 d2 hnx hi9
            obtain ⟨acc2, hacc⟩ : ∃ acc2, pre2 ++ (x.list.take j).flatMap ve1L = acc2 := ⟨_, rfl⟩
            have hna : pre2 ++ (x.list.take (j + 1)).flatMap ve1L = acc2 ++ ve1L y := by rw [hnx, ← List.append_assoc, hacc]
            rw [hna] at hln
            rw [hacc]
            have HNB := Lib.hid hna
            have HBJ := Lib.hid hbj
            have hlx : (ve1L y).length = (num y.ts).length + (textL y.val).length + (flagL y.dead).length := by unfold ve1L; rw [List.length_append, List.length_append]
            rw [List.length_append] at hln
            have hk1 := textL_len y.val
            have s1 := sum_ok (a := txt acc2) (b := txt (num y.ts)) (by rw [txt_size]; omega) (by rw [txt_size]; omega)
            have s2 := sum_ok (a := txt acc2 ++ txt (num y.ts)) (b := txt (textL y.val)) (by rw [txt_append, txt_size, List.length_append]; omega) (by rw [txt_size]; omega)
            have s3 := sum_ok (a := txt acc2 ++ txt (num y.ts) ++ txt (textL y.val)) (b := txt (flagL y.dead)) (by rw [txt_append, txt_append, txt_size, List.length_append, List.length_append]; omega) (by rw [txt_size]; omega)
            have HT1 := Lib.hid (fun X => num_ref y.ts X hi9)
            have HT2 := Lib.hid (fun X => text_ref y.val X (by omega))
            have HT3 := Lib.hid (fun X => flag_ref y.dead X)
            have hend : txt acc2 ++ txt (num y.ts) ++ txt (textL y.val) ++ txt (flagL y.dead) = txt (acc2 ++ ve1L y) := by
              rw [txt_append, txt_append, txt_append]
              unfold ve1L
              simp only [List.append_assoc]
            have HEND := Lib.hid hend
            obtain ⟨V, hV⟩ : ∃ V, V = U.alloc (.cells #[.int .i64 y.ts, .string y.val, .bool y.dead] 125) := ⟨_, rfl⟩
            obtain ⟨Z, hZ⟩ : ∃ Z, U.heap.size = Z := ⟨_, rfl⟩
            have bV : Below U.heap.size U V := by rw [hV]; exact (Below.refl _ U).alloc (Nat.le_refl _) _
            have jZ : V.heap[Z]? = some (.cells #[.int .i64 y.ts, .string y.val, .bool y.dead] 125 (0, 0)) := by rw [hV, ← hZ]; exact heap_alloc_new U _
            have z0 : V.cell? ⟨Z, 0, none⟩ = some (.int .i64 y.ts) := cell_blk jZ 0
            have z1 : V.cell? ⟨Z, 1, none⟩ = some (.string y.val) := cell_blk jZ 1
            have z2 : V.cell? ⟨Z, 2, none⟩ = some (.bool y.dead) := cell_blk jZ 2
            have HBV := Lib.hid (hbj.trans (bV.mono hbj.size))
            have HV := Lib.hid hV
            have HZZ := Lib.hid hZ
            clear hcs hcell hE hbj hy hnx hna hln hacc hlx hk1 hend hV hZ bV jZ hi9
            go_upto_region 10 with fail
            rw [← HV.out, HZZ.out]
            refine wp_region_fin (fun X9 => Below V.heap.size V X9) (fun X9 X' => Below X9.heap.size X9 X') [
              fun v9 _ => v9 = .string (txt acc2),
              fun v9 _ => v9 = .pointer (some ⟨Z, 0, none⟩),
              fun v9 _ => v9 = .int .i64 y.ts,
              fun v9 _ => v9 = .string (txt (num y.ts)),
              fun v9 _ => v9 = .string (txt acc2 ++ txt (num y.ts)),
              fun v9 _ => v9 = .pointer (some ⟨Z, 1, none⟩),
              fun v9 _ => v9 = .string y.val,
              fun v9 _ => v9 = .string (txt (textL y.val)),
              fun v9 _ => v9 = .string (txt acc2 ++ txt (num y.ts) ++ txt (textL y.val)),
              fun v9 _ => v9 = .pointer (some ⟨Z, 2, none⟩),
              fun v9 _ => v9 = .bool y.dead,
              fun v9 _ => v9 = .string (txt (flagL y.dead)),
              fun v9 _ => v9 = .string (txt acc2 ++ txt (num y.ts) ++ txt (textL y.val) ++ txt (flagL y.dead))]
              (fun v9 X9 => v9 = .string (txt acc2 ++ txt (num y.ts) ++ txt (textL y.val) ++ txt (flagL y.dead)) ∧ Below V.heap.size V X9) rfl (by kernel_rfl) (by kernel_rfl) (by kernel_rfl) (by kernel_rfl) ?st ?g0 ?os ?la ?en
            case st => exact ⟨fun _ _ _ _ h => h, fun _ _ _ _ h => h, fun _ _ _ _ h => h, fun _ _ _ _ h => h, fun _ _ _ _ h => h, fun _ _ _ _ h => h, fun _ _ _ _ h => h, fun _ _ _ _ h => h, fun _ _ _ _ h => h, fun _ _ _ _ h => h, fun _ _ _ _ h => h, fun _ _ _ _ h => h, fun _ _ _ _ h => h, trivial⟩
            case g0 => exact ⟨rfl, rfl, rfl, Nat.le_refl _, fun _ _ => rfl⟩
            case os =>
              refine ⟨?_, ?_, ?_, ?_, ?_, ?_, ?_, ?_, ?_, ?_, ?_, ?_, ?_, trivial⟩
              · exact ⟨rfl, fun ρ X9 hg ho hc hf hr => Runs.val _ (op_move (show ρ (.tmp 3) = .string (txt acc2) from ho 3 rfl)) ⟨hg, Below.refl _ _, rfl⟩⟩
              · exact ⟨rfl, fun ρ X9 hg ho hc hf hr => Runs.val _ (op_f125_0 (show ρ (.tmp 6) = .pointer (some ⟨Z, 0, none⟩) from ho 6 rfl)) ⟨hg, Below.refl _ _, rfl⟩⟩
              · exact ⟨rfl, fun ρ X9 hg ho hc hf hr => Runs.val _ (op_loadI (show ρ (.tmp 51) = .pointer (some ⟨Z, 0, none⟩) from hr 1 51 rfl rfl) (cell_on hg z0)) ⟨hg, Below.refl _ _, rfl⟩⟩
              · refine ⟨rfl, fun ρ X9 hg ho hc hf hr => ?_⟩
                refine Runs.goes 41 #[.int .i64 y.ts] (op_call1 hf calls41 (show ρ (.tmp 52) = .int .i64 y.ts from hr 2 52 rfl rfl)) ((HT1.out X9).mono ?_)
                rintro e7 w7 ⟨rfl, b7⟩
                exact ⟨_, rfl, hg.trans (b7.mono hg.size), b7, rfl⟩
              · exact ⟨rfl, fun ρ X9 hg ho hc hf hr => Runs.val _ (op_cat (show ρ (.tmp 50) = .string (txt acc2) from hr 0 50 rfl rfl) (show ρ (.tmp 53) = .string (txt (num y.ts)) from hr 3 53 rfl rfl) s1) ⟨hg, Below.refl _ _, rfl⟩⟩
              · exact ⟨rfl, fun ρ X9 hg ho hc hf hr => Runs.val _ (op_f125_1 (show ρ (.tmp 6) = .pointer (some ⟨Z, 0, none⟩) from ho 6 rfl)) ⟨hg, Below.refl _ _, rfl⟩⟩
              · exact ⟨rfl, fun ρ X9 hg ho hc hf hr => Runs.val _ (op_load9 (show ρ (.tmp 55) = .pointer (some ⟨Z, 1, none⟩) from hr 5 55 rfl rfl) (cell_on hg z1)) ⟨hg, Below.refl _ _, rfl⟩⟩
              · refine ⟨rfl, fun ρ X9 hg ho hc hf hr => ?_⟩
                refine Runs.goes 65 #[.string y.val] (op_call1 hf calls65 (show ρ (.tmp 56) = .string y.val from hr 6 56 rfl rfl)) ((HT2.out X9).mono ?_)
                rintro e7 w7 ⟨rfl, b7⟩
                exact ⟨_, rfl, hg.trans (b7.mono hg.size), b7, rfl⟩
              · exact ⟨rfl, fun ρ X9 hg ho hc hf hr => Runs.val _ (op_cat (show ρ (.tmp 54) = .string (txt acc2 ++ txt (num y.ts)) from hr 4 54 rfl rfl) (show ρ (.tmp 57) = .string (txt (textL y.val)) from hr 7 57 rfl rfl) s2) ⟨hg, Below.refl _ _, rfl⟩⟩
              · exact ⟨rfl, fun ρ X9 hg ho hc hf hr => Runs.val _ (op_f125_2 (show ρ (.tmp 6) = .pointer (some ⟨Z, 0, none⟩) from ho 6 rfl)) ⟨hg, Below.refl _ _, rfl⟩⟩
              · exact ⟨rfl, fun ρ X9 hg ho hc hf hr => Runs.val _ (op_load4 (show ρ (.tmp 59) = .pointer (some ⟨Z, 2, none⟩) from hr 9 59 rfl rfl) (cell_on hg z2)) ⟨hg, Below.refl _ _, rfl⟩⟩
              · refine ⟨rfl, fun ρ X9 hg ho hc hf hr => ?_⟩
                refine Runs.goes 66 #[.bool y.dead] (op_call1 hf calls66 (show ρ (.tmp 60) = .bool y.dead from hr 10 60 rfl rfl)) ((HT3.out X9).mono ?_)
                rintro e7 w7 ⟨rfl, b7⟩
                exact ⟨_, rfl, hg.trans (b7.mono hg.size), b7, rfl⟩
              · exact ⟨rfl, fun ρ X9 hg ho hc hf hr => Runs.val _ (op_cat (show ρ (.tmp 58) = .string (txt acc2 ++ txt (num y.ts) ++ txt (textL y.val)) from hr 8 58 rfl rfl) (show ρ (.tmp 61) = .string (txt (flagL y.dead)) from hr 11 61 rfl rfl) s3) ⟨hg, Below.refl _ _, rfl⟩⟩
            case la =>
              refine ⟨rfl, fun ρ X9 hg ho hc hf hr => ?_⟩
              exact Runs.val _ (op_assign (show ρ (.tmp 62) = .string (txt acc2 ++ txt (num y.ts) ++ txt (textL y.val) ++ txt (flagL y.dead)) from hr 12 62 (by decide) rfl)) ⟨rfl, hg⟩
            case en =>
              intro a9 X9 Xb v9 hF hs9 hd9 ho9 hv9 hr9
              obtain ⟨x9, hx, hxt⟩ := act_put hs9 hd9 ho9
              have e3 : x9 3 = .string (txt acc2 ++ txt (num y.ts) ++ txt (textL y.val) ++ txt (flagL y.dead)) := (hxt 3).symm.trans ((hv9 3 rfl).trans hF.1)
              change a9 = putAll _ x9 [50, 51, 52, 53, 54, 55, 56, 57, 58, 59, 60, 61, 62, 3] at hx
              simp only [putAll, Act.put, List.setIfInBounds_toArray, List.set_cons_zero, List.set_cons_succ, e3] at hx
              have HG := Lib.hid hF.2
              clear hF hs9 hd9 ho9 hv9 hr9 hxt e3
              subst hx
              generalize x9 50 = z50, x9 51 = z51, x9 52 = z52, x9 53 = z53, x9 54 = z54, x9 55 = z55, x9 56 = z56, x9 57 = z57, x9 58 = z58, x9 59 = z59, x9 60 = z60, x9 61 = z61, x9 62 = z62
              rw [HEND.out]
              go_wp2
              go_roundw
              case rel => exact ⟨j + 1, hjL, by go_num, by rw [HNB.out], HBV.out.trans (HG.out.mono HBV.out.size)⟩
              case measure => simp [intOf]; omega
          · have m1 : ¬ ((j : Int) < m) := by omega
            have ei : (x.list.take j) = x.list := List.take_of_length_le (by rw [HM.out]; omega)
            rw [ei, ← HX2.out]
            have HBJ := Lib.hid (HB2.out.trans (hbj.mono HB2.out.size))
            clear hbj ei
            go_wp2
            go_roundw
            case rel => exact ⟨i + 1, hiL, by go_num, by rw [HNA.out], HBJ.out⟩
            case measure => simp [intOf]; omega
    · have k1 : ¬ ((i : Int) < n) := by omega
      have ei : (R.take i) = R := List.take_of_length_le (by rw [HN.out]; omega)
      rw [ei, ← HFU.out]
      have HB := Lib.hid hb
      clear hb ei
      go_wp2
      go_ret
      exact ⟨rfl, HB.out⟩
end
end Go.Proofs.Ytcoaahlakkghhaa
/- The document's text of locks. -/
namespace Go.Proofs.Ytcoaahlakkghhaa
open Go.RowKit
structure LkIn (l : Lk) : Prop where
  td : TdOk l.txn
  hm : I64 l.home
  til : I64 l.til
section
variable {w : World}
set_option maxHeartbeats 4000000 in
set_option maxRecDepth 100000 in
theorem locks_ref {R : List Lk} {v : Value} (hl : Lr lkE 7 w R v) (hz : (locksL R).length ≤ 1000000000) (hts : ∀ r ∈ R, LkIn r) : Calls Try.prog 40 #[v] w fun e w' => e = .returned (.string (txt (locksL R))) ∧ Below w.heap.size w w' := by
  have HL := Lib.hid hl
  obtain ⟨ad, cap, rfl, _, _, hcap, _⟩ := hl
  obtain ⟨n, hn⟩ : ∃ n, R.length = n := ⟨_, rfl⟩
  have hmx : (n : Int) ≤ 9223372036854775807 := by unfold maxLen at hcap; omega
  have hnum := num_ref (n : Int) w (by unfold I64; omega)
  have HN := Lib.hid hn
  have HZ := Lib.hid hz
  have HTS := Lib.hid hts
  have hfull : locksL R = num (n : Int) ++ R.flatMap lk1L := by unfold locksL; rw [hn]
  rw [hn]
  obtain ⟨pre, hpre⟩ : ∃ pre, num (n : Int) = pre := ⟨_, rfl⟩
  rw [hpre] at hnum hfull
  have HFU := Lib.hid hfull
  clear hn hz hcap hfull hpre hts
  go_enter Try.func40, Try.ntmps40
  go_wp2_with (go_at_call 41; refine hnum.mono ?_; rintro e w1 ⟨rfl, hb1⟩; refine Hid.out ?_)
  refine Lib.hid ?_
  have H0 : Hid (TJ w pre lk1L R w1 (.string (txt pre)) (.int .i64 0)) := Lib.hid ⟨0, Nat.zero_le _, rfl, by rw [List.take_zero]; simp, hb1⟩
  clear hb1 hnum
  go_wp2
  go_loopw [3, 4] (fun ov iv wr => TJ w pre lk1L R wr ov iv) (fun _ iv _ => n - (intOf iv).toNat)
  case atStart => exact H0.out
  case round =>
    clear H0
    obtain ⟨i, hi, rfl, rfl, hb⟩ := hrel
    obtain ⟨V, rfl⟩ : ∃ V, V = wr := ⟨_, rfl⟩
    have hin : i ≤ n := by rw [← HN.out]; exact hi
    by_cases hlt : i < n
    · have hiL : i < R.length := by rw [HN.out]; exact hlt
      have k0 : (0 : Int) ≤ i := by omega
      have k1 : (i : Int) < n := by omega
      obtain ⟨_, _, e1, _, _, _, hcs⟩ := HL.out.on lkE_held hb
      obtain ⟨b, o, cs, ha, hbl, ⟨la, lc, wa, wc, rfl, hlv, hlw⟩, _, hcell⟩ := hcs i hiL
      simp only [Value.slice.injEq] at e1
      obtain ⟨rfl, _, rfl⟩ := e1
      subst ha
      have c0 := hcell 0 _ rfl
      have c1 := hcell 1 _ rfl
      have c2 := hcell 2 _ rfl
      have c3 := hcell 3 _ rfl
      have c4 := hcell 4 _ rfl
      have c5 := hcell 5 _ rfl
      have c6 := hcell 6 _ rfl
      simp only [Nat.add_zero] at c0
      have hnx := fm_next lk1L hiL
      have hln : (pre ++ (R.take (i + 1)).flatMap lk1L).length ≤ 1000000000 := by
        have h1 := HZ.out
        rw [HFU.out, List.length_append] at h1
        have h2 := fmy_take lk1L R (i + 1)
        rw [List.length_append]
        omega
      have hti := HTS.out _ (List.getElem_mem hiL)
      obtain ⟨x, hx⟩ : ∃ x, R[i] = x := ⟨_, rfl⟩
      rw [hx] at c0 c1 c2 c3 c4 c5 c6 hnx hlv hlw hti
      obtain ⟨acc, hacc⟩ : ∃ acc, pre ++ (R.take i).flatMap lk1L = acc := ⟨_, rfl⟩
      have hna : pre ++ (R.take (i + 1)).flatMap lk1L = acc ++ lk1L x := by rw [hnx, ← List.append_assoc, hacc]
      rw [hna] at hln
      rw [hacc]
      have HNA := Lib.hid hna
      have HB := Lib.hid hb
      have HLV := Lib.hid hlv
      have HLW := Lib.hid hlw
      have HTI := Lib.hid hti
      obtain ⟨m, hm⟩ : ∃ m, x.spans.length = m := ⟨_, rfl⟩
      have hmm : (m : Int) ≤ 9223372036854775807 := by
        obtain ⟨_, _, e9, _, h8, h9, _⟩ := hlv
        unfold maxLen at h9
        omega
      have hlx : (lk1L x).length = (tidL x.txn).length + (numsL [x.home, x.til]).length + (num (m : Int)).length + (x.spans.flatMap sp1L).length + (wrsL x.writes).length := by unfold lk1L; rw [List.length_append, List.length_append, List.length_append, List.length_append, hm]
      rw [List.length_append] at hln
      have s1 := sum_ok (a := txt acc) (b := txt (tidL x.txn)) (by rw [txt_size]; omega) (by rw [txt_size]; omega)
      have s2 := sum_ok (a := txt acc ++ txt (tidL x.txn)) (b := txt (numsL [x.home, x.til])) (by rw [txt_append, txt_size, List.length_append]; omega) (by rw [txt_size]; omega)
      have s3 := sum_ok (a := txt acc ++ txt (tidL x.txn) ++ txt (numsL [x.home, x.til])) (b := txt (num (m : Int))) (by rw [txt_append, txt_append, txt_size, List.length_append, List.length_append]; omega) (by rw [txt_size]; omega)
      have HT1 := Lib.hid (fun X => tid_ref x.txn X hti.td)
      have HT2 := Lib.hid (fun X F (hF : Ints X F [x.home, x.til]) => nums_ref X 2 rfl (by omega) hF (fun z hz => by
        simp at hz
        rcases hz with rfl | rfl
        · exact hti.hm
        · exact hti.til))
      have HT3 := Lib.hid (fun X => num_ref (m : Int) X (by unfold I64; omega))
      obtain ⟨pre2, hp2⟩ : ∃ pre2, acc ++ tidL x.txn ++ numsL [x.home, x.til] ++ num (m : Int) = pre2 := ⟨_, rfl⟩
      have hend : txt acc ++ txt (tidL x.txn) ++ txt (numsL [x.home, x.til]) ++ txt (num (m : Int)) = txt pre2 := by rw [txt_append, txt_append, txt_append, hp2]
      have hx2 : acc ++ lk1L x = pre2 ++ x.spans.flatMap sp1L ++ wrsL x.writes := by rw [← hp2]; unfold lk1L; rw [hm]; simp only [List.append_assoc]
      have hl2 : (pre2 ++ x.spans.flatMap sp1L ++ wrsL x.writes).length ≤ 1000000000 := by
        rw [← hx2, List.length_append]
        exact hln
      rw [hm] at c5 HLV
      have HEND := Lib.hid hend
      have HX2 := Lib.hid hx2
      have HL2 := Lib.hid hl2
      have HM := Lib.hid hm
      clear hcs hcell hb hx hnx hna hln hacc hlx hend hp2 hx2 hl2 hm hlv hlw hti
      go_upto_region 5 with fail
      refine wp_region_fin (fun X9 => Below V.heap.size V X9) (fun X9 X' => Below X9.heap.size X9 X') [
        fun v9 _ => v9 = .string (txt acc),
        fun v9 _ => v9 = .slice (some ⟨b, o, none⟩) n cap,
        fun v9 _ => v9 = .int .i64 (i : Int),
        fun v9 _ => v9 = .pointer (some ⟨b, o + i * 7, none⟩),
        fun v9 _ => v9 = .pointer (some ⟨b, o + i * 7, none⟩),
        fun v9 _ => v9 = tdV x.txn,
        fun v9 _ => v9 = .string (txt (tidL x.txn)),
        fun v9 _ => v9 = .string (txt acc ++ txt (tidL x.txn)),
        fun v9 _ => v9 = .slice (some ⟨b, o, none⟩) n cap,
        fun v9 _ => v9 = .int .i64 (i : Int),
        fun v9 _ => v9 = .pointer (some ⟨b, o + i * 7, none⟩),
        fun v9 _ => v9 = .pointer (some ⟨b, o + i * 7 + 3, none⟩),
        fun v9 _ => v9 = .int .i64 x.home,
        fun v9 _ => v9 = .slice (some ⟨b, o, none⟩) n cap,
        fun v9 _ => v9 = .int .i64 (i : Int),
        fun v9 _ => v9 = .pointer (some ⟨b, o + i * 7, none⟩),
        fun v9 _ => v9 = .pointer (some ⟨b, o + i * 7 + 4, none⟩),
        fun v9 _ => v9 = .int .i64 x.til,
        fun v9 X9 => ∃ F, v9 = .slice (some ⟨F, 0, none⟩) 2 2 ∧ Ints X9 F [x.home, x.til],
        fun v9 _ => v9 = .string (txt (numsL [x.home, x.til])),
        fun v9 _ => v9 = .string (txt acc ++ txt (tidL x.txn) ++ txt (numsL [x.home, x.til])),
        fun v9 _ => v9 = .slice (some ⟨b, o, none⟩) n cap,
        fun v9 _ => v9 = .int .i64 (i : Int),
        fun v9 _ => v9 = .pointer (some ⟨b, o + i * 7, none⟩),
        fun v9 _ => v9 = .pointer (some ⟨b, o + i * 7 + 5, none⟩),
        fun v9 _ => v9 = .slice la m lc,
        fun v9 _ => v9 = .int .i64 (m : Int),
        fun v9 _ => v9 = .string (txt (num (m : Int))),
        fun v9 _ => v9 = .string (txt acc ++ txt (tidL x.txn) ++ txt (numsL [x.home, x.til]) ++ txt (num (m : Int)))]
        (fun v9 X9 => v9 = .string (txt acc ++ txt (tidL x.txn) ++ txt (numsL [x.home, x.til]) ++ txt (num (m : Int))) ∧ Below V.heap.size V X9) rfl (by kernel_rfl) (by kernel_rfl) (by kernel_rfl) (by kernel_rfl) ?st ?g0 ?os ?la ?en
      case st => exact ⟨fun _ _ _ _ h => h, fun _ _ _ _ h => h, fun _ _ _ _ h => h, fun _ _ _ _ h => h, fun _ _ _ _ h => h, fun _ _ _ _ h => h, fun _ _ _ _ h => h, fun _ _ _ _ h => h, fun _ _ _ _ h => h, fun _ _ _ _ h => h, fun _ _ _ _ h => h, fun _ _ _ _ h => h, fun _ _ _ _ h => h, fun _ _ _ _ h => h, fun _ _ _ _ h => h, fun _ _ _ _ h => h, fun _ _ _ _ h => h, fun _ _ _ _ h => h, (fun _ _ _ hb h => by obtain ⟨F, e9, h9⟩ := h; exact ⟨F, e9, h9.on hb⟩), fun _ _ _ _ h => h, fun _ _ _ _ h => h, fun _ _ _ _ h => h, fun _ _ _ _ h => h, fun _ _ _ _ h => h, fun _ _ _ _ h => h, fun _ _ _ _ h => h, fun _ _ _ _ h => h, fun _ _ _ _ h => h, fun _ _ _ _ h => h, trivial⟩
      case g0 => exact ⟨rfl, rfl, rfl, Nat.le_refl _, fun _ _ => rfl⟩
      case os =>
        refine ⟨?_, ?_, ?_, ?_, ?_, ?_, ?_, ?_, ?_, ?_, ?_, ?_, ?_, ?_, ?_, ?_, ?_, ?_, ?_, ?_, ?_, ?_, ?_, ?_, ?_, ?_, ?_, ?_, ?_, trivial⟩
        · exact ⟨rfl, fun ρ X9 hg ho hc hf hr => Runs.val _ (op_move (show ρ (.tmp 3) = .string (txt acc) from ho 3 rfl)) ⟨hg, Below.refl _ _, rfl⟩⟩
        · exact ⟨rfl, fun ρ X9 hg ho hc hf hr => Runs.val _ (op_move (show ρ (.tmp 0) = .slice (some ⟨b, o, none⟩) n cap from ho 0 rfl)) ⟨hg, Below.refl _ _, rfl⟩⟩
        · exact ⟨rfl, fun ρ X9 hg ho hc hf hr => Runs.val _ (op_move (show ρ (.tmp 4) = .int .i64 (i : Int) from ho 4 rfl)) ⟨hg, Below.refl _ _, rfl⟩⟩
        · exact ⟨rfl, fun ρ X9 hg ho hc hf hr => Runs.val _ (op_x31 (show ρ (.tmp 16) = .slice (some ⟨b, o, none⟩) n cap from hr 1 16 rfl rfl) (show ρ (.tmp 17) = .int .i64 (i : Int) from hr 2 17 rfl rfl) hlt) ⟨hg, Below.refl _ _, rfl⟩⟩
        · exact ⟨rfl, fun ρ X9 hg ho hc hf hr => Runs.val _ (op_g68_0 (show ρ (.tmp 18) = .pointer (some ⟨b, o + i * 7, none⟩) from hr 3 18 rfl rfl)) ⟨hg, Below.refl _ _, rfl⟩⟩
        · exact ⟨rfl, fun ρ X9 hg ho hc hf hr => Runs.val _ (op_load37 (show ρ (.tmp 19) = .pointer (some ⟨b, o + i * 7, none⟩) from hr 4 19 rfl rfl) (cell_on hg c0) (cell_on hg c1) (cell_on hg c2)) ⟨hg, Below.refl _ _, rfl⟩⟩
        · refine ⟨rfl, fun ρ X9 hg ho hc hf hr => ?_⟩
          refine Runs.goes 42 #[tdV x.txn] (op_call1 hf calls42 (show ρ (.tmp 20) = tdV x.txn from hr 5 20 rfl rfl)) ((HT1.out X9).mono ?_)
          rintro e7 w7 ⟨rfl, b7⟩
          exact ⟨_, rfl, hg.trans (b7.mono hg.size), b7, rfl⟩
        · exact ⟨rfl, fun ρ X9 hg ho hc hf hr => Runs.val _ (op_cat (show ρ (.tmp 15) = .string (txt acc) from hr 0 15 rfl rfl) (show ρ (.tmp 21) = .string (txt (tidL x.txn)) from hr 6 21 rfl rfl) s1) ⟨hg, Below.refl _ _, rfl⟩⟩
        · exact ⟨rfl, fun ρ X9 hg ho hc hf hr => Runs.val _ (op_move (show ρ (.tmp 0) = .slice (some ⟨b, o, none⟩) n cap from ho 0 rfl)) ⟨hg, Below.refl _ _, rfl⟩⟩
        · exact ⟨rfl, fun ρ X9 hg ho hc hf hr => Runs.val _ (op_move (show ρ (.tmp 4) = .int .i64 (i : Int) from ho 4 rfl)) ⟨hg, Below.refl _ _, rfl⟩⟩
        · exact ⟨rfl, fun ρ X9 hg ho hc hf hr => Runs.val _ (op_x31 (show ρ (.tmp 23) = .slice (some ⟨b, o, none⟩) n cap from hr 8 23 rfl rfl) (show ρ (.tmp 24) = .int .i64 (i : Int) from hr 9 24 rfl rfl) hlt) ⟨hg, Below.refl _ _, rfl⟩⟩
        · exact ⟨rfl, fun ρ X9 hg ho hc hf hr => Runs.val _ (op_g68_1 (show ρ (.tmp 25) = .pointer (some ⟨b, o + i * 7, none⟩) from hr 10 25 rfl rfl)) ⟨hg, Below.refl _ _, rfl⟩⟩
        · exact ⟨rfl, fun ρ X9 hg ho hc hf hr => Runs.val _ (op_loadI (show ρ (.tmp 26) = .pointer (some ⟨b, o + i * 7 + 3, none⟩) from hr 11 26 rfl rfl) (cell_on hg c3)) ⟨hg, Below.refl _ _, rfl⟩⟩
        · exact ⟨rfl, fun ρ X9 hg ho hc hf hr => Runs.val _ (op_move (show ρ (.tmp 0) = .slice (some ⟨b, o, none⟩) n cap from ho 0 rfl)) ⟨hg, Below.refl _ _, rfl⟩⟩
        · exact ⟨rfl, fun ρ X9 hg ho hc hf hr => Runs.val _ (op_move (show ρ (.tmp 4) = .int .i64 (i : Int) from ho 4 rfl)) ⟨hg, Below.refl _ _, rfl⟩⟩
        · exact ⟨rfl, fun ρ X9 hg ho hc hf hr => Runs.val _ (op_x31 (show ρ (.tmp 28) = .slice (some ⟨b, o, none⟩) n cap from hr 13 28 rfl rfl) (show ρ (.tmp 29) = .int .i64 (i : Int) from hr 14 29 rfl rfl) hlt) ⟨hg, Below.refl _ _, rfl⟩⟩
        · exact ⟨rfl, fun ρ X9 hg ho hc hf hr => Runs.val _ (op_g68_2 (show ρ (.tmp 30) = .pointer (some ⟨b, o + i * 7, none⟩) from hr 15 30 rfl rfl)) ⟨hg, Below.refl _ _, rfl⟩⟩
        · exact ⟨rfl, fun ρ X9 hg ho hc hf hr => Runs.val _ (op_loadI (show ρ (.tmp 31) = .pointer (some ⟨b, o + i * 7 + 4, none⟩) from hr 16 31 rfl rfl) (cell_on hg c4)) ⟨hg, Below.refl _ _, rfl⟩⟩
        · refine ⟨rfl, fun ρ X9 hg ho hc hf hr => ?_⟩
          have b7 : Below X9.heap.size X9 (X9.alloc (.cells #[.int .i64 x.home, .int .i64 x.til] 3)) := (Below.refl _ X9).alloc (Nat.le_refl _) _
          refine Runs.val _ (op_two136 (show ρ (.tmp 27) = .int .i64 x.home from hr 12 27 rfl rfl) (show ρ (.tmp 32) = .int .i64 x.til from hr 17 32 rfl rfl)) ⟨hg.trans (b7.mono hg.size), b7, _, rfl, _, _, heap_alloc_new X9 _, fun i hi => ?_⟩
          match i, hi with
          | 0, _ => rfl
          | 1, _ => rfl
        · refine ⟨rfl, fun ρ X9 hg ho hc hf hr => ?_⟩
          obtain ⟨F, e9, h9⟩ : ∃ F, ρ (.tmp 33) = .slice (some ⟨F, 0, none⟩) 2 2 ∧ Ints X9 F [x.home, x.til] := hr 18 33 rfl rfl
          refine Runs.goes 67 #[.slice (some ⟨F, 0, none⟩) 2 2] (op_call1 hf calls67 e9) ((HT2.out X9 F h9).mono ?_)
          rintro e7 w7 ⟨rfl, b7⟩
          exact ⟨_, rfl, hg.trans (b7.mono hg.size), b7, rfl⟩
        · exact ⟨rfl, fun ρ X9 hg ho hc hf hr => Runs.val _ (op_cat (show ρ (.tmp 22) = .string (txt acc ++ txt (tidL x.txn)) from hr 7 22 rfl rfl) (show ρ (.tmp 34) = .string (txt (numsL [x.home, x.til])) from hr 19 34 rfl rfl) s2) ⟨hg, Below.refl _ _, rfl⟩⟩
        · exact ⟨rfl, fun ρ X9 hg ho hc hf hr => Runs.val _ (op_move (show ρ (.tmp 0) = .slice (some ⟨b, o, none⟩) n cap from ho 0 rfl)) ⟨hg, Below.refl _ _, rfl⟩⟩
        · exact ⟨rfl, fun ρ X9 hg ho hc hf hr => Runs.val _ (op_move (show ρ (.tmp 4) = .int .i64 (i : Int) from ho 4 rfl)) ⟨hg, Below.refl _ _, rfl⟩⟩
        · exact ⟨rfl, fun ρ X9 hg ho hc hf hr => Runs.val _ (op_x31 (show ρ (.tmp 36) = .slice (some ⟨b, o, none⟩) n cap from hr 21 36 rfl rfl) (show ρ (.tmp 37) = .int .i64 (i : Int) from hr 22 37 rfl rfl) hlt) ⟨hg, Below.refl _ _, rfl⟩⟩
        · exact ⟨rfl, fun ρ X9 hg ho hc hf hr => Runs.val _ (op_g68_3 (show ρ (.tmp 38) = .pointer (some ⟨b, o + i * 7, none⟩) from hr 23 38 rfl rfl)) ⟨hg, Below.refl _ _, rfl⟩⟩
        · exact ⟨rfl, fun ρ X9 hg ho hc hf hr => Runs.val _ (op_load66 (show ρ (.tmp 39) = .pointer (some ⟨b, o + i * 7 + 5, none⟩) from hr 24 39 rfl rfl) (cell_on hg c5)) ⟨hg, Below.refl _ _, rfl⟩⟩
        · exact ⟨rfl, fun ρ X9 hg ho hc hf hr => Runs.val _ (op_n66 (show ρ (.tmp 40) = .slice la m lc from hr 25 40 rfl rfl)) ⟨hg, Below.refl _ _, rfl⟩⟩
        · refine ⟨rfl, fun ρ X9 hg ho hc hf hr => ?_⟩
          refine Runs.goes 41 #[.int .i64 (m : Int)] (op_call1 hf calls41 (show ρ (.tmp 41) = .int .i64 (m : Int) from hr 26 41 rfl rfl)) ((HT3.out X9).mono ?_)
          rintro e7 w7 ⟨rfl, b7⟩
          exact ⟨_, rfl, hg.trans (b7.mono hg.size), b7, rfl⟩
        · exact ⟨rfl, fun ρ X9 hg ho hc hf hr => Runs.val _ (op_cat (show ρ (.tmp 35) = .string (txt acc ++ txt (tidL x.txn) ++ txt (numsL [x.home, x.til])) from hr 20 35 rfl rfl) (show ρ (.tmp 42) = .string (txt (num (m : Int))) from hr 27 42 rfl rfl) s3) ⟨hg, Below.refl _ _, rfl⟩⟩
      case la =>
        refine ⟨rfl, fun ρ X9 hg ho hc hf hr => ?_⟩
        exact Runs.val _ (op_assign (show ρ (.tmp 43) = .string (txt acc ++ txt (tidL x.txn) ++ txt (numsL [x.home, x.til]) ++ txt (num (m : Int))) from hr 28 43 (by decide) rfl)) ⟨rfl, hg⟩
      case en =>
        intro a9 X9 Xb v9 hF hs9 hd9 ho9 hv9 hr9
        obtain ⟨x9, hx, hxt⟩ := act_put hs9 hd9 ho9
        have e3 : x9 3 = .string (txt acc ++ txt (tidL x.txn) ++ txt (numsL [x.home, x.til]) ++ txt (num (m : Int))) := (hxt 3).symm.trans ((hv9 3 rfl).trans hF.1)
        change a9 = putAll _ x9 [15, 16, 17, 18, 19, 20, 21, 22, 23, 24, 25, 26, 27, 28, 29, 30, 31, 32, 33, 34, 35, 36, 37, 38, 39, 40, 41, 42, 43, 3] at hx
        simp only [putAll, Act.put, List.setIfInBounds_toArray, List.set_cons_zero, List.set_cons_succ, e3] at hx
        have HG := Lib.hid hF.2
        clear hF hs9 hd9 ho9 hv9 hr9 hxt e3
        subst hx
        generalize x9 15 = z15, x9 16 = z16, x9 17 = z17, x9 18 = z18, x9 19 = z19, x9 20 = z20, x9 21 = z21, x9 22 = z22, x9 23 = z23, x9 24 = z24, x9 25 = z25, x9 26 = z26, x9 27 = z27, x9 28 = z28, x9 29 = z29, x9 30 = z30, x9 31 = z31, x9 32 = z32, x9 33 = z33, x9 34 = z34, x9 35 = z35, x9 36 = z36, x9 37 = z37, x9 38 = z38, x9 39 = z39, x9 40 = z40, x9 41 = z41, x9 42 = z42, x9 43 = z43
        rw [HEND.out]
        have HB2 := Lib.hid (HB.out.trans (HG.out.mono HB.out.size))
        have HCX : Hid (∀ Y, Below X9.heap.size X9 Y → Y.cell? ⟨b, o + i * 7 + 5, none⟩ = some (.slice la m lc) ∧ Y.cell? ⟨b, o + i * 7 + 6, none⟩ = some (.slice wa x.writes.length wc)) := Lib.hid (fun Y hY => ⟨cell_on hY (cell_on HG.out c5), cell_on hY (cell_on HG.out c6)⟩)
        have HLX : Hid (Lr snE 2 X9 x.spans (.slice la m lc)) := Lib.hid (HLV.out.on snE_held HG.out)
        have HWX : Hid (Lr wrE 3 X9 x.writes (.slice wa x.writes.length wc)) := Lib.hid (HLW.out.on wrE_held HG.out)
        clear HG HEND s1 s2 s3 HT1 HT2 HT3 c0 c1 c2 c3 c4 c5 c6 HLV HLW
        obtain ⟨W, rfl⟩ : ∃ W, W = X9 := ⟨_, rfl⟩
        go_wp2
        go_loopw [3, 5] (fun ov iv wr => TJ W pre2 sp1L x.spans wr ov iv) (fun _ iv _ => m - (intOf iv).toNat)
        case atStart => exact ⟨0, Nat.zero_le _, rfl, by rw [List.take_zero]; simp, Below.refl _ _⟩
        case round =>
          obtain ⟨j, hj, rfl, rfl, hbj⟩ := hrel
          obtain ⟨V, rfl⟩ : ∃ V, V = wr := ⟨_, rfl⟩
          have hjm : j ≤ m := by rw [← HM.out]; exact hj
          obtain ⟨cl, cw⟩ := HCX.out V hbj
          by_cases hltj : j < m
          · have hjL : j < x.spans.length := by rw [HM.out]; exact hltj
            have m0 : (0 : Int) ≤ j := by omega
            have m1 : (j : Int) < m := by omega
            obtain ⟨_, _, e1, _, _, _, hcs⟩ := HLX.out.on snE_held hbj
            obtain ⟨b3, o3, cs3, ha, _, hE, _, hcell⟩ := hcs j hjL
            have hE' : cs3 = snL x.spans[j] := hE
            subst hE'
            simp only [Value.slice.injEq] at e1
            obtain ⟨rfl, _, rfl⟩ := e1
            subst ha
            have d0 := hcell 0 _ rfl
            have d1 := hcell 1 _ rfl
            simp only [Nat.add_zero] at d0
            have hnx := fm_next sp1L hjL
            have hln : (pre2 ++ (x.spans.take (j + 1)).flatMap sp1L).length ≤ 1000000000 := by
              have h1 := HL2.out
              rw [List.length_append, List.length_append] at h1
              have h2 := fmy_take sp1L x.spans (j + 1)
              rw [List.length_append]
              omega
            obtain ⟨y, hy⟩ : ∃ y, x.spans[j] = y := ⟨_, rfl⟩
            rw [hy] at d0 d1 hnx
            obtain ⟨acc2, hacc⟩ : ∃ acc2, pre2 ++ (x.spans.take j).flatMap sp1L = acc2 := ⟨_, rfl⟩
            have hna : pre2 ++ (x.spans.take (j + 1)).flatMap sp1L = acc2 ++ sp1L y := by rw [hnx, ← List.append_assoc, hacc]
            rw [hna] at hln
            rw [hacc]
            have HNB := Lib.hid hna
            have HBJ := Lib.hid hbj
            have hlx : (sp1L y).length = (textL y.lo).length + (textL y.hi).length := by unfold sp1L; rw [List.length_append]
            rw [List.length_append] at hln
            have hk1 := textL_len y.lo
            have hk2 := textL_len y.hi
            have s1 := sum_ok (a := txt acc2) (b := txt (textL y.lo)) (by rw [txt_size]; omega) (by rw [txt_size]; omega)
            have s2 := sum_ok (a := txt acc2 ++ txt (textL y.lo)) (b := txt (textL y.hi)) (by rw [txt_append, txt_size, List.length_append]; omega) (by rw [txt_size]; omega)
            have HT1 := Lib.hid (fun X => text_ref y.lo X (by omega))
            have HT2 := Lib.hid (fun X => text_ref y.hi X (by omega))
            have hend : txt acc2 ++ txt (textL y.lo) ++ txt (textL y.hi) = txt (acc2 ++ sp1L y) := by
              rw [txt_append, txt_append]
              unfold sp1L
              simp only [List.append_assoc]
            have HEND := Lib.hid hend
            clear hcs hcell hE hbj hy hnx hna hln hacc hlx hk1 hk2 hend cw
            go_upto_region 9 with fail
            refine wp_region_fin (fun X9 => Below V.heap.size V X9) (fun X9 X' => Below X9.heap.size X9 X') [
              fun v9 _ => v9 = .string (txt acc2),
              fun v9 _ => v9 = .slice (some ⟨b, o, none⟩) n cap,
              fun v9 _ => v9 = .int .i64 (i : Int),
              fun v9 _ => v9 = .pointer (some ⟨b, o + i * 7, none⟩),
              fun v9 _ => v9 = .pointer (some ⟨b, o + i * 7 + 5, none⟩),
              fun v9 _ => v9 = .slice (some ⟨b3, o3, none⟩) m lc,
              fun v9 _ => v9 = .int .i64 (j : Int),
              fun v9 _ => v9 = .pointer (some ⟨b3, o3 + j * 2, none⟩),
              fun v9 _ => v9 = .pointer (some ⟨b3, o3 + j * 2, none⟩),
              fun v9 _ => v9 = .string y.lo,
              fun v9 _ => v9 = .string (txt (textL y.lo)),
              fun v9 _ => v9 = .string (txt acc2 ++ txt (textL y.lo)),
              fun v9 _ => v9 = .slice (some ⟨b, o, none⟩) n cap,
              fun v9 _ => v9 = .int .i64 (i : Int),
              fun v9 _ => v9 = .pointer (some ⟨b, o + i * 7, none⟩),
              fun v9 _ => v9 = .pointer (some ⟨b, o + i * 7 + 5, none⟩),
              fun v9 _ => v9 = .slice (some ⟨b3, o3, none⟩) m lc,
              fun v9 _ => v9 = .int .i64 (j : Int),
              fun v9 _ => v9 = .pointer (some ⟨b3, o3 + j * 2, none⟩),
              fun v9 _ => v9 = .pointer (some ⟨b3, o3 + j * 2 + 1, none⟩),
              fun v9 _ => v9 = .string y.hi,
              fun v9 _ => v9 = .string (txt (textL y.hi)),
              fun v9 _ => v9 = .string (txt acc2 ++ txt (textL y.lo) ++ txt (textL y.hi))]
              (fun v9 X9 => v9 = .string (txt acc2 ++ txt (textL y.lo) ++ txt (textL y.hi)) ∧ Below V.heap.size V X9) rfl (by kernel_rfl) (by kernel_rfl) (by kernel_rfl) (by kernel_rfl) ?st ?g0 ?os ?la ?en
            case st => exact ⟨fun _ _ _ _ h => h, fun _ _ _ _ h => h, fun _ _ _ _ h => h, fun _ _ _ _ h => h, fun _ _ _ _ h => h, fun _ _ _ _ h => h, fun _ _ _ _ h => h, fun _ _ _ _ h => h, fun _ _ _ _ h => h, fun _ _ _ _ h => h, fun _ _ _ _ h => h, fun _ _ _ _ h => h, fun _ _ _ _ h => h, fun _ _ _ _ h => h, fun _ _ _ _ h => h, fun _ _ _ _ h => h, fun _ _ _ _ h => h, fun _ _ _ _ h => h, fun _ _ _ _ h => h, fun _ _ _ _ h => h, fun _ _ _ _ h => h, fun _ _ _ _ h => h, fun _ _ _ _ h => h, trivial⟩
            case g0 => exact ⟨rfl, rfl, rfl, Nat.le_refl _, fun _ _ => rfl⟩
            case os =>
              refine ⟨?_, ?_, ?_, ?_, ?_, ?_, ?_, ?_, ?_, ?_, ?_, ?_, ?_, ?_, ?_, ?_, ?_, ?_, ?_, ?_, ?_, ?_, ?_, trivial⟩
              · exact ⟨rfl, fun ρ X9 hg ho hc hf hr => Runs.val _ (op_move (show ρ (.tmp 3) = .string (txt acc2) from ho 3 rfl)) ⟨hg, Below.refl _ _, rfl⟩⟩
              · exact ⟨rfl, fun ρ X9 hg ho hc hf hr => Runs.val _ (op_move (show ρ (.tmp 0) = .slice (some ⟨b, o, none⟩) n cap from ho 0 rfl)) ⟨hg, Below.refl _ _, rfl⟩⟩
              · exact ⟨rfl, fun ρ X9 hg ho hc hf hr => Runs.val _ (op_move (show ρ (.tmp 4) = .int .i64 (i : Int) from ho 4 rfl)) ⟨hg, Below.refl _ _, rfl⟩⟩
              · exact ⟨rfl, fun ρ X9 hg ho hc hf hr => Runs.val _ (op_x31 (show ρ (.tmp 55) = .slice (some ⟨b, o, none⟩) n cap from hr 1 55 rfl rfl) (show ρ (.tmp 56) = .int .i64 (i : Int) from hr 2 56 rfl rfl) hlt) ⟨hg, Below.refl _ _, rfl⟩⟩
              · exact ⟨rfl, fun ρ X9 hg ho hc hf hr => Runs.val _ (op_g68_3 (show ρ (.tmp 57) = .pointer (some ⟨b, o + i * 7, none⟩) from hr 3 57 rfl rfl)) ⟨hg, Below.refl _ _, rfl⟩⟩
              · exact ⟨rfl, fun ρ X9 hg ho hc hf hr => Runs.val _ (op_load66 (show ρ (.tmp 58) = .pointer (some ⟨b, o + i * 7 + 5, none⟩) from hr 4 58 rfl rfl) (cell_on hg cl)) ⟨hg, Below.refl _ _, rfl⟩⟩
              · exact ⟨rfl, fun ρ X9 hg ho hc hf hr => Runs.val _ (op_move (show ρ (.tmp 5) = .int .i64 (j : Int) from ho 5 rfl)) ⟨hg, Below.refl _ _, rfl⟩⟩
              · exact ⟨rfl, fun ρ X9 hg ho hc hf hr => Runs.val _ (op_x66 (show ρ (.tmp 59) = .slice (some ⟨b3, o3, none⟩) m lc from hr 5 59 rfl rfl) (show ρ (.tmp 60) = .int .i64 (j : Int) from hr 6 60 rfl rfl) hltj) ⟨hg, Below.refl _ _, rfl⟩⟩
              · exact ⟨rfl, fun ρ X9 hg ho hc hf hr => Runs.val _ (op_g57_0 (show ρ (.tmp 61) = .pointer (some ⟨b3, o3 + j * 2, none⟩) from hr 7 61 rfl rfl)) ⟨hg, Below.refl _ _, rfl⟩⟩
              · exact ⟨rfl, fun ρ X9 hg ho hc hf hr => Runs.val _ (op_load9 (show ρ (.tmp 62) = .pointer (some ⟨b3, o3 + j * 2, none⟩) from hr 8 62 rfl rfl) (cell_on hg d0)) ⟨hg, Below.refl _ _, rfl⟩⟩
              · refine ⟨rfl, fun ρ X9 hg ho hc hf hr => ?_⟩
                refine Runs.goes 65 #[.string y.lo] (op_call1 hf calls65 (show ρ (.tmp 63) = .string y.lo from hr 9 63 rfl rfl)) ((HT1.out X9).mono ?_)
                rintro e7 w7 ⟨rfl, b7⟩
                exact ⟨_, rfl, hg.trans (b7.mono hg.size), b7, rfl⟩
              · exact ⟨rfl, fun ρ X9 hg ho hc hf hr => Runs.val _ (op_cat (show ρ (.tmp 54) = .string (txt acc2) from hr 0 54 rfl rfl) (show ρ (.tmp 64) = .string (txt (textL y.lo)) from hr 10 64 rfl rfl) s1) ⟨hg, Below.refl _ _, rfl⟩⟩
              · exact ⟨rfl, fun ρ X9 hg ho hc hf hr => Runs.val _ (op_move (show ρ (.tmp 0) = .slice (some ⟨b, o, none⟩) n cap from ho 0 rfl)) ⟨hg, Below.refl _ _, rfl⟩⟩
              · exact ⟨rfl, fun ρ X9 hg ho hc hf hr => Runs.val _ (op_move (show ρ (.tmp 4) = .int .i64 (i : Int) from ho 4 rfl)) ⟨hg, Below.refl _ _, rfl⟩⟩
              · exact ⟨rfl, fun ρ X9 hg ho hc hf hr => Runs.val _ (op_x31 (show ρ (.tmp 66) = .slice (some ⟨b, o, none⟩) n cap from hr 12 66 rfl rfl) (show ρ (.tmp 67) = .int .i64 (i : Int) from hr 13 67 rfl rfl) hlt) ⟨hg, Below.refl _ _, rfl⟩⟩
              · exact ⟨rfl, fun ρ X9 hg ho hc hf hr => Runs.val _ (op_g68_3 (show ρ (.tmp 68) = .pointer (some ⟨b, o + i * 7, none⟩) from hr 14 68 rfl rfl)) ⟨hg, Below.refl _ _, rfl⟩⟩
              · exact ⟨rfl, fun ρ X9 hg ho hc hf hr => Runs.val _ (op_load66 (show ρ (.tmp 69) = .pointer (some ⟨b, o + i * 7 + 5, none⟩) from hr 15 69 rfl rfl) (cell_on hg cl)) ⟨hg, Below.refl _ _, rfl⟩⟩
              · exact ⟨rfl, fun ρ X9 hg ho hc hf hr => Runs.val _ (op_move (show ρ (.tmp 5) = .int .i64 (j : Int) from ho 5 rfl)) ⟨hg, Below.refl _ _, rfl⟩⟩
              · exact ⟨rfl, fun ρ X9 hg ho hc hf hr => Runs.val _ (op_x66 (show ρ (.tmp 70) = .slice (some ⟨b3, o3, none⟩) m lc from hr 16 70 rfl rfl) (show ρ (.tmp 71) = .int .i64 (j : Int) from hr 17 71 rfl rfl) hltj) ⟨hg, Below.refl _ _, rfl⟩⟩
              · exact ⟨rfl, fun ρ X9 hg ho hc hf hr => Runs.val _ (op_g57_1 (show ρ (.tmp 72) = .pointer (some ⟨b3, o3 + j * 2, none⟩) from hr 18 72 rfl rfl)) ⟨hg, Below.refl _ _, rfl⟩⟩
              · exact ⟨rfl, fun ρ X9 hg ho hc hf hr => Runs.val _ (op_load9 (show ρ (.tmp 73) = .pointer (some ⟨b3, o3 + j * 2 + 1, none⟩) from hr 19 73 rfl rfl) (cell_on hg d1)) ⟨hg, Below.refl _ _, rfl⟩⟩
              · refine ⟨rfl, fun ρ X9 hg ho hc hf hr => ?_⟩
                refine Runs.goes 65 #[.string y.hi] (op_call1 hf calls65 (show ρ (.tmp 74) = .string y.hi from hr 20 74 rfl rfl)) ((HT2.out X9).mono ?_)
                rintro e7 w7 ⟨rfl, b7⟩
                exact ⟨_, rfl, hg.trans (b7.mono hg.size), b7, rfl⟩
              · exact ⟨rfl, fun ρ X9 hg ho hc hf hr => Runs.val _ (op_cat (show ρ (.tmp 65) = .string (txt acc2 ++ txt (textL y.lo)) from hr 11 65 rfl rfl) (show ρ (.tmp 75) = .string (txt (textL y.hi)) from hr 21 75 rfl rfl) s2) ⟨hg, Below.refl _ _, rfl⟩⟩
            case la =>
              refine ⟨rfl, fun ρ X9 hg ho hc hf hr => ?_⟩
              exact Runs.val _ (op_assign (show ρ (.tmp 76) = .string (txt acc2 ++ txt (textL y.lo) ++ txt (textL y.hi)) from hr 22 76 (by decide) rfl)) ⟨rfl, hg⟩
            case en =>
              intro a9 X9 Xb v9 hF hs9 hd9 ho9 hv9 hr9
              obtain ⟨x9, hx, hxt⟩ := act_put hs9 hd9 ho9
              have e3 : x9 3 = .string (txt acc2 ++ txt (textL y.lo) ++ txt (textL y.hi)) := (hxt 3).symm.trans ((hv9 3 rfl).trans hF.1)
              change a9 = putAll _ x9 [54, 55, 56, 57, 58, 59, 60, 61, 62, 63, 64, 65, 66, 67, 68, 69, 70, 71, 72, 73, 74, 75, 76, 3] at hx
              simp only [putAll, Act.put, List.setIfInBounds_toArray, List.set_cons_zero, List.set_cons_succ, e3] at hx
              have HG := Lib.hid hF.2
              clear hF hs9 hd9 ho9 hv9 hr9 hxt e3
              subst hx
              generalize x9 54 = z54, x9 55 = z55, x9 56 = z56, x9 57 = z57, x9 58 = z58, x9 59 = z59, x9 60 = z60, x9 61 = z61, x9 62 = z62, x9 63 = z63, x9 64 = z64, x9 65 = z65, x9 66 = z66, x9 67 = z67, x9 68 = z68, x9 69 = z69, x9 70 = z70, x9 71 = z71, x9 72 = z72, x9 73 = z73, x9 74 = z74, x9 75 = z75, x9 76 = z76
              rw [HEND.out]
              go_wp2
              go_roundw
              case rel => exact ⟨j + 1, hjL, by go_num, by rw [HNB.out], HBJ.out.trans (HG.out.mono HBJ.out.size)⟩
              case measure => simp [intOf]; omega
          · have m1 : ¬ ((j : Int) < m) := by omega
            have ei : (x.spans.take j) = x.spans := List.take_of_length_le (by rw [HM.out]; omega)
            rw [ei]
            have hl2 := HL2.out
            rw [List.length_append] at hl2
            have hwr := writes_ref (HWX.out.on wrE_held hbj) (by omega)
            obtain ⟨acc3, hacc3⟩ : ∃ acc3, pre2 ++ x.spans.flatMap sp1L = acc3 := ⟨_, rfl⟩
            rw [hacc3] at hl2
            rw [hacc3]
            have s4 := sum_ok (a := txt acc3) (b := txt (wrsL x.writes)) (by rw [txt_size]; omega) (by rw [txt_size]; omega)
            have hend3 : txt acc3 ++ txt (wrsL x.writes) = txt (acc ++ lk1L x) := by rw [txt_append, HX2.out, hacc3]
            have HEN3 := Lib.hid hend3
            have HBJ := Lib.hid (HB2.out.trans (hbj.mono HB2.out.size))
            clear hbj ei hl2 hacc3 hend3
            go_wp2_with (go_at_call 68; refine hwr.mono ?_; rintro e w3 ⟨rfl, hb3⟩; refine Hid.out ?_)
            refine Lib.hid ?_
            have HB3 := Lib.hid (HBJ.out.trans (hb3.mono HBJ.out.size))
            clear hb3 hwr
            go_wp2
            go_roundw
            case rel => exact ⟨i + 1, hiL, by go_num, by rw [HNA.out, HEN3.out], HB3.out⟩
            case measure => simp [intOf]; omega
    · have k1 : ¬ ((i : Int) < n) := by omega
      have ei : (R.take i) = R := List.take_of_length_le (by rw [HN.out]; omega)
      rw [ei, ← HFU.out]
      have HB := Lib.hid hb
      clear hb ei
      go_wp2
      go_ret
      exact ⟨rfl, HB.out⟩
end
end Go.Proofs.Ytcoaahlakkghhaa
/- The document's text of a shard's state. -/
namespace Go.Proofs.Ytcoaahlakkghhaa
open Go.RowKit
/-- Its numbers are the machine's. -/
structure ShIn (s : Sh) : Prop where
  rw : ∀ r ∈ s.rows, ∀ x ∈ r.list, I64 x.ts
  lk : ∀ l ∈ s.locks, LkIn l
  rc : ∀ r ∈ s.recs, TdOk r.1 ∧ I64 r.2
  ov : ∀ t ∈ s.over, TdOk t
  hi : I64 s.high
/-- A state as it is told. -/
structure Rg (w : World) (s : Sh) (rv lv cv ov : Value) : Prop where
  rw : Lr rwE 2 w s.rows rv
  lk : Lr lkE 7 w s.locks lv
  rc : Lr rcE 4 w s.recs cv
  ov : Lr tdE 3 w s.over ov
theorem Rg.on {w w' : World} {s : Sh} {rv lv cv ov : Value} (h : Rg w s rv lv cv ov) (hb : Below w.heap.size w w') : Rg w' s rv lv cv ov :=
  ⟨h.rw.on rwE_held hb, h.lk.on lkE_held hb, h.rc.on rcE_held hb, h.ov.on tdE_held hb⟩
theorem Lr.shape {α : Type} {E : World → α → List Value → Prop} {c : Nat} {w : World} {L : List α} {v : Value} (h : Lr E c w L v) : ∃ ad cap, v = .slice ad L.length cap ∧ cap ≤ maxLen ∧ L.length ≤ cap := by
  obtain ⟨ad, cap, e, _, h1, h2, _⟩ := h
  exact ⟨ad, cap, e, h2, h1⟩
section
variable {w : World}
set_option maxHeartbeats 4000000 in
set_option maxRecDepth 100000 in
theorem range_ref {s : Sh} {rv lv cv ov : Value} (h : Rg w s rv lv cv ov) (hin : ShIn s) (hz : (rangeL s).length ≤ 1000000000) : Calls Try.prog 16 #[.agg #[rv, lv, cv, ov, .int .i64 s.high]] w fun e w' => e = .returned (.string (txt (rangeL s))) ∧ Below w.heap.size w w' := by
  obtain ⟨W, hW⟩ : ∃ W, W = w.alloc (.cells #[rv, lv, cv, ov, .int .i64 s.high] 63) := ⟨_, rfl⟩
  obtain ⟨Y, hY⟩ : ∃ Y, w.heap.size = Y := ⟨_, rfl⟩
  have hb : Below w.heap.size w W := by rw [hW]; exact (Below.refl _ w).alloc (Nat.le_refl _) _
  have jY : W.heap[Y]? = some (.cells #[rv, lv, cv, ov, .int .i64 s.high] 63 (0, 0)) := by rw [hW, ← hY]; exact heap_alloc_new w _
  have HH := Lib.hid (h.on hb)
  obtain ⟨rad, rcp, erv, _, _⟩ := h.rw.shape
  obtain ⟨lad, lcp, elv, _, _⟩ := h.lk.shape
  obtain ⟨cad, ccp, ecv, hcm, hcm1⟩ := h.rc.shape
  obtain ⟨oad, ocp, eov, hom, hom1⟩ := h.ov.shape
  have hzl := hz
  unfold rangeL at hzl
  simp only [List.length_append] at hzl
  have HRW := Lib.hid (fun X (hX : Below W.heap.size W X) => rows_ref (HH.out.rw.on rwE_held hX) (by omega) hin.rw)
  have HLK := Lib.hid (fun X (hX : Below W.heap.size W X) => locks_ref (HH.out.lk.on lkE_held hX) (by omega) hin.lk)
  obtain ⟨n, hn⟩ : ∃ n, s.recs.length = n := ⟨_, rfl⟩
  obtain ⟨m, hm⟩ : ∃ m, s.over.length = m := ⟨_, rfl⟩
  have hnx : (n : Int) ≤ 9223372036854775807 := by unfold maxLen at hcm; omega
  have hmx : (m : Int) ≤ 9223372036854775807 := by unfold maxLen at hom; omega
  have HNU := Lib.hid (fun X => num_ref (n : Int) X (by unfold I64; omega))
  have HMU := Lib.hid (fun X => num_ref (m : Int) X (by unfold I64; omega))
  have HHI := Lib.hid (fun X => num_ref s.high X hin.hi)
  rw [hn] at ecv
  rw [hm] at eov
  subst erv elv ecv eov
  have y0 : W.cell? ⟨Y, 0, none⟩ = some (.slice rad s.rows.length rcp) := cell_blk jY 0
  have y1 : W.cell? ⟨Y, 1, none⟩ = some (.slice lad s.locks.length lcp) := cell_blk jY 1
  have y2 : W.cell? ⟨Y, 2, none⟩ = some (.slice cad n ccp) := cell_blk jY 2
  have HYC : Hid (∀ X, Below W.heap.size W X → X.cell? ⟨Y, 2, none⟩ = some (.slice cad n ccp) ∧ X.cell? ⟨Y, 3, none⟩ = some (.slice oad m ocp) ∧ X.cell? ⟨Y, 4, none⟩ = some (.int .i64 s.high)) := Lib.hid (fun X hX => ⟨cell_on hX (cell_blk jY 2), cell_on hX (cell_blk jY 3), cell_on hX (cell_blk jY 4)⟩)
  have s1 := sum_ok (a := txt (rowsL s.rows)) (b := txt (locksL s.locks)) (by rw [txt_size]; omega) (by rw [txt_size]; omega)
  rw [hn, hm] at hzl
  have s2 := sum_ok (a := txt (rowsL s.rows) ++ txt (locksL s.locks)) (b := txt (num (n : Int))) (by rw [txt_append, txt_size, List.length_append]; omega) (by rw [txt_size]; omega)
  obtain ⟨pre, hpre⟩ : ∃ pre, rowsL s.rows ++ locksL s.locks ++ num (n : Int) = pre := ⟨_, rfl⟩
  have hend : txt (rowsL s.rows) ++ txt (locksL s.locks) ++ txt (num (n : Int)) = txt pre := by rw [txt_append, txt_append, hpre]
  have hfull : rangeL s = pre ++ s.recs.flatMap rc1L ++ num (m : Int) ++ s.over.flatMap tidL ++ num s.high := by rw [← hpre]; unfold rangeL; rw [hn, hm]
  have hpl : pre.length = (rowsL s.rows).length + (locksL s.locks).length + (num (n : Int)).length := by rw [← hpre, List.length_append, List.length_append]
  have hzz : pre.length + (s.recs.flatMap rc1L).length + (num (m : Int)).length + (s.over.flatMap tidL).length + (num s.high).length ≤ 1000000000 := by omega
  have HZ := Lib.hid hzz
  have HFU := Lib.hid hfull
  have HEND := Lib.hid hend
  have HN := Lib.hid hn
  have HM := Lib.hid hm
  have HB := Lib.hid hb
  have HW := Lib.hid hW
  have HY := Lib.hid hY
  have HIN := Lib.hid hin
  obtain ⟨RR, hRR⟩ : ∃ RR, s.rows = RR := ⟨_, rfl⟩
  obtain ⟨LL, hLL⟩ : ∃ LL, s.locks = LL := ⟨_, rfl⟩
  rw [hRR] at HRW y0 s1 s2 HEND
  rw [hLL] at HLK y1 s1 s2 HEND
  rw [hRR, hLL] at HW
  rw [hRR, hLL]
  clear hz hzl hn hm hb hW hY hin h jY hpre hend hfull hpl hzz hRR hLL hcm hcm1 hom hom1
  obtain ⟨V, rfl⟩ : ∃ V, V = W := ⟨_, rfl⟩
  go_enter Try.func16, Try.ntmps16
  go_upto_region 1 with fail
  rw [← HW.out, HY.out]
  refine wp_region_fin (fun X9 => Below V.heap.size V X9) (fun X9 X' => Below X9.heap.size X9 X') [
    fun v9 _ => v9 = .pointer (some ⟨Y, 0, none⟩),
    fun v9 _ => v9 = .slice rad RR.length rcp,
    fun v9 _ => v9 = .string (txt (rowsL RR)),
    fun v9 _ => v9 = .pointer (some ⟨Y, 1, none⟩),
    fun v9 _ => v9 = .slice lad LL.length lcp,
    fun v9 _ => v9 = .string (txt (locksL LL)),
    fun v9 _ => v9 = .string (txt (rowsL RR) ++ txt (locksL LL)),
    fun v9 _ => v9 = .pointer (some ⟨Y, 2, none⟩),
    fun v9 _ => v9 = .slice cad n ccp,
    fun v9 _ => v9 = .int .i64 (n : Int),
    fun v9 _ => v9 = .string (txt (num (n : Int))),
    fun v9 _ => v9 = .string (txt (rowsL RR) ++ txt (locksL LL) ++ txt (num (n : Int)))]
    (fun v9 X9 => v9 = .string (txt (rowsL RR) ++ txt (locksL LL) ++ txt (num (n : Int))) ∧ Below V.heap.size V X9) rfl (by kernel_rfl) (by kernel_rfl) (by kernel_rfl) (by kernel_rfl) ?st ?g0 ?os ?la ?en
  case st => exact ⟨fun _ _ _ _ h => h, fun _ _ _ _ h => h, fun _ _ _ _ h => h, fun _ _ _ _ h => h, fun _ _ _ _ h => h, fun _ _ _ _ h => h, fun _ _ _ _ h => h, fun _ _ _ _ h => h, fun _ _ _ _ h => h, fun _ _ _ _ h => h, fun _ _ _ _ h => h, fun _ _ _ _ h => h, trivial⟩
  case g0 => exact ⟨rfl, rfl, rfl, Nat.le_refl _, fun _ _ => rfl⟩
  case os =>
    refine ⟨?_, ?_, ?_, ?_, ?_, ?_, ?_, ?_, ?_, ?_, ?_, ?_, trivial⟩
    · exact ⟨rfl, fun ρ X9 hg ho hc hf hr => Runs.val _ (op_f63_0 (show ρ (.tmp 1) = .pointer (some ⟨Y, 0, none⟩) from ho 1 rfl)) ⟨hg, Below.refl _ _, rfl⟩⟩
    · exact ⟨rfl, fun ρ X9 hg ho hc hf hr => Runs.val _ (op_load61 (show ρ (.tmp 6) = .pointer (some ⟨Y, 0, none⟩) from hr 0 6 rfl rfl) (cell_on hg y0)) ⟨hg, Below.refl _ _, rfl⟩⟩
    · refine ⟨rfl, fun ρ X9 hg ho hc hf hr => ?_⟩
      refine Runs.goes 39 #[.slice rad RR.length rcp] (op_call1 hf calls39 (show ρ (.tmp 7) = .slice rad RR.length rcp from hr 1 7 rfl rfl)) ((HRW.out X9 hg).mono ?_)
      rintro e7 w7 ⟨rfl, b7⟩
      exact ⟨_, rfl, hg.trans (b7.mono hg.size), b7, rfl⟩
    · exact ⟨rfl, fun ρ X9 hg ho hc hf hr => Runs.val _ (op_f63_1 (show ρ (.tmp 1) = .pointer (some ⟨Y, 0, none⟩) from ho 1 rfl)) ⟨hg, Below.refl _ _, rfl⟩⟩
    · exact ⟨rfl, fun ρ X9 hg ho hc hf hr => Runs.val _ (op_load31 (show ρ (.tmp 9) = .pointer (some ⟨Y, 1, none⟩) from hr 3 9 rfl rfl) (cell_on hg y1)) ⟨hg, Below.refl _ _, rfl⟩⟩
    · refine ⟨rfl, fun ρ X9 hg ho hc hf hr => ?_⟩
      refine Runs.goes 40 #[.slice lad LL.length lcp] (op_call1 hf calls40 (show ρ (.tmp 10) = .slice lad LL.length lcp from hr 4 10 rfl rfl)) ((HLK.out X9 hg).mono ?_)
      rintro e7 w7 ⟨rfl, b7⟩
      exact ⟨_, rfl, hg.trans (b7.mono hg.size), b7, rfl⟩
    · exact ⟨rfl, fun ρ X9 hg ho hc hf hr => Runs.val _ (op_cat (show ρ (.tmp 8) = .string (txt (rowsL RR)) from hr 2 8 rfl rfl) (show ρ (.tmp 11) = .string (txt (locksL LL)) from hr 5 11 rfl rfl) s1) ⟨hg, Below.refl _ _, rfl⟩⟩
    · exact ⟨rfl, fun ρ X9 hg ho hc hf hr => Runs.val _ (op_f63_2 (show ρ (.tmp 1) = .pointer (some ⟨Y, 0, none⟩) from ho 1 rfl)) ⟨hg, Below.refl _ _, rfl⟩⟩
    · exact ⟨rfl, fun ρ X9 hg ho hc hf hr => Runs.val _ (op_load32 (show ρ (.tmp 13) = .pointer (some ⟨Y, 2, none⟩) from hr 7 13 rfl rfl) (cell_on hg y2)) ⟨hg, Below.refl _ _, rfl⟩⟩
    · exact ⟨rfl, fun ρ X9 hg ho hc hf hr => Runs.val _ (op_n32 (show ρ (.tmp 14) = .slice cad n ccp from hr 8 14 rfl rfl)) ⟨hg, Below.refl _ _, rfl⟩⟩
    · refine ⟨rfl, fun ρ X9 hg ho hc hf hr => ?_⟩
      refine Runs.goes 41 #[.int .i64 (n : Int)] (op_call1 hf calls41 (show ρ (.tmp 15) = .int .i64 (n : Int) from hr 9 15 rfl rfl)) ((HNU.out X9).mono ?_)
      rintro e7 w7 ⟨rfl, b7⟩
      exact ⟨_, rfl, hg.trans (b7.mono hg.size), b7, rfl⟩
    · exact ⟨rfl, fun ρ X9 hg ho hc hf hr => Runs.val _ (op_cat (show ρ (.tmp 12) = .string (txt (rowsL RR) ++ txt (locksL LL)) from hr 6 12 rfl rfl) (show ρ (.tmp 16) = .string (txt (num (n : Int))) from hr 10 16 rfl rfl) s2) ⟨hg, Below.refl _ _, rfl⟩⟩
  case la =>
    refine ⟨rfl, fun ρ X9 hg ho hc hf hr => ?_⟩
    exact Runs.val _ (op_assign (show ρ (.tmp 17) = .string (txt (rowsL RR) ++ txt (locksL LL) ++ txt (num (n : Int))) from hr 11 17 (by decide) rfl)) ⟨rfl, hg⟩
  case en =>
    intro a9 X9 Xb v9 hF hs9 hd9 ho9 hv9 hr9
    obtain ⟨x9, hx, hxt⟩ := act_put hs9 hd9 ho9
    have e3 : x9 3 = .string (txt (rowsL RR) ++ txt (locksL LL) ++ txt (num (n : Int))) := (hxt 3).symm.trans ((hv9 3 rfl).trans hF.1)
    change a9 = putAll _ x9 [6, 7, 8, 9, 10, 11, 12, 13, 14, 15, 16, 17, 3] at hx
    simp only [putAll, Act.put, List.setIfInBounds_toArray, List.set_cons_zero, List.set_cons_succ, e3] at hx
    have HG := Lib.hid hF.2
    clear hF hs9 hd9 ho9 hv9 hr9 hxt e3
    subst hx
    generalize x9 6 = z6, x9 7 = z7, x9 8 = z8, x9 9 = z9, x9 10 = z10, x9 11 = z11, x9 12 = z12, x9 13 = z13, x9 14 = z14, x9 15 = z15, x9 16 = z16, x9 17 = z17
    rw [HEND.out]
    clear HEND s1 s2 y0 y1 y2 HRW HLK HNU
    have HG1 := Lib.hid HG.out
    obtain ⟨W1, rfl⟩ : ∃ W1, W1 = X9 := ⟨_, rfl⟩
    clear HG
    go_wp2
    go_loopw [3, 4] (fun ov iv wr => TJ V pre rc1L s.recs wr ov iv) (fun _ iv _ => n - (intOf iv).toNat)
    case atStart => exact ⟨0, Nat.zero_le _, rfl, by rw [List.take_zero]; simp, HG1.out⟩
    case round =>
      clear HG1
      obtain ⟨i, hi, rfl, rfl, hb⟩ := hrel
      obtain ⟨U, rfl⟩ : ∃ U, U = wr := ⟨_, rfl⟩
      obtain ⟨q2, q3, q4⟩ := HYC.out U hb
      have hin2 : i ≤ n := by rw [← HN.out]; exact hi
      by_cases hlt : i < n
      · have hiL : i < s.recs.length := by rw [HN.out]; exact hlt
        have k0 : (0 : Int) ≤ i := by omega
        have k1 : (i : Int) < n := by omega
        obtain ⟨_, _, e1, _, _, _, hcs⟩ := HH.out.rc.on rcE_held hb
        obtain ⟨b, o, cs, ha, hbl, hE, _, hcell⟩ := hcs i hiL
        have hE' : cs = rcL s.recs[i] := hE
        subst hE'
        simp only [Value.slice.injEq] at e1
        obtain ⟨rfl, hdrop, rfl⟩ := e1
        clear hdrop
        subst ha
        have c0 := hcell 0 _ rfl
        have c1 := hcell 1 _ rfl
        have c2 := hcell 2 _ rfl
        have c3 := hcell 3 _ rfl
        simp only [Nat.add_zero] at c0
        have hnx := fm_next rc1L hiL
        have hln : (pre ++ (s.recs.take (i + 1)).flatMap rc1L).length ≤ 1000000000 := by
          have h1 := HZ.out
          have h2 := fmy_take rc1L s.recs (i + 1)
          rw [List.length_append]
          omega
        have hti := HIN.out.rc _ (List.getElem_mem hiL)
        obtain ⟨x, hx⟩ : ∃ x, s.recs[i] = x := ⟨_, rfl⟩
        rw [hx] at c0 c1 c2 c3 hnx hti
        obtain ⟨acc, hacc⟩ : ∃ acc, pre ++ (s.recs.take i).flatMap rc1L = acc := ⟨_, rfl⟩
        have hna : pre ++ (s.recs.take (i + 1)).flatMap rc1L = acc ++ rc1L x := by rw [hnx, ← List.append_assoc, hacc]
        rw [hna] at hln
        rw [hacc]
        have HNA := Lib.hid hna
        have HBU := Lib.hid hb
        have hlx : (rc1L x).length = (tidL x.1).length + (num x.2).length := by unfold rc1L; rw [List.length_append]
        rw [List.length_append] at hln
        have s1 := sum_ok (a := txt acc) (b := txt (tidL x.1)) (by rw [txt_size]; omega) (by rw [txt_size]; omega)
        have s2 := sum_ok (a := txt acc ++ txt (tidL x.1)) (b := txt (num x.2)) (by rw [txt_append, txt_size, List.length_append]; omega) (by rw [txt_size]; omega)
        have HT1 := Lib.hid (fun X => tid_ref x.1 X hti.1)
        have HT2 := Lib.hid (fun X => num_ref x.2 X hti.2)
        have hend : txt acc ++ txt (tidL x.1) ++ txt (num x.2) = txt (acc ++ rc1L x) := by
          rw [txt_append, txt_append]
          unfold rc1L
          simp only [List.append_assoc]
        have HEND := Lib.hid hend
        clear hcs hcell hE hb hx hnx hna hln hacc hlx hend hti q3 q4
        go_upto_region 5 with fail
        refine wp_region_fin (fun X9 => Below U.heap.size U X9) (fun X9 X' => Below X9.heap.size X9 X') [
          fun v9 _ => v9 = .string (txt acc),
          fun v9 _ => v9 = .pointer (some ⟨Y, 2, none⟩),
          fun v9 _ => v9 = .slice (some ⟨b, o, none⟩) n ccp,
          fun v9 _ => v9 = .int .i64 (i : Int),
          fun v9 _ => v9 = .pointer (some ⟨b, o + i * 4, none⟩),
          fun v9 _ => v9 = .pointer (some ⟨b, o + i * 4, none⟩),
          fun v9 _ => v9 = tdV x.1,
          fun v9 _ => v9 = .string (txt (tidL x.1)),
          fun v9 _ => v9 = .string (txt acc ++ txt (tidL x.1)),
          fun v9 _ => v9 = .pointer (some ⟨Y, 2, none⟩),
          fun v9 _ => v9 = .slice (some ⟨b, o, none⟩) n ccp,
          fun v9 _ => v9 = .int .i64 (i : Int),
          fun v9 _ => v9 = .pointer (some ⟨b, o + i * 4, none⟩),
          fun v9 _ => v9 = .pointer (some ⟨b, o + i * 4 + 3, none⟩),
          fun v9 _ => v9 = .int .i64 x.2,
          fun v9 _ => v9 = .string (txt (num x.2)),
          fun v9 _ => v9 = .string (txt acc ++ txt (tidL x.1) ++ txt (num x.2))]
          (fun v9 X9 => v9 = .string (txt acc ++ txt (tidL x.1) ++ txt (num x.2)) ∧ Below U.heap.size U X9) rfl (by kernel_rfl) (by kernel_rfl) (by kernel_rfl) (by kernel_rfl) ?st ?g0 ?os ?la ?en
        case st => exact ⟨fun _ _ _ _ h => h, fun _ _ _ _ h => h, fun _ _ _ _ h => h, fun _ _ _ _ h => h, fun _ _ _ _ h => h, fun _ _ _ _ h => h, fun _ _ _ _ h => h, fun _ _ _ _ h => h, fun _ _ _ _ h => h, fun _ _ _ _ h => h, fun _ _ _ _ h => h, fun _ _ _ _ h => h, fun _ _ _ _ h => h, fun _ _ _ _ h => h, fun _ _ _ _ h => h, fun _ _ _ _ h => h, fun _ _ _ _ h => h, trivial⟩
        case g0 => exact ⟨rfl, rfl, rfl, Nat.le_refl _, fun _ _ => rfl⟩
        case os =>
          refine ⟨?_, ?_, ?_, ?_, ?_, ?_, ?_, ?_, ?_, ?_, ?_, ?_, ?_, ?_, ?_, ?_, ?_, trivial⟩
          · exact ⟨rfl, fun ρ X9 hg ho hc hf hr => Runs.val _ (op_move (show ρ (.tmp 3) = .string (txt acc) from ho 3 rfl)) ⟨hg, Below.refl _ _, rfl⟩⟩
          · exact ⟨rfl, fun ρ X9 hg ho hc hf hr => Runs.val _ (op_f63_2 (show ρ (.tmp 1) = .pointer (some ⟨Y, 0, none⟩) from ho 1 rfl)) ⟨hg, Below.refl _ _, rfl⟩⟩
          · exact ⟨rfl, fun ρ X9 hg ho hc hf hr => Runs.val _ (op_load32 (show ρ (.tmp 26) = .pointer (some ⟨Y, 2, none⟩) from hr 1 26 rfl rfl) (cell_on hg q2)) ⟨hg, Below.refl _ _, rfl⟩⟩
          · exact ⟨rfl, fun ρ X9 hg ho hc hf hr => Runs.val _ (op_move (show ρ (.tmp 4) = .int .i64 (i : Int) from ho 4 rfl)) ⟨hg, Below.refl _ _, rfl⟩⟩
          · exact ⟨rfl, fun ρ X9 hg ho hc hf hr => Runs.val _ (op_x32 (show ρ (.tmp 27) = .slice (some ⟨b, o, none⟩) n ccp from hr 2 27 rfl rfl) (show ρ (.tmp 28) = .int .i64 (i : Int) from hr 3 28 rfl rfl) hlt) ⟨hg, Below.refl _ _, rfl⟩⟩
          · exact ⟨rfl, fun ρ X9 hg ho hc hf hr => Runs.val _ (op_f101_0 (show ρ (.tmp 29) = .pointer (some ⟨b, o + i * 4, none⟩) from hr 4 29 rfl rfl)) ⟨hg, Below.refl _ _, rfl⟩⟩
          · exact ⟨rfl, fun ρ X9 hg ho hc hf hr => Runs.val _ (op_load37 (show ρ (.tmp 30) = .pointer (some ⟨b, o + i * 4, none⟩) from hr 5 30 rfl rfl) (cell_on hg c0) (cell_on hg c1) (cell_on hg c2)) ⟨hg, Below.refl _ _, rfl⟩⟩
          · refine ⟨rfl, fun ρ X9 hg ho hc hf hr => ?_⟩
            refine Runs.goes 42 #[tdV x.1] (op_call1 hf calls42 (show ρ (.tmp 31) = tdV x.1 from hr 6 31 rfl rfl)) ((HT1.out X9).mono ?_)
            rintro e7 w7 ⟨rfl, b7⟩
            exact ⟨_, rfl, hg.trans (b7.mono hg.size), b7, rfl⟩
          · exact ⟨rfl, fun ρ X9 hg ho hc hf hr => Runs.val _ (op_cat (show ρ (.tmp 25) = .string (txt acc) from hr 0 25 rfl rfl) (show ρ (.tmp 32) = .string (txt (tidL x.1)) from hr 7 32 rfl rfl) s1) ⟨hg, Below.refl _ _, rfl⟩⟩
          · exact ⟨rfl, fun ρ X9 hg ho hc hf hr => Runs.val _ (op_f63_2 (show ρ (.tmp 1) = .pointer (some ⟨Y, 0, none⟩) from ho 1 rfl)) ⟨hg, Below.refl _ _, rfl⟩⟩
          · exact ⟨rfl, fun ρ X9 hg ho hc hf hr => Runs.val _ (op_load32 (show ρ (.tmp 34) = .pointer (some ⟨Y, 2, none⟩) from hr 9 34 rfl rfl) (cell_on hg q2)) ⟨hg, Below.refl _ _, rfl⟩⟩
          · exact ⟨rfl, fun ρ X9 hg ho hc hf hr => Runs.val _ (op_move (show ρ (.tmp 4) = .int .i64 (i : Int) from ho 4 rfl)) ⟨hg, Below.refl _ _, rfl⟩⟩
          · exact ⟨rfl, fun ρ X9 hg ho hc hf hr => Runs.val _ (op_x32 (show ρ (.tmp 35) = .slice (some ⟨b, o, none⟩) n ccp from hr 10 35 rfl rfl) (show ρ (.tmp 36) = .int .i64 (i : Int) from hr 11 36 rfl rfl) hlt) ⟨hg, Below.refl _ _, rfl⟩⟩
          · exact ⟨rfl, fun ρ X9 hg ho hc hf hr => Runs.val _ (op_f101_1 (show ρ (.tmp 37) = .pointer (some ⟨b, o + i * 4, none⟩) from hr 12 37 rfl rfl)) ⟨hg, Below.refl _ _, rfl⟩⟩
          · exact ⟨rfl, fun ρ X9 hg ho hc hf hr => Runs.val _ (op_loadI (show ρ (.tmp 38) = .pointer (some ⟨b, o + i * 4 + 3, none⟩) from hr 13 38 rfl rfl) (cell_on hg c3)) ⟨hg, Below.refl _ _, rfl⟩⟩
          · refine ⟨rfl, fun ρ X9 hg ho hc hf hr => ?_⟩
            refine Runs.goes 41 #[.int .i64 x.2] (op_call1 hf calls41 (show ρ (.tmp 39) = .int .i64 x.2 from hr 14 39 rfl rfl)) ((HT2.out X9).mono ?_)
            rintro e7 w7 ⟨rfl, b7⟩
            exact ⟨_, rfl, hg.trans (b7.mono hg.size), b7, rfl⟩
          · exact ⟨rfl, fun ρ X9 hg ho hc hf hr => Runs.val _ (op_cat (show ρ (.tmp 33) = .string (txt acc ++ txt (tidL x.1)) from hr 8 33 rfl rfl) (show ρ (.tmp 40) = .string (txt (num x.2)) from hr 15 40 rfl rfl) s2) ⟨hg, Below.refl _ _, rfl⟩⟩
        case la =>
          refine ⟨rfl, fun ρ X9 hg ho hc hf hr => ?_⟩
          exact Runs.val _ (op_assign (show ρ (.tmp 41) = .string (txt acc ++ txt (tidL x.1) ++ txt (num x.2)) from hr 16 41 (by decide) rfl)) ⟨rfl, hg⟩
        case en =>
          intro a9 X9 Xb v9 hF hs9 hd9 ho9 hv9 hr9
          obtain ⟨x9, hx, hxt⟩ := act_put hs9 hd9 ho9
          have e3 : x9 3 = .string (txt acc ++ txt (tidL x.1) ++ txt (num x.2)) := (hxt 3).symm.trans ((hv9 3 rfl).trans hF.1)
          change a9 = putAll _ x9 [25, 26, 27, 28, 29, 30, 31, 32, 33, 34, 35, 36, 37, 38, 39, 40, 41, 3] at hx
          simp only [putAll, Act.put, List.setIfInBounds_toArray, List.set_cons_zero, List.set_cons_succ, e3] at hx
          have HG := Lib.hid hF.2
          clear hF hs9 hd9 ho9 hv9 hr9 hxt e3
          subst hx
          generalize x9 25 = z25, x9 26 = z26, x9 27 = z27, x9 28 = z28, x9 29 = z29, x9 30 = z30, x9 31 = z31, x9 32 = z32, x9 33 = z33, x9 34 = z34, x9 35 = z35, x9 36 = z36, x9 37 = z37, x9 38 = z38, x9 39 = z39, x9 40 = z40, x9 41 = z41
          rw [HEND.out]
          go_wp2
          go_roundw
          case rel => exact ⟨i + 1, hiL, by go_num, by rw [HNA.out], HBU.out.trans (HG.out.mono HBU.out.size)⟩
          case measure => simp [intOf]; omega
      · have k1 : ¬ ((i : Int) < n) := by omega
        have ei : (s.recs.take i) = s.recs := List.take_of_length_le (by rw [HN.out]; omega)
        rw [ei]
        have hzz := HZ.out
        obtain ⟨acc, hacc⟩ : ∃ acc, pre ++ s.recs.flatMap rc1L = acc := ⟨_, rfl⟩
        have hal : acc.length = pre.length + (s.recs.flatMap rc1L).length := by rw [← hacc, List.length_append]
        rw [hacc]
        have s3 := sum_ok (a := txt acc) (b := txt (num (m : Int))) (by rw [txt_size]; omega) (by rw [txt_size]; omega)
        obtain ⟨pre2, hp2⟩ : ∃ pre2, acc ++ num (m : Int) = pre2 := ⟨_, rfl⟩
        have hp2l : pre2.length + (s.over.flatMap tidL).length + (num s.high).length ≤ 1000000000 := by rw [← hp2, List.length_append]; omega
        have he2 : txt acc ++ txt (num (m : Int)) = txt pre2 := by rw [txt_append, hp2]
        have hf2 : rangeL s = pre2 ++ s.over.flatMap tidL ++ num s.high := by rw [HFU.out, hacc, hp2]
        have hnu := HMU.out U
        have HBU := Lib.hid hb
        have HP2 := Lib.hid hp2l
        have HE2 := Lib.hid he2
        have HF2 := Lib.hid hf2
        clear hb ei hzz hacc hal hp2 hp2l he2 hf2 HZ HFU
        go_wp2_with (go_at_call 41; refine hnu.mono ?_; rintro e w3 ⟨rfl, hb3⟩; refine Hid.out ?_)
        refine Lib.hid ?_
        have HB3 := Lib.hid (HBU.out.trans (hb3.mono HBU.out.size))
        clear hb3 hnu
        go_wp2
        rw [HE2.out]
        go_loopw [3, 5] (fun ov iv wr => TJ V pre2 tidL s.over wr ov iv) (fun _ iv _ => m - (intOf iv).toNat)
        case atStart => exact ⟨0, Nat.zero_le _, rfl, by rw [List.take_zero]; simp, HB3.out⟩
        case round =>
          clear HB3
          obtain ⟨j, hj, rfl, rfl, hbj⟩ := hrel
          obtain ⟨U2, rfl⟩ : ∃ U2, U2 = wr := ⟨_, rfl⟩
          obtain ⟨q2, q3, q4⟩ := HYC.out U2 hbj
          have hjm : j ≤ m := by rw [← HM.out]; exact hj
          by_cases hltj : j < m
          · have hjL : j < s.over.length := by rw [HM.out]; exact hltj
            have m0 : (0 : Int) ≤ j := by omega
            have m1 : (j : Int) < m := by omega
            obtain ⟨_, _, e1, _, _, _, hcs⟩ := HH.out.ov.on tdE_held hbj
            obtain ⟨b, o, cs, ha, hbl, hE, _, hcell⟩ := hcs j hjL
            have hE' : cs = tdL s.over[j] := hE
            subst hE'
            simp only [Value.slice.injEq] at e1
            obtain ⟨rfl, hdrop, rfl⟩ := e1
            clear hdrop
            subst ha
            have c0 := hcell 0 _ rfl
            have c1 := hcell 1 _ rfl
            have c2 := hcell 2 _ rfl
            simp only [Nat.add_zero] at c0
            have hnx := fm_next tidL hjL
            have hln : (pre2 ++ (s.over.take (j + 1)).flatMap tidL).length ≤ 1000000000 := by
              have h1 := HP2.out
              have h2 := fmy_take tidL s.over (j + 1)
              rw [List.length_append]
              omega
            have hti := HIN.out.ov _ (List.getElem_mem hjL)
            obtain ⟨x, hx⟩ : ∃ x, s.over[j] = x := ⟨_, rfl⟩
            rw [hx] at c0 c1 c2 hnx hti
            obtain ⟨acc2, hacc⟩ : ∃ acc2, pre2 ++ (s.over.take j).flatMap tidL = acc2 := ⟨_, rfl⟩
            have hna : pre2 ++ (s.over.take (j + 1)).flatMap tidL = acc2 ++ tidL x := by rw [hnx, ← List.append_assoc, hacc]
            rw [hna, List.length_append] at hln
            rw [hacc]
            have HNA := Lib.hid hna
            have s1 := sum_ok (a := txt acc2) (b := txt (tidL x)) (by rw [txt_size]; omega) (by rw [txt_size]; omega)
            have hti2 := tid_ref x U2 hti
            have HBJ := Lib.hid hbj
            have HTE : Hid (txt acc2 ++ txt (tidL x) = txt (acc2 ++ tidL x)) := Lib.hid (txt_append _ _)
            clear hcs hcell hE hbj hx hnx hna hln hacc hti q2 q4
            go_wp2_with (go_at_call 42; refine hti2.mono ?_; rintro e w4 ⟨rfl, hb4⟩; refine Hid.out ?_)
            refine Lib.hid ?_
            have HB4 := Lib.hid (HBJ.out.trans (hb4.mono HBJ.out.size))
            clear hb4 hti2
            go_wp2
            go_roundw
            case rel => exact ⟨j + 1, hjL, by go_num, by rw [HNA.out, HTE.out], HB4.out⟩
            case measure => simp [intOf]; omega
          · have m1 : ¬ ((j : Int) < m) := by omega
            have ei : (s.over.take j) = s.over := List.take_of_length_le (by rw [HM.out]; omega)
            rw [ei]
            have hp2l := HP2.out
            obtain ⟨acc3, hacc3⟩ : ∃ acc3, pre2 ++ s.over.flatMap tidL = acc3 := ⟨_, rfl⟩
            have hal : acc3.length = pre2.length + (s.over.flatMap tidL).length := by rw [← hacc3, List.length_append]
            rw [hacc3]
            have s3 := sum_ok (a := txt acc3) (b := txt (num s.high)) (by rw [txt_size]; omega) (by rw [txt_size]; omega)
            have HEE : Hid (txt acc3 ++ txt (num s.high) = txt (rangeL s)) := Lib.hid (by rw [txt_append, HF2.out, hacc3])
            have hhi := HHI.out U2
            have HBJ := Lib.hid (HB.out.trans (hbj.mono HB.out.size))
            clear hbj ei hp2l hacc3 hal q2
            go_wp2_with (go_at_call 41; refine hhi.mono ?_; rintro e w4 ⟨rfl, hb4⟩; refine Hid.out ?_)
            refine Lib.hid ?_
            have HB4 := Lib.hid (HBJ.out.trans (hb4.mono HBJ.out.size))
            clear hb4 hhi
            go_wp2
            go_ret
            refine ⟨?_, HB4.out⟩
            rw [← HEE.out]
            rfl
end
end Go.Proofs.Ytcoaahlakkghhaa
