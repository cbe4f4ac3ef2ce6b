import Derived.Test.YtkfnphhoebknnaaQBl
namespace Go.Proofs.Ytkfnphhoebknnaa
open Go.RowKit Go.Maps
section
variable {w : World}
theorem nameB_sz {s : ByteArray} (h : nameB s = true) : s.size ≤ 16 := by
  rcases Nat.lt_or_ge 16 s.size with q | q
  · rw [nameB_no (.inr q)] at h
    cases h
  · exact q
theorem pushS {X : World} {B : Nat} {l : List ByteArray} {v : Value} (ho : X.ownsRow B 9 1 v l.length (l.flatMap stL)) (hB : B ≤ X.heap.size) (x : ByteArray) (hz : l.length ≤ 100000000) :
    ∃ ad cap w', (Builtin.append_ #[88, 88] 88 #[v, .slice (some ⟨X.heap.size, 0, none⟩) 1 1]).run Try.prog (X.alloc (.cells #[.string x] 9)) = .ok (.slice ad (l.length + 1) cap) w' ∧ w'.ownsRow B 9 1 (.slice ad (l.length + 1) cap) (l ++ [x]).length ((l ++ [x]).flatMap stL) ∧ Below B X w' := by
  have hal := bnew X (.cells #[.string x] 9)
  have hj := heap_alloc_new X (.cells #[.string x] 9)
  obtain ⟨ad, cap, w', h1, h2, h3, h4⟩ := run_st (m := 1) (c := 1) (news := stL x) (own_below ho hal) (Nat.le_trans hB hal.size) (.inr ⟨_, rfl, rfl, fun j u hu => by
    rw [add_at, Nat.zero_add, cell_blk hj]
    simpa using hu⟩) (fun u hu => by
      simp at hu
      subst hu
      rfl) (by omega)
  refine ⟨ad, cap, w', h1, by simpa using h2, (hal.mono hB).grown h3 (Nat.le_trans hB hal.size) (fun k hk => (own_ge ho k hk).1)⟩
theorem pushN {X : World} {B : Nat} {l : List Int} {v : Value} (ho : X.ownsRow B 3 1 v l.length (l.flatMap inL)) (hB : B ≤ X.heap.size) (x : Int) (hz : l.length ≤ 100000000) :
    ∃ ad cap w', (Builtin.append_ #[61, 61] 61 #[v, .slice (some ⟨X.heap.size, 0, none⟩) 1 1]).run Try.prog (X.alloc (.cells #[.int .i64 x] 3)) = .ok (.slice ad (l.length + 1) cap) w' ∧ w'.ownsRow B 3 1 (.slice ad (l.length + 1) cap) (l ++ [x]).length ((l ++ [x]).flatMap inL) ∧ Below B X w' := by
  have hal := bnew X (.cells #[.int .i64 x] 3)
  have hj := heap_alloc_new X (.cells #[.int .i64 x] 3)
  obtain ⟨ad, cap, w', h1, h2, h3, h4⟩ := run_in (m := 1) (c := 1) (news := inL x) (own_below ho hal) (Nat.le_trans hB hal.size) (.inr ⟨_, rfl, rfl, fun j u hu => by
    rw [add_at, Nat.zero_add, cell_blk hj]
    simpa using hu⟩) (fun u hu => by
      simp at hu
      subst hu
      rfl) (by omega)
  refine ⟨ad, cap, w', h1, by simpa using h2, (hal.mono hB).grown h3 (Nat.le_trans hB hal.size) (fun k hk => (own_ge ho k hk).1)⟩
theorem parts_noC {L : List Col} {i : Nat} (hi : i < L.length) (h : nameB L[i].nm = false ∨ stB L[i].st = false) : partsB Col.nm Col.st L = false := by
  unfold partsB
  have : L.all (fun x => nameB x.nm && stB x.st) = false := by
    rw [List.all_eq_false]
    refine ⟨L[i], List.getElem_mem hi, ?_⟩
    rcases h with h | h <;> simp [h]
  rw [this]
  rfl
set_option maxHeartbeats 4000000 in
set_option maxRecDepth 100000 in
theorem partsC_any {L : List Col} {v : Value} (hL : Lr colE 7 w L v) (hz : L.length ≤ 1000000) : Calls Try.prog 72 #[v, .func (.func 56) #[] #[]] w fun e w' => e = .returned (.bool (partsB Col.nm Col.st L)) ∧ Below w.heap.size w w' := by
  obtain ⟨ad, cap, rfl, _, z1, z2, hX⟩ := hL
  have hmx : (L.length : Int) ≤ 9223372036854775807 := by unfold maxLen at z2; omega
  have HX := Lib.hid hX
  have HZ := Lib.hid hz
  clear hX z1 z2 hz
  go_enter Try.func72, Try.ntmps72
  go_wp2
  go_loopw [5, 10] (fun nv iv wr => ∃ i : Nat, i ≤ L.length ∧ iv = .int .i64 (i : Int) ∧ (∀ j (hj : j < L.length), j < i → nameB L[j].nm = true ∧ stB L[j].st = true) ∧ wr.ownsRow w.heap.size 9 1 nv ((L.take i).map Col.nm).length (((L.take i).map Col.nm).flatMap stL) ∧ Below w.heap.size w wr) (fun _ iv _ => L.length - (intOf iv).toNat)
  case atStart => exact ⟨0, Nat.zero_le _, rfl, fun j _ hj => by omega, World.ownsRow_nil _ _ 9 1, Below.refl _ _⟩
  case round =>
    obtain ⟨i, hi, rfl, hno, ho, hb⟩ := hrel
    obtain ⟨V, rfl⟩ : ∃ V, V = wr := ⟨_, rfl⟩
    have HN := Lib.hid hno
    have HB := Lib.hid hb
    have HO := Lib.hid ho
    obtain ⟨nad, ncap, hsh⟩ := own_shape ho
    have hln : ((L.take i).map Col.nm).length = i := by rw [List.length_map, List.length_take]; omega
    rw [hln] at hsh
    subst hsh
    clear hno ho
    by_cases hlt : i < L.length
    · have k0 : (0 : Int) ≤ i := by omega
      have k1 : (i : Int) < L.length := by omega
      obtain ⟨b, p, cs, rfl, hbl, hE, _, hcell⟩ := HX.out i hlt
      cases hE
      obtain ⟨x, hx⟩ : ∃ x, L[i] = x := ⟨_, rfl⟩
      have HNX : Hid (nameB x.nm = false ∨ stB x.st = false → partsB Col.nm Col.st L = false) := fun q => parts_noC hlt (by rw [hx]; exact q)
      have HNY : Hid (nameB x.nm = true → stB x.st = true → ∀ j (hj : j < L.length), j < i + 1 → nameB L[j].nm = true ∧ stB L[j].st = true) := fun q1 q2 j hj hji => by
        rcases Nat.lt_or_ge j i with z | z
        · exact HN.out j hj z
        · obtain rfl : j = i := by omega
          rw [hx]
          exact ⟨q1, q2⟩
      have HTK : Hid ((L.take (i + 1)).map Col.nm = (L.take i).map Col.nm ++ [x.nm]) := by
        rw [List.take_succ_eq_append_getElem hlt, hx, List.map_append]
        exact Lib.hid rfl
      rw [hx] at hcell
      have hcall := ofC_any (w := V) (B := b) (q := p + i * 7) (x := x) ⟨_, rfl, fun j u hu => cell_on hb (hcell j u hu)⟩
      have cst : V.cell? ⟨b, p + i * 7 + 3, none⟩ = some (.int .i64 x.st) := cell_on hb (hcell 3 _ rfl)
      have HS := Lib.hid cst
      clear hcell hx hb hbl cst
      go_wp2_with (go_at_call 56; refine hcall.mono ?_; rintro e w1 ⟨rfl, b1⟩; refine Hid.out ?_)
      refine Lib.hid ?_
      obtain ⟨V1, hV1⟩ : ∃ V1, V1 = w1.alloc (.cells #[.int .i64 x.id, .string x.nm, .pointer (some ⟨b, p + i * 7 + 3, none⟩)] 129) := ⟨_, rfl⟩
      obtain ⟨Q, hQ⟩ : ∃ Q, w1.heap.size = Q := ⟨_, rfl⟩
      have jQ : V1.heap[Q]? = some (.cells #[.int .i64 x.id, .string x.nm, .pointer (some ⟨b, p + i * 7 + 3, none⟩)] 129 (0, 0)) := by rw [hV1, ← hQ]; exact heap_alloc_new w1 _
      have bV : Below V.heap.size V V1 := bgo b1 (by rw [hV1]; exact bnew _ _)
      have g1 : V1.cell? ⟨Q, 1, none⟩ = some (.string x.nm) := cell_blk jQ 1
      have g2 : V1.cell? ⟨Q, 2, none⟩ = some (.pointer (some ⟨b, p + i * 7 + 3, none⟩)) := cell_blk jQ 2
      have g3 : V1.cell? ⟨b, p + i * 7 + 3, none⟩ = some (.int .i64 x.st) := cell_on bV HS.out
      have hname := name_any (w := V1) x.nm
      have BV := Lib.hid (bgo HB.out bV)
      obtain ⟨nad2, ncap2, w2, hrun, r1, r2⟩ := pushS (own_below HO.out bV) (bgo HB.out bV).size x.nm (by rw [hln]; have := HZ.out; omega)
      rw [hln] at hrun r1
      rw [← HTK.out] at r1
      have R1 := Lib.hid r1
      have R2 := Lib.hid ((bgo HB.out bV).trans r2)
      have HV1 := Lib.hid hV1
      have HQ := Lib.hid hQ
      obtain ⟨st, hst⟩ : ∃ st, x.st = st := ⟨_, rfl⟩
      rw [hst] at g3 HNX HNY
      clear b1 hV1 hQ jQ bV r1 r2 hcall hln HS hst
      go_upto_region 6 with fail
      rw [← HV1.out, HQ.out]
      cases q1 : nameB x.nm with
      | false =>
        rw [q1] at hname
        have HR := Lib.hid (HNX.out (.inl q1))
        clear q1 hrun
        go_wp2_with fail
        refine hname.mono ?_
        rintro e w3 ⟨rfl, rfl⟩
        clear hname
        go_wp2
        go_ret
        exact ⟨by rw [HR.out]; rfl, BV.out⟩
      | true =>
        rw [q1] at hname
        by_cases q2 : st < 1
        · have HR := Lib.hid (HNX.out (.inr (by unfold stB; simp; omega)))
          clear q1 hrun
          go_wp2_with fail
          refine hname.mono ?_
          rintro e w3 ⟨rfl, rfl⟩
          clear hname
          go_wp2
          go_ret
          exact ⟨by rw [HR.out]; rfl, BV.out⟩
        · by_cases q3 : 3 < st
          · have HR := Lib.hid (HNX.out (.inr (by unfold stB; simp; omega)))
            clear q1 hrun
            go_wp2_with fail
            refine hname.mono ?_
            rintro e w3 ⟨rfl, rfl⟩
            clear hname
            go_wp2
            go_ret
            exact ⟨by rw [HR.out]; rfl, BV.out⟩
          · have HY := Lib.hid (HNY.out q1 (by unfold stB; simp; omega))
            clear q1
            go_wp2_with fail
            refine hname.mono ?_
            rintro e w3 ⟨rfl, rfl⟩
            clear hname
            go_wp2_with (at_builtin; refine wpl_run2 _ _ rfl (by simp [Act.eval]) (by simp [Act.eval]) hrun ?_)
            go_roundw
            case rel => exact ⟨i + 1, hlt, by go_num, HY.out, by
              have := R1.out
              have hl2 : ((L.take (i + 1)).map Col.nm).length = i + 1 := by rw [List.length_map, List.length_take]; omega
              exact this, R2.out⟩
            case measure => simp [intOf]; omega
    · have k1 : ¬ (i : Int) < L.length := by omega
      obtain rfl : i = L.length := by omega
      have ho := HO.out
      rw [List.take_length] at ho
      have hN := HN.out
      have hcall := unlikeS_any (w := V) (Lr.own stL_len ho) (fun y hy => by
        obtain ⟨z, hz, rfl⟩ := List.mem_map.1 hy
        obtain ⟨j, hj, rfl⟩ := List.getElem_of_mem hz
        have := nameB_sz (hN j hj hj).1
        unfold okS maxLen
        omega)
      have HR : Hid (partsB Col.nm Col.st L = decide (L.map Col.nm).Nodup) := by
        unfold partsB
        have : L.all (fun x => nameB x.nm && stB x.st) = true := by
          rw [List.all_eq_true]
          intro y hy
          obtain ⟨j, hj, rfl⟩ := List.getElem_of_mem hy
          rw [(hN j hj hj).1, (hN j hj hj).2]
          rfl
        rw [this]
        exact Lib.hid rfl
      obtain ⟨r, hr⟩ : ∃ r, decide (L.map Col.nm).Nodup = r := ⟨_, rfl⟩
      rw [hr] at hcall HR
      clear ho hN hr hb hln
      go_wp2_with fail
      refine hcall.mono ?_
      rintro e w1 ⟨rfl, b1⟩
      go_wp2
      go_ret
      exact ⟨by rw [HR.out]; rfl, bgo HB.out b1⟩
set_option maxHeartbeats 4000000 in
set_option maxRecDepth 100000 in
theorem idsC_any {w0 : World} {I : List Int} {L : List Col} {u v : Value} (hu : w.ownsRow w0.heap.size 3 1 u I.length (I.flatMap inL)) (h0 : Below w0.heap.size w0 w) (hL : Lr colE 7 w0 L v) (hz : L.length ≤ 1000000) (hzi : I.length ≤ 10000000) : Calls Try.prog 75 #[u, v, .func (.func 56) #[] #[]] w fun e w' => ∃ ad cap, e = .returned (.slice ad (I.length + L.length) cap) ∧ w'.ownsRow w0.heap.size 3 1 (.slice ad (I.length + L.length) cap) (I.length + L.length) ((I ++ L.map Col.id).flatMap inL) ∧ Below w0.heap.size w w' := by
  obtain ⟨ad, cap, rfl, _, z1, z2, hX⟩ := hL
  have hmx : (L.length : Int) ≤ 9223372036854775807 := by unfold maxLen at z2; omega
  have HX := Lib.hid hX
  have HZ := Lib.hid (And.intro hz hzi)
  have HU := Lib.hid hu
  have HBB := Lib.hid h0
  obtain ⟨uad, ucap, hus⟩ := own_shape hu
  subst hus
  clear hX z1 z2 hz hzi hu h0
  go_enter Try.func75, Try.ntmps75
  go_wp2
  go_loopw [0, 10] (fun uv iv wr => ∃ i : Nat, i ≤ L.length ∧ iv = .int .i64 (i : Int) ∧ wr.ownsRow w0.heap.size 3 1 uv (I ++ (L.take i).map Col.id).length ((I ++ (L.take i).map Col.id).flatMap inL) ∧ Below w0.heap.size w wr) (fun _ iv _ => L.length - (intOf iv).toNat)
  case atStart => exact ⟨0, Nat.zero_le _, rfl, by rw [List.take_zero, List.map_nil, List.append_nil]; exact HU.out, Below.refl _ _⟩
  case round =>
    obtain ⟨i, hi, rfl, ho, hb⟩ := hrel
    obtain ⟨V, rfl⟩ : ∃ V, V = wr := ⟨_, rfl⟩
    have HB := Lib.hid hb
    have HO := Lib.hid ho
    obtain ⟨nad, ncap, hsh⟩ := own_shape ho
    obtain ⟨N, hN⟩ : ∃ N, (I ++ (L.take i).map Col.id).length = N := ⟨_, rfl⟩
    rw [hN] at hsh
    subst hsh
    have HNN := Lib.hid hN
    clear ho hN
    by_cases hlt : i < L.length
    · have k0 : (0 : Int) ≤ i := by omega
      have k1 : (i : Int) < L.length := by omega
      obtain ⟨b, p, cs, rfl, hbl, hE, _, hcell⟩ := HX.out i hlt
      cases hE
      obtain ⟨x, hx⟩ : ∃ x, L[i] = x := ⟨_, rfl⟩
      have hbB := HBB.out.trans hb
      have HTK : Hid (I ++ (L.take (i + 1)).map Col.id = (I ++ (L.take i).map Col.id) ++ [x.id]) := by
        rw [List.take_succ_eq_append_getElem hlt, hx, List.map_append, List.append_assoc]
        exact Lib.hid rfl
      rw [hx] at hcell
      have hcall := ofC_any (w := V) (B := b) (q := p + i * 7) (x := x) ⟨_, rfl, fun j u hu => cell_on hbB (hcell j u hu)⟩
      have hfd := field156_0
      clear hcell hx hb hbl hbB
      go_wp2_with (go_at_call 56; refine hcall.mono ?_; rintro e w1 ⟨rfl, b1⟩; refine Hid.out ?_)
      refine Lib.hid ?_
      have hBV : w0.heap.size ≤ V.heap.size := Nat.le_trans HBB.out.size HB.out.size
      obtain ⟨nad2, ncap2, w2, hrun, r1, r2⟩ := pushN (own_below HO.out b1) (Nat.le_trans hBV b1.size) x.id (by
        have z1 := HZ.out.1
        have z2 := HZ.out.2
        rw [List.length_append, List.length_map, List.length_take]
        omega)
      rw [HNN.out] at hrun r1
      rw [← HTK.out] at r1
      have R1 := Lib.hid r1
      have R2 := Lib.hid (HB.out.trans ((b1.mono hBV).trans r2))
      clear b1 r1 r2 hcall hBV
      go_wp2_with (at_builtin; refine wpl_run2 _ _ rfl (by simp [Act.eval]) (by simp [Act.eval]) hrun ?_)
      go_roundw
      case rel => exact ⟨i + 1, hlt, by go_num, R1.out, R2.out⟩
      case measure => simp [intOf]; omega
    · have k1 : ¬ (i : Int) < L.length := by omega
      obtain rfl : i = L.length := by omega
      have ho := HO.out
      rw [List.take_length] at ho
      have hN2 := HNN.out
      rw [List.take_length] at hN2
      rw [hN2] at ho
      rw [List.length_append, List.length_map] at hN2
      have HO2 := Lib.hid ho
      have HN2 := Lib.hid hN2
      clear ho hb hN2
      go_wp2
      go_ret
      exact ⟨nad, ncap, by rw [HN2.out]; rfl, by rw [HN2.out, ← List.flatMap_append]; exact HO2.out, HB.out⟩
theorem parts_noI {L : List Ix} {i : Nat} (hi : i < L.length) (h : nameB L[i].nm = false ∨ stB L[i].st = false) : partsB Ix.nm Ix.st L = false := by
  unfold partsB
  have : L.all (fun x => nameB x.nm && stB x.st) = false := by
    rw [List.all_eq_false]
    refine ⟨L[i], List.getElem_mem hi, ?_⟩
    rcases h with h | h <;> simp [h]
  rw [this]
  rfl
set_option maxHeartbeats 4000000 in
set_option maxRecDepth 100000 in
theorem partsI_any {L : List Ix} {v : Value} (hL : Lr ixE 5 w L v) (hz : L.length ≤ 1000000) : Calls Try.prog 73 #[v, .func (.func 58) #[] #[]] w fun e w' => e = .returned (.bool (partsB Ix.nm Ix.st L)) ∧ Below w.heap.size w w' := by
  obtain ⟨ad, cap, rfl, _, z1, z2, hX⟩ := hL
  have hmx : (L.length : Int) ≤ 9223372036854775807 := by unfold maxLen at z2; omega
  have HX := Lib.hid hX
  have HZ := Lib.hid hz
  clear hX z1 z2 hz
  go_enter Try.func73, Try.ntmps73
  go_wp2
  go_loopw [5, 10] (fun nv iv wr => ∃ i : Nat, i ≤ L.length ∧ iv = .int .i64 (i : Int) ∧ (∀ j (hj : j < L.length), j < i → nameB L[j].nm = true ∧ stB L[j].st = true) ∧ wr.ownsRow w.heap.size 9 1 nv ((L.take i).map Ix.nm).length (((L.take i).map Ix.nm).flatMap stL) ∧ Below w.heap.size w wr) (fun _ iv _ => L.length - (intOf iv).toNat)
  case atStart => exact ⟨0, Nat.zero_le _, rfl, fun j _ hj => by omega, World.ownsRow_nil _ _ 9 1, Below.refl _ _⟩
  case round =>
    obtain ⟨i, hi, rfl, hno, ho, hb⟩ := hrel
    obtain ⟨V, rfl⟩ : ∃ V, V = wr := ⟨_, rfl⟩
    have HN := Lib.hid hno
    have HB := Lib.hid hb
    have HO := Lib.hid ho
    obtain ⟨nad, ncap, hsh⟩ := own_shape ho
    have hln : ((L.take i).map Ix.nm).length = i := by rw [List.length_map, List.length_take]; omega
    rw [hln] at hsh
    subst hsh
    clear hno ho
    by_cases hlt : i < L.length
    · have k0 : (0 : Int) ≤ i := by omega
      have k1 : (i : Int) < L.length := by omega
      obtain ⟨b, p, cs, rfl, hbl, hE, _, hcell⟩ := HX.out i hlt
      cases hE
      obtain ⟨x, hx⟩ : ∃ x, L[i] = x := ⟨_, rfl⟩
      have HNX : Hid (nameB x.nm = false ∨ stB x.st = false → partsB Ix.nm Ix.st L = false) := fun q => parts_noI hlt (by rw [hx]; exact q)
      have HNY : Hid (nameB x.nm = true → stB x.st = true → ∀ j (hj : j < L.length), j < i + 1 → nameB L[j].nm = true ∧ stB L[j].st = true) := fun q1 q2 j hj hji => by
        rcases Nat.lt_or_ge j i with z | z
        · exact HN.out j hj z
        · obtain rfl : j = i := by omega
          rw [hx]
          exact ⟨q1, q2⟩
      have HTK : Hid ((L.take (i + 1)).map Ix.nm = (L.take i).map Ix.nm ++ [x.nm]) := by
        rw [List.take_succ_eq_append_getElem hlt, hx, List.map_append]
        exact Lib.hid rfl
      rw [hx] at hcell
      have hcall := ofI_any (w := V) (B := b) (q := p + i * 5) (x := x) ⟨_, rfl, fun j u hu => cell_on hb (hcell j u hu)⟩
      have cst : V.cell? ⟨b, p + i * 5 + 4, none⟩ = some (.int .i64 x.st) := cell_on hb (hcell 4 _ rfl)
      have HS := Lib.hid cst
      clear hcell hx hb hbl cst
      go_wp2_with (go_at_call 58; refine hcall.mono ?_; rintro e w1 ⟨rfl, b1⟩; refine Hid.out ?_)
      refine Lib.hid ?_
      obtain ⟨V1, hV1⟩ : ∃ V1, V1 = w1.alloc (.cells #[.int .i64 x.id, .string x.nm, .pointer (some ⟨b, p + i * 5 + 4, none⟩)] 129) := ⟨_, rfl⟩
      obtain ⟨Q, hQ⟩ : ∃ Q, w1.heap.size = Q := ⟨_, rfl⟩
      have jQ : V1.heap[Q]? = some (.cells #[.int .i64 x.id, .string x.nm, .pointer (some ⟨b, p + i * 5 + 4, none⟩)] 129 (0, 0)) := by rw [hV1, ← hQ]; exact heap_alloc_new w1 _
      have bV : Below V.heap.size V V1 := bgo b1 (by rw [hV1]; exact bnew _ _)
      have g1 : V1.cell? ⟨Q, 1, none⟩ = some (.string x.nm) := cell_blk jQ 1
      have g2 : V1.cell? ⟨Q, 2, none⟩ = some (.pointer (some ⟨b, p + i * 5 + 4, none⟩)) := cell_blk jQ 2
      have g3 : V1.cell? ⟨b, p + i * 5 + 4, none⟩ = some (.int .i64 x.st) := cell_on bV HS.out
      have hname := name_any (w := V1) x.nm
      have BV := Lib.hid (bgo HB.out bV)
      obtain ⟨nad2, ncap2, w2, hrun, r1, r2⟩ := pushS (own_below HO.out bV) (bgo HB.out bV).size x.nm (by rw [hln]; have := HZ.out; omega)
      rw [hln] at hrun r1
      rw [← HTK.out] at r1
      have R1 := Lib.hid r1
      have R2 := Lib.hid ((bgo HB.out bV).trans r2)
      have HV1 := Lib.hid hV1
      have HQ := Lib.hid hQ
      obtain ⟨st, hst⟩ : ∃ st, x.st = st := ⟨_, rfl⟩
      rw [hst] at g3 HNX HNY
      clear b1 hV1 hQ jQ bV r1 r2 hcall hln HS hst
      go_upto_region 6 with fail
      rw [← HV1.out, HQ.out]
      cases q1 : nameB x.nm with
      | false =>
        rw [q1] at hname
        have HR := Lib.hid (HNX.out (.inl q1))
        clear q1 hrun
        go_wp2_with fail
        refine hname.mono ?_
        rintro e w3 ⟨rfl, rfl⟩
        clear hname
        go_wp2
        go_ret
        exact ⟨by rw [HR.out]; rfl, BV.out⟩
      | true =>
        rw [q1] at hname
        by_cases q2 : st < 1
        · have HR := Lib.hid (HNX.out (.inr (by unfold stB; simp; omega)))
          clear q1 hrun
          go_wp2_with fail
          refine hname.mono ?_
          rintro e w3 ⟨rfl, rfl⟩
          clear hname
          go_wp2
          go_ret
          exact ⟨by rw [HR.out]; rfl, BV.out⟩
        · by_cases q3 : 3 < st
          · have HR := Lib.hid (HNX.out (.inr (by unfold stB; simp; omega)))
            clear q1 hrun
            go_wp2_with fail
            refine hname.mono ?_
            rintro e w3 ⟨rfl, rfl⟩
            clear hname
            go_wp2
            go_ret
            exact ⟨by rw [HR.out]; rfl, BV.out⟩
          · have HY := Lib.hid (HNY.out q1 (by unfold stB; simp; omega))
            clear q1
            go_wp2_with fail
            refine hname.mono ?_
            rintro e w3 ⟨rfl, rfl⟩
            clear hname
            go_wp2_with (at_builtin; refine wpl_run2 _ _ rfl (by simp [Act.eval]) (by simp [Act.eval]) hrun ?_)
            go_roundw
            case rel => exact ⟨i + 1, hlt, by go_num, HY.out, by
              have := R1.out
              have hl2 : ((L.take (i + 1)).map Ix.nm).length = i + 1 := by rw [List.length_map, List.length_take]; omega
              exact this, R2.out⟩
            case measure => simp [intOf]; omega
    · have k1 : ¬ (i : Int) < L.length := by omega
      obtain rfl : i = L.length := by omega
      have ho := HO.out
      rw [List.take_length] at ho
      have hN := HN.out
      have hcall := unlikeS_any (w := V) (Lr.own stL_len ho) (fun y hy => by
        obtain ⟨z, hz, rfl⟩ := List.mem_map.1 hy
        obtain ⟨j, hj, rfl⟩ := List.getElem_of_mem hz
        have := nameB_sz (hN j hj hj).1
        unfold okS maxLen
        omega)
      have HR : Hid (partsB Ix.nm Ix.st L = decide (L.map Ix.nm).Nodup) := by
        unfold partsB
        have : L.all (fun x => nameB x.nm && stB x.st) = true := by
          rw [List.all_eq_true]
          intro y hy
          obtain ⟨j, hj, rfl⟩ := List.getElem_of_mem hy
          rw [(hN j hj hj).1, (hN j hj hj).2]
          rfl
        rw [this]
        exact Lib.hid rfl
      obtain ⟨r, hr⟩ : ∃ r, decide (L.map Ix.nm).Nodup = r := ⟨_, rfl⟩
      rw [hr] at hcall HR
      clear ho hN hr hb hln
      go_wp2_with fail
      refine hcall.mono ?_
      rintro e w1 ⟨rfl, b1⟩
      go_wp2
      go_ret
      exact ⟨by rw [HR.out]; rfl, bgo HB.out b1⟩
set_option maxHeartbeats 4000000 in
set_option maxRecDepth 100000 in
theorem idsI_any {w0 : World} {I : List Int} {L : List Ix} {u v : Value} (hu : w.ownsRow w0.heap.size 3 1 u I.length (I.flatMap inL)) (h0 : Below w0.heap.size w0 w) (hL : Lr ixE 5 w0 L v) (hz : L.length ≤ 1000000) (hzi : I.length ≤ 10000000) : Calls Try.prog 76 #[u, v, .func (.func 58) #[] #[]] w fun e w' => ∃ ad cap, e = .returned (.slice ad (I.length + L.length) cap) ∧ w'.ownsRow w0.heap.size 3 1 (.slice ad (I.length + L.length) cap) (I.length + L.length) ((I ++ L.map Ix.id).flatMap inL) ∧ Below w0.heap.size w w' := by
  obtain ⟨ad, cap, rfl, _, z1, z2, hX⟩ := hL
  have hmx : (L.length : Int) ≤ 9223372036854775807 := by unfold maxLen at z2; omega
  have HX := Lib.hid hX
  have HZ := Lib.hid (And.intro hz hzi)
  have HU := Lib.hid hu
  have HBB := Lib.hid h0
  obtain ⟨uad, ucap, hus⟩ := own_shape hu
  subst hus
  clear hX z1 z2 hz hzi hu h0
  go_enter Try.func76, Try.ntmps76
  go_wp2
  go_loopw [0, 10] (fun uv iv wr => ∃ i : Nat, i ≤ L.length ∧ iv = .int .i64 (i : Int) ∧ wr.ownsRow w0.heap.size 3 1 uv (I ++ (L.take i).map Ix.id).length ((I ++ (L.take i).map Ix.id).flatMap inL) ∧ Below w0.heap.size w wr) (fun _ iv _ => L.length - (intOf iv).toNat)
  case atStart => exact ⟨0, Nat.zero_le _, rfl, by rw [List.take_zero, List.map_nil, List.append_nil]; exact HU.out, Below.refl _ _⟩
  case round =>
    obtain ⟨i, hi, rfl, ho, hb⟩ := hrel
    obtain ⟨V, rfl⟩ : ∃ V, V = wr := ⟨_, rfl⟩
    have HB := Lib.hid hb
    have HO := Lib.hid ho
    obtain ⟨nad, ncap, hsh⟩ := own_shape ho
    obtain ⟨N, hN⟩ : ∃ N, (I ++ (L.take i).map Ix.id).length = N := ⟨_, rfl⟩
    rw [hN] at hsh
    subst hsh
    have HNN := Lib.hid hN
    clear ho hN
    by_cases hlt : i < L.length
    · have k0 : (0 : Int) ≤ i := by omega
      have k1 : (i : Int) < L.length := by omega
      obtain ⟨b, p, cs, rfl, hbl, hE, _, hcell⟩ := HX.out i hlt
      cases hE
      obtain ⟨x, hx⟩ : ∃ x, L[i] = x := ⟨_, rfl⟩
      have hbB := HBB.out.trans hb
      have HTK : Hid (I ++ (L.take (i + 1)).map Ix.id = (I ++ (L.take i).map Ix.id) ++ [x.id]) := by
        rw [List.take_succ_eq_append_getElem hlt, hx, List.map_append, List.append_assoc]
        exact Lib.hid rfl
      rw [hx] at hcell
      have hcall := ofI_any (w := V) (B := b) (q := p + i * 5) (x := x) ⟨_, rfl, fun j u hu => cell_on hbB (hcell j u hu)⟩
      have hfd := field156_0
      clear hcell hx hb hbl hbB
      go_wp2_with (go_at_call 58; refine hcall.mono ?_; rintro e w1 ⟨rfl, b1⟩; refine Hid.out ?_)
      refine Lib.hid ?_
      have hBV : w0.heap.size ≤ V.heap.size := Nat.le_trans HBB.out.size HB.out.size
      obtain ⟨nad2, ncap2, w2, hrun, r1, r2⟩ := pushN (own_below HO.out b1) (Nat.le_trans hBV b1.size) x.id (by
        have z1 := HZ.out.1
        have z2 := HZ.out.2
        rw [List.length_append, List.length_map, List.length_take]
        omega)
      rw [HNN.out] at hrun r1
      rw [← HTK.out] at r1
      have R1 := Lib.hid r1
      have R2 := Lib.hid (HB.out.trans ((b1.mono hBV).trans r2))
      clear b1 r1 r2 hcall hBV
      go_wp2_with (at_builtin; refine wpl_run2 _ _ rfl (by simp [Act.eval]) (by simp [Act.eval]) hrun ?_)
      go_roundw
      case rel => exact ⟨i + 1, hlt, by go_num, R1.out, R2.out⟩
      case measure => simp [intOf]; omega
    · have k1 : ¬ (i : Int) < L.length := by omega
      obtain rfl : i = L.length := by omega
      have ho := HO.out
      rw [List.take_length] at ho
      have hN2 := HNN.out
      rw [List.take_length] at hN2
      rw [hN2] at ho
      rw [List.length_append, List.length_map] at hN2
      have HO2 := Lib.hid ho
      have HN2 := Lib.hid hN2
      clear ho hb hN2
      go_wp2
      go_ret
      exact ⟨nad, ncap, by rw [HN2.out]; rfl, by rw [HN2.out, ← List.flatMap_append]; exact HO2.out, HB.out⟩
theorem parts_noK {L : List Fk} {i : Nat} (hi : i < L.length) (h : nameB L[i].nm = false ∨ stB L[i].st = false) : partsB Fk.nm Fk.st L = false := by
  unfold partsB
  have : L.all (fun x => nameB x.nm && stB x.st) = false := by
    rw [List.all_eq_false]
    refine ⟨L[i], List.getElem_mem hi, ?_⟩
    rcases h with h | h <;> simp [h]
  rw [this]
  rfl
set_option maxHeartbeats 4000000 in
set_option maxRecDepth 100000 in
theorem partsK_any {L : List Fk} {v : Value} (hL : Lr fkE 5 w L v) (hz : L.length ≤ 1000000) : Calls Try.prog 74 #[v, .func (.func 60) #[] #[]] w fun e w' => e = .returned (.bool (partsB Fk.nm Fk.st L)) ∧ Below w.heap.size w w' := by
  obtain ⟨ad, cap, rfl, _, z1, z2, hX⟩ := hL
  have hmx : (L.length : Int) ≤ 9223372036854775807 := by unfold maxLen at z2; omega
  have HX := Lib.hid hX
  have HZ := Lib.hid hz
  clear hX z1 z2 hz
  go_enter Try.func74, Try.ntmps74
  go_wp2
  go_loopw [5, 10] (fun nv iv wr => ∃ i : Nat, i ≤ L.length ∧ iv = .int .i64 (i : Int) ∧ (∀ j (hj : j < L.length), j < i → nameB L[j].nm = true ∧ stB L[j].st = true) ∧ wr.ownsRow w.heap.size 9 1 nv ((L.take i).map Fk.nm).length (((L.take i).map Fk.nm).flatMap stL) ∧ Below w.heap.size w wr) (fun _ iv _ => L.length - (intOf iv).toNat)
  case atStart => exact ⟨0, Nat.zero_le _, rfl, fun j _ hj => by omega, World.ownsRow_nil _ _ 9 1, Below.refl _ _⟩
  case round =>
    obtain ⟨i, hi, rfl, hno, ho, hb⟩ := hrel
    obtain ⟨V, rfl⟩ : ∃ V, V = wr := ⟨_, rfl⟩
    have HN := Lib.hid hno
    have HB := Lib.hid hb
    have HO := Lib.hid ho
    obtain ⟨nad, ncap, hsh⟩ := own_shape ho
    have hln : ((L.take i).map Fk.nm).length = i := by rw [List.length_map, List.length_take]; omega
    rw [hln] at hsh
    subst hsh
    clear hno ho
    by_cases hlt : i < L.length
    · have k0 : (0 : Int) ≤ i := by omega
      have k1 : (i : Int) < L.length := by omega
      obtain ⟨b, p, cs, rfl, hbl, hE, _, hcell⟩ := HX.out i hlt
      cases hE
      obtain ⟨x, hx⟩ : ∃ x, L[i] = x := ⟨_, rfl⟩
      have HNX : Hid (nameB x.nm = false ∨ stB x.st = false → partsB Fk.nm Fk.st L = false) := fun q => parts_noK hlt (by rw [hx]; exact q)
      have HNY : Hid (nameB x.nm = true → stB x.st = true → ∀ j (hj : j < L.length), j < i + 1 → nameB L[j].nm = true ∧ stB L[j].st = true) := fun q1 q2 j hj hji => by
        rcases Nat.lt_or_ge j i with z | z
        · exact HN.out j hj z
        · obtain rfl : j = i := by omega
          rw [hx]
          exact ⟨q1, q2⟩
      have HTK : Hid ((L.take (i + 1)).map Fk.nm = (L.take i).map Fk.nm ++ [x.nm]) := by
        rw [List.take_succ_eq_append_getElem hlt, hx, List.map_append]
        exact Lib.hid rfl
      rw [hx] at hcell
      have hcall := ofK_any (w := V) (B := b) (q := p + i * 5) (x := x) ⟨_, rfl, fun j u hu => cell_on hb (hcell j u hu)⟩
      have cst : V.cell? ⟨b, p + i * 5 + 4, none⟩ = some (.int .i64 x.st) := cell_on hb (hcell 4 _ rfl)
      have HS := Lib.hid cst
      clear hcell hx hb hbl cst
      go_wp2_with (go_at_call 60; refine hcall.mono ?_; rintro e w1 ⟨rfl, b1⟩; refine Hid.out ?_)
      refine Lib.hid ?_
      obtain ⟨V1, hV1⟩ : ∃ V1, V1 = w1.alloc (.cells #[.int .i64 x.id, .string x.nm, .pointer (some ⟨b, p + i * 5 + 4, none⟩)] 129) := ⟨_, rfl⟩
      obtain ⟨Q, hQ⟩ : ∃ Q, w1.heap.size = Q := ⟨_, rfl⟩
      have jQ : V1.heap[Q]? = some (.cells #[.int .i64 x.id, .string x.nm, .pointer (some ⟨b, p + i * 5 + 4, none⟩)] 129 (0, 0)) := by rw [hV1, ← hQ]; exact heap_alloc_new w1 _
      have bV : Below V.heap.size V V1 := bgo b1 (by rw [hV1]; exact bnew _ _)
      have g1 : V1.cell? ⟨Q, 1, none⟩ = some (.string x.nm) := cell_blk jQ 1
      have g2 : V1.cell? ⟨Q, 2, none⟩ = some (.pointer (some ⟨b, p + i * 5 + 4, none⟩)) := cell_blk jQ 2
      have g3 : V1.cell? ⟨b, p + i * 5 + 4, none⟩ = some (.int .i64 x.st) := cell_on bV HS.out
      have hname := name_any (w := V1) x.nm
      have BV := Lib.hid (bgo HB.out bV)
      obtain ⟨nad2, ncap2, w2, hrun, r1, r2⟩ := pushS (own_below HO.out bV) (bgo HB.out bV).size x.nm (by rw [hln]; have := HZ.out; omega)
      rw [hln] at hrun r1
      rw [← HTK.out] at r1
      have R1 := Lib.hid r1
      have R2 := Lib.hid ((bgo HB.out bV).trans r2)
      have HV1 := Lib.hid hV1
      have HQ := Lib.hid hQ
      obtain ⟨st, hst⟩ : ∃ st, x.st = st := ⟨_, rfl⟩
      rw [hst] at g3 HNX HNY
      clear b1 hV1 hQ jQ bV r1 r2 hcall hln HS hst
      go_upto_region 6 with fail
      rw [← HV1.out, HQ.out]
      cases q1 : nameB x.nm with
      | false =>
        rw [q1] at hname
        have HR := Lib.hid (HNX.out (.inl q1))
        clear q1 hrun
        go_wp2_with fail
        refine hname.mono ?_
        rintro e w3 ⟨rfl, rfl⟩
        clear hname
        go_wp2
        go_ret
        exact ⟨by rw [HR.out]; rfl, BV.out⟩
      | true =>
        rw [q1] at hname
        by_cases q2 : st < 1
        · have HR := Lib.hid (HNX.out (.inr (by unfold stB; simp; omega)))
          clear q1 hrun
          go_wp2_with fail
          refine hname.mono ?_
          rintro e w3 ⟨rfl, rfl⟩
          clear hname
          go_wp2
          go_ret
          exact ⟨by rw [HR.out]; rfl, BV.out⟩
        · by_cases q3 : 3 < st
          · have HR := Lib.hid (HNX.out (.inr (by unfold stB; simp; omega)))
            clear q1 hrun
            go_wp2_with fail
            refine hname.mono ?_
            rintro e w3 ⟨rfl, rfl⟩
            clear hname
            go_wp2
            go_ret
            exact ⟨by rw [HR.out]; rfl, BV.out⟩
          · have HY := Lib.hid (HNY.out q1 (by unfold stB; simp; omega))
            clear q1
            go_wp2_with fail
            refine hname.mono ?_
            rintro e w3 ⟨rfl, rfl⟩
            clear hname
            go_wp2_with (at_builtin; refine wpl_run2 _ _ rfl (by simp [Act.eval]) (by simp [Act.eval]) hrun ?_)
            go_roundw
            case rel => exact ⟨i + 1, hlt, by go_num, HY.out, by
              have := R1.out
              have hl2 : ((L.take (i + 1)).map Fk.nm).length = i + 1 := by rw [List.length_map, List.length_take]; omega
              exact this, R2.out⟩
            case measure => simp [intOf]; omega
    · have k1 : ¬ (i : Int) < L.length := by omega
      obtain rfl : i = L.length := by omega
      have ho := HO.out
      rw [List.take_length] at ho
      have hN := HN.out
      have hcall := unlikeS_any (w := V) (Lr.own stL_len ho) (fun y hy => by
        obtain ⟨z, hz, rfl⟩ := List.mem_map.1 hy
        obtain ⟨j, hj, rfl⟩ := List.getElem_of_mem hz
        have := nameB_sz (hN j hj hj).1
        unfold okS maxLen
        omega)
      have HR : Hid (partsB Fk.nm Fk.st L = decide (L.map Fk.nm).Nodup) := by
        unfold partsB
        have : L.all (fun x => nameB x.nm && stB x.st) = true := by
          rw [List.all_eq_true]
          intro y hy
          obtain ⟨j, hj, rfl⟩ := List.getElem_of_mem hy
          rw [(hN j hj hj).1, (hN j hj hj).2]
          rfl
        rw [this]
        exact Lib.hid rfl
      obtain ⟨r, hr⟩ : ∃ r, decide (L.map Fk.nm).Nodup = r := ⟨_, rfl⟩
      rw [hr] at hcall HR
      clear ho hN hr hb hln
      go_wp2_with fail
      refine hcall.mono ?_
      rintro e w1 ⟨rfl, b1⟩
      go_wp2
      go_ret
      exact ⟨by rw [HR.out]; rfl, bgo HB.out b1⟩
set_option maxHeartbeats 4000000 in
set_option maxRecDepth 100000 in
theorem idsK_any {w0 : World} {I : List Int} {L : List Fk} {u v : Value} (hu : w.ownsRow w0.heap.size 3 1 u I.length (I.flatMap inL)) (h0 : Below w0.heap.size w0 w) (hL : Lr fkE 5 w0 L v) (hz : L.length ≤ 1000000) (hzi : I.length ≤ 10000000) : Calls Try.prog 77 #[u, v, .func (.func 60) #[] #[]] w fun e w' => ∃ ad cap, e = .returned (.slice ad (I.length + L.length) cap) ∧ w'.ownsRow w0.heap.size 3 1 (.slice ad (I.length + L.length) cap) (I.length + L.length) ((I ++ L.map Fk.id).flatMap inL) ∧ Below w0.heap.size w w' := by
  obtain ⟨ad, cap, rfl, _, z1, z2, hX⟩ := hL
  have hmx : (L.length : Int) ≤ 9223372036854775807 := by unfold maxLen at z2; omega
  have HX := Lib.hid hX
  have HZ := Lib.hid (And.intro hz hzi)
  have HU := Lib.hid hu
  have HBB := Lib.hid h0
  obtain ⟨uad, ucap, hus⟩ := own_shape hu
  subst hus
  clear hX z1 z2 hz hzi hu h0
  go_enter Try.func77, Try.ntmps77
  go_wp2
  go_loopw [0, 10] (fun uv iv wr => ∃ i : Nat, i ≤ L.length ∧ iv = .int .i64 (i : Int) ∧ wr.ownsRow w0.heap.size 3 1 uv (I ++ (L.take i).map Fk.id).length ((I ++ (L.take i).map Fk.id).flatMap inL) ∧ Below w0.heap.size w wr) (fun _ iv _ => L.length - (intOf iv).toNat)
  case atStart => exact ⟨0, Nat.zero_le _, rfl, by rw [List.take_zero, List.map_nil, List.append_nil]; exact HU.out, Below.refl _ _⟩
  case round =>
    obtain ⟨i, hi, rfl, ho, hb⟩ := hrel
    obtain ⟨V, rfl⟩ : ∃ V, V = wr := ⟨_, rfl⟩
    have HB := Lib.hid hb
    have HO := Lib.hid ho
    obtain ⟨nad, ncap, hsh⟩ := own_shape ho
    obtain ⟨N, hN⟩ : ∃ N, (I ++ (L.take i).map Fk.id).length = N := ⟨_, rfl⟩
    rw [hN] at hsh
    subst hsh
    have HNN := Lib.hid hN
    clear ho hN
    by_cases hlt : i < L.length
    · have k0 : (0 : Int) ≤ i := by omega
      have k1 : (i : Int) < L.length := by omega
      obtain ⟨b, p, cs, rfl, hbl, hE, _, hcell⟩ := HX.out i hlt
      cases hE
      obtain ⟨x, hx⟩ : ∃ x, L[i] = x := ⟨_, rfl⟩
      have hbB := HBB.out.trans hb
      have HTK : Hid (I ++ (L.take (i + 1)).map Fk.id = (I ++ (L.take i).map Fk.id) ++ [x.id]) := by
        rw [List.take_succ_eq_append_getElem hlt, hx, List.map_append, List.append_assoc]
        exact Lib.hid rfl
      rw [hx] at hcell
      have hcall := ofK_any (w := V) (B := b) (q := p + i * 5) (x := x) ⟨_, rfl, fun j u hu => cell_on hbB (hcell j u hu)⟩
      have hfd := field156_0
      clear hcell hx hb hbl hbB
      go_wp2_with (go_at_call 60; refine hcall.mono ?_; rintro e w1 ⟨rfl, b1⟩; refine Hid.out ?_)
      refine Lib.hid ?_
      have hBV : w0.heap.size ≤ V.heap.size := Nat.le_trans HBB.out.size HB.out.size
      obtain ⟨nad2, ncap2, w2, hrun, r1, r2⟩ := pushN (own_below HO.out b1) (Nat.le_trans hBV b1.size) x.id (by
        have z1 := HZ.out.1
        have z2 := HZ.out.2
        rw [List.length_append, List.length_map, List.length_take]
        omega)
      rw [HNN.out] at hrun r1
      rw [← HTK.out] at r1
      have R1 := Lib.hid r1
      have R2 := Lib.hid (HB.out.trans ((b1.mono hBV).trans r2))
      clear b1 r1 r2 hcall hBV
      go_wp2_with (at_builtin; refine wpl_run2 _ _ rfl (by simp [Act.eval]) (by simp [Act.eval]) hrun ?_)
      go_roundw
      case rel => exact ⟨i + 1, hlt, by go_num, R1.out, R2.out⟩
      case measure => simp [intOf]; omega
    · have k1 : ¬ (i : Int) < L.length := by omega
      obtain rfl : i = L.length := by omega
      have ho := HO.out
      rw [List.take_length] at ho
      have hN2 := HNN.out
      rw [List.take_length] at hN2
      rw [hN2] at ho
      rw [List.length_append, List.length_map] at hN2
      have HO2 := Lib.hid ho
      have HN2 := Lib.hid hN2
      clear ho hb hN2
      go_wp2
      go_ret
      exact ⟨nad, ncap, by rw [HN2.out]; rfl, by rw [HN2.out, ← List.flatMap_append]; exact HO2.out, HB.out⟩
end
end Go.Proofs.Ytkfnphhoebknnaa
namespace Go.Proofs.Ytkfnphhoebknnaa
open Go.RowKit Go.Maps
section
variable {w : World}
set_option maxHeartbeats 2000000 in
set_option maxRecDepth 100000 in
theorem idsOf_any {t : Tb} {cv iv kv : Value} (h : Three w t cv iv kv) (hz : t.few) : Calls Try.prog 47 #[tbV t cv iv kv] w fun e w' => ∃ ad n cap, e = .returned (.slice ad n cap) ∧ n = (idsT t).length ∧ w'.ownsRow w.heap.size 3 1 (.slice ad n cap) n ((idsT t).flatMap inL) ∧ Below w.heap.size w w' := by
  have HT := Lib.hid h
  have HZ := Lib.hid hz
  obtain ⟨ca, cc, rfl, _⟩ := h.c
  obtain ⟨ia, ic, rfl, _⟩ := h.i
  obtain ⟨ka, kc, rfl, _⟩ := h.k
  obtain ⟨W, hW⟩ : ∃ W, W = w.alloc (.cells #[.int .i64 t.id, .string t.nm, .slice ca t.cols.length cc, .slice ia t.ixs.length ic, .slice ka t.fks.length kc] 54) := ⟨_, rfl⟩
  have hbW : Below w.heap.size w W := by rw [hW]; exact (Below.refl _ w).alloc (Nat.le_refl _) _
  obtain ⟨Y0, hY0⟩ : ∃ Y0, w.heap.size = Y0 := ⟨_, rfl⟩
  have jY0 : W.heap[Y0]? = some (.cells #[.int .i64 t.id, .string t.nm, .slice ca t.cols.length cc, .slice ia t.ixs.length ic, .slice ka t.fks.length kc] 54 (0, 0)) := by
    have := heap_alloc_new w (.cells #[.int .i64 t.id, .string t.nm, .slice ca t.cols.length cc, .slice ia t.ixs.length ic, .slice ka t.fks.length kc] 54)
    rw [hW, ← hY0]
    exact this
  have d0 : W.cell? ⟨Y0, 0, none⟩ = some (.int .i64 t.id) := cell_blk jY0 0
  obtain ⟨W1, hW1⟩ : ∃ W1, W1 = W.alloc (.cells #[.int .i64 t.id] 3) := ⟨_, rfl⟩
  have b1 : Below W.heap.size W W1 := by rw [hW1]; exact bnew _ _
  obtain ⟨Q, hQ⟩ : ∃ Q, W.heap.size = Q := ⟨_, rfl⟩
  have jQ : W1.heap[Q]? = some (.cells #[.int .i64 t.id] 3 (0, 0)) := by rw [hW1, ← hQ]; exact heap_alloc_new W _
  have o0 : W1.ownsRow W.heap.size 3 1 (.slice (some ⟨Q, 0, none⟩) 1 1) ([t.id]).length (([t.id]).flatMap inL) := ⟨rfl, .inr ⟨Q, 1, _, rfl, by omega, jQ, Nat.le_refl _, by unfold maxLen; omega, rfl, rfl⟩⟩
  have ht := HT.out.on hbW
  have hz' := HZ.out
  have c1 := idsC_any (w := W1) (w0 := W) (I := [t.id]) o0 b1 ht.c hz'.1 (by simp)
  have d2 : W1.cell? ⟨Y0, 2, none⟩ = some (.slice ca t.cols.length cc) := cell_on b1 (cell_blk jY0 2)
  have J0 := Lib.hid jY0
  have B1 := Lib.hid b1
  have HTW := Lib.hid ht
  have HW1 := Lib.hid hW1
  have HQ := Lib.hid hQ
  have HW := Lib.hid hW
  have HBW := Lib.hid hbW
  have HY0 := Lib.hid hY0
  clear hW hbW hY0
  clear jY0 hW1 b1 hQ jQ o0 ht hz' h hz
  go_enter Try.func47, Try.ntmps47
  go_upto_region 1 with fail
  rw [← HW.out, HY0.out]
  go_upto_region 2 with fail
  rw [← HW1.out, HQ.out]
  clear d0
  go_wp2_with fail
  refine c1.mono ?_
  rintro e w1 ⟨a1, p1, rfl, o1, b1⟩
  have b01 : Below W.heap.size W w1 := B1.out.trans b1
  have d3 : w1.cell? ⟨Y0, 3, none⟩ = some (.slice ia t.ixs.length ic) := cell_on b01 (cell_blk J0.out 3)
  have hl1 : ([t.id]).length + t.cols.length = ([t.id] ++ t.cols.map Col.id).length := by rw [List.length_append, List.length_map]
  rw [hl1] at o1
  have c2 := idsI_any (w := w1) (w0 := W) (I := [t.id] ++ t.cols.map Col.id) o1 b01 HTW.out.i HZ.out.2.1 (by rw [← hl1]; have := HZ.out.1; simp; omega)
  rw [← hl1] at c2
  have BB1 := Lib.hid b01
  clear c1 b1 o1 b01 hl1
  go_wp2_with fail
  refine c2.mono ?_
  rintro e w2 ⟨a2, p2, rfl, o2, b2⟩
  have b02 : Below W.heap.size W w2 := BB1.out.trans b2
  have d4 : w2.cell? ⟨Y0, 4, none⟩ = some (.slice ka t.fks.length kc) := cell_on b02 (cell_blk J0.out 4)
  have hl2 : ([t.id]).length + t.cols.length + t.ixs.length = ([t.id] ++ t.cols.map Col.id ++ t.ixs.map Ix.id).length := by simp only [List.length_append, List.length_map]
  rw [hl2] at o2
  have c3 := idsK_any (w := w2) (w0 := W) (I := [t.id] ++ t.cols.map Col.id ++ t.ixs.map Ix.id) o2 b02 HTW.out.k HZ.out.2.2 (by rw [← hl2]; have q1 := HZ.out.1; have q2 := HZ.out.2.1; simp; omega)
  rw [← hl2] at c3
  have BB2 := Lib.hid b02
  clear c2 b2 o2 b02 hl2
  go_wp2_with fail
  refine c3.mono ?_
  rintro e w3 ⟨a3, p3, rfl, o3, b3⟩
  have hid : [t.id] ++ t.cols.map Col.id ++ t.ixs.map Ix.id ++ t.fks.map Fk.id = idsT t := by simp [idsT]
  rw [hid] at o3
  obtain ⟨n, hn⟩ : ∃ n, ([t.id]).length + t.cols.length + t.ixs.length + t.fks.length = n := ⟨_, rfl⟩
  rw [hn] at o3
  have HO := Lib.hid (own_mono o3 HBW.out.size)
  have HE := Lib.hid (bgo HBW.out (BB2.out.trans b3))
  have HN : Hid (n = (idsT t).length) := Lib.hid (by rw [← hn, ← hid]; simp only [List.length_append, List.length_map])
  have HN2 := Lib.hid hn
  clear c3 o3 b3 hid hn d2 d3 d4
  go_wp2
  go_ret
  refine ⟨a3, n, p3, ?_, HN.out, HO.out, HE.out⟩
  rw [← HN2.out]
  simp
set_option maxHeartbeats 2000000 in
set_option maxRecDepth 100000 in
theorem el_f {x : Col} {B q : Nat} (h : Pt colE w B q x) : Calls Try.prog 69 #[.pointer (some ⟨B, q, none⟩)] w fun e w' => e = .returned (.bool (!(kindB x.kd && fitB x.df x.kd))) ∧ Below w.heap.size w w' := by
  obtain ⟨cs, hE, hc⟩ := h
  cases hE
  have c2 : w.cell? ⟨B, q + 2, none⟩ = some (.int .i64 x.kd) := hc 2 _ rfl
  have c4 : w.cell? ⟨B, q + 4, none⟩ = some (.int .i64 x.df.k) := hc 4 _ rfl
  have c5 : w.cell? ⟨B, q + 4 + 1, none⟩ = some (.int .i64 x.df.n) := hc 5 _ rfl
  have c6 : w.cell? ⟨B, q + 4 + 2, none⟩ = some (.string x.df.s) := hc 6 _ rfl
  clear hc
  have hk := fun X => kind_any (w := X) x.kd
  have hf := fun X => fit_any (w := X) x.df x.kd
  have HC := Lib.hid (And.intro c2 (And.intro c4 (And.intro c5 c6)))
  cases q1 : kindB x.kd with
  | false =>
    rw [q1] at hk
    clear q1 hf
    go_enter Try.func69, Try.ntmps69
    go_wp2
    go_quiet ((go_at_call 70; exact Calls.quiet_of_same (hk _)))
    go_wp2
    go_ret
    exact ⟨rfl, bdrewN (Below.refl _ _) _⟩
  | true =>
    rw [q1] at hk
    clear q1
    obtain ⟨r, hr⟩ : ∃ r, fitB x.df x.kd = r := ⟨_, rfl⟩
    rw [hr] at hf ⊢
    clear hr
    go_enter Try.func69, Try.ntmps69
    go_wp2
    go_region_with (first | (go_at_call 70; refine (hk _).mono ?_; rintro e w1 ⟨rfl, rfl⟩) | (go_at_call 71; refine (hf _).mono ?_; rintro e w2 ⟨rfl, b2⟩))
    all_goals
      go_wp2
      go_ret
      exact ⟨rfl, ⟨b2.os, b2.tape, b2.output, b2.size, b2.block⟩⟩
end
end Go.Proofs.Ytkfnphhoebknnaa
namespace Go.Proofs.Ytkfnphhoebknnaa
open Go.RowKit Go.Maps
theorem fidx_neg {α : Type} (p : α → Bool) (L : List α) : decide (fidx p L < 0) = L.all (fun x => !p x) := by
  have h := fidx_any p L
  rw [← List.not_any_eq_all_not, ← h]
  by_cases q : fidx p L < 0
  · rw [decide_eq_true q, decide_eq_false (by omega)]
    rfl
  · rw [decide_eq_false q, decide_eq_true (by omega)]
    rfl
theorem keyB_at : ∀ {t : Tb} {x : Col} (h : 1 ≤ t.cols.length), t.cols[0] = x → keyB t = decide (x.st = 3)
  | ⟨_, _, [], _, _⟩, _, h, _ => by simp at h
  | ⟨_, _, c :: r, _, _⟩, x, _, e => by
    have e' : c = x := e
    subst e'
    rfl
section
variable {w : World}
set_option maxHeartbeats 4000000 in
set_option maxRecDepth 100000 in
theorem elements_any {t : Tb} {cv iv kv : Value} (h : Three w t cv iv kv) (hz : t.few) (h1 : 1 ≤ t.cols.length) : Calls Try.prog 46 #[tbV t cv iv kv] w fun e w' => e = .returned (.bool (elB t)) ∧ Below w.heap.size w w' := by
  have HT := Lib.hid h
  have HZ := Lib.hid hz
  obtain ⟨ca, cc, rfl, _, _, _, hX⟩ := h.c
  obtain ⟨ia, ic, rfl, _⟩ := h.i
  obtain ⟨ka, kc, rfl, _⟩ := h.k
  obtain ⟨b, p, cs, hca, hbl, hE, _, hcell⟩ := hX 0 (by omega)
  cases hE
  subst hca
  obtain ⟨x0, hx0⟩ : ∃ x0, t.cols[0] = x0 := ⟨_, rfl⟩
  rw [hx0] at hcell
  have kk : (0 : Int) < (t.cols.length : Int) := by omega
  have hkey : keyB t = decide (x0.st = 3) := keyB_at h1 hx0
  have c3 : w.cell? ⟨b, p + 3, none⟩ = some (.int .i64 x0.st) := by
    have := hcell 3 _ rfl
    rw [Nat.zero_mul, Nat.add_zero] at this
    exact this
  obtain ⟨W, hW⟩ : ∃ W, W = w.alloc (.cells #[.int .i64 t.id, .string t.nm, .slice (some ⟨b, p, none⟩) t.cols.length cc, .slice ia t.ixs.length ic, .slice ka t.fks.length kc] 54) := ⟨_, rfl⟩
  have hbW : Below w.heap.size w W := by rw [hW]; exact (Below.refl _ w).alloc (Nat.le_refl _) _
  obtain ⟨Y0, hY0⟩ : ∃ Y0, w.heap.size = Y0 := ⟨_, rfl⟩
  have jY0 : W.heap[Y0]? = some (.cells #[.int .i64 t.id, .string t.nm, .slice (some ⟨b, p, none⟩) t.cols.length cc, .slice ia t.ixs.length ic, .slice ka t.fks.length kc] 54 (0, 0)) := by
    have := heap_alloc_new w (.cells #[.int .i64 t.id, .string t.nm, .slice (some ⟨b, p, none⟩) t.cols.length cc, .slice ia t.ixs.length ic, .slice ka t.fks.length kc] 54)
    rw [hW, ← hY0]
    exact this
  have d2 : W.cell? ⟨Y0, 2, none⟩ = some (.slice (some ⟨b, p, none⟩) t.cols.length cc) := cell_blk jY0 2
  have hfind := findC_any (w := W) (f := 69) (cs := #[]) (p := fun x => !(kindB x.kd && fitB x.df x.kd)) (HT.out.c.on colE_held hbW) goes69 (fun X hX B q x _ _ hp => el_f hp)
  have hneg := fidx_neg (fun x : Col => !(kindB x.kd && fitB x.df x.kd)) t.cols
  simp only [Bool.not_not] at hneg
  obtain ⟨i, hi⟩ : ∃ i, fidx (fun x : Col => !(kindB x.kd && fitB x.df x.kd)) t.cols = i := ⟨_, rfl⟩
  obtain ⟨r1, hr1⟩ : ∃ r1, t.cols.all (fun x => kindB x.kd && fitB x.df x.kd) = r1 := ⟨_, rfl⟩
  have HP : Hid (∀ X, Below W.heap.size W X → (X.cell? ⟨Y0, 2, none⟩ = some (.slice (some ⟨b, p, none⟩) t.cols.length cc) ∧ X.cell? ⟨Y0, 3, none⟩ = some (.slice ia t.ixs.length ic) ∧ X.cell? ⟨Y0, 4, none⟩ = some (.slice ka t.fks.length kc) ∧ X.cell? ⟨b, p + 3, none⟩ = some (.int .i64 x0.st)) ∧ Calls Try.prog 72 #[.slice (some ⟨b, p, none⟩) t.cols.length cc, .func (.func 56) #[] #[]] X (fun e w' => e = .returned (.bool (partsB Col.nm Col.st t.cols)) ∧ Below X.heap.size X w')
      ∧ Calls Try.prog 73 #[.slice ia t.ixs.length ic, .func (.func 58) #[] #[]] X (fun e w' => e = .returned (.bool (partsB Ix.nm Ix.st t.ixs)) ∧ Below X.heap.size X w') ∧ Calls Try.prog 74 #[.slice ka t.fks.length kc, .func (.func 60) #[] #[]] X (fun e w' => e = .returned (.bool (partsB Fk.nm Fk.st t.fks)) ∧ Below X.heap.size X w')) := fun X hX => by
    have hwX := bgo hbW hX
    exact ⟨⟨cell_on hX (cell_blk jY0 2), cell_on hX (cell_blk jY0 3), cell_on hX (cell_blk jY0 4), cell_on hwX c3⟩, partsC_any (HT.out.c.on colE_held hwX) HZ.out.1, partsI_any (HT.out.i.on ixE_held hwX) HZ.out.2.1, partsK_any (HT.out.k.on fkE_held hwX) HZ.out.2.2⟩
  obtain ⟨s0, hs0⟩ : ∃ s0, x0.st = s0 := ⟨_, rfl⟩
  obtain ⟨r2, hr2⟩ : ∃ r2, partsB Col.nm Col.st t.cols = r2 := ⟨_, rfl⟩
  obtain ⟨r3, hr3⟩ : ∃ r3, partsB Ix.nm Ix.st t.ixs = r3 := ⟨_, rfl⟩
  obtain ⟨r4, hr4⟩ : ∃ r4, partsB Fk.nm Fk.st t.fks = r4 := ⟨_, rfl⟩
  have HR : Hid (elB t = (r1 && decide (s0 = 3) && r2 && r3 && r4)) := by
    unfold elB
    rw [hr1, hkey, hs0, hr2, hr3, hr4]
    exact Lib.hid rfl
  rw [hi] at hfind hneg
  rw [hr1] at hneg
  rw [hr2, hr3, hr4, hs0] at HP
  have HW := Lib.hid hW
  have HBW := Lib.hid hbW
  have HY0 := Lib.hid hY0
  clear hW hbW hY0
  clear jY0 hi hr1 hcell hbl hX h hz c3 hkey hs0 hr2 hr3 hr4 hx0
  go_enter Try.func46, Try.ntmps46
  go_upto_region 1 with fail
  rw [← HW.out, HY0.out]
  go_upto_region 2 with (go_at_call 68; refine hfind.mono ?_; rintro e w1 ⟨rfl, b1⟩; refine Hid.out ?_)
  refine Lib.hid ?_
  have HB1 := Lib.hid b1
  obtain ⟨⟨e2, e3, e4, e5⟩, p2, _, _⟩ := HP.out w1 b1
  clear hfind b1 d2
  cases r1 with
  | false =>
    have hi := of_decide_eq_false hneg
    clear hneg p2 e2 e3 e4 e5
    go_wp2
    go_ret
    exact ⟨by rw [HR.out]; simp, bgo HBW.out HB1.out⟩
  | true =>
    have hi := of_decide_eq_true hneg
    clear hneg
    by_cases hs : s0 = 3
    · subst hs
      cases r2 with
      | false =>
        go_wp2_with (go_at_call 72; refine p2.mono ?_; rintro e w2 ⟨rfl, b2⟩; refine Hid.out ?_)
        refine Lib.hid ?_
        have HB2 := Lib.hid b2
        clear b2 p2
        go_wp2
        go_ret
        exact ⟨by rw [HR.out]; simp, bgo HBW.out (bgo HB1.out HB2.out)⟩
      | true =>
        go_wp2_with (go_at_call 72; refine p2.mono ?_; rintro e w2 ⟨rfl, b2⟩; refine Hid.out ?_)
        refine Lib.hid ?_
        have HB2 := Lib.hid (bgo HB1.out b2)
        obtain ⟨⟨g2, g3, g4, g5⟩, _, p3, _⟩ := HP.out w2 (bgo HB1.out b2)
        clear b2 p2
        cases r3 with
        | false =>
          go_wp2_with (go_at_call 73; refine p3.mono ?_; rintro e w3 ⟨rfl, b3⟩; refine Hid.out ?_)
          refine Lib.hid ?_
          have HB3 := Lib.hid b3
          clear b3 p3
          go_wp2
          go_ret
          exact ⟨by rw [HR.out]; simp, bgo HBW.out (bgo HB2.out HB3.out)⟩
        | true =>
          go_wp2_with (go_at_call 73; refine p3.mono ?_; rintro e w3 ⟨rfl, b3⟩; refine Hid.out ?_)
          refine Lib.hid ?_
          have HB3 := Lib.hid (bgo HB2.out b3)
          obtain ⟨⟨f2, f3, f4, f5⟩, _, _, p4⟩ := HP.out w3 (bgo HB2.out b3)
          clear b3 p3
          go_wp2_with (go_at_call 74; refine p4.mono ?_; rintro e w4 ⟨rfl, b4⟩; refine Hid.out ?_)
          refine Lib.hid ?_
          have HB4 := Lib.hid b4
          clear b4 p4
          go_wp2
          go_ret
          exact ⟨by rw [HR.out]; simp, bgo HBW.out (bgo HB3.out HB4.out)⟩
    · go_wp2
      go_ret
      exact ⟨by rw [HR.out]; simp [hs], bgo HBW.out HB1.out⟩
end
end Go.Proofs.Ytkfnphhoebknnaa
