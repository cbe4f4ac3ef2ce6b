/- Lists of indexes, foreign keys and records. -/
import Derived.Test.YtjhgmncmcklnkaaVMc
namespace Go.Proofs.Ytjhgmncmcklnkaa
open Go.RowKit

theorem info_index : (Try.prog.info? 199).map (fun i => (i.zero, i.size, i.bytes)) = some (some (.agg #[.int .i64 0, .string ⟨#[]⟩, .int .i64 0, .bool false, .int .i64 0]), 5, 48) := by kernel_rfl
theorem el_index : El 80 199 indexT := by
  obtain ⟨i0, hi, hz0, hz1, hz2⟩ := info_parts info_index
  exact ⟨Try.underlying80, ⟨i0, _, 48, hi, hz0, hz1, hz2, rfl, by decide⟩, by decide⟩
section
variable {w w' w1 w2 : World} {A : Nat} {S S1 : Nat → Prop} {s s1 : TS} {B o : Nat} {t u : List Ty} {x y : List At} {rv : Value}
set_option maxHeartbeats 4000000 in
set_option maxRecDepth 100000 in
theorem indexs_any (h : Pre w A S s B o [.list indexT] x) : Calls Try.prog 98 #[.pointer (some ⟨A, 0, none⟩), .pointer (some ⟨B, o, none⟩), .func (.func 99) #[] #[]] w fun e w' => e = .returned (.tuple #[]) ∧ Post w w' A S s B o [.list indexT] x := by
  obtain ⟨a, rfl, ha⟩ := hasS_one h.has
  obtain ⟨l, rfl, hl1, hl2⟩ := has_list ha
  have hl := h.lies
  simp only [liesS, At.lies, and_true] at hl
  obtain ⟨v, hc, ad, cap, rfl, hcap, hmx, hmem⟩ := hl
  obtain ⟨cs, ty, hb, hs0⟩ := h.blk
  have h0 : s.reads = true → ((l.length : Nat) : Int) = 0 := fun q => by
    have e := (zero_cell h q).2
    simp only [List.cons.injEq, At.list.injEq, and_true] at e
    rw [e]
    rfl
  have hlen : s.reads = false → s.wr.length + (num (l.length : Int)).length ≤ 1000000000 := fun q => by
    have := h.lenW q
    simp only [encS, At.enc, List.append_nil, List.length_append] at this
    omega
  have hcnt := count_any (h.num (len_in hl1) h0 hlen (ty := 3))
  have HH := Lib.hid h
  cases hr : s.reads with
  | false =>
    have HR := Lib.hid hr
    have HM := Lib.hid hmem
    have HL2 := Lib.hid hl2
    have HC := Lib.hid hc
    have hl3 : (l.length : Int) ≤ 9223372036854775807 := by omega
    clear h ha hl1 hl2 h0 hlen hmem hb hs0 hr
    go_enter Try.func98, Try.ntmps98
    go_wp2_with (go_at_call 80; refine hcnt.mono ?_; rintro e w1 ⟨rfl, Q⟩; refine Hid.out ?_)
    refine Lib.hid ?_
    have HW := Lib.hid (WI.start HH.out HR.out Q)
    clear Q hcnt hc
    go_wp2
    go_loopw [7] (fun iv wr => ∃ i : Nat, i ≤ l.length ∧ iv = .int .i64 i ∧ Hid (WI w A S s l i wr)) (fun iv _ => l.length - (intOf iv).toNat)
    case atStart => exact ⟨0, Nat.zero_le _, rfl, HW⟩
    case round =>
      obtain ⟨i, hi, rfl, HI⟩ := hrel
      clear HW
      obtain ⟨c0, c3, cN⟩ := HI.out.reads HR.out (HH.out.wb HR.out)
      by_cases hlt : i < l.length
      · have hlI : (i : Int) < (l.length : Int) := by omega
        obtain ⟨b, p, rfl, hbl, nb, hL⟩ : ∃ b p, ad = some ⟨b, p, none⟩ ∧ b < w.heap.size ∧ ¬ S b ∧ liesL w S b p l := by
          rcases HM.out with e | q
          · rw [e] at hlt; simp at hlt
          · exact q
        obtain ⟨cB, vs, hvs, hcells, hone1, S', s', P, N⟩ := WI.next (et := 199) HH.out HR.out HL2.out hlt HC.out hbl nb hL HI.out
        obtain ⟨v0, v1, v2, v3, v4, rfl⟩ := arr5 hvs
        have hkd := liesS_kinds P.has P.lies
        have hX := heap_alloc_new wr (.cells #[v0, v1, v2, v3, v4] 199)
        obtain ⟨u0, g0, n0, rfl⟩ := hkd 0 (by decide)
        obtain ⟨u1, g1, n1, rfl⟩ := hkd 1 (by decide)
        obtain ⟨u2, g2, n2, rfl⟩ := hkd 2 (by decide)
        obtain ⟨u3, g3, n3, rfl⟩ := hkd 3 (by decide)
        obtain ⟨u4, g4, n4, rfl⟩ := hkd 4 (by decide)
        rw [cell_blk hX] at g0 g1 g2 g3 g4
        simp at g0 g1 g2 g3 g4
        subst g0 g1 g2 g3 g4
        have e0 : wr.cell? ⟨b, p + i * 5, none⟩ = some (.int .i64 n0) := hcells 0 (by decide)
        have e1 : wr.cell? ⟨b, p + i * 5 + 1, none⟩ = some (.string n1) := hcells 1 (by decide)
        have e2 : wr.cell? ⟨b, p + i * 5 + 2, none⟩ = some (.int .i64 n2) := hcells 2 (by decide)
        have e3 : wr.cell? ⟨b, p + i * 5 + 3, none⟩ = some (.bool n3) := hcells 3 (by decide)
        have e4 : wr.cell? ⟨b, p + i * 5 + 4, none⟩ = some (.int .i64 n4) := hcells 4 (by decide)
        have hone := index_any P
        have HN := Lib.hid N
        clear N P hcells hone1 hkd hX hvs HC
        go_wp2_with (go_at_call 99; refine hone.mono ?_; rintro e w2 ⟨rfl, q⟩; refine Hid.out ?_)
        refine Lib.hid ?_
        have HI2 := Lib.hid (HN.out _ q)
        clear q hone
        go_wp2
        go_roundw
        case rel => exact ⟨i + 1, by omega, by go_num, HI2⟩
        case measure => simp [intOf]; omega
      · have hiF : i = l.length := by omega
        subst hiF
        go_wp2
        go_end0
        exact ⟨rfl, WI.done HH.out HR.out HI.out⟩
  | true =>
    have hx := (zero_cell h hr).2
    simp only [List.cons.injEq, At.list.injEq, and_true] at hx
    subst hx
    have hz := (zero_cell h hr).1
    rw [hc] at hz
    simp only [Option.some.injEq, Value.slice.injEq] at hz
    obtain ⟨rfl, _, rfl⟩ := hz
    have HR := Lib.hid hr
    have HB := Lib.hid hb
    clear h ha hl1 hl2 h0 hlen hmem hb hs0 hr
    go_enter Try.func98, Try.ntmps98
    go_wp2_with (go_at_call 80; refine hcnt.mono ?_; rintro e w1 ⟨rfl, Q⟩; refine Hid.out ?_)
    refine Lib.hid ?_
    obtain ⟨c, hst⟩ : ∃ c, (RI w A S s B o cs ty 199 indexT c 0 w1) ∨ RB w A S s B o cs ty indexT w1 := by
      rcases RI.start (et := 199) HH.out HR.out (by decide) HB.out Q with ⟨c, q⟩ | q
      · exact ⟨c, .inl q⟩
      · exact ⟨0, .inr q⟩
    have HST := Lib.hid hst
    clear Q hcnt hc hst
    go_wp2
    go_loopw [7] (fun iv wr => ∃ i : Nat, i ≤ c ∧ iv = .int .i64 i ∧ Hid (RI w A S s B o cs ty 199 indexT c i wr ∨ RB w A S s B o cs ty indexT wr)) (fun iv _ => c - (intOf iv).toNat)
    case atStart => exact ⟨0, Nat.zero_le _, rfl, HST⟩
    case round =>
      obtain ⟨i, hi, rfl, HI⟩ := hrel
      clear HST
      rcases HI.out with HRI | HRB
      · obtain ⟨c0, c3, cN, hcl⟩ := HRI.cells HH.out HR.out
        by_cases hlt : i < c
        · have hlI : (i : Int) < (c : Int) := by omega
          obtain ⟨S', s', P, N⟩ := RI.next el_index HH.out HR.out HB.out hlt HRI
          have ez : zvS indexT = #[.int .i64 0, .string ⟨#[]⟩, .int .i64 0, .bool false, .int .i64 0] := rfl
          rw [ez] at P N
          have hone := index_any P
          have HN := Lib.hid N
          clear N P ez HI HRI
          go_wp2_with (go_at_call 99; refine hone.mono ?_; rintro e w2 ⟨rfl, q⟩; refine Hid.out ?_)
          refine Lib.hid ?_
          obtain ⟨us, tv, v', w3, hus, hcells, hkd, d1, hrun, ⟨ad1, m1, q1, rfl⟩, ⟨ad2, m2, q2, rfl⟩, d2, d3, d4, hend⟩ := HN.out w2 q
          obtain ⟨v0, v1, v2, v3, v4, rfl⟩ := arr5 hus
          obtain ⟨u0, g0, n0, rfl⟩ := hkd 0 (by decide)
          obtain ⟨u1, g1, n1, rfl⟩ := hkd 1 (by decide)
          obtain ⟨u2, g2, n2, rfl⟩ := hkd 2 (by decide)
          obtain ⟨u3, g3, n3, rfl⟩ := hkd 3 (by decide)
          obtain ⟨u4, g4, n4, rfl⟩ := hkd 4 (by decide)
          simp at g0 g1 g2 g3 g4
          subst g0 g1 g2 g3 g4
          have e0 : w2.cell? ⟨wr.heap.size, 0, none⟩ = some (.int .i64 n0) := hcells 0 (by decide)
          have e1 : w2.cell? ⟨wr.heap.size, 1, none⟩ = some (.string n1) := hcells 1 (by decide)
          have e2 : w2.cell? ⟨wr.heap.size, 2, none⟩ = some (.int .i64 n2) := hcells 2 (by decide)
          have e3 : w2.cell? ⟨wr.heap.size, 3, none⟩ = some (.bool n3) := hcells 3 (by decide)
          have e4 : w2.cell? ⟨wr.heap.size, 4, none⟩ = some (.int .i64 n4) := hcells 4 (by decide)
          have HI2 := Lib.hid hend
          clear q hone hend hcells hkd hus HN
          go_wp2
          go_region_law (refine step_run (.tmp 38) (.tmp 40) rfl rfl rfl (by simp [Act.eval]) (by simp [Act.eval]) hrun ?_)
          all_goals
            go_wp2
            go_roundw
            case rel => exact ⟨i + 1, by omega, by go_num, HI2⟩
            case measure => simp [intOf]; omega
        · have hiF : i = c := by omega
          subst hiF
          have HRI2 := Lib.hid HRI
          clear HRI HI
          go_wp2
          go_end0
          exact ⟨rfl, RI.done HH.out HR.out HB.out HRI2.out⟩
      · obtain ⟨c3, m, cN⟩ := HRB.cells
        have HRB2 := Lib.hid HRB
        clear HRB HI
        by_cases hm : (i : Int) < m
        · go_wp2
          go_end0
          exact ⟨rfl, RB.done HH.out HR.out HB.out HRB2.out⟩
        · go_wp2
          go_end0
          exact ⟨rfl, RB.done HH.out HR.out HB.out HRB2.out⟩
end
theorem info_foreign : (Try.prog.info? 201).map (fun i => (i.zero, i.size, i.bytes)) = some (some (.agg #[.int .i64 0, .string ⟨#[]⟩, .int .i64 0, .int .i64 0, .int .i64 0]), 5, 48) := by kernel_rfl
theorem el_foreign : El 81 201 foreignT := by
  obtain ⟨i0, hi, hz0, hz1, hz2⟩ := info_parts info_foreign
  exact ⟨Try.underlying81, ⟨i0, _, 48, hi, hz0, hz1, hz2, rfl, by decide⟩, by decide⟩
section
variable {w w' w1 w2 : World} {A : Nat} {S S1 : Nat → Prop} {s s1 : TS} {B o : Nat} {t u : List Ty} {x y : List At} {rv : Value}
set_option maxHeartbeats 4000000 in
set_option maxRecDepth 100000 in
theorem foreigns_any (h : Pre w A S s B o [.list foreignT] x) : Calls Try.prog 100 #[.pointer (some ⟨A, 0, none⟩), .pointer (some ⟨B, o, none⟩), .func (.func 101) #[] #[]] w fun e w' => e = .returned (.tuple #[]) ∧ Post w w' A S s B o [.list foreignT] x := by
  obtain ⟨a, rfl, ha⟩ := hasS_one h.has
  obtain ⟨l, rfl, hl1, hl2⟩ := has_list ha
  have hl := h.lies
  simp only [liesS, At.lies, and_true] at hl
  obtain ⟨v, hc, ad, cap, rfl, hcap, hmx, hmem⟩ := hl
  obtain ⟨cs, ty, hb, hs0⟩ := h.blk
  have h0 : s.reads = true → ((l.length : Nat) : Int) = 0 := fun q => by
    have e := (zero_cell h q).2
    simp only [List.cons.injEq, At.list.injEq, and_true] at e
    rw [e]
    rfl
  have hlen : s.reads = false → s.wr.length + (num (l.length : Int)).length ≤ 1000000000 := fun q => by
    have := h.lenW q
    simp only [encS, At.enc, List.append_nil, List.length_append] at this
    omega
  have hcnt := count_any (h.num (len_in hl1) h0 hlen (ty := 3))
  have HH := Lib.hid h
  cases hr : s.reads with
  | false =>
    have HR := Lib.hid hr
    have HM := Lib.hid hmem
    have HL2 := Lib.hid hl2
    have HC := Lib.hid hc
    have hl3 : (l.length : Int) ≤ 9223372036854775807 := by omega
    clear h ha hl1 hl2 h0 hlen hmem hb hs0 hr
    go_enter Try.func100, Try.ntmps100
    go_wp2_with (go_at_call 80; refine hcnt.mono ?_; rintro e w1 ⟨rfl, Q⟩; refine Hid.out ?_)
    refine Lib.hid ?_
    have HW := Lib.hid (WI.start HH.out HR.out Q)
    clear Q hcnt hc
    go_wp2
    go_loopw [7] (fun iv wr => ∃ i : Nat, i ≤ l.length ∧ iv = .int .i64 i ∧ Hid (WI w A S s l i wr)) (fun iv _ => l.length - (intOf iv).toNat)
    case atStart => exact ⟨0, Nat.zero_le _, rfl, HW⟩
    case round =>
      obtain ⟨i, hi, rfl, HI⟩ := hrel
      clear HW
      obtain ⟨c0, c3, cN⟩ := HI.out.reads HR.out (HH.out.wb HR.out)
      by_cases hlt : i < l.length
      · have hlI : (i : Int) < (l.length : Int) := by omega
        obtain ⟨b, p, rfl, hbl, nb, hL⟩ : ∃ b p, ad = some ⟨b, p, none⟩ ∧ b < w.heap.size ∧ ¬ S b ∧ liesL w S b p l := by
          rcases HM.out with e | q
          · rw [e] at hlt; simp at hlt
          · exact q
        obtain ⟨cB, vs, hvs, hcells, hone1, S', s', P, N⟩ := WI.next (et := 201) HH.out HR.out HL2.out hlt HC.out hbl nb hL HI.out
        obtain ⟨v0, v1, v2, v3, v4, rfl⟩ := arr5 hvs
        have hkd := liesS_kinds P.has P.lies
        have hX := heap_alloc_new wr (.cells #[v0, v1, v2, v3, v4] 201)
        obtain ⟨u0, g0, n0, rfl⟩ := hkd 0 (by decide)
        obtain ⟨u1, g1, n1, rfl⟩ := hkd 1 (by decide)
        obtain ⟨u2, g2, n2, rfl⟩ := hkd 2 (by decide)
        obtain ⟨u3, g3, n3, rfl⟩ := hkd 3 (by decide)
        obtain ⟨u4, g4, n4, rfl⟩ := hkd 4 (by decide)
        rw [cell_blk hX] at g0 g1 g2 g3 g4
        simp at g0 g1 g2 g3 g4
        subst g0 g1 g2 g3 g4
        have e0 : wr.cell? ⟨b, p + i * 5, none⟩ = some (.int .i64 n0) := hcells 0 (by decide)
        have e1 : wr.cell? ⟨b, p + i * 5 + 1, none⟩ = some (.string n1) := hcells 1 (by decide)
        have e2 : wr.cell? ⟨b, p + i * 5 + 2, none⟩ = some (.int .i64 n2) := hcells 2 (by decide)
        have e3 : wr.cell? ⟨b, p + i * 5 + 3, none⟩ = some (.int .i64 n3) := hcells 3 (by decide)
        have e4 : wr.cell? ⟨b, p + i * 5 + 4, none⟩ = some (.int .i64 n4) := hcells 4 (by decide)
        have hone := foreign_any P
        have HN := Lib.hid N
        clear N P hcells hone1 hkd hX hvs HC
        go_wp2_with (go_at_call 101; refine hone.mono ?_; rintro e w2 ⟨rfl, q⟩; refine Hid.out ?_)
        refine Lib.hid ?_
        have HI2 := Lib.hid (HN.out _ q)
        clear q hone
        go_wp2
        go_roundw
        case rel => exact ⟨i + 1, by omega, by go_num, HI2⟩
        case measure => simp [intOf]; omega
      · have hiF : i = l.length := by omega
        subst hiF
        go_wp2
        go_end0
        exact ⟨rfl, WI.done HH.out HR.out HI.out⟩
  | true =>
    have hx := (zero_cell h hr).2
    simp only [List.cons.injEq, At.list.injEq, and_true] at hx
    subst hx
    have hz := (zero_cell h hr).1
    rw [hc] at hz
    simp only [Option.some.injEq, Value.slice.injEq] at hz
    obtain ⟨rfl, _, rfl⟩ := hz
    have HR := Lib.hid hr
    have HB := Lib.hid hb
    clear h ha hl1 hl2 h0 hlen hmem hb hs0 hr
    go_enter Try.func100, Try.ntmps100
    go_wp2_with (go_at_call 80; refine hcnt.mono ?_; rintro e w1 ⟨rfl, Q⟩; refine Hid.out ?_)
    refine Lib.hid ?_
    obtain ⟨c, hst⟩ : ∃ c, (RI w A S s B o cs ty 201 foreignT c 0 w1) ∨ RB w A S s B o cs ty foreignT w1 := by
      rcases RI.start (et := 201) HH.out HR.out (by decide) HB.out Q with ⟨c, q⟩ | q
      · exact ⟨c, .inl q⟩
      · exact ⟨0, .inr q⟩
    have HST := Lib.hid hst
    clear Q hcnt hc hst
    go_wp2
    go_loopw [7] (fun iv wr => ∃ i : Nat, i ≤ c ∧ iv = .int .i64 i ∧ Hid (RI w A S s B o cs ty 201 foreignT c i wr ∨ RB w A S s B o cs ty foreignT wr)) (fun iv _ => c - (intOf iv).toNat)
    case atStart => exact ⟨0, Nat.zero_le _, rfl, HST⟩
    case round =>
      obtain ⟨i, hi, rfl, HI⟩ := hrel
      clear HST
      rcases HI.out with HRI | HRB
      · obtain ⟨c0, c3, cN, hcl⟩ := HRI.cells HH.out HR.out
        by_cases hlt : i < c
        · have hlI : (i : Int) < (c : Int) := by omega
          obtain ⟨S', s', P, N⟩ := RI.next el_foreign HH.out HR.out HB.out hlt HRI
          have ez : zvS foreignT = #[.int .i64 0, .string ⟨#[]⟩, .int .i64 0, .int .i64 0, .int .i64 0] := rfl
          rw [ez] at P N
          have hone := foreign_any P
          have HN := Lib.hid N
          clear N P ez HI HRI
          go_wp2_with (go_at_call 101; refine hone.mono ?_; rintro e w2 ⟨rfl, q⟩; refine Hid.out ?_)
          refine Lib.hid ?_
          obtain ⟨us, tv, v', w3, hus, hcells, hkd, d1, hrun, ⟨ad1, m1, q1, rfl⟩, ⟨ad2, m2, q2, rfl⟩, d2, d3, d4, hend⟩ := HN.out w2 q
          obtain ⟨v0, v1, v2, v3, v4, rfl⟩ := arr5 hus
          obtain ⟨u0, g0, n0, rfl⟩ := hkd 0 (by decide)
          obtain ⟨u1, g1, n1, rfl⟩ := hkd 1 (by decide)
          obtain ⟨u2, g2, n2, rfl⟩ := hkd 2 (by decide)
          obtain ⟨u3, g3, n3, rfl⟩ := hkd 3 (by decide)
          obtain ⟨u4, g4, n4, rfl⟩ := hkd 4 (by decide)
          simp at g0 g1 g2 g3 g4
          subst g0 g1 g2 g3 g4
          have e0 : w2.cell? ⟨wr.heap.size, 0, none⟩ = some (.int .i64 n0) := hcells 0 (by decide)
          have e1 : w2.cell? ⟨wr.heap.size, 1, none⟩ = some (.string n1) := hcells 1 (by decide)
          have e2 : w2.cell? ⟨wr.heap.size, 2, none⟩ = some (.int .i64 n2) := hcells 2 (by decide)
          have e3 : w2.cell? ⟨wr.heap.size, 3, none⟩ = some (.int .i64 n3) := hcells 3 (by decide)
          have e4 : w2.cell? ⟨wr.heap.size, 4, none⟩ = some (.int .i64 n4) := hcells 4 (by decide)
          have HI2 := Lib.hid hend
          clear q hone hend hcells hkd hus HN
          go_wp2
          go_region_law (refine step_run (.tmp 38) (.tmp 40) rfl rfl rfl (by simp [Act.eval]) (by simp [Act.eval]) hrun ?_)
          all_goals
            go_wp2
            go_roundw
            case rel => exact ⟨i + 1, by omega, by go_num, HI2⟩
            case measure => simp [intOf]; omega
        · have hiF : i = c := by omega
          subst hiF
          have HRI2 := Lib.hid HRI
          clear HRI HI
          go_wp2
          go_end0
          exact ⟨rfl, RI.done HH.out HR.out HB.out HRI2.out⟩
      · obtain ⟨c3, m, cN⟩ := HRB.cells
        have HRB2 := Lib.hid HRB
        clear HRB HI
        by_cases hm : (i : Int) < m
        · go_wp2
          go_end0
          exact ⟨rfl, RB.done HH.out HR.out HB.out HRB2.out⟩
        · go_wp2
          go_end0
          exact ⟨rfl, RB.done HH.out HR.out HB.out HRB2.out⟩
end
theorem info_record : (Try.prog.info? 122).map (fun i => (i.zero, i.size, i.bytes)) = some (some (.agg #[.int .i64 0, .int .i64 0, .int .i64 0, .int .i64 0]), 4, 32) := by kernel_rfl
theorem el_record : El 59 122 recordT := by
  obtain ⟨i0, hi, hz0, hz1, hz2⟩ := info_parts info_record
  exact ⟨Try.underlying59, ⟨i0, _, 32, hi, hz0, hz1, hz2, rfl, by decide⟩, by decide⟩
section
variable {w w' w1 w2 : World} {A : Nat} {S S1 : Nat → Prop} {s s1 : TS} {B o : Nat} {t u : List Ty} {x y : List At} {rv : Value}
set_option maxHeartbeats 4000000 in
set_option maxRecDepth 100000 in
theorem records_any (h : Pre w A S s B o [.list recordT] x) : Calls Try.prog 70 #[.pointer (some ⟨A, 0, none⟩), .pointer (some ⟨B, o, none⟩), .func (.func 71) #[] #[]] w fun e w' => e = .returned (.tuple #[]) ∧ Post w w' A S s B o [.list recordT] x := by
  obtain ⟨a, rfl, ha⟩ := hasS_one h.has
  obtain ⟨l, rfl, hl1, hl2⟩ := has_list ha
  have hl := h.lies
  simp only [liesS, At.lies, and_true] at hl
  obtain ⟨v, hc, ad, cap, rfl, hcap, hmx, hmem⟩ := hl
  obtain ⟨cs, ty, hb, hs0⟩ := h.blk
  have h0 : s.reads = true → ((l.length : Nat) : Int) = 0 := fun q => by
    have e := (zero_cell h q).2
    simp only [List.cons.injEq, At.list.injEq, and_true] at e
    rw [e]
    rfl
  have hlen : s.reads = false → s.wr.length + (num (l.length : Int)).length ≤ 1000000000 := fun q => by
    have := h.lenW q
    simp only [encS, At.enc, List.append_nil, List.length_append] at this
    omega
  have hcnt := count_any (h.num (len_in hl1) h0 hlen (ty := 3))
  have HH := Lib.hid h
  cases hr : s.reads with
  | false =>
    have HR := Lib.hid hr
    have HM := Lib.hid hmem
    have HL2 := Lib.hid hl2
    have HC := Lib.hid hc
    have hl3 : (l.length : Int) ≤ 9223372036854775807 := by omega
    clear h ha hl1 hl2 h0 hlen hmem hb hs0 hr
    go_enter Try.func70, Try.ntmps70
    go_wp2_with (go_at_call 80; refine hcnt.mono ?_; rintro e w1 ⟨rfl, Q⟩; refine Hid.out ?_)
    refine Lib.hid ?_
    have HW := Lib.hid (WI.start HH.out HR.out Q)
    clear Q hcnt hc
    go_wp2
    go_loopw [7] (fun iv wr => ∃ i : Nat, i ≤ l.length ∧ iv = .int .i64 i ∧ Hid (WI w A S s l i wr)) (fun iv _ => l.length - (intOf iv).toNat)
    case atStart => exact ⟨0, Nat.zero_le _, rfl, HW⟩
    case round =>
      obtain ⟨i, hi, rfl, HI⟩ := hrel
      clear HW
      obtain ⟨c0, c3, cN⟩ := HI.out.reads HR.out (HH.out.wb HR.out)
      by_cases hlt : i < l.length
      · have hlI : (i : Int) < (l.length : Int) := by omega
        obtain ⟨b, p, rfl, hbl, nb, hL⟩ : ∃ b p, ad = some ⟨b, p, none⟩ ∧ b < w.heap.size ∧ ¬ S b ∧ liesL w S b p l := by
          rcases HM.out with e | q
          · rw [e] at hlt; simp at hlt
          · exact q
        obtain ⟨cB, vs, hvs, hcells, hone1, S', s', P, N⟩ := WI.next (et := 122) HH.out HR.out HL2.out hlt HC.out hbl nb hL HI.out
        obtain ⟨v0, v1, v2, v3, rfl⟩ := arr4 hvs
        have hkd := liesS_kinds P.has P.lies
        have hX := heap_alloc_new wr (.cells #[v0, v1, v2, v3] 122)
        obtain ⟨u0, g0, n0, rfl⟩ := hkd 0 (by decide)
        obtain ⟨u1, g1, n1, rfl⟩ := hkd 1 (by decide)
        obtain ⟨u2, g2, n2, rfl⟩ := hkd 2 (by decide)
        obtain ⟨u3, g3, n3, rfl⟩ := hkd 3 (by decide)
        rw [cell_blk hX] at g0 g1 g2 g3
        simp at g0 g1 g2 g3
        subst g0 g1 g2 g3
        have e0 : wr.cell? ⟨b, p + i * 4, none⟩ = some (.int .i64 n0) := hcells 0 (by decide)
        have e1 : wr.cell? ⟨b, p + i * 4 + 1, none⟩ = some (.int .i64 n1) := hcells 1 (by decide)
        have e2 : wr.cell? ⟨b, p + i * 4 + 2, none⟩ = some (.int .i64 n2) := hcells 2 (by decide)
        have e3 : wr.cell? ⟨b, p + i * 4 + 3, none⟩ = some (.int .i64 n3) := hcells 3 (by decide)
        have hone := record_any P
        have HN := Lib.hid N
        clear N P hcells hone1 hkd hX hvs HC
        go_wp2_with (go_at_call 71; refine hone.mono ?_; rintro e w2 ⟨rfl, q⟩; refine Hid.out ?_)
        refine Lib.hid ?_
        have HI2 := Lib.hid (HN.out _ q)
        clear q hone
        go_wp2
        go_roundw
        case rel => exact ⟨i + 1, by omega, by go_num, HI2⟩
        case measure => simp [intOf]; omega
      · have hiF : i = l.length := by omega
        subst hiF
        go_wp2
        go_end0
        exact ⟨rfl, WI.done HH.out HR.out HI.out⟩
  | true =>
    have hx := (zero_cell h hr).2
    simp only [List.cons.injEq, At.list.injEq, and_true] at hx
    subst hx
    have hz := (zero_cell h hr).1
    rw [hc] at hz
    simp only [Option.some.injEq, Value.slice.injEq] at hz
    obtain ⟨rfl, _, rfl⟩ := hz
    have HR := Lib.hid hr
    have HB := Lib.hid hb
    clear h ha hl1 hl2 h0 hlen hmem hb hs0 hr
    go_enter Try.func70, Try.ntmps70
    go_wp2_with (go_at_call 80; refine hcnt.mono ?_; rintro e w1 ⟨rfl, Q⟩; refine Hid.out ?_)
    refine Lib.hid ?_
    obtain ⟨c, hst⟩ : ∃ c, (RI w A S s B o cs ty 122 recordT c 0 w1) ∨ RB w A S s B o cs ty recordT w1 := by
      rcases RI.start (et := 122) HH.out HR.out (by decide) HB.out Q with ⟨c, q⟩ | q
      · exact ⟨c, .inl q⟩
      · exact ⟨0, .inr q⟩
    have HST := Lib.hid hst
    clear Q hcnt hc hst
    go_wp2
    go_loopw [7] (fun iv wr => ∃ i : Nat, i ≤ c ∧ iv = .int .i64 i ∧ Hid (RI w A S s B o cs ty 122 recordT c i wr ∨ RB w A S s B o cs ty recordT wr)) (fun iv _ => c - (intOf iv).toNat)
    case atStart => exact ⟨0, Nat.zero_le _, rfl, HST⟩
    case round =>
      obtain ⟨i, hi, rfl, HI⟩ := hrel
      clear HST
      rcases HI.out with HRI | HRB
      · obtain ⟨c0, c3, cN, hcl⟩ := HRI.cells HH.out HR.out
        by_cases hlt : i < c
        · have hlI : (i : Int) < (c : Int) := by omega
          obtain ⟨S', s', P, N⟩ := RI.next el_record HH.out HR.out HB.out hlt HRI
          have ez : zvS recordT = #[.int .i64 0, .int .i64 0, .int .i64 0, .int .i64 0] := rfl
          rw [ez] at P N
          have hone := record_any P
          have HN := Lib.hid N
          clear N P ez HI HRI
          go_wp2_with (go_at_call 71; refine hone.mono ?_; rintro e w2 ⟨rfl, q⟩; refine Hid.out ?_)
          refine Lib.hid ?_
          obtain ⟨us, tv, v', w3, hus, hcells, hkd, d1, hrun, ⟨ad1, m1, q1, rfl⟩, ⟨ad2, m2, q2, rfl⟩, d2, d3, d4, hend⟩ := HN.out w2 q
          obtain ⟨v0, v1, v2, v3, rfl⟩ := arr4 hus
          obtain ⟨u0, g0, n0, rfl⟩ := hkd 0 (by decide)
          obtain ⟨u1, g1, n1, rfl⟩ := hkd 1 (by decide)
          obtain ⟨u2, g2, n2, rfl⟩ := hkd 2 (by decide)
          obtain ⟨u3, g3, n3, rfl⟩ := hkd 3 (by decide)
          simp at g0 g1 g2 g3
          subst g0 g1 g2 g3
          have e0 : w2.cell? ⟨wr.heap.size, 0, none⟩ = some (.int .i64 n0) := hcells 0 (by decide)
          have e1 : w2.cell? ⟨wr.heap.size, 1, none⟩ = some (.int .i64 n1) := hcells 1 (by decide)
          have e2 : w2.cell? ⟨wr.heap.size, 2, none⟩ = some (.int .i64 n2) := hcells 2 (by decide)
          have e3 : w2.cell? ⟨wr.heap.size, 3, none⟩ = some (.int .i64 n3) := hcells 3 (by decide)
          have HI2 := Lib.hid hend
          clear q hone hend hcells hkd hus HN
          go_wp2
          go_region_law (refine step_run (.tmp 38) (.tmp 40) rfl rfl rfl (by simp [Act.eval]) (by simp [Act.eval]) hrun ?_)
          all_goals
            go_wp2
            go_roundw
            case rel => exact ⟨i + 1, by omega, by go_num, HI2⟩
            case measure => simp [intOf]; omega
        · have hiF : i = c := by omega
          subst hiF
          have HRI2 := Lib.hid HRI
          clear HRI HI
          go_wp2
          go_end0
          exact ⟨rfl, RI.done HH.out HR.out HB.out HRI2.out⟩
      · obtain ⟨c3, m, cN⟩ := HRB.cells
        have HRB2 := Lib.hid HRB
        clear HRB HI
        by_cases hm : (i : Int) < m
        · go_wp2
          go_end0
          exact ⟨rfl, RB.done HH.out HR.out HB.out HRB2.out⟩
        · go_wp2
          go_end0
          exact ⟨rfl, RB.done HH.out HR.out HB.out HRB2.out⟩
end
end Go.Proofs.Ytjhgmncmcklnkaa
