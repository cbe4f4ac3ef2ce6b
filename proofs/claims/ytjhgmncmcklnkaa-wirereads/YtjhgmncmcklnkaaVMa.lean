/- The walks of tid, stamp, span and of lists of them. -/
import Derived.Test.YtjhgmncmcklnkaaVC
namespace Go.Proofs.Ytjhgmncmcklnkaa
open Go.RowKit

theorem arr2 {vs : Array Value} (h : vs.size = 2) : ∃ a0 a1, vs = #[a0, a1] := by
  obtain ⟨l⟩ := vs
  match l, h with
  | [a0, a1], _ => exact ⟨a0, a1, rfl⟩
theorem arr3 {vs : Array Value} (h : vs.size = 3) : ∃ a0 a1 a2, vs = #[a0, a1, a2] := by
  obtain ⟨l⟩ := vs
  match l, h with
  | [a0, a1, a2], _ => exact ⟨a0, a1, a2, rfl⟩
abbrev tidT : List Ty := [.num, .num, .num]
section
variable {w w' w1 w2 : World} {A : Nat} {S S1 : Nat → Prop} {s s1 : TS} {B o : Nat} {t u : List Ty} {x y : List At} {rv : Value}
set_option maxHeartbeats 4000000 in
set_option maxRecDepth 100000 in
theorem tid_any (h : Pre w A S s B o tidT x) : Calls Try.prog 57 #[.pointer (some ⟨A, 0, none⟩), .pointer (some ⟨B, o, none⟩)] w fun e w' => e = .returned (.tuple #[]) ∧ Post w w' A S s B o tidT x := by
  have P1 := h
  have h1 := nums_at (m := 3) #[.pointer (some ⟨B, o, none⟩), .pointer (some ⟨B, o + 1, none⟩), .pointer (some ⟨B, o + 2, none⟩)] P1 (by omega) (by omega) (fun i hi => by
    have : i = 0 ∨ i = 1 ∨ i = 2 := by omega
    rcases this with rfl | rfl | rfl <;> rfl)
  clear P1 h
  go_enter Try.func57, Try.ntmps57
  go_wp2
  go_region_with (go_at_call 52; refine (h1 _ (by exact ⟨rfl, rfl, rfl, rfl⟩)).mono ?_; rintro e1 w1 ⟨rfl, q1⟩)
  all_goals
    go_wp2
    go_end0
    exact ⟨rfl, q1⟩
end
abbrev stampT : List Ty := [.text, .num]
section
variable {w w' w1 w2 : World} {A : Nat} {S S1 : Nat → Prop} {s s1 : TS} {B o : Nat} {t u : List Ty} {x y : List At} {rv : Value}
set_option maxHeartbeats 4000000 in
set_option maxRecDepth 100000 in
theorem stamp_any (h : Pre w A S s B o stampT x) : Calls Try.prog 84 #[.pointer (some ⟨A, 0, none⟩), .pointer (some ⟨B, o, none⟩)] w fun e w' => e = .returned (.tuple #[]) ∧ Post w w' A S s B o stampT x := by
  obtain ⟨y1, x1, rfl, P1, N1⟩ := Pre.part (t := [.text]) (u := [.num]) (o' := o + 1) (by simp) rfl h
  have h1 := text_any P1
  have H1 := Lib.hid N1
  clear P1 N1 h
  go_enter Try.func84, Try.ntmps84
  go_wp2_with (go_at_call 56; refine h1.mono ?_; rintro e1 v1 ⟨rfl, q1⟩; refine Hid.out ?_)
  refine Lib.hid ?_
  clear h1
  obtain ⟨S1, s1, Z2, C1⟩ := H1.out _ q1
  have HC1 := Lib.hid C1
  clear C1 q1 H1
  have P2 := Z2
  have h2 := nums_at (m := 1) #[.pointer (some ⟨B, o + 1, none⟩)] P2 (by omega) (by omega) (fun i hi => by
    have : i = 0 := by omega
    subst this
    rfl)
  clear P2 Z2
  go_wp2_with (go_at_call 52; refine (h2 _ (by exact ⟨rfl, rfl, rfl, rfl⟩)).mono ?_; rintro e2 v2 ⟨rfl, q2⟩; refine Hid.out ?_)
  refine Lib.hid ?_
  clear h2
  go_wp2
  go_end0
  exact ⟨rfl, (HC1.out _ q2)⟩
end
abbrev spanT : List Ty := [.text, .text]
section
variable {w w' w1 w2 : World} {A : Nat} {S S1 : Nat → Prop} {s s1 : TS} {B o : Nat} {t u : List Ty} {x y : List At} {rv : Value}
set_option maxHeartbeats 4000000 in
set_option maxRecDepth 100000 in
theorem span_any (h : Pre w A S s B o spanT x) : Calls Try.prog 82 #[.pointer (some ⟨A, 0, none⟩), .pointer (some ⟨B, o, none⟩)] w fun e w' => e = .returned (.tuple #[]) ∧ Post w w' A S s B o spanT x := by
  obtain ⟨y1, x1, rfl, P1, N1⟩ := Pre.part (t := [.text]) (u := [.text]) (o' := o + 1) (by simp) rfl h
  have h1 := text_any P1
  have H1 := Lib.hid N1
  clear P1 N1 h
  go_enter Try.func82, Try.ntmps82
  go_wp2_with (go_at_call 56; refine h1.mono ?_; rintro e1 v1 ⟨rfl, q1⟩; refine Hid.out ?_)
  refine Lib.hid ?_
  clear h1
  obtain ⟨S1, s1, Z2, C1⟩ := H1.out _ q1
  have HC1 := Lib.hid C1
  clear C1 q1 H1
  have P2 := Z2
  have h2 := text_any P2
  clear P2 Z2
  go_wp2_with (go_at_call 56; refine h2.mono ?_; rintro e2 v2 ⟨rfl, q2⟩; refine Hid.out ?_)
  refine Lib.hid ?_
  clear h2
  go_wp2
  go_end0
  exact ⟨rfl, (HC1.out _ q2)⟩
end
theorem info_tid : (Try.prog.info? 38).map (fun i => (i.zero, i.size, i.bytes)) = some (some (.agg #[.int .i64 0, .int .i64 0, .int .i64 0]), 3, 24) := by kernel_rfl
theorem el_tid : El 60 38 tidT := by
  obtain ⟨i0, hi, hz0, hz1, hz2⟩ := info_parts info_tid
  exact ⟨Try.underlying60, ⟨i0, _, 24, hi, hz0, hz1, hz2, rfl, by decide⟩, by decide⟩
section
variable {w w' w1 w2 : World} {A : Nat} {S S1 : Nat → Prop} {s s1 : TS} {B o : Nat} {t u : List Ty} {x y : List At} {rv : Value}
set_option maxHeartbeats 4000000 in
set_option maxRecDepth 100000 in
theorem tids_any (h : Pre w A S s B o [.list tidT] x) : Calls Try.prog 72 #[.pointer (some ⟨A, 0, none⟩), .pointer (some ⟨B, o, none⟩), .func (.func 57) #[] #[]] w fun e w' => e = .returned (.tuple #[]) ∧ Post w w' A S s B o [.list tidT] x := by
  obtain ⟨a, rfl, ha⟩ := hasS_one h.has
  obtain ⟨l, rfl, hl1, hl2⟩ := has_list ha
  have hl := h.lies
  simp only [liesS, At.lies, and_true] at hl
  obtain ⟨v, hc, ad, cap, rfl, hcap, hmx, hmem⟩ := hl
  obtain ⟨cs, ty, hb, hs0⟩ := h.blk
  have h0 : s.reads = true → ((l.length : Nat) : Int) = 0 := fun q => by
    have e := (zero_cell h q).2
    simp only [List.cons.injEq, At.list.injEq, and_true] at e
    rw [e]
    rfl
  have hlen : s.reads = false → s.wr.length + (num (l.length : Int)).length ≤ 1000000000 := fun q => by
    have := h.lenW q
    simp only [encS, At.enc, List.append_nil, List.length_append] at this
    omega
  have hcnt := count_any (h.num (len_in hl1) h0 hlen (ty := 3))
  have HH := Lib.hid h
  cases hr : s.reads with
  | false =>
    have HR := Lib.hid hr
    have HM := Lib.hid hmem
    have HL2 := Lib.hid hl2
    have HC := Lib.hid hc
    have hl3 : (l.length : Int) ≤ 9223372036854775807 := by omega
    clear h ha hl1 hl2 h0 hlen hmem hb hs0 hr
    go_enter Try.func72, Try.ntmps72
    go_wp2_with (go_at_call 80; refine hcnt.mono ?_; rintro e w1 ⟨rfl, Q⟩; refine Hid.out ?_)
    refine Lib.hid ?_
    have HW := Lib.hid (WI.start HH.out HR.out Q)
    clear Q hcnt hc
    go_wp2
    go_loopw [7] (fun iv wr => ∃ i : Nat, i ≤ l.length ∧ iv = .int .i64 i ∧ Hid (WI w A S s l i wr)) (fun iv _ => l.length - (intOf iv).toNat)
    case atStart => exact ⟨0, Nat.zero_le _, rfl, HW⟩
    case round =>
      obtain ⟨i, hi, rfl, HI⟩ := hrel
      clear HW
      obtain ⟨c0, c3, cN⟩ := HI.out.reads HR.out (HH.out.wb HR.out)
      by_cases hlt : i < l.length
      · have hlI : (i : Int) < (l.length : Int) := by omega
        obtain ⟨b, p, rfl, hbl, nb, hL⟩ : ∃ b p, ad = some ⟨b, p, none⟩ ∧ b < w.heap.size ∧ ¬ S b ∧ liesL w S b p l := by
          rcases HM.out with e | q
          · rw [e] at hlt; simp at hlt
          · exact q
        obtain ⟨cB, vs, hvs, hcells, hone1, S', s', P, N⟩ := WI.next (et := 38) HH.out HR.out HL2.out hlt HC.out hbl nb hL HI.out
        obtain ⟨v0, v1, v2, rfl⟩ := arr3 hvs
        have hkd := liesS_kinds P.has P.lies
        have hX := heap_alloc_new wr (.cells #[v0, v1, v2] 38)
        obtain ⟨u0, g0, n0, rfl⟩ := hkd 0 (by decide)
        obtain ⟨u1, g1, n1, rfl⟩ := hkd 1 (by decide)
        obtain ⟨u2, g2, n2, rfl⟩ := hkd 2 (by decide)
        rw [cell_blk hX] at g0 g1 g2
        simp at g0 g1 g2
        subst g0 g1 g2
        have e0 : wr.cell? ⟨b, p + i * 3, none⟩ = some (.int .i64 n0) := hcells 0 (by decide)
        have e1 : wr.cell? ⟨b, p + i * 3 + 1, none⟩ = some (.int .i64 n1) := hcells 1 (by decide)
        have e2 : wr.cell? ⟨b, p + i * 3 + 2, none⟩ = some (.int .i64 n2) := hcells 2 (by decide)
        have hone := tid_any P
        have HN := Lib.hid N
        clear N P hcells hone1 hkd hX hvs HC
        go_wp2_with (go_at_call 57; refine hone.mono ?_; rintro e w2 ⟨rfl, q⟩; refine Hid.out ?_)
        refine Lib.hid ?_
        have HI2 := Lib.hid (HN.out _ q)
        clear q hone
        go_wp2
        go_roundw
        case rel => exact ⟨i + 1, by omega, by go_num, HI2⟩
        case measure => simp [intOf]; omega
      · have hiF : i = l.length := by omega
        subst hiF
        go_wp2
        go_end0
        exact ⟨rfl, WI.done HH.out HR.out HI.out⟩
  | true =>
    have hx := (zero_cell h hr).2
    simp only [List.cons.injEq, At.list.injEq, and_true] at hx
    subst hx
    have hz := (zero_cell h hr).1
    rw [hc] at hz
    simp only [Option.some.injEq, Value.slice.injEq] at hz
    obtain ⟨rfl, _, rfl⟩ := hz
    have HR := Lib.hid hr
    have HB := Lib.hid hb
    clear h ha hl1 hl2 h0 hlen hmem hb hs0 hr
    go_enter Try.func72, Try.ntmps72
    go_wp2_with (go_at_call 80; refine hcnt.mono ?_; rintro e w1 ⟨rfl, Q⟩; refine Hid.out ?_)
    refine Lib.hid ?_
    obtain ⟨c, hst⟩ : ∃ c, (RI w A S s B o cs ty 38 tidT c 0 w1) ∨ RB w A S s B o cs ty tidT w1 := by
      rcases RI.start (et := 38) HH.out HR.out (by decide) HB.out Q with ⟨c, q⟩ | q
      · exact ⟨c, .inl q⟩
      · exact ⟨0, .inr q⟩
    have HST := Lib.hid hst
    clear Q hcnt hc hst
    go_wp2
    go_loopw [7] (fun iv wr => ∃ i : Nat, i ≤ c ∧ iv = .int .i64 i ∧ Hid (RI w A S s B o cs ty 38 tidT c i wr ∨ RB w A S s B o cs ty tidT wr)) (fun iv _ => c - (intOf iv).toNat)
    case atStart => exact ⟨0, Nat.zero_le _, rfl, HST⟩
    case round =>
      obtain ⟨i, hi, rfl, HI⟩ := hrel
      clear HST
      rcases HI.out with HRI | HRB
      · obtain ⟨c0, c3, cN, hcl⟩ := HRI.cells HH.out HR.out
        by_cases hlt : i < c
        · have hlI : (i : Int) < (c : Int) := by omega
          obtain ⟨S', s', P, N⟩ := RI.next el_tid HH.out HR.out HB.out hlt HRI
          have ez : zvS tidT = #[.int .i64 0, .int .i64 0, .int .i64 0] := rfl
          rw [ez] at P N
          have hone := tid_any P
          have HN := Lib.hid N
          clear N P ez HI HRI
          go_wp2_with (go_at_call 57; refine hone.mono ?_; rintro e w2 ⟨rfl, q⟩; refine Hid.out ?_)
          refine Lib.hid ?_
          obtain ⟨us, tv, v', w3, hus, hcells, hkd, d1, hrun, ⟨ad1, m1, q1, rfl⟩, ⟨ad2, m2, q2, rfl⟩, d2, d3, d4, hend⟩ := HN.out w2 q
          obtain ⟨v0, v1, v2, rfl⟩ := arr3 hus
          obtain ⟨u0, g0, n0, rfl⟩ := hkd 0 (by decide)
          obtain ⟨u1, g1, n1, rfl⟩ := hkd 1 (by decide)
          obtain ⟨u2, g2, n2, rfl⟩ := hkd 2 (by decide)
          simp at g0 g1 g2
          subst g0 g1 g2
          have e0 : w2.cell? ⟨wr.heap.size, 0, none⟩ = some (.int .i64 n0) := hcells 0 (by decide)
          have e1 : w2.cell? ⟨wr.heap.size, 1, none⟩ = some (.int .i64 n1) := hcells 1 (by decide)
          have e2 : w2.cell? ⟨wr.heap.size, 2, none⟩ = some (.int .i64 n2) := hcells 2 (by decide)
          have HI2 := Lib.hid hend
          clear q hone hend hcells hkd hus HN
          go_wp2
          go_region_law (refine step_run (.tmp 38) (.tmp 40) rfl rfl rfl (by simp [Act.eval]) (by simp [Act.eval]) hrun ?_)
          all_goals
            go_wp2
            go_roundw
            case rel => exact ⟨i + 1, by omega, by go_num, HI2⟩
            case measure => simp [intOf]; omega
        · have hiF : i = c := by omega
          subst hiF
          have HRI2 := Lib.hid HRI
          clear HRI HI
          go_wp2
          go_end0
          exact ⟨rfl, RI.done HH.out HR.out HB.out HRI2.out⟩
      · obtain ⟨c3, m, cN⟩ := HRB.cells
        have HRB2 := Lib.hid HRB
        clear HRB HI
        by_cases hm : (i : Int) < m
        · go_wp2
          go_end0
          exact ⟨rfl, RB.done HH.out HR.out HB.out HRB2.out⟩
        · go_wp2
          go_end0
          exact ⟨rfl, RB.done HH.out HR.out HB.out HRB2.out⟩
end
theorem info_stamp : (Try.prog.info? 166).map (fun i => (i.zero, i.size, i.bytes)) = some (some (.agg #[.string ⟨#[]⟩, .int .i64 0]), 2, 24) := by kernel_rfl
theorem el_stamp : El 50 166 stampT := by
  obtain ⟨i0, hi, hz0, hz1, hz2⟩ := info_parts info_stamp
  exact ⟨Try.underlying50, ⟨i0, _, 24, hi, hz0, hz1, hz2, rfl, by decide⟩, by decide⟩
section
variable {w w' w1 w2 : World} {A : Nat} {S S1 : Nat → Prop} {s s1 : TS} {B o : Nat} {t u : List Ty} {x y : List At} {rv : Value}
set_option maxHeartbeats 4000000 in
set_option maxRecDepth 100000 in
theorem stamps_any (h : Pre w A S s B o [.list stampT] x) : Calls Try.prog 83 #[.pointer (some ⟨A, 0, none⟩), .pointer (some ⟨B, o, none⟩), .func (.func 84) #[] #[]] w fun e w' => e = .returned (.tuple #[]) ∧ Post w w' A S s B o [.list stampT] x := by
  obtain ⟨a, rfl, ha⟩ := hasS_one h.has
  obtain ⟨l, rfl, hl1, hl2⟩ := has_list ha
  have hl := h.lies
  simp only [liesS, At.lies, and_true] at hl
  obtain ⟨v, hc, ad, cap, rfl, hcap, hmx, hmem⟩ := hl
  obtain ⟨cs, ty, hb, hs0⟩ := h.blk
  have h0 : s.reads = true → ((l.length : Nat) : Int) = 0 := fun q => by
    have e := (zero_cell h q).2
    simp only [List.cons.injEq, At.list.injEq, and_true] at e
    rw [e]
    rfl
  have hlen : s.reads = false → s.wr.length + (num (l.length : Int)).length ≤ 1000000000 := fun q => by
    have := h.lenW q
    simp only [encS, At.enc, List.append_nil, List.length_append] at this
    omega
  have hcnt := count_any (h.num (len_in hl1) h0 hlen (ty := 3))
  have HH := Lib.hid h
  cases hr : s.reads with
  | false =>
    have HR := Lib.hid hr
    have HM := Lib.hid hmem
    have HL2 := Lib.hid hl2
    have HC := Lib.hid hc
    have hl3 : (l.length : Int) ≤ 9223372036854775807 := by omega
    clear h ha hl1 hl2 h0 hlen hmem hb hs0 hr
    go_enter Try.func83, Try.ntmps83
    go_wp2_with (go_at_call 80; refine hcnt.mono ?_; rintro e w1 ⟨rfl, Q⟩; refine Hid.out ?_)
    refine Lib.hid ?_
    have HW := Lib.hid (WI.start HH.out HR.out Q)
    clear Q hcnt hc
    go_wp2
    go_loopw [7] (fun iv wr => ∃ i : Nat, i ≤ l.length ∧ iv = .int .i64 i ∧ Hid (WI w A S s l i wr)) (fun iv _ => l.length - (intOf iv).toNat)
    case atStart => exact ⟨0, Nat.zero_le _, rfl, HW⟩
    case round =>
      obtain ⟨i, hi, rfl, HI⟩ := hrel
      clear HW
      obtain ⟨c0, c3, cN⟩ := HI.out.reads HR.out (HH.out.wb HR.out)
      by_cases hlt : i < l.length
      · have hlI : (i : Int) < (l.length : Int) := by omega
        obtain ⟨b, p, rfl, hbl, nb, hL⟩ : ∃ b p, ad = some ⟨b, p, none⟩ ∧ b < w.heap.size ∧ ¬ S b ∧ liesL w S b p l := by
          rcases HM.out with e | q
          · rw [e] at hlt; simp at hlt
          · exact q
        obtain ⟨cB, vs, hvs, hcells, hone1, S', s', P, N⟩ := WI.next (et := 166) HH.out HR.out HL2.out hlt HC.out hbl nb hL HI.out
        obtain ⟨v0, v1, rfl⟩ := arr2 hvs
        have hkd := liesS_kinds P.has P.lies
        have hX := heap_alloc_new wr (.cells #[v0, v1] 166)
        obtain ⟨u0, g0, n0, rfl⟩ := hkd 0 (by decide)
        obtain ⟨u1, g1, n1, rfl⟩ := hkd 1 (by decide)
        rw [cell_blk hX] at g0 g1
        simp at g0 g1
        subst g0 g1
        have e0 : wr.cell? ⟨b, p + i * 2, none⟩ = some (.string n0) := hcells 0 (by decide)
        have e1 : wr.cell? ⟨b, p + i * 2 + 1, none⟩ = some (.int .i64 n1) := hcells 1 (by decide)
        have hone := stamp_any P
        have HN := Lib.hid N
        clear N P hcells hone1 hkd hX hvs HC
        go_wp2_with (go_at_call 84; refine hone.mono ?_; rintro e w2 ⟨rfl, q⟩; refine Hid.out ?_)
        refine Lib.hid ?_
        have HI2 := Lib.hid (HN.out _ q)
        clear q hone
        go_wp2
        go_roundw
        case rel => exact ⟨i + 1, by omega, by go_num, HI2⟩
        case measure => simp [intOf]; omega
      · have hiF : i = l.length := by omega
        subst hiF
        go_wp2
        go_end0
        exact ⟨rfl, WI.done HH.out HR.out HI.out⟩
  | true =>
    have hx := (zero_cell h hr).2
    simp only [List.cons.injEq, At.list.injEq, and_true] at hx
    subst hx
    have hz := (zero_cell h hr).1
    rw [hc] at hz
    simp only [Option.some.injEq, Value.slice.injEq] at hz
    obtain ⟨rfl, _, rfl⟩ := hz
    have HR := Lib.hid hr
    have HB := Lib.hid hb
    clear h ha hl1 hl2 h0 hlen hmem hb hs0 hr
    go_enter Try.func83, Try.ntmps83
    go_wp2_with (go_at_call 80; refine hcnt.mono ?_; rintro e w1 ⟨rfl, Q⟩; refine Hid.out ?_)
    refine Lib.hid ?_
    obtain ⟨c, hst⟩ : ∃ c, (RI w A S s B o cs ty 166 stampT c 0 w1) ∨ RB w A S s B o cs ty stampT w1 := by
      rcases RI.start (et := 166) HH.out HR.out (by decide) HB.out Q with ⟨c, q⟩ | q
      · exact ⟨c, .inl q⟩
      · exact ⟨0, .inr q⟩
    have HST := Lib.hid hst
    clear Q hcnt hc hst
    go_wp2
    go_loopw [7] (fun iv wr => ∃ i : Nat, i ≤ c ∧ iv = .int .i64 i ∧ Hid (RI w A S s B o cs ty 166 stampT c i wr ∨ RB w A S s B o cs ty stampT wr)) (fun iv _ => c - (intOf iv).toNat)
    case atStart => exact ⟨0, Nat.zero_le _, rfl, HST⟩
    case round =>
      obtain ⟨i, hi, rfl, HI⟩ := hrel
      clear HST
      rcases HI.out with HRI | HRB
      · obtain ⟨c0, c3, cN, hcl⟩ := HRI.cells HH.out HR.out
        by_cases hlt : i < c
        · have hlI : (i : Int) < (c : Int) := by omega
          obtain ⟨S', s', P, N⟩ := RI.next el_stamp HH.out HR.out HB.out hlt HRI
          have ez : zvS stampT = #[.string ⟨#[]⟩, .int .i64 0] := rfl
          rw [ez] at P N
          have hone := stamp_any P
          have HN := Lib.hid N
          clear N P ez HI HRI
          go_wp2_with (go_at_call 84; refine hone.mono ?_; rintro e w2 ⟨rfl, q⟩; refine Hid.out ?_)
          refine Lib.hid ?_
          obtain ⟨us, tv, v', w3, hus, hcells, hkd, d1, hrun, ⟨ad1, m1, q1, rfl⟩, ⟨ad2, m2, q2, rfl⟩, d2, d3, d4, hend⟩ := HN.out w2 q
          obtain ⟨v0, v1, rfl⟩ := arr2 hus
          obtain ⟨u0, g0, n0, rfl⟩ := hkd 0 (by decide)
          obtain ⟨u1, g1, n1, rfl⟩ := hkd 1 (by decide)
          simp at g0 g1
          subst g0 g1
          have e0 : w2.cell? ⟨wr.heap.size, 0, none⟩ = some (.string n0) := hcells 0 (by decide)
          have e1 : w2.cell? ⟨wr.heap.size, 1, none⟩ = some (.int .i64 n1) := hcells 1 (by decide)
          have HI2 := Lib.hid hend
          clear q hone hend hcells hkd hus HN
          go_wp2
          go_region_law (refine step_run (.tmp 38) (.tmp 40) rfl rfl rfl (by simp [Act.eval]) (by simp [Act.eval]) hrun ?_)
          all_goals
            go_wp2
            go_roundw
            case rel => exact ⟨i + 1, by omega, by go_num, HI2⟩
            case measure => simp [intOf]; omega
        · have hiF : i = c := by omega
          subst hiF
          have HRI2 := Lib.hid HRI
          clear HRI HI
          go_wp2
          go_end0
          exact ⟨rfl, RI.done HH.out HR.out HB.out HRI2.out⟩
      · obtain ⟨c3, m, cN⟩ := HRB.cells
        have HRB2 := Lib.hid HRB
        clear HRB HI
        by_cases hm : (i : Int) < m
        · go_wp2
          go_end0
          exact ⟨rfl, RB.done HH.out HR.out HB.out HRB2.out⟩
        · go_wp2
          go_end0
          exact ⟨rfl, RB.done HH.out HR.out HB.out HRB2.out⟩
end
theorem info_span : (Try.prog.info? 49).map (fun i => (i.zero, i.size, i.bytes)) = some (some (.agg #[.string ⟨#[]⟩, .string ⟨#[]⟩]), 2, 32) := by kernel_rfl
theorem el_span : El 66 49 spanT := by
  obtain ⟨i0, hi, hz0, hz1, hz2⟩ := info_parts info_span
  exact ⟨Try.underlying66, ⟨i0, _, 32, hi, hz0, hz1, hz2, rfl, by decide⟩, by decide⟩
section
variable {w w' w1 w2 : World} {A : Nat} {S S1 : Nat → Prop} {s s1 : TS} {B o : Nat} {t u : List Ty} {x y : List At} {rv : Value}
set_option maxHeartbeats 4000000 in
set_option maxRecDepth 100000 in
theorem spans_any (h : Pre w A S s B o [.list spanT] x) : Calls Try.prog 90 #[.pointer (some ⟨A, 0, none⟩), .pointer (some ⟨B, o, none⟩), .func (.func 82) #[] #[]] w fun e w' => e = .returned (.tuple #[]) ∧ Post w w' A S s B o [.list spanT] x := by
  obtain ⟨a, rfl, ha⟩ := hasS_one h.has
  obtain ⟨l, rfl, hl1, hl2⟩ := has_list ha
  have hl := h.lies
  simp only [liesS, At.lies, and_true] at hl
  obtain ⟨v, hc, ad, cap, rfl, hcap, hmx, hmem⟩ := hl
  obtain ⟨cs, ty, hb, hs0⟩ := h.blk
  have h0 : s.reads = true → ((l.length : Nat) : Int) = 0 := fun q => by
    have e := (zero_cell h q).2
    simp only [List.cons.injEq, At.list.injEq, and_true] at e
    rw [e]
    rfl
  have hlen : s.reads = false → s.wr.length + (num (l.length : Int)).length ≤ 1000000000 := fun q => by
    have := h.lenW q
    simp only [encS, At.enc, List.append_nil, List.length_append] at this
    omega
  have hcnt := count_any (h.num (len_in hl1) h0 hlen (ty := 3))
  have HH := Lib.hid h
  cases hr : s.reads with
  | false =>
    have HR := Lib.hid hr
    have HM := Lib.hid hmem
    have HL2 := Lib.hid hl2
    have HC := Lib.hid hc
    have hl3 : (l.length : Int) ≤ 9223372036854775807 := by omega
    clear h ha hl1 hl2 h0 hlen hmem hb hs0 hr
    go_enter Try.func90, Try.ntmps90
    go_wp2_with (go_at_call 80; refine hcnt.mono ?_; rintro e w1 ⟨rfl, Q⟩; refine Hid.out ?_)
    refine Lib.hid ?_
    have HW := Lib.hid (WI.start HH.out HR.out Q)
    clear Q hcnt hc
    go_wp2
    go_loopw [7] (fun iv wr => ∃ i : Nat, i ≤ l.length ∧ iv = .int .i64 i ∧ Hid (WI w A S s l i wr)) (fun iv _ => l.length - (intOf iv).toNat)
    case atStart => exact ⟨0, Nat.zero_le _, rfl, HW⟩
    case round =>
      obtain ⟨i, hi, rfl, HI⟩ := hrel
      clear HW
      obtain ⟨c0, c3, cN⟩ := HI.out.reads HR.out (HH.out.wb HR.out)
      by_cases hlt : i < l.length
      · have hlI : (i : Int) < (l.length : Int) := by omega
        obtain ⟨b, p, rfl, hbl, nb, hL⟩ : ∃ b p, ad = some ⟨b, p, none⟩ ∧ b < w.heap.size ∧ ¬ S b ∧ liesL w S b p l := by
          rcases HM.out with e | q
          · rw [e] at hlt; simp at hlt
          · exact q
        obtain ⟨cB, vs, hvs, hcells, hone1, S', s', P, N⟩ := WI.next (et := 49) HH.out HR.out HL2.out hlt HC.out hbl nb hL HI.out
        obtain ⟨v0, v1, rfl⟩ := arr2 hvs
        have hkd := liesS_kinds P.has P.lies
        have hX := heap_alloc_new wr (.cells #[v0, v1] 49)
        obtain ⟨u0, g0, n0, rfl⟩ := hkd 0 (by decide)
        obtain ⟨u1, g1, n1, rfl⟩ := hkd 1 (by decide)
        rw [cell_blk hX] at g0 g1
        simp at g0 g1
        subst g0 g1
        have e0 : wr.cell? ⟨b, p + i * 2, none⟩ = some (.string n0) := hcells 0 (by decide)
        have e1 : wr.cell? ⟨b, p + i * 2 + 1, none⟩ = some (.string n1) := hcells 1 (by decide)
        have hone := span_any P
        have HN := Lib.hid N
        clear N P hcells hone1 hkd hX hvs HC
        go_wp2_with (go_at_call 82; refine hone.mono ?_; rintro e w2 ⟨rfl, q⟩; refine Hid.out ?_)
        refine Lib.hid ?_
        have HI2 := Lib.hid (HN.out _ q)
        clear q hone
        go_wp2
        go_roundw
        case rel => exact ⟨i + 1, by omega, by go_num, HI2⟩
        case measure => simp [intOf]; omega
      · have hiF : i = l.length := by omega
        subst hiF
        go_wp2
        go_end0
        exact ⟨rfl, WI.done HH.out HR.out HI.out⟩
  | true =>
    have hx := (zero_cell h hr).2
    simp only [List.cons.injEq, At.list.injEq, and_true] at hx
    subst hx
    have hz := (zero_cell h hr).1
    rw [hc] at hz
    simp only [Option.some.injEq, Value.slice.injEq] at hz
    obtain ⟨rfl, _, rfl⟩ := hz
    have HR := Lib.hid hr
    have HB := Lib.hid hb
    clear h ha hl1 hl2 h0 hlen hmem hb hs0 hr
    go_enter Try.func90, Try.ntmps90
    go_wp2_with (go_at_call 80; refine hcnt.mono ?_; rintro e w1 ⟨rfl, Q⟩; refine Hid.out ?_)
    refine Lib.hid ?_
    obtain ⟨c, hst⟩ : ∃ c, (RI w A S s B o cs ty 49 spanT c 0 w1) ∨ RB w A S s B o cs ty spanT w1 := by
      rcases RI.start (et := 49) HH.out HR.out (by decide) HB.out Q with ⟨c, q⟩ | q
      · exact ⟨c, .inl q⟩
      · exact ⟨0, .inr q⟩
    have HST := Lib.hid hst
    clear Q hcnt hc hst
    go_wp2
    go_loopw [7] (fun iv wr => ∃ i : Nat, i ≤ c ∧ iv = .int .i64 i ∧ Hid (RI w A S s B o cs ty 49 spanT c i wr ∨ RB w A S s B o cs ty spanT wr)) (fun iv _ => c - (intOf iv).toNat)
    case atStart => exact ⟨0, Nat.zero_le _, rfl, HST⟩
    case round =>
      obtain ⟨i, hi, rfl, HI⟩ := hrel
      clear HST
      rcases HI.out with HRI | HRB
      · obtain ⟨c0, c3, cN, hcl⟩ := HRI.cells HH.out HR.out
        by_cases hlt : i < c
        · have hlI : (i : Int) < (c : Int) := by omega
          obtain ⟨S', s', P, N⟩ := RI.next el_span HH.out HR.out HB.out hlt HRI
          have ez : zvS spanT = #[.string ⟨#[]⟩, .string ⟨#[]⟩] := rfl
          rw [ez] at P N
          have hone := span_any P
          have HN := Lib.hid N
          clear N P ez HI HRI
          go_wp2_with (go_at_call 82; refine hone.mono ?_; rintro e w2 ⟨rfl, q⟩; refine Hid.out ?_)
          refine Lib.hid ?_
          obtain ⟨us, tv, v', w3, hus, hcells, hkd, d1, hrun, ⟨ad1, m1, q1, rfl⟩, ⟨ad2, m2, q2, rfl⟩, d2, d3, d4, hend⟩ := HN.out w2 q
          obtain ⟨v0, v1, rfl⟩ := arr2 hus
          obtain ⟨u0, g0, n0, rfl⟩ := hkd 0 (by decide)
          obtain ⟨u1, g1, n1, rfl⟩ := hkd 1 (by decide)
          simp at g0 g1
          subst g0 g1
          have e0 : w2.cell? ⟨wr.heap.size, 0, none⟩ = some (.string n0) := hcells 0 (by decide)
          have e1 : w2.cell? ⟨wr.heap.size, 1, none⟩ = some (.string n1) := hcells 1 (by decide)
          have HI2 := Lib.hid hend
          clear q hone hend hcells hkd hus HN
          go_wp2
          go_region_law (refine step_run (.tmp 38) (.tmp 40) rfl rfl rfl (by simp [Act.eval]) (by simp [Act.eval]) hrun ?_)
          all_goals
            go_wp2
            go_roundw
            case rel => exact ⟨i + 1, by omega, by go_num, HI2⟩
            case measure => simp [intOf]; omega
        · have hiF : i = c := by omega
          subst hiF
          have HRI2 := Lib.hid HRI
          clear HRI HI
          go_wp2
          go_end0
          exact ⟨rfl, RI.done HH.out HR.out HB.out HRI2.out⟩
      · obtain ⟨c3, m, cN⟩ := HRB.cells
        have HRB2 := Lib.hid HRB
        clear HRB HI
        by_cases hm : (i : Int) < m
        · go_wp2
          go_end0
          exact ⟨rfl, RB.done HH.out HR.out HB.out HRB2.out⟩
        · go_wp2
          go_end0
          exact ⟨rfl, RB.done HH.out HR.out HB.out HRB2.out⟩
end
end Go.Proofs.Ytjhgmncmcklnkaa
