/- The walks of table, and of lists of them; schema. -/
import Derived.Test.YtjhgmncmcklnkaaVMd
namespace Go.Proofs.Ytjhgmncmcklnkaa
open Go.RowKit

abbrev tableT : List Ty := [.num, .text, .list columnT, .list indexT, .list foreignT]
section
variable {w w' w1 w2 : World} {A : Nat} {S S1 : Nat → Prop} {s s1 : TS} {B o : Nat} {t u : List Ty} {x y : List At} {rv : Value}
set_option maxHeartbeats 4000000 in
set_option maxRecDepth 100000 in
theorem table_any (h : Pre w A S s B o tableT x) : Calls Try.prog 92 #[.pointer (some ⟨A, 0, none⟩), .pointer (some ⟨B, o, none⟩)] w fun e w' => e = .returned (.tuple #[]) ∧ Post w w' A S s B o tableT x := by
  obtain ⟨y1, x1, rfl, P1, N1⟩ := Pre.part (t := [.num]) (u := [.text, .list columnT, .list indexT, .list foreignT]) (o' := o + 1) (by simp) rfl h
  have h1 := nums_at (m := 1) #[.pointer (some ⟨B, o, none⟩)] P1 (by omega) (by omega) (fun i hi => by
    have : i = 0 := by omega
    subst this
    rfl)
  have H1 := Lib.hid N1
  clear P1 N1 h
  go_enter Try.func92, Try.ntmps92
  go_wp2_with (go_at_call 52; refine (h1 _ (by exact ⟨rfl, rfl, rfl, rfl⟩)).mono ?_; rintro e1 v1 ⟨rfl, q1⟩; refine Hid.out ?_)
  refine Lib.hid ?_
  clear h1
  obtain ⟨S1, s1, Z2, C1⟩ := H1.out _ q1
  have HC1 := Lib.hid C1
  clear C1 q1 H1
  obtain ⟨y2, x2, rfl, P2, N2⟩ := Pre.part (t := [.text]) (u := [.list columnT, .list indexT, .list foreignT]) (o' := o + 2) (by simp) rfl Z2
  have h2 := text_any P2
  have H2 := Lib.hid N2
  clear P2 N2 Z2
  go_wp2_with (go_at_call 56; refine h2.mono ?_; rintro e2 v2 ⟨rfl, q2⟩; refine Hid.out ?_)
  refine Lib.hid ?_
  clear h2
  obtain ⟨S2, s2, Z3, C2⟩ := H2.out _ q2
  have HC2 := Lib.hid C2
  clear C2 q2 H2
  obtain ⟨y3, x3, rfl, P3, N3⟩ := Pre.part (t := [.list columnT]) (u := [.list indexT, .list foreignT]) (o' := o + 3) (by simp) rfl Z3
  have h3 := columns_any P3
  have H3 := Lib.hid N3
  clear P3 N3 Z3
  go_wp2_with (go_at_call 86; refine h3.mono ?_; rintro e3 v3 ⟨rfl, q3⟩; refine Hid.out ?_)
  refine Lib.hid ?_
  clear h3
  obtain ⟨S3, s3, Z4, C3⟩ := H3.out _ q3
  have HC3 := Lib.hid C3
  clear C3 q3 H3
  obtain ⟨y4, x4, rfl, P4, N4⟩ := Pre.part (t := [.list indexT]) (u := [.list foreignT]) (o' := o + 4) (by simp) rfl Z4
  have h4 := indexs_any P4
  have H4 := Lib.hid N4
  clear P4 N4 Z4
  go_wp2_with (go_at_call 98; refine h4.mono ?_; rintro e4 v4 ⟨rfl, q4⟩; refine Hid.out ?_)
  refine Lib.hid ?_
  clear h4
  obtain ⟨S4, s4, Z5, C4⟩ := H4.out _ q4
  have HC4 := Lib.hid C4
  clear C4 q4 H4
  have P5 := Z5
  have h5 := foreigns_any P5
  clear P5 Z5
  go_wp2_with (go_at_call 100; refine h5.mono ?_; rintro e5 v5 ⟨rfl, q5⟩; refine Hid.out ?_)
  refine Lib.hid ?_
  clear h5
  go_wp2
  go_end0
  exact ⟨rfl, (HC1.out _ (HC2.out _ (HC3.out _ (HC4.out _ q5))))⟩
end
theorem info_table : (Try.prog.info? 83).map (fun i => (i.zero, i.size, i.bytes)) = some (some (.agg #[.int .i64 0, .string ⟨#[]⟩, .slice none 0 0, .slice none 0 0, .slice none 0 0]), 5, 96) := by kernel_rfl
theorem el_table : El 73 83 tableT := by
  obtain ⟨i0, hi, hz0, hz1, hz2⟩ := info_parts info_table
  exact ⟨Try.underlying73, ⟨i0, _, 96, hi, hz0, hz1, hz2, rfl, by decide⟩, by decide⟩
section
variable {w w' w1 w2 : World} {A : Nat} {S S1 : Nat → Prop} {s s1 : TS} {B o : Nat} {t u : List Ty} {x y : List At} {rv : Value}
set_option maxHeartbeats 4000000 in
set_option maxRecDepth 100000 in
theorem tables_any (h : Pre w A S s B o [.list tableT] x) : Calls Try.prog 91 #[.pointer (some ⟨A, 0, none⟩), .pointer (some ⟨B, o, none⟩), .func (.func 92) #[] #[]] w fun e w' => e = .returned (.tuple #[]) ∧ Post w w' A S s B o [.list tableT] x := by
  obtain ⟨a, rfl, ha⟩ := hasS_one h.has
  obtain ⟨l, rfl, hl1, hl2⟩ := has_list ha
  have hl := h.lies
  simp only [liesS, At.lies, and_true] at hl
  obtain ⟨v, hc, ad, cap, rfl, hcap, hmx, hmem⟩ := hl
  obtain ⟨cs, ty, hb, hs0⟩ := h.blk
  have h0 : s.reads = true → ((l.length : Nat) : Int) = 0 := fun q => by
    have e := (zero_cell h q).2
    simp only [List.cons.injEq, At.list.injEq, and_true] at e
    rw [e]
    rfl
  have hlen : s.reads = false → s.wr.length + (num (l.length : Int)).length ≤ 1000000000 := fun q => by
    have := h.lenW q
    simp only [encS, At.enc, List.append_nil, List.length_append] at this
    omega
  have hcnt := count_any (h.num (len_in hl1) h0 hlen (ty := 3))
  have HH := Lib.hid h
  cases hr : s.reads with
  | false =>
    have HR := Lib.hid hr
    have HM := Lib.hid hmem
    have HL2 := Lib.hid hl2
    have HC := Lib.hid hc
    have hl3 : (l.length : Int) ≤ 9223372036854775807 := by omega
    clear h ha hl1 hl2 h0 hlen hmem hb hs0 hr
    go_enter Try.func91, Try.ntmps91
    go_wp2_with (go_at_call 80; refine hcnt.mono ?_; rintro e w1 ⟨rfl, Q⟩; refine Hid.out ?_)
    refine Lib.hid ?_
    have HW := Lib.hid (WI.start HH.out HR.out Q)
    clear Q hcnt hc
    go_wp2
    go_loopw [7] (fun iv wr => ∃ i : Nat, i ≤ l.length ∧ iv = .int .i64 i ∧ Hid (WI w A S s l i wr)) (fun iv _ => l.length - (intOf iv).toNat)
    case atStart => exact ⟨0, Nat.zero_le _, rfl, HW⟩
    case round =>
      obtain ⟨i, hi, rfl, HI⟩ := hrel
      clear HW
      obtain ⟨c0, c3, cN⟩ := HI.out.reads HR.out (HH.out.wb HR.out)
      by_cases hlt : i < l.length
      · have hlI : (i : Int) < (l.length : Int) := by omega
        obtain ⟨b, p, rfl, hbl, nb, hL⟩ : ∃ b p, ad = some ⟨b, p, none⟩ ∧ b < w.heap.size ∧ ¬ S b ∧ liesL w S b p l := by
          rcases HM.out with e | q
          · rw [e] at hlt; simp at hlt
          · exact q
        obtain ⟨cB, vs, hvs, hcells, hone1, S', s', P, N⟩ := WI.next (et := 83) HH.out HR.out HL2.out hlt HC.out hbl nb hL HI.out
        obtain ⟨v0, v1, v2, v3, v4, rfl⟩ := arr5 hvs
        have hkd := liesS_kinds P.has P.lies
        have hX := heap_alloc_new wr (.cells #[v0, v1, v2, v3, v4] 83)
        obtain ⟨u0, g0, n0, rfl⟩ := hkd 0 (by decide)
        obtain ⟨u1, g1, n1, rfl⟩ := hkd 1 (by decide)
        obtain ⟨u2, g2, ad2_, n2, cp2, rfl⟩ := hkd 2 (by decide)
        obtain ⟨u3, g3, ad3_, n3, cp3, rfl⟩ := hkd 3 (by decide)
        obtain ⟨u4, g4, ad4_, n4, cp4, rfl⟩ := hkd 4 (by decide)
        rw [cell_blk hX] at g0 g1 g2 g3 g4
        simp at g0 g1 g2 g3 g4
        subst g0 g1 g2 g3 g4
        have e0 : wr.cell? ⟨b, p + i * 5, none⟩ = some (.int .i64 n0) := hcells 0 (by decide)
        have e1 : wr.cell? ⟨b, p + i * 5 + 1, none⟩ = some (.string n1) := hcells 1 (by decide)
        have e2 : wr.cell? ⟨b, p + i * 5 + 2, none⟩ = some (.slice ad2_ n2 cp2) := hcells 2 (by decide)
        have e3 : wr.cell? ⟨b, p + i * 5 + 3, none⟩ = some (.slice ad3_ n3 cp3) := hcells 3 (by decide)
        have e4 : wr.cell? ⟨b, p + i * 5 + 4, none⟩ = some (.slice ad4_ n4 cp4) := hcells 4 (by decide)
        have hone := table_any P
        have HN := Lib.hid N
        clear N P hcells hone1 hkd hX hvs HC
        go_wp2_with (go_at_call 92; refine hone.mono ?_; rintro e w2 ⟨rfl, q⟩; refine Hid.out ?_)
        refine Lib.hid ?_
        have HI2 := Lib.hid (HN.out _ q)
        clear q hone
        go_wp2
        go_roundw
        case rel => exact ⟨i + 1, by omega, by go_num, HI2⟩
        case measure => simp [intOf]; omega
      · have hiF : i = l.length := by omega
        subst hiF
        go_wp2
        go_end0
        exact ⟨rfl, WI.done HH.out HR.out HI.out⟩
  | true =>
    have hx := (zero_cell h hr).2
    simp only [List.cons.injEq, At.list.injEq, and_true] at hx
    subst hx
    have hz := (zero_cell h hr).1
    rw [hc] at hz
    simp only [Option.some.injEq, Value.slice.injEq] at hz
    obtain ⟨rfl, _, rfl⟩ := hz
    have HR := Lib.hid hr
    have HB := Lib.hid hb
    clear h ha hl1 hl2 h0 hlen hmem hb hs0 hr
    go_enter Try.func91, Try.ntmps91
    go_wp2_with (go_at_call 80; refine hcnt.mono ?_; rintro e w1 ⟨rfl, Q⟩; refine Hid.out ?_)
    refine Lib.hid ?_
    obtain ⟨c, hst⟩ : ∃ c, (RI w A S s B o cs ty 83 tableT c 0 w1) ∨ RB w A S s B o cs ty tableT w1 := by
      rcases RI.start (et := 83) HH.out HR.out (by decide) HB.out Q with ⟨c, q⟩ | q
      · exact ⟨c, .inl q⟩
      · exact ⟨0, .inr q⟩
    have HST := Lib.hid hst
    clear Q hcnt hc hst
    go_wp2
    go_loopw [7] (fun iv wr => ∃ i : Nat, i ≤ c ∧ iv = .int .i64 i ∧ Hid (RI w A S s B o cs ty 83 tableT c i wr ∨ RB w A S s B o cs ty tableT wr)) (fun iv _ => c - (intOf iv).toNat)
    case atStart => exact ⟨0, Nat.zero_le _, rfl, HST⟩
    case round =>
      obtain ⟨i, hi, rfl, HI⟩ := hrel
      clear HST
      rcases HI.out with HRI | HRB
      · obtain ⟨c0, c3, cN, hcl⟩ := HRI.cells HH.out HR.out
        by_cases hlt : i < c
        · have hlI : (i : Int) < (c : Int) := by omega
          obtain ⟨S', s', P, N⟩ := RI.next el_table HH.out HR.out HB.out hlt HRI
          have ez : zvS tableT = #[.int .i64 0, .string ⟨#[]⟩, .slice none 0 0, .slice none 0 0, .slice none 0 0] := rfl
          rw [ez] at P N
          have hone := table_any P
          have HN := Lib.hid N
          clear N P ez HI HRI
          go_wp2_with (go_at_call 92; refine hone.mono ?_; rintro e w2 ⟨rfl, q⟩; refine Hid.out ?_)
          refine Lib.hid ?_
          obtain ⟨us, tv, v', w3, hus, hcells, hkd, d1, hrun, ⟨ad1, m1, q1, rfl⟩, ⟨ad2, m2, q2, rfl⟩, d2, d3, d4, hend⟩ := HN.out w2 q
          obtain ⟨v0, v1, v2, v3, v4, rfl⟩ := arr5 hus
          obtain ⟨u0, g0, n0, rfl⟩ := hkd 0 (by decide)
          obtain ⟨u1, g1, n1, rfl⟩ := hkd 1 (by decide)
          obtain ⟨u2, g2, ad2_, n2, cp2, rfl⟩ := hkd 2 (by decide)
          obtain ⟨u3, g3, ad3_, n3, cp3, rfl⟩ := hkd 3 (by decide)
          obtain ⟨u4, g4, ad4_, n4, cp4, rfl⟩ := hkd 4 (by decide)
          simp at g0 g1 g2 g3 g4
          subst g0 g1 g2 g3 g4
          have e0 : w2.cell? ⟨wr.heap.size, 0, none⟩ = some (.int .i64 n0) := hcells 0 (by decide)
          have e1 : w2.cell? ⟨wr.heap.size, 1, none⟩ = some (.string n1) := hcells 1 (by decide)
          have e2 : w2.cell? ⟨wr.heap.size, 2, none⟩ = some (.slice ad2_ n2 cp2) := hcells 2 (by decide)
          have e3 : w2.cell? ⟨wr.heap.size, 3, none⟩ = some (.slice ad3_ n3 cp3) := hcells 3 (by decide)
          have e4 : w2.cell? ⟨wr.heap.size, 4, none⟩ = some (.slice ad4_ n4 cp4) := hcells 4 (by decide)
          have HI2 := Lib.hid hend
          clear q hone hend hcells hkd hus HN
          go_wp2
          go_region_law (refine step_run (.tmp 38) (.tmp 40) rfl rfl rfl (by simp [Act.eval]) (by simp [Act.eval]) hrun ?_)
          all_goals
            go_wp2
            go_roundw
            case rel => exact ⟨i + 1, by omega, by go_num, HI2⟩
            case measure => simp [intOf]; omega
        · have hiF : i = c := by omega
          subst hiF
          have HRI2 := Lib.hid HRI
          clear HRI HI
          go_wp2
          go_end0
          exact ⟨rfl, RI.done HH.out HR.out HB.out HRI2.out⟩
      · obtain ⟨c3, m, cN⟩ := HRB.cells
        have HRB2 := Lib.hid HRB
        clear HRB HI
        by_cases hm : (i : Int) < m
        · go_wp2
          go_end0
          exact ⟨rfl, RB.done HH.out HR.out HB.out HRB2.out⟩
        · go_wp2
          go_end0
          exact ⟨rfl, RB.done HH.out HR.out HB.out HRB2.out⟩
end
abbrev schemaT : List Ty := [.num, .num, .list tableT]
section
variable {w w' w1 w2 : World} {A : Nat} {S S1 : Nat → Prop} {s s1 : TS} {B o : Nat} {t u : List Ty} {x y : List At} {rv : Value}
set_option maxHeartbeats 4000000 in
set_option maxRecDepth 100000 in
theorem schema_any (h : Pre w A S s B o schemaT x) : Calls Try.prog 73 #[.pointer (some ⟨A, 0, none⟩), .pointer (some ⟨B, o, none⟩)] w fun e w' => e = .returned (.tuple #[]) ∧ Post w w' A S s B o schemaT x := by
  obtain ⟨y1, x1, rfl, P1, N1⟩ := Pre.part (t := [.num, .num]) (u := [.list tableT]) (o' := o + 2) (by simp) rfl h
  have h1 := nums_at (m := 2) #[.pointer (some ⟨B, o, none⟩), .pointer (some ⟨B, o + 1, none⟩)] P1 (by omega) (by omega) (fun i hi => by
    have : i = 0 ∨ i = 1 := by omega
    rcases this with rfl | rfl <;> rfl)
  have H1 := Lib.hid N1
  clear P1 N1 h
  go_enter Try.func73, Try.ntmps73
  go_wp2
  go_cut [] (fun wx => Post w wx A S s B (o) [.num, .num] y1)
  case first =>
    go_region_with (go_at_call 52; refine (h1 _ (by exact ⟨rfl, rfl, rfl, rfl⟩)).mono ?_; rintro e1 w1 ⟨rfl, q⟩)
    all_goals
      go_wp2_with fail
      go_meet
      exact q
  case rest =>
    have q1 := hcut
    clear hcut h1
    obtain ⟨S1, s1, Z2, C1⟩ := H1.out _ q1
    have HC1 := Lib.hid C1
    clear C1 q1 H1
    have P2 := Z2
    have h2 := tables_any P2
    clear P2 Z2
    go_wp2_with (go_at_call 91; refine h2.mono ?_; rintro e2 v2 ⟨rfl, q2⟩; refine Hid.out ?_)
    refine Lib.hid ?_
    clear h2
    go_wp2
    go_end0
    exact ⟨rfl, (HC1.out _ q2)⟩
end
end Go.Proofs.Ytjhgmncmcklnkaa
