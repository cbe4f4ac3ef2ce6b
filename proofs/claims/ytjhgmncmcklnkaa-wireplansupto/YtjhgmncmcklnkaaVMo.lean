/- Lists of jobs. -/
import Derived.Test.YtjhgmncmcklnkaaVMj
import Derived.Test.YtjhgmncmcklnkaaVKs
import Derived.Test.YtjhgmncmcklnkaaVZ
import Derived.Great.BuildSlice
namespace Go.Proofs.Ytjhgmncmcklnkaa
open Go.RowKit

theorem info_job : (Try.prog.info? 85).map (fun i => (i.zero, i.size, i.bytes)) = some (some (.agg #[.int .i64 0, .int .i64 0, .int .i64 0, .int .i64 0, .int .i64 0, .int .i64 0, .string ⟨#[]⟩, .string ⟨#[]⟩, .string ⟨#[]⟩, .string ⟨#[]⟩, .bool false, .int .i64 0, .int .i64 0, .int .i64 0, .string ⟨#[]⟩, .slice none 0 0, .int .i64 0, .bool false, .bool false, .string ⟨#[]⟩, .int .i64 0, .int .i64 0]), 22, 232) := by kernel_rfl
theorem el_job : El 77 85 jobT := by
  obtain ⟨i0, hi, hz0, hz1, hz2⟩ := info_parts info_job
  exact ⟨Try.underlying77, ⟨i0, _, 232, hi, hz0, hz1, hz2, rfl, by decide⟩, by decide⟩

theorem setCells_new (ty : TypeId) : ∀ (vs : List Value) (o : Nat) (w : World) (cs : Array Value), o + vs.length ≤ cs.size →
    ∃ ds : Array Value, (w.alloc (.cells cs ty)).setCells w.heap.size o vs = w.alloc (.cells ds ty) ∧ ds.toList = cs.toList.take o ++ vs ++ cs.toList.drop (o + vs.length)
  | [], o, w, cs, _ => ⟨cs, rfl, by simp⟩
  | v :: r, o, w, cs, hl => by
    simp only [List.length_cons] at hl
    obtain ⟨ds, h1, h2⟩ := setCells_new ty r (o + 1) w (cs.setIfInBounds o v) (by simp; omega)
    refine ⟨ds, ?_, ?_⟩
    · rw [← h1]
      show ((w.alloc (.cells cs ty)).setCell ⟨w.heap.size, o, none⟩ v).setCells w.heap.size (o + 1) r = _
      rw [World.setCell_alloc_at cs ty w.heap.size o v rfl]
    · have ho : o < cs.toList.length := by simp; omega
      rw [h2, Array.toList_setIfInBounds, List.drop_set_of_lt (by omega), List.take_add_one, List.take_set_of_le (Nat.le_refl _), List.getElem?_set_self ho]
      simp [List.length_cons, Nat.add_assoc, Nat.add_comm 1]
theorem sets_new (ty : TypeId) (w : World) {cs vs : Array Value} (hl : vs.size = cs.size) : (w.alloc (.cells cs ty)).setCells w.heap.size 0 vs.toList = w.alloc (.cells vs ty) := by
  obtain ⟨ds, h1, h2⟩ := setCells_new ty vs.toList 0 w cs (by simp; omega)
  have e : ds = vs := by
    apply Array.toList_inj.1
    rw [h2]
    simp [hl]
  rw [h1, e]
theorem store_new (w : World) {cs vs : Array Value} {ty : TypeId} (hl : vs.size = cs.size) (hi : (Try.prog.info? ty).map (·.size) = some vs.size) (h1 : vs.all (·.oneCell') = true) : (Instr.storeAt ty (.pointer (some ⟨w.heap.size, 0, none⟩)) (.agg vs)).run Try.prog (w.alloc (.cells cs ty)) = .ok () (w.alloc (.cells vs ty)) := by
  rw [store_row (heap_alloc_new w _) hl hi h1, sets_new ty w hl]
theorem load_mid {w : World} {b p : Nat} {ty : TypeId} {vs : Array Value} {d : TypeDesc} (hc : ∀ j, j < vs.size → w.cell? ⟨b, p + j, none⟩ = vs[j]?) (hu : Try.prog.underlying ty = some d) (hd : d.isRow = true) (hi : (Try.prog.info? ty).map (·.size) = some vs.size) : (Instr.loadAt ty (.pointer (some ⟨b, p, none⟩))).run Try.prog w = .ok (.agg vs) w := by
  have h := run_loadVar_mid (P := Try.prog) w b p ty vs.toList d (fun j v hv => by
    have hj : j < vs.size := by have := (List.getElem?_eq_some_iff.1 hv).1; simpa using this
    rw [hc j hj]
    rw [Array.getElem?_toList] at hv
    exact hv) hu hd (by rw [hi]; simp)
  simp only [Instr.loadAt, Instr.sureAddr, Sem.run_bind, Sem.run_pure, Result.andThen_ok, h, Array.toArray_toList]
theorem row_one (w : World) (us : Array Value) (hs : us.size = 22) : (Instr.buildSlice 77 1 #[(0, .agg us)]).run Try.prog w = .ok (.slice (some ⟨w.heap.size, 0, none⟩) 1 1) (w.alloc (.cells us 85)) := by
  obtain ⟨i0, hi, hz0, hz1, hz2⟩ := info_parts info_job
  refine run_buildSlice w 77 85 1 _ us i0 _ Try.underlying77 hi hz0 (by rw [hz1]; decide) (by rw [hz1]; decide) ?_
  rw [hz1]
  have h := Go.Great.fill_whole (s := 22) (by decide) [.agg us] ((Array.range (1 * 22)).map ((Value.agg #[.int .i64 0, .int .i64 0, .int .i64 0, .int .i64 0, .int .i64 0, .int .i64 0, .string ⟨#[]⟩, .string ⟨#[]⟩, .string ⟨#[]⟩, .string ⟨#[]⟩, .bool false, .int .i64 0, .int .i64 0, .int .i64 0, .string ⟨#[]⟩, .slice none 0 0, .int .i64 0, .bool false, .bool false, .string ⟨#[]⟩, .int .i64 0, .int .i64 0]).cells[· % 22]!)) (by intro v hv; simp at hv; subst hv; exact hs) (by simp)
  simpa [Value.cells] using h
theorem dn_dep {ops : Array Oper} {l : Nat → Bool} (hdn : ∀ j oj, ops[j]? = some oj → l j = true → ∀ e ∈ oj.after, Region.binds .any e = true → l e.on = true) {k j : Nat} (h : (ops[k]?).map (depOn · j) = some true) (hj : l j = false) : l k = false := by
  cases ho : ops[k]? with
  | none => rw [ho] at h; cases h
  | some o =>
    rw [ho] at h
    simp only [Option.map_some, Option.some.injEq] at h
    obtain ⟨e, he, rfl, hb⟩ := depOn_some h
    cases hc : l k with
    | false => rfl
    | true => rw [hdn k o ho hc e he hb] at hj; cases hj
section
variable {w w' w1 w2 : World} {A : Nat} {S S1 : Nat → Prop} {s s1 : TS} {B o : Nat} {t u : List Ty} {x y : List At} {rv : Value}
set_option maxHeartbeats 4000000 in
set_option maxRecDepth 100000 in
theorem jobs_any (h : Pre w A S s B o [.list jobT] x) : Calls Try.prog 76 #[.pointer (some ⟨A, 0, none⟩), .pointer (some ⟨B, o, none⟩), .func (.func 77) #[] #[]] w fun e w' => e = .returned (.tuple #[]) ∧ Post w w' A S s B o [.list jobT] x := by
  obtain ⟨a, rfl, ha⟩ := hasS_one h.has
  obtain ⟨l, rfl, hl1, hl2⟩ := has_list ha
  have hl := h.lies
  simp only [liesS, At.lies, and_true] at hl
  obtain ⟨v, hc, ad, cap, rfl, hcap, hmx, hmem⟩ := hl
  obtain ⟨cs, ty, hb, hs0⟩ := h.blk
  have h0 : s.reads = true → ((l.length : Nat) : Int) = 0 := fun q => by
    have e := (zero_cell h q).2
    simp only [List.cons.injEq, At.list.injEq, and_true] at e
    rw [e]
    rfl
  have hlen : s.reads = false → s.wr.length + (num (l.length : Int)).length ≤ 1000000000 := fun q => by
    have := h.lenW q
    simp only [encS, At.enc, List.append_nil, List.length_append] at this
    omega
  have hcnt := count_any (h.num (len_in hl1) h0 hlen (ty := 3))
  have HH := Lib.hid h
  cases hr : s.reads with
  | false =>
    have HR := Lib.hid hr
    have HM := Lib.hid hmem
    have HL2 := Lib.hid hl2
    have HC := Lib.hid hc
    have hl3 : (l.length : Int) ≤ 9223372036854775807 := by omega
    clear h ha hl1 hl2 h0 hlen hmem hb hs0 hr
    go_enter Try.func76, Try.ntmps76
    go_wp2_with (go_at_call 80; refine hcnt.mono ?_; rintro e w1 ⟨rfl, Q⟩; refine Hid.out ?_)
    refine Lib.hid ?_
    have HW := Lib.hid (WI.start HH.out HR.out Q)
    clear Q hcnt hc
    go_wp2
    go_loopw [7] (fun iv wr => ∃ i : Nat, i ≤ l.length ∧ iv = .int .i64 i ∧ Hid (WI w A S s l i wr)) (fun iv _ => l.length - (intOf iv).toNat)
    case atStart => exact ⟨0, Nat.zero_le _, rfl, HW⟩
    case round =>
      obtain ⟨i, hi, rfl, HI⟩ := hrel
      clear HW
      obtain ⟨c0, c3, cN⟩ := HI.out.reads HR.out (HH.out.wb HR.out)
      by_cases hlt : i < l.length
      · have hlI : (i : Int) < (l.length : Int) := by omega
        obtain ⟨b, p, rfl, hbl, nb, hL⟩ : ∃ b p, ad = some ⟨b, p, none⟩ ∧ b < w.heap.size ∧ ¬ S b ∧ liesL w S b p l := by
          rcases HM.out with e | q
          · rw [e] at hlt; simp at hlt
          · exact q
        obtain ⟨cB, vs, hvs, hcells, hone1, S', s', P, N⟩ := WI.next (et := 85) HH.out HR.out HL2.out hlt HC.out hbl nb hL HI.out
        have hvs' : vs.size = 22 := hvs
        have sV : (Try.prog.info? 85).map (·.size) = some vs.size := by rw [hvs']; exact size85
        have oV : vs.all (·.oneCell') = true := by
          rw [Array.all_eq_true]
          intro j hj
          exact hone1 _ (Array.getElem_mem hj)
        have ld := load_mid (w := wr) (b := b) (p := p + i * 22) (vs := vs) (fun j hj => hcells j (by show j < 22; omega)) Try.underlying85 rfl sV
        have st := store_new (cs := #[.int .i64 0, .int .i64 0, .int .i64 0, .int .i64 0, .int .i64 0, .int .i64 0, .string ⟨#[]⟩, .string ⟨#[]⟩, .string ⟨#[]⟩, .string ⟨#[]⟩, .bool false, .int .i64 0, .int .i64 0, .int .i64 0, .string ⟨#[]⟩, .slice none 0 0, .int .i64 0, .bool false, .bool false, .string ⟨#[]⟩, .int .i64 0, .int .i64 0]) wr hvs' sV oV
        have hone := job_any P
        have HN := Lib.hid N
        clear N P hcells hone1 hvs hvs' sV oV HC
        go_wp2_with (first | (refine wpl_load _ rfl (by simp [Act.eval]) ld ?_) | (refine wpl_store _ _ rfl (by simp [Act.eval, Act.put]) (by simp [Act.eval, Act.put]) st ?_) | (go_at_call 77; refine hone.mono ?_; rintro e w2 ⟨rfl, q⟩; refine Hid.out ?_))
        refine Lib.hid ?_
        have HI2 := Lib.hid (HN.out _ q)
        clear q hone
        go_wp2
        go_roundw
        case rel => exact ⟨i + 1, by omega, by go_num, HI2⟩
        case measure => simp [intOf]; omega
      · have hiF : i = l.length := by omega
        subst hiF
        go_wp2
        go_end0
        exact ⟨rfl, WI.done HH.out HR.out HI.out⟩
  | true =>
    have hx := (zero_cell h hr).2
    simp only [List.cons.injEq, At.list.injEq, and_true] at hx
    subst hx
    have hz := (zero_cell h hr).1
    rw [hc] at hz
    simp only [Option.some.injEq, Value.slice.injEq] at hz
    obtain ⟨rfl, _, rfl⟩ := hz
    have HR := Lib.hid hr
    have HB := Lib.hid hb
    clear h ha hl1 hl2 h0 hlen hmem hb hs0 hr
    go_enter Try.func76, Try.ntmps76
    go_wp2_with (go_at_call 80; refine hcnt.mono ?_; rintro e w1 ⟨rfl, Q⟩; refine Hid.out ?_)
    refine Lib.hid ?_
    obtain ⟨c, hst⟩ : ∃ c, (RI w A S s B o cs ty 85 jobT c 0 w1) ∨ RB w A S s B o cs ty jobT w1 := by
      rcases RI.start (et := 85) HH.out HR.out (by decide) HB.out Q with ⟨c, q⟩ | q
      · exact ⟨c, .inl q⟩
      · exact ⟨0, .inr q⟩
    have HST := Lib.hid hst
    clear Q hcnt hc hst
    go_wp2
    go_loopw [7] (fun iv wr => ∃ i : Nat, i ≤ c ∧ iv = .int .i64 i ∧ Hid (RI w A S s B o cs ty 85 jobT c i wr ∨ RB w A S s B o cs ty jobT wr)) (fun iv _ => c - (intOf iv).toNat)
    case atStart => exact ⟨0, Nat.zero_le _, rfl, HST⟩
    case round =>
      obtain ⟨i, hi, rfl, HI⟩ := hrel
      clear HST
      rcases HI.out with HRI | HRB
      · obtain ⟨c0, c3, cN, hcl⟩ := HRI.cells HH.out HR.out
        by_cases hlt : i < c
        · have hlI : (i : Int) < (c : Int) := by omega
          obtain ⟨S', s', P, N⟩ := RI.next el_job HH.out HR.out HB.out hlt HRI
          have ez : zvS jobT = #[.int .i64 0, .int .i64 0, .int .i64 0, .int .i64 0, .int .i64 0, .int .i64 0, .string ⟨#[]⟩, .string ⟨#[]⟩, .string ⟨#[]⟩, .string ⟨#[]⟩, .bool false, .int .i64 0, .int .i64 0, .int .i64 0, .string ⟨#[]⟩, .slice none 0 0, .int .i64 0, .bool false, .bool false, .string ⟨#[]⟩, .int .i64 0, .int .i64 0] := rfl
          rw [ez] at P N
          have hone := job_any P
          have HN := Lib.hid N
          clear N P ez HI HRI
          go_wp2_with (go_at_call 77; refine hone.mono ?_; rintro e w2 ⟨rfl, q⟩; refine Hid.out ?_)
          refine Lib.hid ?_
          obtain ⟨us, tv, v', w3, hus, hcells, hkd, d1, hrun, ⟨ad1, m1, q1, rfl⟩, ⟨ad2, m2, q2, rfl⟩, d2, d3, d4, hend⟩ := HN.out w2 q
          have hus' : us.size = 22 := hus
          have sU : (Try.prog.info? 85).map (·.size) = some us.size := by rw [hus']; exact size85
          have ld := load_mid (w := w2.drew) (b := wr.heap.size) (p := 0) (vs := us) (fun j hj => by rw [Nat.zero_add]; exact hcells j (by show j < 22; omega)) Try.underlying85 rfl sU
          have rw1 := row_one w2.drew us hus'
          have HI2 := Lib.hid hend
          clear q hone hend hcells hkd hus HN sU hus'
          go_wp2
          refine wp_region_at (fun l X => X = if l 8 then w3.setCell ⟨B, o, none⟩ (.slice ad2 m2 q2) else if l 6 then w3 else if l 5 then w2.drew.alloc (.cells us 85) else w2.drew)
            [fun v => v = .pointer (some ⟨B, o, none⟩), fun v => v = .pointer (some ⟨B, o, none⟩), fun v => v = .pointer (some ⟨B, o, none⟩), fun v => v = .slice ad1 m1 q1, fun v => v = .agg us, fun v => v = .slice (some ⟨w2.heap.size, 0, none⟩) 1 1, fun v => v = .slice ad2 m2 q2, fun v => v = .pointer (some ⟨B, o, none⟩)]
            (by kernel_rfl) (by kernel_rfl) (by kernel_rfl) rfl ?os ?en
          case os =>
            refine ⟨?_, ?_, ?_, ?_, ?_, ?_, ?_, ?_, ?_, trivial⟩
            · refine ⟨rfl, fun ρ X l hdn hl hall hg ho hc hf hr => ?_⟩
              have e : ρ (.tmp 1) = .pointer (some ⟨B, o, none⟩) := ho 1 rfl
              refine Runs.val _ ?_ ⟨hg, rfl⟩
              simp [execOp, e]
            · refine ⟨rfl, fun ρ X l hdn hl hall hg ho hc hf hr => ?_⟩
              have e : ρ (.tmp 1) = .pointer (some ⟨B, o, none⟩) := ho 1 rfl
              refine Runs.val _ ?_ ⟨hg, rfl⟩
              simp [execOp, e]
            · refine ⟨rfl, fun ρ X l hdn hl hall hg ho hc hf hr => ?_⟩
              have e : ρ (.tmp 36) = .pointer (some ⟨B, o, none⟩) := hr 1 36 (hall ⟨1, .data⟩ (by simp) rfl) rfl
              refine Runs.val _ ?_ ⟨hg, rfl⟩
              simp [execOp, e]
            · refine ⟨rfl, fun ρ X l hdn hl hall hg ho hc hf hr => ?_⟩
              have e : ρ (.tmp 37) = .pointer (some ⟨B, o, none⟩) := hr 2 37 (hall ⟨2, .data⟩ (by simp) rfl) rfl
              have n6 : l 6 = false := dn_dep hdn (by rfl) hl
              have n8 : l 8 = false := dn_dep hdn (by rfl) n6
              have hy : X.cell? ⟨B, o, none⟩ = some (.slice ad1 m1 q1) := by
                rw [hg, n8, n6]
                cases l 5 with
                | true => exact d2
                | false => exact d1
              refine Runs.val _ ?_ ⟨hg, rfl⟩
              simp only [execOp, e]
              clear hg
              go_simp
            · refine ⟨rfl, fun ρ X l hdn hl hall hg ho hc hf hr => ?_⟩
              have e : ρ (.tmp 8) = .pointer (some ⟨wr.heap.size, 0, none⟩) := ho 8 rfl
              have n5 : l 5 = false := dn_dep hdn (by rfl) hl
              have n6 : l 6 = false := dn_dep hdn (by rfl) n5
              have n8 : l 8 = false := dn_dep hdn (by rfl) n6
              have hX : X = w2.drew := by rw [hg, n8, n6, n5]; rfl
              refine Runs.val (.agg us) ?_ ⟨hg, rfl⟩
              rw [hX]
              simp only [execOp, e, Sem.run_bind, ld, Result.andThen_ok, Sem.run_pure]
            · refine ⟨rfl, fun ρ X l hdn hl hall hg ho hc hf hr => ?_⟩
              have e : ρ (.tmp 39) = .agg us := hr 4 39 (hall ⟨4, .data⟩ (by simp) rfl) rfl
              have n6 : l 6 = false := dn_dep hdn (by rfl) hl
              have n8 : l 8 = false := dn_dep hdn (by rfl) n6
              have hX : X = w2.drew := by rw [hg, n8, n6, hl]; rfl
              refine Runs.val (.slice (some ⟨w2.heap.size, 0, none⟩) 1 1) (w' := w2.drew.alloc (.cells us 85)) ?_ ⟨?_, rfl⟩
              · rw [hX]
                have rw2 : (Instr.buildSlice 77 1 (#[(0, Operand.tmp 39)].map fun (i, x) => (i, ρ x))).run Try.prog w2.drew = .ok (.slice (some ⟨w2.heap.size, 0, none⟩) 1 1) (w2.drew.alloc (.cells us 85)) := by
                  simp only [List.map_toArray, List.map_cons, List.map_nil, e]
                  exact rw1
                simp only [execOp, Sem.run_bind, rw2, Result.andThen_ok, Sem.run_pure]
              · show _ = if (if (8 : Nat) = 5 then true else l 8) = true then _ else _
                simp [n6, n8]
            · refine ⟨rfl, fun ρ X l hdn hl hall hg ho hc hf hr => ?_⟩
              have e1 : ρ (.tmp 38) = .slice ad1 m1 q1 := hr 3 38 (hall ⟨3, .data⟩ (by simp) rfl) rfl
              have y5 : l 5 = true := hall ⟨5, .data⟩ (by simp) rfl
              have e2 : ρ (.tmp 40) = .slice (some ⟨w2.heap.size, 0, none⟩) 1 1 := hr 5 40 y5 rfl
              have n8 : l 8 = false := dn_dep hdn (by rfl) hl
              have hX : X = w2.drew.alloc (.cells us 85) := by rw [hg, n8, hl, y5]; rfl
              refine Runs.val (.slice ad2 m2 q2) (w' := w3) ?_ ⟨?_, rfl⟩
              · rw [hX]
                simp only [execOp, resolve, invoke, builtin, Sem.run_bind, Sem.run_pure, Result.andThen_ok, List.map_toArray, List.map_cons, List.map_nil, e1, e2, hrun]
              · show _ = if (if (8 : Nat) = 6 then true else l 8) = true then _ else _
                simp [n8]
            · refine ⟨rfl, fun ρ X l hdn hl hall hg ho hc hf hr => ?_⟩
              have e : ρ (.tmp 35) = .pointer (some ⟨B, o, none⟩) := hr 0 35 (hall ⟨0, .data⟩ (by simp) rfl) rfl
              refine Runs.val _ ?_ ⟨hg, rfl⟩
              simp [execOp, e]
            · refine ⟨rfl, fun ρ X l hdn hl hall hg ho hc hf hr => ?_⟩
              have e1 : ρ (.tmp 42) = .pointer (some ⟨B, o, none⟩) := hr 7 42 (hall ⟨7, .data⟩ (by simp) rfl) rfl
              have y6 : l 6 = true := hall ⟨6, .data⟩ (by simp) rfl
              have e2 : ρ (.tmp 41) = .slice ad2 m2 q2 := hr 6 41 y6 rfl
              have hX : X = w3 := by rw [hg, hl, y6]; rfl
              refine Runs.skips (w' := w3.setCell ⟨B, o, none⟩ (.slice ad2 m2 q2)) ?_ ⟨?_, trivial⟩
              · rw [hX]
                simp only [execOp, e1, e2]
                clear hg hX
                go_simp
              · rfl
          case en =>
            intro a X l hall hg hs hd ho hr
            have hX : X = w3.setCell ⟨B, o, none⟩ (.slice ad2 m2 q2) := by rw [hg, hall 8 (by decide)]; rfl
            obtain ⟨x, hx, hxt⟩ := act_put hs hd ho
            change a = putAll _ x [35, 36, 37, 38, 39, 40, 41, 42] at hx
            simp only [putAll, Act.put, List.setIfInBounds_toArray, List.set_cons_zero, List.set_cons_succ] at hx
            clear hg hs hd ho hr hxt hall
            subst hx
            subst hX
            go_wp2
            go_roundw
            case rel => exact ⟨i + 1, by omega, by go_num, HI2⟩
            case measure => simp [intOf]; omega
        · have hiF : i = c := by omega
          subst hiF
          have HRI2 := Lib.hid HRI
          clear HRI HI
          go_wp2
          go_end0
          exact ⟨rfl, RI.done HH.out HR.out HB.out HRI2.out⟩
      · obtain ⟨c3, m, cN⟩ := HRB.cells
        have HRB2 := Lib.hid HRB
        clear HRB HI
        by_cases hm : (i : Int) < m
        · go_wp2
          go_end0
          exact ⟨rfl, RB.done HH.out HR.out HB.out HRB2.out⟩
        · go_wp2
          go_end0
          exact ⟨rfl, RB.done HH.out HR.out HB.out HRB2.out⟩
end
end Go.Proofs.Ytjhgmncmcklnkaa
