/- The law ShardLocks. -/
import Derived.Test.YtcoaahlakkghhaaGs
import Derived.Test.YtcoaahlakkghhaaGr
import Derived.Test.YtcoaahlakkghhaaMYd
namespace Go.Proofs.Ytcoaahlakkghhaa
open Go.RowKit
section
variable {ρ : Operand → Value} {X : World} {d : Option Tmp} {ty : TypeId} {ps : String} {af : Array Edge} {g : Option (Nat × Bool)}
theorem op_neqI {x y : Operand} {a b : Int} (e : ρ x = .int .i64 a) (e2 : ρ y = .int .i64 b) : (execOp ρ ⟨d, .binOp .neq 3 x y 3, ty, ps, af, g⟩).run Try.prog X = .ok (.value (.bool (decide (a ≠ b)))) X := by
  by_cases h : a = b
  · subst h
    simp only [execOp, e, e2]
    go_simp
  · have h2 : (a == b) = false := by simpa using h
    simp only [execOp, e, e2]
    go_simp
theorem op_f55_0' {x : Operand} {B : Nat} (e : ρ x = .pointer (some ⟨B, 0, none⟩)) : (execOp ρ ⟨d, .fieldAddr 55 x 0, ty, ps, af, g⟩).run Try.prog X = .ok (.value (.pointer (some ⟨B, 0, none⟩))) X := by
  simp only [execOp, e]
  go_simp
theorem call22 {v u : Value} : Sem.run Try.prog (callFunc 22 #[v, u]) X = .ok (.enter 22 #[v, u]) X := by go_simp
theorem call23 {v u : Value} : Sem.run Try.prog (callFunc 23 #[v, u]) X = .ok (.enter 23 #[v, u]) X := by go_simp
end
theorem load68 {X : World} {G : List Gl} {g cap k : Nat} {N : Nat} (h : OwnL N X G (.slice (some ⟨g, 0, none⟩) G.length cap)) (hk : k < G.length) : (Instr.loadAt 68 (.pointer (some ⟨g, k * 7, none⟩))).run Try.prog X = .ok (.agg (glL G[k]).toArray) X := by
  refine run_loadAt_mid (P := Try.prog) X g (k * 7) 68 (glL G[k]) _ (fun j u hu => ?_) Try.underlying68 rfl (by rw [glL_len]; exact size68)
  have hj : j < 7 := by
    have := (List.getElem?_eq_some_iff.1 hu).1
    rwa [glL_len] at this
  have := h.row.cells (g := g) rfl (k * 7 + j) u (by rw [fl_get glL_len G k hk j hj]; exact hu)
  rw [add_at, Nat.zero_add] at this
  exact this
section
variable {w : World} {L : List Oq} {v : Value}
set_option maxHeartbeats 8000000 in
set_option maxRecDepth 100000 in
theorem locks_law (hl : Lr opE 31 w L v) (hz : ∀ q ∈ L, CmSz q.2) (ht : totB L ≤ 1048576) : Calls Try.prog 5 #[v] w fun e w' => e = .returned (.bool true) ∧ Below w.heap.size w w' := by
  have haw := awake_any w
  have ht0 := tot_totB L
  have HG1 := Lib.hid (fun X (hX : Below w.heap.size w X) => great_any (hl.on opE_held hX) (by omega))
  have HL := Lib.hid hl
  obtain ⟨ad, cap, rfl, _, _, hcap, _⟩ := hl
  obtain ⟨n, hn⟩ : ∃ n, L.length = n := ⟨_, rfl⟩
  have hmx : (n : Int) ≤ 9223372036854775807 := by unfold maxLen at hcap; omega
  have HN := Lib.hid hn
  rw [hn] at HG1 HL ⊢
  clear hn hcap ht0
  go_enter Try.func5, Try.ntmps5
  go_wp2_with (go_at_call 9; refine haw.mono ?_; rintro e w1 ⟨rfl, hb1⟩; refine Hid.out ?_)
  refine Lib.hid ?_
  have HB1 := Lib.hid hb1
  have hg1 := HG1.out w1 hb1
  clear hb1 haw
  go_wp2_with (go_at_call 10; refine hg1.mono ?_; rintro e w2 ⟨⟨g1, rfl, hq1⟩, hb2⟩; refine Hid.out ?_)
  refine Lib.hid ?_
  have HB2 := Lib.hid (HB1.out.trans (hb2.mono HB1.out.size))
  clear hb2 hg1
  cases g1 with
  | true =>
    have haw2 := awake_any w2
    clear hq1
    go_wp2_with (go_at_call 9; refine haw2.mono ?_; rintro e w3 ⟨rfl, hb3⟩; refine Hid.out ?_)
    refine Lib.hid ?_
    have HB3 := Lib.hid (HB2.out.trans (hb3.mono HB2.out.size))
    clear hb3 haw2
    go_wp2
    go_ret
    exact ⟨rfl, HB3.out⟩
  | false =>
  have HQ1 := Lib.hid (hq1 rfl)
  have hnew := newS_any w2
  clear hq1 HG1
  go_wp2_with (go_at_call 11; refine hnew.mono ?_; rintro e w4 hq; obtain ⟨A, rfl, hst⟩ := St.new (T := fun _ => False) HB2.out (fun k q => q.elim) hq; refine Hid.out ?_)
  refine Lib.hid ?_
  have HST := Lib.hid hst
  clear hst hq hnew
  obtain ⟨T, hT⟩ : ∃ T : Nat → Prop, T = fun _ => False := ⟨_, rfl⟩
  rw [← hT] at HST
  clear hT
  go_wp2
  go_loopw [21] (fun iv wr => ∃ i : Nat, i ≤ n ∧ iv = .int .i64 (i : Int) ∧ Lj w w2 wr A T Sh.nil L 0 0 i) (fun iv _ => n - (intOf iv).toNat)
  case atStart => exact ⟨0, Nat.zero_le _, rfl, ⟨by rw [List.take_zero]; exact HST.out, by rw [List.take_zero]; exact Bd.nil⟩⟩
  case round =>
    clear HST
    obtain ⟨i, hi, rfl, hlj⟩ := hrel
    obtain ⟨V1, rfl⟩ : ∃ V1, V1 = wr := ⟨_, rfl⟩
    by_cases hlt : i < n
    · have hiL : i < L.length := by rw [HN.out]; exact hlt
      have k0 : (0 : Int) ≤ i := by omega
      have k1 : (i : Int) < n := by omega
      have htl := tot_le L i
      obtain ⟨b, o, os, cs, V, rfl, hld, hst, hdq, hbV⟩ := op_box HL.out hz hiL hlj.st hlj.bd (by have := HQ1.out.2; omega) (by have := HQ1.out.2; omega) (by have := HQ1.out.2; omega)
      obtain ⟨Y, hY⟩ : ∃ Y, V1.heap.size = Y := ⟨_, rfl⟩
      have HNX := Lib.hid (fun X hX => hlj.next (X := X) hiL hX)
      obtain ⟨q, hq⟩ : ∃ q, L[i] = q := ⟨_, rfl⟩
      obtain ⟨s, hs⟩ : ∃ s, Sh.nil.acts (L.take i) = s := ⟨_, rfl⟩
      have hsn : (s.act q.1 q.2).1 = Sh.nil.acts (L.take (i + 1)) := by rw [acts_next hiL, hs, hq]
      rw [hY, hq, hs] at hdq
      rw [hq, hs] at HNX
      have DQ := Lib.hid hdq
      have HY := Lib.hid hY
      have HSN := Lib.hid hsn
      clear hdq hY hq hs hlj htl hbV hsn
      go_upto_region 7 with (first | refine wpl_load _ rfl (by simp [Act.eval]) hld ?_ | refine wpl_store _ _ rfl (by simp [Act.eval, Act.put]) (by simp [Act.eval, Act.put]) hst ?_)
      rw [HY.out]
      clear hld hst
      refine wp_region_last (fun X9 => Below V.heap.size V X9) (fun X9 X' => Below X9.heap.size X9 X') [
        fun v9 _ => v9 = .pointer (some ⟨A, 0, none⟩),
        fun v9 _ => v9 = .pointer (some ⟨Y, 0, none⟩),
        fun v9 _ => v9 = .int .i64 q.1,
        fun v9 _ => v9 = .pointer (some ⟨Y, 1, none⟩),
        fun v9 _ => v9 = .agg cs,
        fun v9 X9 => ∃ cs9, v9 = .agg cs9 ∧ OwnV V X9 q.2 cs9]
        (fun v9 X9 => v9 = rzV (s.act q.1 q.2).2 ∧ St w w2 X9 A T (s.act q.1 q.2).1 ∧ X9.heap[Y]? = some (.cells os 49 (0, 0))) rfl (by kernel_rfl) (by kernel_rfl) (by kernel_rfl) (by kernel_rfl) ?st ?g0 ?os ?la ?en
      case st => exact ⟨fun _ _ _ _ h => h, fun _ _ _ _ h => h, fun _ _ _ _ h => h, fun _ _ _ _ h => h, fun _ _ _ _ h => h, (fun _ _ _ hb h => by obtain ⟨c9, e9, h9⟩ := h; exact ⟨c9, e9, h9.on hb⟩), trivial⟩
      case g0 => exact ⟨rfl, rfl, rfl, Nat.le_refl _, fun _ _ => rfl⟩
      case os =>
        refine ⟨?_, ?_, ?_, ?_, ?_, ?_, trivial⟩
        · exact ⟨rfl, fun ρ X9 hg ho hc hf hr => Runs.val _ (op_move (show ρ (.tmp 3) = .pointer (some ⟨A, 0, none⟩) from ho 3 rfl)) ⟨hg, Below.refl _ _, rfl⟩⟩
        · exact ⟨rfl, fun ρ X9 hg ho hc hf hr => Runs.val _ (op_f49_0 (show ρ (.tmp 5) = .pointer (some ⟨Y, 0, none⟩) from ho 5 rfl)) ⟨hg, Below.refl _ _, rfl⟩⟩
        · exact ⟨rfl, fun ρ X9 hg ho hc hf hr => Runs.val _ (op_loadI (show ρ (.tmp 26) = .pointer (some ⟨Y, 0, none⟩) from hr 1 26 rfl rfl) (cell_on hg DQ.out.a0)) ⟨hg, Below.refl _ _, rfl⟩⟩
        · exact ⟨rfl, fun ρ X9 hg ho hc hf hr => Runs.val _ (op_f49_1 (show ρ (.tmp 5) = .pointer (some ⟨Y, 0, none⟩) from ho 5 rfl)) ⟨hg, Below.refl _ _, rfl⟩⟩
        · exact ⟨rfl, fun ρ X9 hg ho hc hf hr => Runs.val _ (op_loadAt (show ρ (.tmp 28) = .pointer (some ⟨Y, 1, none⟩) from (hr 3 28 rfl rfl)) (DQ.out.ld X9 hg)) ⟨hg, Below.refl _ _, rfl⟩⟩
        · refine ⟨rfl, fun ρ X9 hg ho hc hf hr => ?_⟩
          refine Runs.goes 12 #[.agg cs] (op_call1 hf call12 (show ρ (.tmp 29) = .agg cs from hr 4 29 rfl rfl)) ((DQ.out.ow X9 hg).mono ?_)
          rintro e7 w7 ⟨b7, cs7, rfl, h7⟩
          exact ⟨_, rfl, hg.trans (b7.mono hg.size), b7, cs7, rfl, h7⟩
      case la =>
        refine ⟨rfl, fun ρ X9 hg ho hc hf hr => ?_⟩
        obtain ⟨cs9, e9, h9⟩ : ∃ cs9, ρ (.tmp 30) = .agg cs9 ∧ OwnV V X9 q.2 cs9 := hr 5 30 (by decide) rfl
        refine Runs.goes 13 #[.pointer (some ⟨A, 0, none⟩), .int .i64 q.1, .agg cs9] (op_call3 hf call13 (show ρ (.tmp 25) = .pointer (some ⟨A, 0, none⟩) from hr 0 25 (by decide) rfl) (show ρ (.tmp 27) = .int .i64 q.1 from hr 2 27 (by decide) rfl) e9) ((DQ.out.go X9 cs9 hg h9).mono ?_)
        rintro e7 w7 ⟨rfl, h7⟩
        exact ⟨_, rfl, rfl, h7⟩
      case en =>
        intro a9 X9 Xb v9 hF hs9 hd9 ho9 hv9 hr9
        obtain ⟨x9, hx, hxt⟩ := act_put hs9 hd9 ho9
        change a9 = putAll _ x9 [25, 26, 27, 28, 29, 30, 31] at hx
        simp only [putAll, Act.put, List.setIfInBounds_toArray, List.set_cons_zero, List.set_cons_succ] at hx
        have HF := Lib.hid hF.2
        clear hF hs9 hd9 ho9 hv9 hr9 hxt
        subst hx
        generalize x9 25 = z25, x9 26 = z26, x9 27 = z27, x9 28 = z28, x9 29 = z29, x9 30 = z30, x9 31 = z31
        obtain ⟨s2, hs2⟩ : ∃ s2, (s.act q.1 q.2).1 = s2 := ⟨_, rfl⟩
        have hst9 : St w w2 X9 A T s2 := by rw [← hs2]; exact HF.out.1
        have hlj9 := HNX.out X9 HF.out.1
        have hsa : s2 = Sh.nil.acts (L.take (i + 1)) := by rw [← hs2]; exact HSN.out
        have hclean : Clean s2.locks := by rw [hsa]; exact clean_acts (s := Sh.nil) (show Clean [] from List.Pairwise.nil) _
        have hsB : shB s2 ≤ 2097152 := by
          have h1 := shB_acts Sh.nil (L.take (i + 1))
          have h2 := totB_take L (i + 1)
          have h3 : shB Sh.nil = 0 := rfl
          rw [hsa]
          omega
        have htt := HQ1.out.2
        have hfew : Few s2 3000 := by
          rw [hsa]
          refine few_acts (fun l hl => by cases hl) _ (fun x hx => ?_)
          have h1 := gsz_mem (List.mem_of_mem_take hx)
          have h2 := gsz_r x.2
          omega
        have hbd : Bd s2 3000 3000 := by
          have h1 := hlj9.bd
          rw [← hsa] at h1
          have h2 := tot_le L (i + 1)
          exact h1.mono (by omega) (by omega)
        have hlk : Calls Try.prog 21 #[.pointer (some ⟨A, 0, none⟩)] X9 fun e w' => LkAns X9 s2.locks e w' := by
          obtain ⟨S, hS⟩ := hst9
          obtain ⟨S1, S2, P, M, N, G, lv, rv, ov, hx, _⟩ := hS.sy
          exact locks_any hx (fun l hl => ⟨Nat.le_trans (hfew l hl) (by decide), by have h1 := lwS_mem hl; have h2 := hbd.lw; omega⟩)
        have HCL := Lib.hid hclean
        have HSB := Lib.hid hsB
        have HLJ := Lib.hid hlj9
        have HSB3 := Lib.hid hbd
        clear hst9 hlj9 hsa hclean hsB hfew hbd htt hs2 HF DQ HNX HSN
        go_wp2_with (go_at_call 21; refine hlk.mono ?_; rintro e w5 ⟨G, ad3, cap3, hG, rfl, hol, hb5⟩; refine Hid.out ?_)
        refine Lib.hid ?_
        obtain ⟨m, hm⟩ : ∃ m, G.length = m := ⟨_, rfl⟩
        have hmm : (m : Int) ≤ 9223372036854775807 := by
          have h1 : G.length = s2.locks.length := by rw [← hG, List.length_map]
          have h2 := HSB3.out.lk
          omega
        have HLJ5 : Hid (∀ X, Below w5.heap.size w5 X → Lj w w2 X A T Sh.nil L 0 0 (i + 1)) := Lib.hid (fun X hX => ⟨(HLJ.out.st.on hb5).on hX, HLJ.out.bd⟩)
        have HGK : Hid (∀ k (hk : k < G.length), k < s2.locks.length ∧ ∀ h, G[k].1 = s2.locks[k]'h) := Lib.hid (fun k hk => ⟨by rw [← hG, List.length_map]; exact hk, fun h => by
          have e : (G.map Prod.fst)[k]'(by rw [List.length_map]; exact hk) = s2.locks[k] := by simp only [hG]
          rw [← e, List.getElem_map]⟩)
        rw [hm] at hol ⊢
        have HOL := Lib.hid hol
        have HM := Lib.hid hm
        clear hlk hol hb5 hm hG HLJ HSB3
        go_wp2
        go_loopw [36] (fun iv wr => ∃ i1 : Nat, i1 ≤ m ∧ iv = .int .i64 (i1 : Int) ∧ Below w5.heap.size w5 wr) (fun iv _ => m - (intOf iv).toNat)
        case atStart => exact ⟨0, Nat.zero_le _, rfl, Below.refl _ _⟩
        case round =>
          obtain ⟨i1, hi1, rfl, hbw1⟩ := hrel
          obtain ⟨U1, rfl⟩ : ∃ U1, U1 = wr := ⟨_, rfl⟩
          by_cases hlt1 : i1 < m
          · have k2 : (i1 : Int) < m := by omega
            have k3 : (0 : Int) ≤ i1 := by omega
            have HB1a := Lib.hid hbw1
            clear hbw1
            go_wp2
            go_loopw [41] (fun iv wr => ∃ k1 : Nat, k1 ≤ m ∧ iv = .int .i64 (k1 : Int) ∧ Below w5.heap.size w5 wr) (fun iv _ => m - (intOf iv).toNat)
            case atStart => exact ⟨0, Nat.zero_le _, rfl, HB1a.out⟩
            case round =>
              clear HB1a
              obtain ⟨k9, hk9, rfl, hbw2⟩ := hrel
              obtain ⟨U2, rfl⟩ : ∃ U2, U2 = wr := ⟨_, rfl⟩
              by_cases hlt2 : k9 < m
              · have k4 : (k9 : Int) < m := by omega
                have k5 : (0 : Int) ≤ k9 := by omega
                have hiG : i1 < G.length := by rw [HM.out]; exact hlt1
                have hkG : k9 < G.length := by rw [HM.out]; exact hlt2
                obtain ⟨gL, rfl⟩ : ∃ gL, ad3 = some ⟨gL, 0, none⟩ := by
                  rcases HOL.out.row.2 with ⟨_, h0⟩ | ⟨g, cap'', cur, hv, _⟩
                  · omega
                  · simp only [Value.slice.injEq] at hv
                    exact ⟨g, hv.1⟩
                have hol2 : OwnL X9.heap.size U2 G (.slice (some ⟨gL, 0, none⟩) G.length cap3) := by rw [HM.out]; exact HOL.out.on hbw2
                have c6 : U2.cell? ⟨gL, i1 * 7 + 6, none⟩ = some G[i1].2.2 := by
                  have := hol2.row.cells (g := gL) rfl (i1 * 7 + 6) G[i1].2.2 (fl_get glL_len G i1 hiG 6 (by decide))
                  rw [add_at, Nat.zero_add] at this
                  exact this
                obtain ⟨wad, wcp, ewr⟩ := own_shape (hol2.wr _ (List.getElem_mem hiG))
                have HWR := Lib.hid (Lr.own wrL_len (hol2.wr _ (List.getElem_mem hiG)))
                obtain ⟨hil, hgi⟩ := HGK.out i1 hiG
                have e1 : G[i1].1 = s2.locks[i1]'hil := hgi hil
                obtain ⟨l, hl9⟩ : ∃ l, G[i1].1 = l := ⟨_, rfl⟩
                rw [ewr] at c6 HWR
                rw [hl9] at c6 HWR e1
                have hwl : (l.writes.length : Int) ≤ 9223372036854775807 := by
                  have h1 := (lens_in l).2
                  have h2 : lkB l ≤ shB s2 := lk_in (by rw [e1]; exact List.getElem_mem _)
                  have h3 := HSB.out
                  omega
                have HBW2 := Lib.hid hbw2
                have HE1 := Lib.hid e1
                have HOL2 := Lib.hid hol2
                clear hbw2 hol2 ewr hgi e1 hl9
                go_wp2
                go_loopw [50] (fun iv wr => ∃ j : Nat, j ≤ l.writes.length ∧ iv = .int .i64 (j : Int) ∧ Below U2.heap.size U2 wr) (fun iv _ => l.writes.length - (intOf iv).toNat)
                case atStart => exact ⟨0, Nat.zero_le _, rfl, Below.refl _ _⟩
                case round =>
                  obtain ⟨j, hj, rfl, hbw3⟩ := hrel
                  obtain ⟨U3, rfl⟩ : ∃ U3, U3 = wr := ⟨_, rfl⟩
                  by_cases hlt3 : j < l.writes.length
                  · have k6 : (j : Int) < l.writes.length := by omega
                    have k7 : (0 : Int) ≤ j := by omega
                    obtain ⟨_, _, e2, _, _, _, hcs⟩ := HWR.out.on wrE_held hbw3
                    cases e2
                    obtain ⟨bw, ow, csw, rfl, _, hE, _, hcell⟩ := hcs j hlt3
                    have hE' : csw = wrL l.writes[j] := hE
                    subst hE'
                    have c0 := hcell 0 _ rfl
                    have c1 := hcell 1 _ rfl
                    have c2 := hcell 2 _ rfl
                    simp only [Nat.add_zero] at c0
                    have hxm := List.getElem_mem hlt3
                    obtain ⟨x, hx⟩ : ∃ x, l.writes[j] = x := ⟨_, rfl⟩
                    rw [hx] at c0 c1 c2 hxm
                    obtain ⟨W4, hW4⟩ : ∃ W4, W4 = U3.alloc (.cells #[.string x.key, .string x.val, .bool x.dead] 55) := ⟨_, rfl⟩
                    obtain ⟨Z4, hZ4⟩ : ∃ Z4, U3.heap.size = Z4 := ⟨_, rfl⟩
                    have b4 : Below U3.heap.size U3 W4 := by rw [hW4]; exact (Below.refl _ U3).alloc (Nat.le_refl _) _
                    have jZ4 : W4.heap[Z4]? = some (.cells #[.string x.key, .string x.val, .bool x.dead] 55 (0, 0)) := by rw [hW4, ← hZ4]; exact heap_alloc_new U3 _
                    have z0 : W4.cell? ⟨Z4, 0, none⟩ = some (.string x.key) := cell_blk jZ4 0
                    have b24 : Below U2.heap.size U2 W4 := hbw3.trans (b4.mono hbw3.size)
                    have HB24 := Lib.hid b24
                    have HW4 := Lib.hid hW4
                    have HZ4 := Lib.hid hZ4
                    have HXM := Lib.hid hxm
                    clear hcs hcell hE hx hW4 hZ4 b4 jZ4 hbw3 b24 hxm
                    by_cases hik : i1 = k9
                    · have hd0 : decide ((i1 : Int) ≠ (k9 : Int)) = false := decide_eq_false (by omega)
                      go_upto_region 18 with fail
                      rw [← HW4.out, HZ4.out]
                      refine wp_region_fl (fun _ X9q => Below W4.heap.size W4 X9q) (fun X9q X7 => Below X9q.heap.size X9q X7) [
                        fun v9 _ => v9 = .int .i64 (i1 : Int),
                        fun v9 _ => v9 = .int .i64 (k9 : Int),
                        fun v9 _ => v9 = .bool false,
                        fun v9 _ => v9 = .bool false,
                        fun v9 _ => v9 = undef,
                        fun v9 _ => v9 = undef,
                        fun v9 _ => v9 = undef,
                        fun v9 _ => v9 = undef,
                        fun v9 _ => v9 = undef,
                        fun v9 _ => v9 = undef,
                        fun v9 _ => v9 = undef,
                        fun v9 _ => v9 = undef,
                        fun v9 _ => v9 = undef,
                        fun v9 _ => v9 = undef,
                        fun v9 _ => v9 = undef,
                        fun v9 _ => v9 = undef,
                        fun v9 _ => v9 = undef,
                        fun v9 _ => v9 = undef,
                        fun v9 _ => v9 = undef,
                        fun v9 _ => v9 = undef,
                        fun v9 _ => v9 = .bool false]
                        (by kernel_rfl) (by kernel_rfl) (by kernel_rfl) ?st ?g0 ?os ?en
                      case st => exact ⟨fun _ _ _ _ h => h, fun _ _ _ _ h => h, fun _ _ _ _ h => h, fun _ _ _ _ h => h, fun _ _ _ _ h => h, fun _ _ _ _ h => h, fun _ _ _ _ h => h, fun _ _ _ _ h => h, fun _ _ _ _ h => h, fun _ _ _ _ h => h, fun _ _ _ _ h => h, fun _ _ _ _ h => h, fun _ _ _ _ h => h, fun _ _ _ _ h => h, fun _ _ _ _ h => h, fun _ _ _ _ h => h, fun _ _ _ _ h => h, fun _ _ _ _ h => h, fun _ _ _ _ h => h, fun _ _ _ _ h => h, fun _ _ _ _ h => h, trivial⟩
                      case g0 => exact ⟨rfl, rfl, rfl, Nat.le_refl _, fun _ _ => rfl⟩
                      case os =>
                        refine ⟨?_, ?_, ?_, ?_, ?_, ?_, ?_, ?_, ?_, ?_, ?_, ?_, ?_, ?_, ?_, ?_, ?_, ?_, ?_, ?_, ?_, trivial⟩
                        · exact fun ρ X9q fl hg hn hl hp ho hc hf hr => .inl ⟨rfl, Runs.val _ (op_move (show ρ (.tmp 7) = .int .i64 (i1 : Int) from ho 7 rfl)) ⟨hg, Below.refl _ _, rfl⟩⟩
                        · exact fun ρ X9q fl hg hn hl hp ho hc hf hr => .inl ⟨rfl, Runs.val _ (op_move (show ρ (.tmp 8) = .int .i64 (k9 : Int) from ho 8 rfl)) ⟨hg, Below.refl _ _, rfl⟩⟩
                        · exact fun ρ X9q fl hg hn hl hp ho hc hf hr => .inl ⟨rfl, Runs.val _ (by rw [← hd0]; exact op_neqI (show ρ (.tmp 54) = .int .i64 (i1 : Int) from hr 0 54 rfl rfl) (show ρ (.tmp 55) = .int .i64 (k9 : Int) from hr 1 55 rfl rfl)) ⟨hg, Below.refl _ _, rfl⟩⟩
                        · exact fun ρ X9q fl hg hn hl hp ho hc hf hr => .inl ⟨rfl, Runs.val _ (op_move (show ρ (.tmp 56) = .bool false from hr 2 56 rfl rfl)) ⟨hg, Below.refl _ _, rfl⟩⟩
                        · exact fun ρ X9q fl hg hn hl hp ho hc hf hr => .inr (.inr ⟨3, 57, true, fun _ => rfl, rfl, (fun q => by rw [show ρ (.tmp 57) = .bool false from hr 3 57 rfl rfl] at q; cases q), hg, Below.refl _ _, rfl⟩)
                        · exact fun ρ X9q fl hg hn hl hp ho hc hf hr => .inr (.inr ⟨3, 57, true, fun _ => rfl, rfl, (fun q => by rw [show ρ (.tmp 57) = .bool false from hr 3 57 rfl rfl] at q; cases q), hg, Below.refl _ _, rfl⟩)
                        · exact fun ρ X9q fl hg hn hl hp ho hc hf hr => .inr (.inr ⟨3, 57, true, fun _ => rfl, rfl, (fun q => by rw [show ρ (.tmp 57) = .bool false from hr 3 57 rfl rfl] at q; cases q), hg, Below.refl _ _, rfl⟩)
                        · exact fun ρ X9q fl hg hn hl hp ho hc hf hr => .inr (.inr ⟨3, 57, true, fun _ => rfl, rfl, (fun q => by rw [show ρ (.tmp 57) = .bool false from hr 3 57 rfl rfl] at q; cases q), hg, Below.refl _ _, rfl⟩)
                        · exact fun ρ X9q fl hg hn hl hp ho hc hf hr => .inr (.inr ⟨3, 57, true, fun _ => rfl, rfl, (fun q => by rw [show ρ (.tmp 57) = .bool false from hr 3 57 rfl rfl] at q; cases q), hg, Below.refl _ _, rfl⟩)
                        · exact fun ρ X9q fl hg hn hl hp ho hc hf hr => .inr (.inr ⟨3, 57, true, fun _ => rfl, rfl, (fun q => by rw [show ρ (.tmp 57) = .bool false from hr 3 57 rfl rfl] at q; cases q), hg, Below.refl _ _, rfl⟩)
                        · exact fun ρ X9q fl hg hn hl hp ho hc hf hr => .inr (.inr ⟨3, 57, true, fun _ => rfl, rfl, (fun q => by rw [show ρ (.tmp 57) = .bool false from hr 3 57 rfl rfl] at q; cases q), hg, Below.refl _ _, rfl⟩)
                        · exact fun ρ X9q fl hg hn hl hp ho hc hf hr => .inr (.inr ⟨3, 57, true, fun _ => rfl, rfl, (fun q => by rw [show ρ (.tmp 57) = .bool false from hr 3 57 rfl rfl] at q; cases q), hg, Below.refl _ _, rfl⟩)
                        · exact fun ρ X9q fl hg hn hl hp ho hc hf hr => .inr (.inr ⟨11, 65, false, fun _ => rfl, rfl, (fun q => by rw [show ρ (.tmp 65) = undef from hr 11 65 rfl rfl] at q; cases q), hg, Below.refl _ _, rfl⟩)
                        · exact fun ρ X9q fl hg hn hl hp ho hc hf hr => .inr (.inr ⟨11, 65, false, fun _ => rfl, rfl, (fun q => by rw [show ρ (.tmp 65) = undef from hr 11 65 rfl rfl] at q; cases q), hg, Below.refl _ _, rfl⟩)
                        · exact fun ρ X9q fl hg hn hl hp ho hc hf hr => .inr (.inr ⟨11, 65, false, fun _ => rfl, rfl, (fun q => by rw [show ρ (.tmp 65) = undef from hr 11 65 rfl rfl] at q; cases q), hg, Below.refl _ _, rfl⟩)
                        · exact fun ρ X9q fl hg hn hl hp ho hc hf hr => .inr (.inr ⟨11, 65, false, fun _ => rfl, rfl, (fun q => by rw [show ρ (.tmp 65) = undef from hr 11 65 rfl rfl] at q; cases q), hg, Below.refl _ _, rfl⟩)
                        · exact fun ρ X9q fl hg hn hl hp ho hc hf hr => .inr (.inr ⟨11, 65, false, fun _ => rfl, rfl, (fun q => by rw [show ρ (.tmp 65) = undef from hr 11 65 rfl rfl] at q; cases q), hg, Below.refl _ _, rfl⟩)
                        · exact fun ρ X9q fl hg hn hl hp ho hc hf hr => .inr (.inr ⟨11, 65, false, fun _ => rfl, rfl, (fun q => by rw [show ρ (.tmp 65) = undef from hr 11 65 rfl rfl] at q; cases q), hg, Below.refl _ _, rfl⟩)
                        · exact fun ρ X9q fl hg hn hl hp ho hc hf hr => .inr (.inr ⟨11, 65, false, fun _ => rfl, rfl, (fun q => by rw [show ρ (.tmp 65) = undef from hr 11 65 rfl rfl] at q; cases q), hg, Below.refl _ _, rfl⟩)
                        · exact fun ρ X9q fl hg hn hl hp ho hc hf hr => .inr (.inr ⟨3, 57, true, fun _ => rfl, rfl, (fun q => by rw [show ρ (.tmp 57) = .bool false from hr 3 57 rfl rfl] at q; cases q), hg, Below.refl _ _, rfl⟩)
                        · exact fun ρ X9q fl hg hn hl hp ho hc hf hr => .inl ⟨rfl, Runs.val _ (op_pick (show ρ (.tmp 57) = .bool false from hr 3 57 rfl rfl) (hc _)) ⟨hg, Below.refl _ _, rfl⟩⟩
                      case en =>
                        intro a9 X9q fl hfl hg hs9 hd9 ho9 hr9
                        obtain ⟨x9, hx, hxt⟩ := act_put hs9 hd9 ho9
                        have e74 : x9 74 = .bool false := (hxt 74).symm.trans (hr9 20 74 rfl)
                        change a9 = putAll _ x9 [54, 55, 56, 57, 58, 59, 60, 61, 62, 63, 64, 65, 66, 67, 68, 69, 70, 71, 72, 73, 74] at hx
                        simp only [putAll, Act.put, List.setIfInBounds_toArray, List.set_cons_zero, List.set_cons_succ, e74] at hx
                        have HG := Lib.hid (HB24.out.trans (hg.mono HB24.out.size))
                        clear hfl hg hs9 hd9 ho9 hr9 hxt e74
                        subst hx
                        generalize x9 54 = z54, x9 55 = z55, x9 56 = z56, x9 57 = z57, x9 58 = z58, x9 59 = z59, x9 60 = z60, x9 61 = z61, x9 62 = z62, x9 63 = z63, x9 64 = z64, x9 65 = z65, x9 66 = z66, x9 67 = z67, x9 68 = z68, x9 69 = z69, x9 70 = z70, x9 71 = z71, x9 72 = z72, x9 73 = z73
                        go_wp2
                        go_roundw
                        case rel => exact ⟨j + 1, hlt3, by go_num, HG.out⟩
                        case measure => simp [intOf]; omega
                    · have hd1 : decide ((i1 : Int) ≠ (k9 : Int)) = true := decide_eq_true (by omega)
                      have hol3 := HOL2.out.on HB24.out
                      obtain ⟨hkl, hgk⟩ := HGK.out k9 hkG
                      have ek : G[k9].1 = s2.locks[k9]'hkl := hgk hkl
                      obtain ⟨sa5, sc5, es5⟩ := own_shape (hol3.sp _ (List.getElem_mem hkG))
                      obtain ⟨wa5, wc5, ew5⟩ := own_shape (hol3.wr _ (List.getElem_mem hkG))
                      have hls5 := Lr.own snL_len (hol3.sp _ (List.getElem_mem hkG))
                      have hlw5 := Lr.own wrL_len (hol3.wr _ (List.getElem_mem hkG))
                      have hld5 : ∀ X, Below W4.heap.size W4 X → (Instr.loadAt 68 (.pointer (some ⟨gL, k9 * 7, none⟩))).run Try.prog X = .ok (lkV G[k9].1 sa5 sc5 wa5 wc5) X := fun X hX => by
                        have := load68 (hol3.on hX) hkG
                        unfold glL at this
                        rw [es5, ew5] at this
                        exact this
                      rw [es5] at hls5
                      rw [ew5] at hlw5
                      obtain ⟨c1e, c2e⟩ := clean_at HCL.out (i := i1) (k := k9) hil hkl hik (x := x) (by rw [← HE1.out]; exact HXM.out)
                      rw [← ek] at c1e c2e
                      have hkz : ∀ l', l' ∈ s2.locks → lkB l' ≤ maxLen := fun l' h' => by
                        have h1 := lk_in h'
                        have h2 := HSB.out
                        unfold maxLen
                        omega
                      have hxz : x.key.size ≤ maxLen := Nat.le_trans (wr_in HXM.out).1 (hkz l (by rw [HE1.out]; exact List.getElem_mem _))
                      have hpz : ∀ p ∈ G[k9].1.spans, p.lo.size ≤ maxLen ∧ p.hi.size ≤ maxLen := fun p hp => by
                        have h1 := hkz _ (List.getElem_mem hkl)
                        rw [← ek] at h1
                        exact ⟨Nat.le_trans (sp_in hp).1 h1, Nat.le_trans (sp_in hp).2 h1⟩
                      have HHO := Lib.hid (fun X (hX : Below W4.heap.size W4 X) => holdsR_any (l := G[k9].1) (sa := sa5) (sc := sc5) (k := x.key) (hlw5.on wrE_held hX))
                      have HCO := Lib.hid (fun X (hX : Below W4.heap.size W4 X) => coversR_any (l := G[k9].1) (wa := wa5) (wc := wc5) hxz hpz (hls5.on snE_held hX))
                      rw [c1e] at HHO
                      rw [c2e] at HCO
                      have HLD := Lib.hid hld5
                      obtain ⟨l5, hl5⟩ : ∃ l5, G[k9].1 = l5 := ⟨_, rfl⟩
                      rw [hl5] at HHO HCO HLD
                      clear hol3 hgk ek es5 ew5 hls5 hlw5 hld5 c1e c2e hkz hxz hpz hl5
                      go_upto_region 18 with fail
                      rw [← HW4.out, HZ4.out]
                      refine wp_region_gd (fun X9q => Below W4.heap.size W4 X9q) (fun X9q X7 => Below X9q.heap.size X9q X7) [
                        fun v9 _ => v9 = .int .i64 (i1 : Int),
                        fun v9 _ => v9 = .int .i64 (k9 : Int),
                        fun v9 _ => v9 = .bool true,
                        fun v9 _ => v9 = .bool true,
                        fun v9 _ => v9 = .slice (some ⟨gL, 0, none⟩) m cap3,
                        fun v9 _ => v9 = .int .i64 (k9 : Int),
                        fun v9 _ => v9 = .pointer (some ⟨gL, k9 * 7, none⟩),
                        fun v9 _ => v9 = lkV l5 sa5 sc5 wa5 wc5,
                        fun v9 _ => v9 = .pointer (some ⟨Z4, 0, none⟩),
                        fun v9 _ => v9 = .string x.key,
                        fun v9 _ => v9 = .bool false,
                        fun v9 _ => v9 = .bool false,
                        fun v9 _ => v9 = .slice (some ⟨gL, 0, none⟩) m cap3,
                        fun v9 _ => v9 = .int .i64 (k9 : Int),
                        fun v9 _ => v9 = .pointer (some ⟨gL, k9 * 7, none⟩),
                        fun v9 _ => v9 = lkV l5 sa5 sc5 wa5 wc5,
                        fun v9 _ => v9 = .pointer (some ⟨Z4, 0, none⟩),
                        fun v9 _ => v9 = .string x.key,
                        fun v9 _ => v9 = .bool false,
                        fun v9 _ => v9 = .bool false,
                        fun v9 _ => v9 = .bool false]
                        (by kernel_rfl) (by kernel_rfl) (by kernel_rfl) ?st ?g0 ?os ?en
                      case st => exact ⟨fun _ _ _ _ h => h, fun _ _ _ _ h => h, fun _ _ _ _ h => h, fun _ _ _ _ h => h, fun _ _ _ _ h => h, fun _ _ _ _ h => h, fun _ _ _ _ h => h, fun _ _ _ _ h => h, fun _ _ _ _ h => h, fun _ _ _ _ h => h, fun _ _ _ _ h => h, fun _ _ _ _ h => h, fun _ _ _ _ h => h, fun _ _ _ _ h => h, fun _ _ _ _ h => h, fun _ _ _ _ h => h, fun _ _ _ _ h => h, fun _ _ _ _ h => h, fun _ _ _ _ h => h, fun _ _ _ _ h => h, fun _ _ _ _ h => h, trivial⟩
                      case g0 => exact ⟨rfl, rfl, rfl, Nat.le_refl _, fun _ _ => rfl⟩
                      case os =>
                        refine ⟨?_, ?_, ?_, ?_, ?_, ?_, ?_, ?_, ?_, ?_, ?_, ?_, ?_, ?_, ?_, ?_, ?_, ?_, ?_, ?_, ?_, trivial⟩
                        · exact fun ρ X9q hg ho hc hf hr => .inl ⟨rfl, Runs.val _ (op_move (show ρ (.tmp 7) = .int .i64 (i1 : Int) from ho 7 rfl)) ⟨hg, Below.refl _ _, rfl⟩⟩
                        · exact fun ρ X9q hg ho hc hf hr => .inl ⟨rfl, Runs.val _ (op_move (show ρ (.tmp 8) = .int .i64 (k9 : Int) from ho 8 rfl)) ⟨hg, Below.refl _ _, rfl⟩⟩
                        · exact fun ρ X9q hg ho hc hf hr => .inl ⟨rfl, Runs.val _ (by rw [← hd1]; exact op_neqI (show ρ (.tmp 54) = .int .i64 (i1 : Int) from hr 0 54 rfl rfl) (show ρ (.tmp 55) = .int .i64 (k9 : Int) from hr 1 55 rfl rfl)) ⟨hg, Below.refl _ _, rfl⟩⟩
                        · exact fun ρ X9q hg ho hc hf hr => .inl ⟨rfl, Runs.val _ (op_move (show ρ (.tmp 56) = .bool true from hr 2 56 rfl rfl)) ⟨hg, Below.refl _ _, rfl⟩⟩
                        · exact fun ρ X9q hg ho hc hf hr => .inr (.inl ⟨3, 57, true, fun _ => rfl, rfl, hr 3 57 rfl rfl, Runs.val _ (op_move (show ρ (.tmp 6) = .slice (some ⟨gL, 0, none⟩) m cap3 from ho 6 rfl)) ⟨hg, Below.refl _ _, rfl⟩⟩)
                        · exact fun ρ X9q hg ho hc hf hr => .inr (.inl ⟨3, 57, true, fun _ => rfl, rfl, hr 3 57 rfl rfl, Runs.val _ (op_move (show ρ (.tmp 8) = .int .i64 (k9 : Int) from ho 8 rfl)) ⟨hg, Below.refl _ _, rfl⟩⟩)
                        · exact fun ρ X9q hg ho hc hf hr => .inr (.inl ⟨3, 57, true, fun _ => rfl, rfl, hr 3 57 rfl rfl, Runs.val _ (op_i31 (show ρ (.tmp 58) = .slice (some ⟨gL, 0, none⟩) m cap3 from hr 4 58 rfl rfl) (show ρ (.tmp 59) = .int .i64 (k9 : Int) from hr 5 59 rfl rfl) hlt2) ⟨hg, Below.refl _ _, rfl⟩⟩)
                        · exact fun ρ X9q hg ho hc hf hr => .inr (.inl ⟨3, 57, true, fun _ => rfl, rfl, hr 3 57 rfl rfl, Runs.val _ (op_loadAt (show ρ (.tmp 60) = .pointer (some ⟨gL, k9 * 7, none⟩) from hr 6 60 rfl rfl) (HLD.out X9q hg)) ⟨hg, Below.refl _ _, rfl⟩⟩)
                        · exact fun ρ X9q hg ho hc hf hr => .inr (.inl ⟨3, 57, true, fun _ => rfl, rfl, hr 3 57 rfl rfl, Runs.val _ (op_f55_0' (show ρ (.tmp 10) = .pointer (some ⟨Z4, 0, none⟩) from ho 10 rfl)) ⟨hg, Below.refl _ _, rfl⟩⟩)
                        · exact fun ρ X9q hg ho hc hf hr => .inr (.inl ⟨3, 57, true, fun _ => rfl, rfl, hr 3 57 rfl rfl, Runs.val _ (op_load9 (show ρ (.tmp 62) = .pointer (some ⟨Z4, 0, none⟩) from hr 8 62 rfl rfl) (cell_on hg z0)) ⟨hg, Below.refl _ _, rfl⟩⟩)
                        · refine fun ρ X9q hg ho hc hf hr => .inr (.inl ⟨3, 57, true, fun _ => rfl, rfl, hr 3 57 rfl rfl, ?_⟩)
                          refine Runs.goes 22 #[lkV l5 sa5 sc5 wa5 wc5, .string x.key] (op_call2 hf call22 (show ρ (.tmp 61) = lkV l5 sa5 sc5 wa5 wc5 from hr 7 61 rfl rfl) (show ρ (.tmp 63) = .string x.key from hr 9 63 rfl rfl)) ((HHO.out X9q hg).mono ?_)
                          rintro e7 w7 ⟨rfl, b7⟩
                          exact ⟨_, rfl, hg.trans (b7.mono hg.size), b7, rfl⟩
                        · exact fun ρ X9q hg ho hc hf hr => .inr (.inl ⟨3, 57, true, fun _ => rfl, rfl, hr 3 57 rfl rfl, Runs.val _ (op_move (show ρ (.tmp 64) = .bool false from hr 10 64 rfl rfl)) ⟨hg, Below.refl _ _, rfl⟩⟩)
                        · exact fun ρ X9q hg ho hc hf hr => .inr (.inl ⟨11, 65, false, fun _ => rfl, rfl, hr 11 65 rfl rfl, Runs.val _ (op_move (show ρ (.tmp 6) = .slice (some ⟨gL, 0, none⟩) m cap3 from ho 6 rfl)) ⟨hg, Below.refl _ _, rfl⟩⟩)
                        · exact fun ρ X9q hg ho hc hf hr => .inr (.inl ⟨11, 65, false, fun _ => rfl, rfl, hr 11 65 rfl rfl, Runs.val _ (op_move (show ρ (.tmp 8) = .int .i64 (k9 : Int) from ho 8 rfl)) ⟨hg, Below.refl _ _, rfl⟩⟩)
                        · exact fun ρ X9q hg ho hc hf hr => .inr (.inl ⟨11, 65, false, fun _ => rfl, rfl, hr 11 65 rfl rfl, Runs.val _ (op_i31 (show ρ (.tmp 66) = .slice (some ⟨gL, 0, none⟩) m cap3 from hr 12 66 rfl rfl) (show ρ (.tmp 67) = .int .i64 (k9 : Int) from hr 13 67 rfl rfl) hlt2) ⟨hg, Below.refl _ _, rfl⟩⟩)
                        · exact fun ρ X9q hg ho hc hf hr => .inr (.inl ⟨11, 65, false, fun _ => rfl, rfl, hr 11 65 rfl rfl, Runs.val _ (op_loadAt (show ρ (.tmp 68) = .pointer (some ⟨gL, k9 * 7, none⟩) from hr 14 68 rfl rfl) (HLD.out X9q hg)) ⟨hg, Below.refl _ _, rfl⟩⟩)
                        · exact fun ρ X9q hg ho hc hf hr => .inr (.inl ⟨11, 65, false, fun _ => rfl, rfl, hr 11 65 rfl rfl, Runs.val _ (op_f55_0' (show ρ (.tmp 10) = .pointer (some ⟨Z4, 0, none⟩) from ho 10 rfl)) ⟨hg, Below.refl _ _, rfl⟩⟩)
                        · exact fun ρ X9q hg ho hc hf hr => .inr (.inl ⟨11, 65, false, fun _ => rfl, rfl, hr 11 65 rfl rfl, Runs.val _ (op_load9 (show ρ (.tmp 70) = .pointer (some ⟨Z4, 0, none⟩) from hr 16 70 rfl rfl) (cell_on hg z0)) ⟨hg, Below.refl _ _, rfl⟩⟩)
                        · refine fun ρ X9q hg ho hc hf hr => .inr (.inl ⟨11, 65, false, fun _ => rfl, rfl, hr 11 65 rfl rfl, ?_⟩)
                          refine Runs.goes 23 #[lkV l5 sa5 sc5 wa5 wc5, .string x.key] (op_call2 hf call23 (show ρ (.tmp 69) = lkV l5 sa5 sc5 wa5 wc5 from hr 15 69 rfl rfl) (show ρ (.tmp 71) = .string x.key from hr 17 71 rfl rfl)) ((HCO.out X9q hg).mono ?_)
                          rintro e7 w7 ⟨rfl, b7⟩
                          exact ⟨_, rfl, hg.trans (b7.mono hg.size), b7, rfl⟩
                        · exact fun ρ X9q hg ho hc hf hr => .inr (.inl ⟨3, 57, true, fun _ => rfl, rfl, hr 3 57 rfl rfl, Runs.val _ (op_pick (show ρ (.tmp 65) = .bool false from hr 11 65 rfl rfl) (show ρ (.tmp 72) = .bool false from hr 18 72 rfl rfl)) ⟨hg, Below.refl _ _, rfl⟩⟩)
                        · exact fun ρ X9q hg ho hc hf hr => .inl ⟨rfl, Runs.val _ (op_pick (show ρ (.tmp 57) = .bool true from hr 3 57 rfl rfl) (show ρ (.tmp 73) = .bool false from hr 19 73 rfl rfl)) ⟨hg, Below.refl _ _, rfl⟩⟩
                      case en =>
                        intro a9 X9q hg hs9 hd9 ho9 hr9
                        obtain ⟨x9, hx, hxt⟩ := act_put hs9 hd9 ho9
                        have e74 : x9 74 = .bool false := (hxt 74).symm.trans (hr9 20 74 rfl)
                        change a9 = putAll _ x9 [54, 55, 56, 57, 58, 59, 60, 61, 62, 63, 64, 65, 66, 67, 68, 69, 70, 71, 72, 73, 74] at hx
                        simp only [putAll, Act.put, List.setIfInBounds_toArray, List.set_cons_zero, List.set_cons_succ, e74] at hx
                        have HG := Lib.hid (HB24.out.trans (hg.mono HB24.out.size))
                        clear hg hs9 hd9 ho9 hr9 hxt e74
                        subst hx
                        generalize x9 54 = z54, x9 55 = z55, x9 56 = z56, x9 57 = z57, x9 58 = z58, x9 59 = z59, x9 60 = z60, x9 61 = z61, x9 62 = z62, x9 63 = z63, x9 64 = z64, x9 65 = z65, x9 66 = z66, x9 67 = z67, x9 68 = z68, x9 69 = z69, x9 70 = z70, x9 71 = z71, x9 72 = z72, x9 73 = z73
                        go_wp2
                        go_roundw
                        case rel => exact ⟨j + 1, hlt3, by go_num, HG.out⟩
                        case measure => simp [intOf]; omega
                  · have k6 : ¬ ((j : Int) < l.writes.length) := by omega
                    have HB3 := Lib.hid (HBW2.out.trans (hbw3.mono HBW2.out.size))
                    clear hbw3
                    go_wp2
                    go_roundw
                    case rel => exact ⟨k9 + 1, hlt2, by go_num, HB3.out⟩
                    case measure => simp [intOf]; omega
              · have k4 : ¬ ((k9 : Int) < m) := by omega
                have HBW2 := Lib.hid hbw2
                clear hbw2
                go_wp2
                go_roundw
                case rel => exact ⟨i1 + 1, hlt1, by go_num, HBW2.out⟩
                case measure => simp [intOf]; omega
          · have k2 : ¬ ((i1 : Int) < m) := by omega
            have HBW1 := Lib.hid hbw1
            clear hbw1
            go_wp2
            go_roundw
            case rel => exact ⟨i + 1, hlt, by go_num, HLJ5.out _ HBW1.out⟩
            case measure => simp [intOf]; omega
    · have k1 : ¬ ((i : Int) < n) := by omega
      have HBX := Lib.hid hlj.st.bl
      clear hlj
      go_wp2
      go_ret
      exact ⟨rfl, HBX.out⟩
end
end Go.Proofs.Ytcoaahlakkghhaa
