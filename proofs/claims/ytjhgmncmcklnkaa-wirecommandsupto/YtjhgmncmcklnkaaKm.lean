/- The walk of text. -/
import Derived.Test.YtjhgmncmcklnkaaKl
namespace Go.Proofs.Ytjhgmncmcklnkaa
open Go.RowKit

section
variable {w w' w1 w2 : World} {A : Nat} {S S1 : Nat → Prop} {s s1 : TS} {B o : Nat} {t u : List Ty} {x y : List At} {rv : Value}
/-- One field is read, whatever came behind. -/
theorem Post.fin {t : Ty} {v : Value} {cs : Array Value} {ty : TypeId} (h : Pre w A S s B o [t] x) (hb : w.heap[B]? = some (.cells cs ty (0, 0))) (hT : Tp w' A S1 s1) (hG : ∀ k, S1 k → Gro S w w' k) (hF : Fr w w' (fun k => S k ∨ k = B)) (hb2 : w'.heap[B]? = some (.cells (cs.setIfInBounds o v) ty (0, 0))) (hv : t.kind v)
    (hr : s.reads = true) (hout : (∃ y r, t.has y ∧ s.rest = y.enc ++ r ∧ s1 = { s with rest := r } ∧ y.lies w' (fun k => k < w.heap.size ∨ S1 k) v) ∨ (¬ Rd [t] s.rest ∧ s1 = { s with rest := [], bad := true })) :
    Post w w' A S s B o [t] x := by
  have h2 : o + 1 ≤ cs.size := by
    obtain ⟨cs', ty', h1, h2⟩ := h.blk
    rw [hb] at h1
    simp only [Option.some.injEq, Obj.cells.injEq] at h1
    obtain ⟨rfl, rfl, _⟩ := h1
    simpa using h2
  have hcell : w'.cell? ⟨B, o, none⟩ = some v := by
    rw [cell_blk hb2]
    simp [Array.getElem?_setIfInBounds]
    omega
  refine ⟨S1, s1, hT, hG, hF, ⟨cs, _, ty, hb, hb2, by simp, by simpa using h2, fun i hi => ?_, fun q => (by rw [hr] at q; cases q), fun i hi => ?_⟩, ?_⟩
  · simp only [List.length_cons, List.length_nil] at hi
    rw [Array.getElem?_setIfInBounds_ne (by omega)]
  · have : i = 0 := by simpa using hi
    subst this
    refine ⟨v, ?_, hv⟩
    rw [cell_blk hb2] at hcell
    simpa using hcell
  · rcases hout with ⟨y, r, q1, q2, q3, q4⟩ | q
    · refine .inr (.inl ⟨hr, [y], r, by unfold hasS; exact ⟨q1, by simp [hasS]⟩, by simpa [encS] using q2, q3, ?_⟩)
      simp only [liesS, and_true]
      exact ⟨v, hcell, q4⟩
    · exact .inr (.inr ⟨hr, q⟩)
theorem Post.drewN (h : Post w w' A S s B o t x) (n : Nat) : Post w (w'.drewN n) A S s B o t x := by
  obtain ⟨S', s', h1, h2, h3, h4, h5⟩ := h
  refine ⟨S', s', h1.drew n, h2, h3.drewN n, h4, ?_⟩
  rcases h5 with q | ⟨q1, y, r, q2, q3, q4, q5⟩ | q
  · exact .inl q
  · exact .inr (.inl ⟨q1, y, r, q2, q3, q4, liesS_keeps (w := w') (w' := w'.drewN n) ⟨Nat.le_refl _, fun k _ hk => ⟨rfl, hk⟩⟩ y B o (fun _ _ _ => rfl) q5⟩)
  · exact .inr (.inr q)
theorem Post.drew (h : Post w w' A S s B o t x) : Post w w'.drew A S s B o t x := h.drewN 1
theorem txt_take (l : List UInt8) (k : Nat) : (txt l).extract 0 k = txt (l.take k) := by
  apply ba_ext
  rw [txt_list]
  simp [txt]
theorem text_no {l : List UInt8} (h : ∀ (c : Nat) (r : List UInt8), c ≤ r.length → I64 (c : Int) → l ≠ num (c : Int) ++ r) : ¬ Rd [.text] l := by
  rintro ⟨y, r, hy, e⟩
  obtain ⟨a, rfl, ha⟩ := hasS_one hy
  obtain ⟨st, rfl, hs⟩ := has_text ha
  refine h st.data.toList.length (st.data.toList ++ r) (by simp) (len_in hs) ?_
  simpa [encS, At.enc] using e
set_option maxHeartbeats 4000000 in
set_option maxRecDepth 100000 in
theorem text_any (h : Pre w A S s B o [.text] x) : Calls Try.prog 56 #[.pointer (some ⟨A, 0, none⟩), .pointer (some ⟨B, o, none⟩)] w fun e w' => e = .returned (.tuple #[]) ∧ Post w w' A S s B o [.text] x := by
  obtain ⟨a, rfl, ha⟩ := hasS_one h.has
  obtain ⟨str, rfl, hst⟩ := has_text ha
  have hl := h.lies
  simp only [liesS, At.lies, and_true] at hl
  obtain ⟨v, hc, rfl⟩ := hl
  have hB := h.lt
  have hlen : s.reads = false → s.wr.length + ((num (str.data.toList.length : Int)).length + str.data.toList.length) ≤ 1000000000 := fun q => by
    have hlen := h.lenW q
    simpa only [encS, At.enc, List.append_nil, List.length_append] using hlen
  have h0 : s.reads = true → ((str.data.toList.length : Nat) : Int) = 0 := fun q => by
    have e := (h.zero q).1
    simp only [zeroS, List.map_cons, List.map_nil, Ty.zero, List.cons.injEq, At.text.injEq, and_true] at e
    rw [e]
    rfl
  have hcnt := count_any (h.num (len_in hst) h0 (fun q => (by have := hlen q; omega)) (ty := 3))
  obtain ⟨n, hn⟩ : ∃ n : Nat, str.data.toList.length = n := ⟨_, rfl⟩
  have hsn : str.size = n := by rw [← hn, Array.length_toList]; rfl
  rw [hn] at hcnt hlen
  have HH := Lib.hid h
  have HNN := Lib.hid hn
  clear h ha hst h0 hn
  go_enter Try.func56, Try.ntmps56
  go_wp2_with (go_at_call 80; refine hcnt.mono ?_; rintro e w1 ⟨rfl, Q⟩; refine Hid.out ?_)
  refine Lib.hid ?_
  obtain ⟨S1, s1, m, q1, q2, q3, cm, q5⟩ := Q
  have hF := q3.fresh1
  have hG := Gro.fresh1 q2
  clear q2 q3
  obtain ⟨rv, hT⟩ := q1
  have t0 : w1.cell? ⟨A, 0, none⟩ = some (.bool s1.reads) := cell_blk hT.ob 0
  have t1 : w1.cell? ⟨A, 1, none⟩ = some rv := cell_blk hT.ob 1
  have t2 : w1.cell? ⟨A, 2, none⟩ = some (.string (txt s1.rest)) := cell_blk hT.ob 2
  have hc1 : w1.cell? ⟨B, o, none⟩ = some (.string str) := (World.cell?_of_block (hF.block B hB HH.out.nB)).trans hc
  rcases q5 with ⟨r1, r2, r3⟩ | r5
  · have hr1 : s1.reads = false := by rw [r3]; exact r1
    rw [hr1] at t0
    have hw1 : s1.wr.length + str.size ≤ 2000000000 := by have := hlen r1; rw [r3, hsn]; simp only [List.length_append]; omega
    have hTd : Tv w1.drew A S1 s1 rv := ⟨hT.ob, hT.row, hT.cov, hT.covA, hT.lt⟩
    obtain ⟨v2, w2, hrun, g1, g2, g3, g4⟩ := hTd.pushS str hw1
    obtain ⟨N, hN⟩ : ∃ N, (s1.wr ++ str.data.toList).length = N := ⟨_, rfl⟩
    obtain ⟨ad2, cap2, rfl⟩ := own_shape g1
    obtain ⟨k1, k2, k3⟩ := hTd.kept g1 g2 g3 g4
    have hstep : Tt w (w2.setCell ⟨A, 1, none⟩ (.slice ad2 _ cap2)) A S _ := Tt.comb hG hF ⟨_, ⟨_, k1⟩, k3, ⟨k2.os, k2.tape, k2.output, k2.size, k2.block⟩⟩
    have e5 : ({ s1 with wr := s1.wr ++ str.data.toList } : TS) = { s with wr := s.wr ++ encS [.text str] } := by
      rw [r3]
      simp [encS, At.enc, HNN.out]
    rw [e5] at hstep
    have hpost := Post.wrote HH.out r1 hstep
    rw [hN] at hrun hpost
    have d1 : w2.cell? ⟨A, 1, none⟩ = some rv := cell_blk g4 1
    have f1 : w2.frozen? ⟨A, 1, none⟩ = false := frozen_blk g4 1
    have HP := Lib.hid hpost
    clear hpost hstep k1 k2 k3 g1 g2 g3 g4 hTd hT e5 hN hF hG r3 hw1 hr1 hcnt
    go_wp2
    go_region_law (refine step_run (.tmp 37) (.tmp 40) rfl rfl rfl (by simp [Act.eval]) (by simp [Act.eval]) hrun ?_)
    all_goals
      go_wp2
      go_end0
      exact ⟨rfl, HP.out⟩
  · have hr : s.reads = true := by rcases r5 with ⟨q, _⟩ | ⟨q, _⟩ <;> exact q
    have hr1 : s1.reads = true := by rcases r5 with ⟨_, c, r, _, _, _, q⟩ | ⟨_, _, _, q⟩ <;> rw [q] <;> exact hr
    rw [hr1] at t0
    -- how many bytes there are
    obtain ⟨c, hmc, hcl⟩ : ∃ c : Nat, m = c ∧ c ≤ s1.rest.length := by
      rcases r5 with ⟨_, c, r, q1, q2, _, q⟩ | ⟨_, q1, _, q⟩
      · exact ⟨c, q1, by rw [q]; exact q2⟩
      · exact ⟨0, by rw [q1]; rfl, Nat.zero_le _⟩
    subst hmc
    have hR1 : s1.rest.length ≤ 1000000000 := by
      have := HH.out.lenR
      rcases r5 with ⟨_, c, r, q1, q2, q3, q⟩ | ⟨_, q1, _, q⟩
      · rw [q]
        rw [q3, List.length_append] at this
        show r.length ≤ _
        omega
      · rw [q]; simp
    obtain ⟨E, hE⟩ : ∃ E, txt (s1.rest.take c) = E := ⟨_, rfl⟩
    obtain ⟨D, hD⟩ : ∃ D, txt (s1.rest.drop c) = D := ⟨_, rfl⟩
    obtain ⟨st, hst⟩ : ∃ st, txt s1.rest = st := ⟨_, rfl⟩
    obtain ⟨L, hL⟩ : ∃ L, s1.rest.length = L := ⟨_, rfl⟩
    have hsz : st.size = L := by rw [← hst, txt_size, hL]
    have eE : st.extract 0 c = E := by rw [← hst, txt_take, hE]
    have eD : st.extract c L = D := by rw [← hst, ← hL, ← txt_size, txt_drop, hD]
    have hEs : E.size ≤ 281474976710656 := by rw [← hE, txt_size, List.length_take]; omega
    rw [hst] at t2
    rw [hL] at hcl hR1
    obtain ⟨cs, ty, hb0, hs0⟩ := HH.out.blk
    have hb1 : w1.heap[B]? = some (.cells cs ty (0, 0)) := (hF.block B hB HH.out.nB).trans hb0
    have nB1 : ¬ S1 B := fun q => by
      rcases hG B q with q | q
      · exact HH.out.nB q
      · omega
    have nBA : A ≠ B := fun e => nB1 (e ▸ hT.covA)
    have hclo : ∀ k, Calls Try.prog 81 #[.string E] (w1.drewN k) fun e w2 => e = .returned (.string E) ∧ w2.cell? ⟨B, o, none⟩ = some (.string str) ∧ w2.frozen? ⟨B, o, none⟩ = false ∧ Hid (Fr w1 (w2.setCell ⟨B, o, none⟩ (.string E)) (fun k => k = B) ∧ (w2.setCell ⟨B, o, none⟩ (.string E)).heap[B]? = some (.cells (cs.setIfInBounds o (.string E)) ty (0, 0))) := by
      intro k
      refine (clone_any E (w1.drewN k) hEs).mono ?_
      rintro e w2 ⟨rfl, hbb⟩
      have hBb : w2.heap[B]? = some (.cells cs ty (0, 0)) := (hbb.block B (blk_lt hb1)).trans hb1
      refine ⟨rfl, (World.cell?_of_block (hBb.trans hb1.symm)).trans hc1, frozen_blk hBb o, ?_, set_blk (i := o) hBb _⟩
      have hf : Fr w1 w2 (fun k => k = B) := ⟨hbb.os, hbb.tape, hbb.output, hbb.size, fun k hk _ => hbb.block k hk⟩
      exact hf.set (a := ⟨B, o, none⟩) (.inl rfl) _
    have HT := Lib.hid hT
    have HFF := Lib.hid hF
    have HGG := Lib.hid hG
    have H5 := Lib.hid r5
    have HB0 := Lib.hid hb0
    have HNB := Lib.hid nB1
    have HED := Lib.hid hD
    have HEE := Lib.hid hE
    have HRR := Lib.hid hr
    clear hb1 hb0 hT hF hG r5 hs0 nB1 hr hr1 hD hE hEs hL hst hcnt
    go_wp2
    go_cut [] (fun wx => Fr w1 wx (fun k => k = B) ∧ wx.heap[B]? = some (.cells (cs.setIfInBounds o (.string E)) ty (0, 0)))
    case first =>
      go_region_with (go_at_call 81; refine (hclo _).mono ?_; rintro e w2 ⟨rfl, k1, k2, k3⟩)
      all_goals
        go_wp2_with fail
        go_meet
        exact k3.out
    case rest =>
      obtain ⟨F2, B2⟩ := hcut
      have hT := HT.out
      have hAlt : A < w1.heap.size := hT.lt A hT.covA
      have hA2 : wc.heap[A]? = some (.cells (tpC s1 rv) 132 (0, 0)) := (F2.block A hAlt nBA).trans hT.ob
      have hT2 : Tv wc A S1 s1 rv := hT.like (fun k hk => F2.block k (hT.lt k hk) (fun e => HNB.out (e ▸ hk))) F2.size
      have u2 : wc.cell? ⟨A, 2, none⟩ = some (.string st) := by
        rw [cell_blk hA2, ← cell_blk hT.ob]
        exact t2
      have f2 : wc.frozen? ⟨A, 2, none⟩ = false := frozen_blk hA2 2
      have hNlt : w.heap.size < w1.heap.size := by
        have : ∃ o, w1.heap[w.heap.size]? = some o := by
          rcases hq : w1.heap[w.heap.size]? with _ | o
          · simp [World.cell?, hq] at cm
          · exact ⟨o, rfl⟩
        obtain ⟨ob, hob⟩ := this
        exact blk_lt hob
      have un : wc.cell? ⟨w.heap.size, 0, none⟩ = some (.int .i64 c) := (World.cell?_of_block (F2.block _ hNlt (fun e => by have e' : w.heap.size = B := e; omega))).trans cm
      have hGot := hT2.rest (s1.rest.drop c)
      rw [HED.out] at hGot
      have hpost : Post w (wc.setCell ⟨A, 2, none⟩ (.string D)) A S s B o [.text] [.text str] := by
        obtain ⟨z1, z2, z3, z4, _⟩ := hGot
        have hF := HFF.out
        have hG := HGG.out
        have hzz := F2.size
        have hz1 := hF.size
        refine Post.fin HH.out HB0.out z1 (fun k hk => ?_) ?_ ((z4 B nBA.symm).trans B2) ⟨_, rfl⟩ HRR.out ?_
        · rcases hG k hk with q | q
          · exact .inl q
          · exact .inr ⟨q.1, by omega⟩
        · refine ((hF.mono (fun _ q => .inl q)).step F2 (fun k hk => .inl (.inr hk))).step z2 (fun k hk => ?_)
          rcases hG k hk with q | q
          · exact .inl (.inl q)
          · exact .inr q.1
        · rcases H5.out with ⟨_, c', r, q1, q2, q3, q⟩ | ⟨_, q1, q2, q⟩
          · have ec : c = c' := by omega
            subst ec
            refine .inl ⟨.text E, r.drop c, ?_, ?_, ?_, by simp only [At.lies]⟩
            · simp only [Ty.has]
              rw [← HEE.out, txt_list, q, List.length_take]
              show min c r.length ≤ _
              have := HH.out.lenR
              rw [q3, List.length_append] at this
              omega
            · simp only [At.enc]
              rw [← HEE.out, txt_list, q]
              show s.rest = num _ ++ List.take c r ++ List.drop c r
              rw [List.length_take, Nat.min_eq_left q2, List.append_assoc, List.take_append_drop]
              exact q3
            · rw [q]
          · refine .inr ⟨text_no q2, ?_⟩
            rw [q]
            simp
      have HP := Lib.hid hpost
      clear hpost hGot hT hT2 hA2 B2 F2 hNlt
      go_wp2
      go_region
      all_goals
        go_wp2
        refine bodyPost_ret (results_none rfl _ _ _) rfl ?_
        exact ⟨rfl, HP.out.drew⟩
end
end Go.Proofs.Ytjhgmncmcklnkaa
