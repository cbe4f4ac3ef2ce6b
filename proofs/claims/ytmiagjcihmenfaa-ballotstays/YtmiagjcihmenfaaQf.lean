/- The walk of the program's write. -/
import Derived.Test.YtmiagjcihmenfaaQe
namespace Go.Proofs.Ytmiagjcihmenfaa
open Go.RowKit

section
variable {w w' : World} {A : Nat} {S T : Nat → Prop} {b : Bs} {lv : Value} {pf : Int}
/-- Worlds that differ in what was drawn alone. -/
def Sp (w V : World) : Prop := V.heap = w.heap ∧ V.os = w.os ∧ V.tape = w.tape ∧ V.output = w.output
theorem Sp.below {w V : World} (h : Sp w V) : Below w.heap.size w V := ⟨h.2.1, h.2.2.1, h.2.2.2, by rw [h.1]; exact Nat.le_refl _, fun k _ => by rw [h.1]⟩
theorem Ou.cat {B B' : Nat} {O O2 : List (Ms × Value)} {ov : Value} {ad2 : Option Addr} {cap2 : Nat} (h : Ou w B O ov) (h2 : Ou w B' O2 (.slice ad2 O2.length cap2)) (hB : B ≤ w.heap.size) (hBB : B ≤ B') (hf : O.length + O2.length < 900000) : ∃ ad cap w', (Builtin.append_ #[37, 37] 37 #[ov, .slice ad2 O2.length cap2]).run Try.prog w = .ok (.slice ad (O.length + O2.length) cap) w' ∧ Ou w' B (O ++ O2) (.slice ad (O.length + O2.length) cap) ∧ Fr w w' (fun k => B ≤ k) := by
  have h2' := h2.mono hBB
  have keepL : ∀ w', w.grownBy w' ov.ownBlock → ∀ q : Value, ∀ n xs, w.ownsRow B 49 4 q n xs → w'.ownsRow B 49 4 q n xs := by
    intro w' hg q n xs hq
    refine own_like hq (fun k hk => hg.block k (hq.lt k hk).2 (fun e => ?_))
    obtain ⟨c1, t1⟩ := own_tag2 hq k hk
    obtain ⟨c2, t2⟩ := own_tag2 h.own k e.symm
    exact tag_ne t1 t2 (by decide) rfl
  have fin : ∀ v' w', (Builtin.append_ #[37, 37] 37 #[ov, .slice ad2 O2.length cap2]).run Try.prog w = .ok v' w' → w'.ownsRow B 34 10 v' (O.length + O2.length) (msC O ++ msC O2) → w.grownBy w' ov.ownBlock → ∃ ad cap w', (Builtin.append_ #[37, 37] 37 #[ov, .slice ad2 O2.length cap2]).run Try.prog w = .ok (.slice ad (O.length + O2.length) cap) w' ∧ Ou w' B (O ++ O2) (.slice ad (O.length + O2.length) cap) ∧ Fr w w' (fun k => B ≤ k) := by
    intro v' w' hrun ho hg
    obtain ⟨ad, cap, rfl⟩ := own_shape ho
    refine ⟨ad, cap, w', hrun, ⟨by rw [List.length_append, msC_append]; exact ho, fun p hp => ?_⟩, Fr.grown (Fr.refl w _) hg (fun k hk => .inl (h.own.lt k hk).1)⟩
    rcases List.mem_append.1 hp with hp | hp
    · exact keepL w' hg _ _ _ (h.ls p hp)
    · exact keepL w' hg _ _ _ (h2'.ls p hp)
  obtain ⟨i0, hi, hz0, hz1, hz2⟩ := info_parts infoMs
  cases ad2 with
  | none =>
    have hO2 : O2 = [] := by
      rcases h2.own.2 with ⟨_, h0⟩ | ⟨g, cap, cur, hv, _⟩
      · exact List.eq_nil_of_length_eq_zero h0
      · cases hv
    have hcap : cap2 = 0 := by
      rcases h2.own.2 with ⟨hv, _⟩ | ⟨g, cap, cur, hv, _⟩
      · simp at hv; exact hv.2
      · cases hv
    subst hO2
    subst hcap
    refine fin ov w ?_ (by simpa [msC] using h.own) ⟨rfl, rfl, rfl, Nat.le_refl _, fun _ _ _ => rfl⟩
    exact run_append_owned_none (P := Try.prog) (w := w) B 37 37 34 i0 10 Try.underlying37 hi ov O.length (msC O) h.own
  | some a =>
    have hsrc : ∀ j u, (msC O2)[j]? = some u → w.cell? (a.add j) = some u := by
      intro j u hu
      have hj : j < O2.length * 10 := by
        have := (List.getElem?_eq_some_iff.1 hu).1
        rwa [msC_len] at this
      rcases h2.own.2 with ⟨hv, _⟩ | ⟨g, cap, cur, hv, _⟩
      · cases hv
      · cases hv
        rw [add_at, Nat.zero_add]
        exact (h2.own.cellAt j hj).trans hu
    have hone : ∀ u ∈ msC O2, u.oneCell' = true := by
      intro u hu
      obtain ⟨p, hp, hu2⟩ := List.mem_flatMap.1 hu
      obtain ⟨la, lc, hl⟩ := own_shape (h2.ls p hp)
      simp only [hl] at hu2
      simp at hu2
      rcases hu2 with rfl | rfl | rfl | rfl | rfl | rfl | rfl | rfl | rfl | rfl <;> rfl
    obtain ⟨v', w', hrun, ho, hg, _⟩ := msgs_run (a := a) (m := O2.length) (c := cap2) (news := msC O2) h.own hB (msC_len O2) hsrc hone (by omega)
    exact fin v' w' hrun ho hg
theorem feeds_len (b : Bs) : b.feeds.length ≤ b.size := oth_len _ _ _
theorem settleM_len (b : Bs) : b.settleM.length ≤ b.size := by
  unfold Bs.settleM
  split
  · exact oth_len _ _ _
  · simp
theorem Ld.put {e : En} (h : b.Ld) (hb : b.base ≤ b.last) : (b.put (b.last + 1) [e]).Ld := by
  have hl : (b.put (b.last + 1) [e]).last = b.last + 1 := by
    rw [Bs.put_last _ (by omega) (by omega)]
    simp
  refine ⟨fun k hk => ?_, fun k hk => ?_, h.lo⟩
  · rw [hl]
    have := h.nx k hk
    show b.next.getD k 0 ≤ _
    omega
  · rw [hl]
    have := h.mt k hk
    show b.mat.getD k 0 ≤ _
    omega
set_option maxHeartbeats 1000000 in
set_option maxRecDepth 100000 in
theorem write_p (h : Pb w A S b) (hI : b.Inv) (hld : b.Ld) (hz : b.log.length + 1 ≤ 900000) (e : En) : Calls Try.prog 51 #[.pointer (some ⟨A, 0, none⟩), enV e] w fun e' w' => ∃ ov, e' = .returned ov ∧ Po w w' A S (b.put (b.last + 1) [e]).settleC ((b.put (b.last + 1) [e]).feeds ++ (b.put (b.last + 1) [e]).settleM) ov := by
  obtain ⟨l1, b0, b1⟩ := h.len
  have hll : b.last ≤ 4398047411104 ∧ 0 ≤ b.last := by unfold Bs.last; omega
  have hS := h.lt
  have hbl : b.base ≤ b.last := by unfold Bs.last; omega
  obtain ⟨X, hX⟩ : ∃ X, b.put (b.last + 1) [e] = X := ⟨_, rfl⟩
  have hXI : X.Inv := by rw [← hX]; exact (Bs.put_stays [e] hI (by have := hI.cl; omega) (Int.le_refl _) (.inl rfl)).2
  have hXL : X.Ld := by rw [← hX]; exact Ld.put hld hbl
  have hXs : X.size ≤ 5 := hXI.sz
  rw [hX]
  obtain ⟨L1, hL1⟩ : ∃ L1, b.last + 1 = L1 := ⟨_, rfl⟩
  have hw1 : IntKind.i64.wrap (b.last + 1) = L1 := by rw [IntKind.wrap_i64]; omega
  have hb0 : Below w.heap.size w (w.alloc (enO e)) := (Below.refl _ w).alloc (Nat.le_refl _) _
  obtain ⟨W, hW⟩ : ∃ W, W = w.alloc (enO e) := ⟨_, rfl⟩
  have hbW : Below w.heap.size w W := by rw [hW]; exact hb0
  have hPW := h.on hbW
  have hsz : W.heap.size = w.heap.size + 1 := by rw [hW]; simp
  have hbe : W.heap[w.heap.size]? = some (enO e) := by rw [hW]; exact heap_alloc_new w _
  have e0 : W.cell? ⟨w.heap.size, 0, none⟩ = some (.int .i64 e.term) := cell_blk hbe 0
  have e1 : W.cell? ⟨w.heap.size, 1, none⟩ = some (.int .i64 e.at') := cell_blk hbe 1
  have e2 : W.cell? ⟨w.heap.size, 2, none⟩ = some (.int .i64 e.born) := cell_blk hbe 2
  have e3 : W.cell? ⟨w.heap.size, 3, none⟩ = some (.string e.text) := cell_blk hbe 3
  have hal : Below W.heap.size W (W.alloc (enO e)) := (Below.refl _ W).alloc (Nat.le_refl _) _
  have hput : ∀ V, Sp (W.alloc (enO e)) V → Calls Try.prog 70 #[.pointer (some ⟨A, 0, none⟩), .int .i64 L1, .slice (some ⟨W.heap.size, 0, none⟩) 1 1] V fun e' w' => e' = .returned (.tuple #[]) ∧ Pt w w' A S X := by
    intro V hV
    have hb2 := hal.trans (hV.below.mono hal.size)
    have hb3 := hbW.trans (hb2.mono hbW.size)
    have hes : Es V S [e] (.slice (some ⟨W.heap.size, 0, none⟩) 1 1) := by
      refine ⟨some ⟨W.heap.size, 0, none⟩, 1, rfl, fun q => (by cases q), Nat.le_refl _, (by unfold maxLen; omega), fun i hi => ?_⟩
      have hi0 : i = 0 := by simp at hi; omega
      subst hi0
      have hblk : V.heap[W.heap.size]? = some (enO e) := by rw [hV.1]; exact heap_alloc_new W _
      refine ⟨W.heap.size, 0, rfl, blk_lt hblk, fun q => ?_, ?_, ?_, ?_, ?_⟩
      · have := hS _ q
        omega
      all_goals (rw [cell_blk hblk]; rfl)
    refine (put_p (i := L1) (l := [e]) (h.on hb3) (by omega) (by omega) hes (by simp; omega)).mono ?_
    rintro e' w' ⟨rfl, hT⟩
    refine ⟨rfl, ?_⟩
    rw [← hX, hL1]
    exact Pt.from hb3 hT
  have hPW2 := hPW.on hal
  obtain ⟨lvW, pfW, hvW⟩ := hPW
  obtain ⟨lvX, pfX, hvX⟩ := hPW2
  have c5 : W.cell? ⟨A, 5, none⟩ = some (.int .i64 b.last) := hvW.cell 5
  have x5 : (W.alloc (.cells #[.int .i64 e.term, .int .i64 e.at', .int .i64 e.born, .string e.text] 49)).cell? ⟨A, 5, none⟩ = some (.int .i64 b.last) := hvX.cell 5
  have hmf : ∀ (fn : Fn) (first cap : Array Value) (w : World), (Instr.makeFunc fn first cap).run Try.prog w = .ok (.func fn first cap) w := fun _ _ _ _ => rfl
  have HWW : Hid (W = w.alloc (.cells #[.int .i64 e.term, .int .i64 e.at', .int .i64 e.born, .string e.text] 49)) := hW
  have HXI := Lib.hid hXI
  have HXL := Lib.hid hXL
  have HSS := Lib.hid hS
  clear hX hXI hXL hL1 hvW hvX hal hb0 hbW hbe hW hI hld h hS hsz
  go_enter Try.func51, Try.ntmps51
  go_wp2
  rw [← HWW.out]
  go_cut [] (fun wx => Pt w wx A S X)
  case first =>
    go_region_with (go_at_call 70; refine (hput _ (by exact ⟨rfl, rfl, rfl, rfl⟩)).mono ?_; rintro e8 w8 ⟨rfl, h8⟩)
    all_goals
      go_wp2_with fail
      go_meet
      exact h8
  case rest =>
    obtain ⟨S1, k1, k2, k3⟩ := hcut
    have hS1 := k1.lt
    have hfe := feeds_p k1 HXL.out
    clear hput c5 x5 e0 e1 e2 e3
    go_wp2_with fail
    refine hfe.mono ?_
    rintro e7 w7 ⟨ov7, rfl, O7, q1, q2, q3⟩
    clear hfe
    have k7 := k1.on q3
    have hse := settle_p k7 HXL.out HXI.out.bc HXI.out.cl
    go_wp2_with fail
    refine hse.mono ?_
    rintro e6 w6 ⟨ov6, rfl, r1, r2, O6, r3, r4⟩
    clear hse
    have hS7 := fun k hk => Nat.lt_of_lt_of_le (hS1 k hk) q3.size
    have l7 : O7.length ≤ X.size := by rw [← List.length_map (f := Prod.fst), q1]; exact feeds_len X
    have l6 : O6.length ≤ X.size := by rw [← List.length_map (f := Prod.fst), r3]; exact settleM_len X
    have hq2 : Ou w6 wc.heap.size O7 ov7 := ⟨row_keep q2.own r2 (fun j hj q => by have := hS1 j q; have := (q2.own.lt j hj).1; omega), fun p hp => row_keep (q2.ls p hp) r2 (fun j hj q => by have := hS1 j q; have := ((q2.ls p hp).lt j hj).1; omega)⟩
    obtain ⟨ad6, cap6, rfl⟩ := own_shape r4.own
    obtain ⟨ad7, cap7, rfl⟩ := own_shape q2.own
    obtain ⟨ad5, cap5, w5, hrun, t1, t2⟩ := Ou.cat hq2 r4 (Nat.le_trans q3.size r2.size) q3.size (by omega)
    have hfin : Po w w5 A S X.settleC (X.feeds ++ X.settleM) (.slice ad5 (O7.length + O6.length) cap5) := by
      refine Po.comb k2 k3 ⟨S1, wc.heap.size, O7 ++ O6, r1.stays t2 (fun k hk q => by have := hS1 k hk; omega), fun _ q => .inl q, ?_, Nat.le_refl _, hS1, by rw [List.map_append, q1, r3], t1⟩
      exact ((Fr.ofBelow S1 q3).trans r2).step t2 (fun k q => .inr q)
    have HF := Lib.hid hfin
    clear hfin t1 t2 hq2 r1 r2 r3 r4 q1 q2 q3 k1 k2 k3 k7
    go_wp2_with (at_builtin; refine wpl_run2 _ _ rfl (by simp [Act.eval]) (by simp [Act.eval]) hrun ?_)
    go_ret
    exact ⟨_, rfl, HF.out⟩
end
end Go.Proofs.Ytmiagjcihmenfaa
