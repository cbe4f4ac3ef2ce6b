/- The document's comparison of lists of messages, of what is the same. -/
import Derived.Test.YtmiagjcihmenfaaWk
namespace Go.Proofs.Ytmiagjcihmenfaa
open Go.RowKit

theorem msC_cons (p : Ms × Value) (O : List (Ms × Value)) : msC (p :: O) = [.int .i64 p.1.kind, .int .i64 p.1.fr, .int .i64 p.1.tgt, .int .i64 p.1.term, .int .i64 p.1.index, .int .i64 p.1.prev, .int .i64 p.1.commit, .bool p.1.good, p.2, .string p.1.snap] ++ msC O := by simp [msC]
theorem msC_get (O : List (Ms × Value)) : ∀ (k : Nat) (h : k < O.length), (msC O)[k * 10]? = some (.int .i64 O[k].1.kind) ∧ (msC O)[k * 10 + 1]? = some (.int .i64 O[k].1.fr) ∧ (msC O)[k * 10 + 2]? = some (.int .i64 O[k].1.tgt) ∧ (msC O)[k * 10 + 3]? = some (.int .i64 O[k].1.term) ∧ (msC O)[k * 10 + 4]? = some (.int .i64 O[k].1.index) ∧ (msC O)[k * 10 + 5]? = some (.int .i64 O[k].1.prev) ∧ (msC O)[k * 10 + 6]? = some (.int .i64 O[k].1.commit) ∧ (msC O)[k * 10 + 7]? = some (.bool O[k].1.good) ∧ (msC O)[k * 10 + 8]? = some (O[k].2) ∧ (msC O)[k * 10 + 9]? = some (.string O[k].1.snap) := by
  induction O with
  | nil => intro k h; simp at h
  | cons p O ih =>
    intro k h
    rw [msC_cons]
    cases k with
    | zero => simp
    | succ k =>
      have hk : k < O.length := by simpa using h
      have q := ih k hk
      simp only [List.getElem_cons_succ]
      have e : ∀ j, ([.int .i64 p.1.kind, .int .i64 p.1.fr, .int .i64 p.1.tgt, .int .i64 p.1.term, .int .i64 p.1.index, .int .i64 p.1.prev, .int .i64 p.1.commit, .bool p.1.good, p.2, .string p.1.snap] ++ msC O)[(k + 1) * 10 + j]? = (msC O)[k * 10 + j]? := by
        intro j
        rw [List.getElem?_append_right (by simp; omega)]
        congr 1
        simp
        omega
      refine ⟨(e 0).trans q.1, (e 1).trans q.2.1, (e 2).trans q.2.2.1, (e 3).trans q.2.2.2.1, (e 4).trans q.2.2.2.2.1, (e 5).trans q.2.2.2.2.2.1, (e 6).trans q.2.2.2.2.2.2.1, (e 7).trans q.2.2.2.2.2.2.2.1, (e 8).trans q.2.2.2.2.2.2.2.2.1, (e 9).trans q.2.2.2.2.2.2.2.2.2⟩
section
variable {w w' W V : World} {A : Nat} {S T : Nat → Prop} {b c : Bs}
theorem own_msgs {O : List (Ms × Value)} {B cap k : Nat} {ad : Option Addr} (h : w.ownsRow B 34 10 (.slice ad O.length cap) O.length (msC O)) (hk : k < O.length) : ∃ g, ad = some ⟨g, 0, none⟩ ∧ w.cell? ⟨g, k * 10, none⟩ = some (.int .i64 O[k].1.kind) ∧ w.cell? ⟨g, k * 10 + 1, none⟩ = some (.int .i64 O[k].1.fr) ∧ w.cell? ⟨g, k * 10 + 2, none⟩ = some (.int .i64 O[k].1.tgt) ∧ w.cell? ⟨g, k * 10 + 3, none⟩ = some (.int .i64 O[k].1.term) ∧ w.cell? ⟨g, k * 10 + 4, none⟩ = some (.int .i64 O[k].1.index) ∧ w.cell? ⟨g, k * 10 + 5, none⟩ = some (.int .i64 O[k].1.prev) ∧ w.cell? ⟨g, k * 10 + 6, none⟩ = some (.int .i64 O[k].1.commit) ∧ w.cell? ⟨g, k * 10 + 7, none⟩ = some (.bool O[k].1.good) ∧ w.cell? ⟨g, k * 10 + 8, none⟩ = some (O[k].2) ∧ w.cell? ⟨g, k * 10 + 9, none⟩ = some (.string O[k].1.snap) := by
  have h' := h
  rcases h.2 with ⟨hv, h0⟩ | ⟨g, cap', cur, hv, hg, hc, h1, h2, hr⟩
  · omega
  · cases hv
    have q := msC_get O k hk
    exact ⟨g, rfl, (h'.cellAt _ (by omega)).trans q.1, (h'.cellAt _ (by omega)).trans q.2.1, (h'.cellAt _ (by omega)).trans q.2.2.1, (h'.cellAt _ (by omega)).trans q.2.2.2.1, (h'.cellAt _ (by omega)).trans q.2.2.2.2.1, (h'.cellAt _ (by omega)).trans q.2.2.2.2.2.1, (h'.cellAt _ (by omega)).trans q.2.2.2.2.2.2.1, (h'.cellAt _ (by omega)).trans q.2.2.2.2.2.2.2.1, (h'.cellAt _ (by omega)).trans q.2.2.2.2.2.2.2.2.1, (h'.cellAt _ (by omega)).trans q.2.2.2.2.2.2.2.2.2⟩
theorem own_len {O : List (Ms × Value)} {B cap : Nat} {ad : Option Addr} (h : w.ownsRow B 34 10 (.slice ad O.length cap) O.length (msC O)) : (O.length : Int) ≤ 9223372036854775807 := by
  rcases h.2 with ⟨hv, h0⟩ | ⟨g, cap', cur, hv, hg, hc, h1, h2, hr⟩
  · omega
  · unfold maxLen at h2; omega
set_option maxHeartbeats 4000000 in
set_option maxRecDepth 100000 in
theorem msgs_same {O O2 : List (Ms × Value)} {B B2 cap cap2 : Nat} {ad ad2 : Option Addr} (h1 : w.ownsRow B 34 10 (.slice ad O.length cap) O.length (msC O)) (l1 : ∀ p ∈ O, Es w S p.1.list p.2) (h2 : w.ownsRow B2 34 10 (.slice ad2 O2.length cap2) O2.length (msC O2)) (l2 : ∀ p ∈ O2, Es w T p.1.list p.2) (hm : O.map Prod.fst = O2.map Prod.fst) : Calls Try.prog 15 #[.slice ad O.length cap, .slice ad2 O2.length cap2] w fun e w' => e = .returned (.bool true) ∧ Below w.heap.size w w' := by
  have hlen : O.length = O2.length := by have := congrArg List.length hm; simpa using this
  have hml := own_len h1
  have hlI : ((O.length : Int) == (O2.length : Int)) = true := by rw [hlen]; simp
  have H1 := Lib.hid h1
  have H2 := Lib.hid h2
  have L1 := Lib.hid l1
  have L2 := Lib.hid l2
  have HM := Lib.hid hm
  have HL := Lib.hid hlen
  clear h1 h2 l1 l2 hm
  obtain ⟨N2, hN2⟩ : ∃ N2, O2.length = N2 := ⟨_, rfl⟩
  have HN2 := Lib.hid hN2
  rw [hN2] at hlen hlI ⊢
  clear hN2
  subst hlen
  go_enter Try.func15, Try.ntmps15
  go_wp2
  go_loopw [5] (fun iv wr => ∃ k : Nat, k ≤ O.length ∧ iv = .int .i64 (k : Int) ∧ Below w.heap.size w wr) (fun iv _ => O.length - (intOf iv).toNat)
  case atStart => exact ⟨0, Nat.zero_le _, rfl, Below.refl _ _⟩
  case round =>
    obtain ⟨k, hk, rfl, bw⟩ := hrel
    have HBW := Lib.hid bw
    by_cases hkl : k < O.length
    · have hk2 : k < O2.length := by rw [HN2.out]; exact hkl
      have h2' : wr.ownsRow B2 34 10 (.slice ad2 O2.length cap2) O2.length (msC O2) := by
        have := own_below H2.out bw
        rw [HN2.out] at this ⊢
        exact this
      obtain ⟨g1, e1, x0, x1, x2, x3, x4, x5, x6, x7, x8, x9⟩ := own_msgs (own_below H1.out bw) hkl
      obtain ⟨g2, e2, y0, y1, y2, y3, y4, y5, y6, y7, y8, y9⟩ := own_msgs h2' hk2
      have s1 := (L1.out O[k] (List.getElem_mem hkl)).on bw
      have s2 := (L2.out O2[k] (List.getElem_mem hk2)).on bw
      have em : O2[k].1 = O[k].1 := by
        have := congrArg (fun l => l[k]?) HM.out
        simp only [List.getElem?_map, List.getElem?_eq_getElem hkl, List.getElem?_eq_getElem hk2, Option.map_some, Option.some.injEq] at this
        exact this.symm
      rw [em] at s2 y0 y1 y2 y3 y4 y5 y6 y7 y9
      generalize O[k].1 = m at s1 s2 x0 y0 x1 y1 x2 y2 x3 y3 x4 y4 x5 y5 x6 y6 x7 y7 x9 y9
      generalize O[k].2 = v1 at s1 x8
      generalize O2[k].2 = v2 at s2 y8
      obtain ⟨ad8, cap8, rfl, _, _⟩ := s1.shape
      obtain ⟨ad9, cap9, rfl, _, _⟩ := s2.shape
      have hcall : ∀ X, Below wr.heap.size wr X → Hid (Calls Try.prog 37 #[msV m (.slice ad8 m.list.length cap8), msV m (.slice ad9 m.list.length cap9)] X fun e w' => e = .returned (.bool true) ∧ Below w.heap.size w w') := by
        intro X hX
        refine (msg_same m (s1.on hX) (s2.on hX)).mono ?_
        rintro e w' ⟨rfl, q⟩
        have hwX := HBW.out.trans (hX.mono HBW.out.size)
        exact ⟨rfl, hwX.trans (q.mono hwX.size)⟩
      have k0 : (0 : Int) ≤ (k : Int) := by omega
      have k1 : (k : Int) < (O.length : Int) := by omega
      have HCA := Lib.hid hcall
      subst e1 e2
      have hc0 := (hcall wr.drew ⟨rfl, rfl, rfl, Nat.le_refl _, fun _ _ => rfl⟩).out
      clear bw h2' s1 s2 em hcall hk2
      go_wp2_with fail
      go_cut [26] from 11 to 26 (fun v wx => v = .bool false ∧ Below w.heap.size w wx)
      case first =>
        go_region_with (go_at_call 37; refine hc0.mono ?_; rintro e7 w7 ⟨rfl, q7⟩)
        all_goals
          have HQ7 := Lib.hid q7
          clear q7
          go_wp2_with fail
          go_meet
          exact ⟨rfl, HQ7.out⟩
      case rest =>
        obtain ⟨rfl, hbc⟩ := hcut
        have HBC := Lib.hid hbc
        clear hbc hc0 x0 y0 x1 y1 x2 y2 x3 y3 x4 y4 x5 y5 x6 y6 x7 y7 x8 y8 x9 y9
        go_wp2_with fail
        go_roundw
        case rel => exact ⟨k + 1, by omega, by go_num, HBC.out⟩
        case measure => simp [intOf]; omega
    · have k1 : ¬ (k : Int) < (O.length : Int) := by omega
      clear bw
      go_wp2
      go_ret
      exact ⟨rfl, HBW.out⟩
end
end Go.Proofs.Ytmiagjcihmenfaa
