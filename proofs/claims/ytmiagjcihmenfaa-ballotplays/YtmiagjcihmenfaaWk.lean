/- The document's comparisons, of what is the same. -/
import Derived.Test.YtmiagjcihmenfaaWj
namespace Go.Proofs.Ytmiagjcihmenfaa
open Go.RowKit

section
variable {w w' W V : World} {A : Nat} {S T : Nat → Prop} {b c : Bs}
theorem Es.cells {L : List En} {ad : Option Addr} {cap k : Nat} (h : Es w S L (.slice ad L.length cap)) (hk : k < L.length) : ∃ bk of, ad = some ⟨bk, of, none⟩ ∧ w.cell? ⟨bk, of + k * 4, none⟩ = some (.int .i64 L[k].term) ∧ w.cell? ⟨bk, of + k * 4 + 1, none⟩ = some (.int .i64 L[k].at') ∧ w.cell? ⟨bk, of + k * 4 + 2, none⟩ = some (.int .i64 L[k].born) ∧ w.cell? ⟨bk, of + k * 4 + 3, none⟩ = some (.string L[k].text) := by
  obtain ⟨_, _, e, _, _, _, h3⟩ := h
  cases e
  obtain ⟨bk, of, rfl, _, _, c0, c1, c2, c3⟩ := h3 k hk
  exact ⟨bk, of, rfl, c0, c1, c2, c3⟩
set_option maxHeartbeats 4000000 in
set_option maxRecDepth 100000 in
theorem ents_same {L : List En} {ad ad2 : Option Addr} {cap cap2 : Nat} (ha : Es w S L (.slice ad L.length cap)) (hb : Es w T L (.slice ad2 L.length cap2)) : Calls Try.prog 40 #[.slice ad L.length cap, .slice ad2 L.length cap2] w fun e w' => e = .returned (.bool true) ∧ ∃ n, w' = w.drewN n := by
  have hml : (L.length : Int) ≤ 9223372036854775807 := by
    obtain ⟨_, _, e, h1, h2⟩ := ha.shape
    cases e
    unfold maxLen at h2
    omega
  have HA := Lib.hid ha
  have HB := Lib.hid hb
  clear ha hb
  go_enter Try.func40, Try.ntmps40
  go_wp2
  go_loopw [5] (fun iv wr => ∃ k n : Nat, k ≤ L.length ∧ iv = .int .i64 (k : Int) ∧ wr = w.drewN n) (fun iv _ => L.length - (intOf iv).toNat)
  case atStart => exact ⟨0, 0, Nat.zero_le _, rfl, rfl⟩
  case round =>
    obtain ⟨k, n, hk, rfl, hwr⟩ := hrel
    have bw : Below w.heap.size w wr := by rw [hwr]; exact below_draw (Below.refl w.heap.size w) n
    by_cases hkl : k < L.length
    · obtain ⟨b1, o1, e1, x0, x1, x2, x3⟩ := (HA.out.on bw).cells hkl
      obtain ⟨b2, o2, e2, y0, y1, y2, y3⟩ := (HB.out.on bw).cells hkl
      generalize L[k] = E at x0 x1 x2 x3 y0 y1 y2 y3
      have k0 : (0 : Int) ≤ (k : Int) := by omega
      have k1 : (k : Int) < (L.length : Int) := by omega
      have HWR := Lib.hid hwr
      subst e1 e2
      clear bw hwr
      go_wp2_with fail
      go_cut [25] from 11 to 25 (fun v wx => v = .bool false ∧ ∃ n, wx = wr.drewN n)
      case first =>
        go_quiet (fail)
        go_wp2_with fail
        go_meet
        exact ⟨by first | rfl | simp, _, rfl⟩
      case rest =>
        obtain ⟨rfl, n2, hwc⟩ := hcut
        have HWC := Lib.hid hwc
        clear hwc x0 x1 x2 x3 y0 y1 y2 y3
        go_wp2_with fail
        go_roundw
        case rel => exact ⟨k + 1, n + n2, by omega, by go_num, by rw [HWC.out, HWR.out]; exact World.drewN_drewN ..⟩
        case measure => simp [intOf]; omega
    · have k1 : ¬ (k : Int) < (L.length : Int) := by omega
      have HWR := Lib.hid hwr
      clear bw hwr
      go_wp2
      go_ret
      exact ⟨rfl, _, HWR.out⟩
set_option maxHeartbeats 4000000 in
set_option maxRecDepth 100000 in
theorem msg_same (m : Ms) {ad ad2 : Option Addr} {cap cap2 : Nat} (ha : Es w S m.list (.slice ad m.list.length cap)) (hb : Es w T m.list (.slice ad2 m.list.length cap2)) : Calls Try.prog 37 #[msV m (.slice ad m.list.length cap), msV m (.slice ad2 m.list.length cap2)] w fun e w' => e = .returned (.bool true) ∧ Below w.heap.size w w' := by
  obtain ⟨W, hW⟩ : ∃ W, W = (w.alloc (.cells (msCs m (.slice ad m.list.length cap)) 34)).alloc (.cells (msCs m (.slice ad2 m.list.length cap2)) 34) := ⟨_, rfl⟩
  have hb1 : Below w.heap.size w (w.alloc (.cells (msCs m (.slice ad m.list.length cap)) 34)) := (Below.refl _ w).alloc (Nat.le_refl _) _
  have hb2 : Below w.heap.size w W := by rw [hW]; exact hb1.alloc hb1.size _
  have he : Calls Try.prog 40 #[.slice ad m.list.length cap, .slice ad2 m.list.length cap2] W fun e w' => e = .returned (.bool true) ∧ Below w.heap.size w w' := by
    refine (ents_same (ha.on hb2) (hb.on hb2)).mono ?_
    rintro e w' ⟨rfl, n, rfl⟩
    exact ⟨rfl, hb2.trans ((below_draw (Below.refl W.heap.size W) n).mono hb2.size)⟩
  rw [hW] at he
  clear hW hb1 hb2 ha hb
  go_enter Try.func37, Try.ntmps37
  go_wp2_with fail
  refine he.mono ?_
  rintro e w1 ⟨rfl, q⟩
  have HQ := Lib.hid q
  clear he q
  go_wp2
  go_ret
  exact ⟨rfl, HQ.out⟩
end
end Go.Proofs.Ytmiagjcihmenfaa
