/- The walk of the statement StripScans, where the text is not too long for its records' list. -/
import Derived.Test.YtjndlmeaddoccaaWg
namespace Go.Proofs.Ytjndlmeaddoccaa
open Go.RowKit

theorem own_form {w : World} {base size n : Nat} {e : TypeId} {v : Value} {xs : List Value} (h : w.ownsRow base e size v n xs) (hn : 0 < n) : ∃ g cap, v = .slice (some ⟨g, 0, none⟩) n cap := by
  rcases h.2 with ⟨_, h0⟩ | ⟨g, cap, _, hv, _⟩
  · omega
  · exact ⟨g, cap, hv⟩
/-- One text, scanned twice, tells one list. -/
theorem scans_same {s : List UInt8} {ps qs : List ByteArray} {m n : Nat} (h : Scans s (lists ps) m) (h' : Scans s (lists qs) n) : ps = qs ∧ m = n := by
  obtain ⟨a, b⟩ := scans_one h h'
  exact ⟨lists_inj a, b⟩

set_option maxHeartbeats 2000000 in
set_option maxRecDepth 100000 in
theorem scans_any (s : ByteArray) (w : World) (hs : s.size ≤ 1000000000000) :
    Calls Try.prog 5 #[.string s] w fun e w' => e = .returned (.bool true) ∧ Below w.heap.size w w' := by
  go_enter Try.func5, Try.ntmps5
  go_wp2_with (go_at_call 14; refine (scan_any s _ hs).mono ?_; rintro e w1 ⟨va, ps, n, rfl, ha, hsa, hn, hcount, hb1⟩; refine Hid.out ?_)
  refine Lib.hid ?_
  go_wp2_with (go_at_call 15; refine (refScan_any s _ hs).mono ?_; rintro e w2 ⟨vb, qs, m, rfl, hB, hsb, _, _, hb2⟩; refine Hid.out ?_)
  obtain ⟨rfl, rfl⟩ := scans_same hsa hsb
  clear hsb
  refine Lib.hid ?_
  go_wp2_with (go_at_call 14; refine (scan_any s _ hs).mono ?_; rintro e w3 ⟨vc, rs, m, rfl, hC, hsc, _, _, hb3⟩; refine Hid.out ?_)
  obtain ⟨rfl, rfl⟩ := scans_same hsa hsc
  clear hsc hsa
  refine Lib.hid ?_
  go_wp2_with (go_at_call 9; refine (awake_any _).mono ?_; rintro e w4 ⟨rfl, hb4⟩; refine Hid.out ?_)
  have z1 := hb1.size
  have z2 := hb2.size
  have z3 := hb3.size
  have z4 := hb4.size
  have ha4 := own_below (own_below (own_below ha hb2) hb3) hb4
  have hB4 := own_below (own_below hB hb3) hb4
  have hC4 := own_below hC hb4
  have hw4 : Below w.heap.size w w4 := ((hb1.trans (hb2.mono z1)).trans (hb3.mono (by omega))).trans (hb4.mono (by omega))
  obtain ⟨ada, capa, rfl, hla, _, _⟩ := Ls.own ha4
  obtain ⟨adb, capb, rfl, hlb, _, _⟩ := Ls.own hB4
  obtain ⟨adc, capc, rfl, hlc, _, _⟩ := Ls.own hC4
  have hmax : ps.length ≤ 9223372036854775806 := by omega
  have hlow : ∀ k, (Value.slice ada ps.length capa).ownBlock = some k → w.heap.size ≤ k ∧ k < w1.heap.size := ha.lt
  clear ha hB hC hb1 hb2 hb3 hb4
  refine Lib.hid ?_
  go_wp2_with (go_at_call 16; refine (same_t ps _ _ _ _ _ hla hlb hmax).mono ?_; rintro e w5 ⟨rfl, hb5⟩; refine Hid.out ?_)
  have z5 := hb5.size
  have ha5 := own_below ha4 hb5
  have hB5 := own_below hB4 hb5
  have hC5 := own_below hC4 hb5
  have hw5 := hw4.trans (hb5.mono (by omega))
  clear ha4 hB4 hC4 hla hlb hlc hw4 hb5
  refine Lib.hid ?_
  go_wp2
  go_loopw [40] (fun i wr => ∃ k : Nat, ∃ xs, k ≤ ps.length ∧ i = .int .i64 k ∧ wr.ownsRow w.heap.size 9 1 (.slice ada ps.length capa) ps.length xs ∧ wr.ownsRow w1.heap.size 9 1 (.slice adb ps.length capb) ps.length (ps.map Value.string) ∧ wr.ownsRow w2.heap.size 9 1 (.slice adc ps.length capc) ps.length (ps.map Value.string) ∧ Below w.heap.size w wr) (fun i _ => ps.length - (intOf i).toNat)
  case atStart => exact ⟨0, _, by omega, rfl, ha5, hB5, hC5, hw5⟩
  case round =>
    clear ha5 hB5 hC5 hw5
    obtain ⟨k, xs, hk, rfl, ha, hB, hC, hb⟩ := hrel
    by_cases hlt : k < ps.length
    · obtain ⟨g, cap', hv⟩ := own_form ha (by omega)
      simp only [Value.slice.injEq, true_and] at hv
      obtain ⟨rfl, rfl⟩ := hv
      obtain ⟨hg1, hg2⟩ := hlow g rfl
      have hx : xs.length = ps.length := by have := ha.1; simpa using this
      have c0 := ha.cellAt k (by omega)
      rw [List.getElem?_eq_getElem (by omega)] at c0
      have f0 := ha.frozenAt k
      have z6 : (k : Int) < (ps.length : Int) := by omega
      obtain ⟨hst, _⟩ := ha.stored k (.string ⟨#[115, 112, 111, 105, 108, 116]⟩)
      have hB' := ownsRow_setCell_below hB (a := ⟨g, k, none⟩) hg2 (.string ⟨#[115, 112, 111, 105, 108, 116]⟩)
      have hC' := ownsRow_setCell_below hC (a := ⟨g, k, none⟩) (by show g < _; omega) (.string ⟨#[115, 112, 111, 105, 108, 116]⟩)
      have hb' := hb.setCell (p := ⟨g, k, none⟩) hg1 (.string ⟨#[115, 112, 111, 105, 108, 116]⟩)
      go_wp2
      exact ⟨⟨k + 1, _, by omega, by go_num, hst, hB', hC', hb'⟩, by simp [intOf]; omega⟩
    · obtain ⟨_, _, e1, hlb, _, _⟩ := Ls.own hB
      obtain ⟨_, _, e2, hlc, _, _⟩ := Ls.own hC
      simp only [Value.slice.injEq, true_and] at e1 e2
      obtain ⟨rfl, rfl⟩ := e1
      obtain ⟨rfl, rfl⟩ := e2
      go_wp2_with (go_at_call 16; refine (same_t ps _ _ _ _ _ hlc hlb hmax).mono ?_; rintro e w7 ⟨rfl, hb7⟩; refine Hid.out ?_)
      refine Lib.hid ?_
      go_wp2
      go_ret
      exact ⟨rfl, hb.trans (hb7.mono hb.size)⟩
end Go.Proofs.Ytjndlmeaddoccaa
