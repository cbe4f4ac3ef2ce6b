/- The walk of the statements' same. -/
import Derived.Test.YtphpadgmhanabaaOa
namespace Go.Proofs.Ytphpadgmhanabaa
open Go.RowKit Go.Maps

theorem str_ne (s : ByteArray) : (s.toList != s.toList) = false := by simp
set_option maxHeartbeats 4000000 in
set_option maxRecDepth 100000 in
theorem same_any {w0 w : World} {A B N M : Nat} (h : Two w0 w A B N M) (hN : N ≤ 900000) :
    Calls Try.prog 12 #[.pointer (some ⟨A, 0, none⟩), .pointer (some ⟨B, 0, none⟩)] w fun e w' => e = .returned (.bool true) ∧ Below w.heap.size w w' := by
  obtain ⟨S, T, F, left, rl, down, ht⟩ := h
  have hlen := ht.dr.lenF
  obtain ⟨mv, loc, hd⟩ := ht.dr
  obtain ⟨v, hr⟩ := ht.rd
  obtain ⟨ad, cap, rfl⟩ := hr.shape
  have hnm := hd.nm
  go_enter Try.func12, Try.ntmps12
  go_wp2_with fail
  refine (names_any hd).mono ?_
  rintro e w1 ⟨nv, rfl, hrow, hb1⟩
  obtain ⟨nad, ncap, rfl, hnad⟩ := row_shape hrow
  have c1 := (hr.on hb1).c0
  obtain ⟨L, hL⟩ : ∃ L, F.length = L := ⟨_, rfl⟩
  have HL := Lib.hid hL
  have l1 : (L : Int) ≤ 900000 := by omega
  rw [hL] at c1 hnad ⊢
  have hii : ((L : Int) != L) = false := by simp
  clear hL
  go_wp2
  go_loopw [23] (fun i wr => ∃ k : Nat, k ≤ L ∧ i = .int .i64 k ∧ Below w1.heap.size w1 wr) (fun i _ => L - (intOf i).toNat)
  case atStart => exact ⟨0, Nat.zero_le _, rfl, Below.refl _ _⟩
  case round =>
    obtain ⟨k, hk, rfl, hb⟩ := hrel
    have hbw := hb1.trans (hb.mono hb1.size)
    by_cases hlt : k < L
    · have hkF : k < F.length := by rw [HL.out]; exact hlt
      have ht1 := ht.on hbw
      obtain ⟨g, rfl⟩ := hnad k hlt
      have hgl := (hrow.lt g rfl).2
      have hcn : w1.cell? ⟨g, k, none⟩ = some (.string F[k].name) := by
        rw [HL.out] at hrow
        rw [hrow.cellAt k (by omega)]
        simp [hkF]
      have hcn1 : wr.cell? ⟨g, k, none⟩ = some (.string F[k].name) := by rw [hb.cell (p := ⟨g, k, none⟩) hgl]; exact hcn
      have hmem : F[k] ∈ F := List.getElem_mem hkF
      obtain ⟨s9, c9, hp9, hq9⟩ := both_read ht1 (hnm F[k] hmem)
      have hr1 := hr.on hbw
      obtain ⟨g2, cap2, e⟩ := hr1.form (by omega)
      simp only [Value.slice.injEq] at e
      obtain ⟨rfl, _, rfl⟩ := e
      have hpost : ∀ W, Below wr.heap.size wr W → W.cell? ⟨g, k, none⟩ = some (.string F[k].name) ∧ W.cell? ⟨B, 0, none⟩ = some (.slice (some ⟨g2, 0, none⟩) L cap) ∧ W.cell? ⟨g2, k * 3, none⟩ = some (.string F[k].name) := by
        intro W hW
        have hr2 := hr1.on hW
        have a := hr2.c0
        rw [HL.out] at a
        exact ⟨by rw [hW.cell (p := ⟨g, k, none⟩) (Nat.lt_of_lt_of_le hgl hb.size)]; exact hcn1, a, (hr2.at' hkF).1⟩
      obtain ⟨nm, hnm'⟩ : ∃ nm, F[k].name = nm := ⟨_, rfl⟩
      rw [hnm'] at hcn1 hp9 hq9 hpost
      have e1 := str_ne nm
      have e2 := str_ne s9
      have k0 : (0 : Int) ≤ k := by omega
      have k1 : (k : Int) < L := by omega
      clear hnm' hmem hcn ht1 hr1
      go_wp2_with fail
      refine hp9.mono ?_
      rintro e W1 ⟨rfl, rfl⟩
      go_wp2_with fail
      refine hq9.mono ?_
      rintro e W2 ⟨rfl, hbb⟩
      obtain ⟨x0, x1, x2⟩ := hpost W2 hbb
      clear hp9 hq9 hpost hcn1
      go_wp2
      go_quiet (fail)
      go_wp2
      go_roundw
      case rel => exact ⟨k + 1, by omega, by go_num, below_drewN (hb.trans (hbb.mono hb.size)) _⟩
      case measure => simp [intOf]; omega
    · have e : k = L := by omega
      subst e
      have k1 : ¬ ((k : Int) < k) := by omega
      go_wp2
      go_ret
      exact ⟨rfl, hbw⟩
end Go.Proofs.Ytphpadgmhanabaa
