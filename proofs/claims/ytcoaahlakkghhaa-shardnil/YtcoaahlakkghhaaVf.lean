/- The walks of find, newest and at. -/
import Derived.Test.YtcoaahlakkghhaaVe
namespace Go.Proofs.Ytcoaahlakkghhaa
open Go.RowKit

def fd (R : List Rw) (k : ByteArray) : Bool := match R[place R k]? with
  | some r => decide (r.key = k)
  | none => false
section
variable {w w' W V : World} {A : Nat} {S T : Nat → Prop} {G : List Gw} {rv : Value} {R : List Rw}
set_option maxHeartbeats 2000000 in
set_option maxRecDepth 100000 in
theorem find_any (h : Sv w A S G rv) (k : ByteArray) : Calls Try.prog 107 #[.pointer (some ⟨A, 0, none⟩), .string k] w fun e w' => e = .returned (.tuple #[.int .i64 (place (G.map Gw.r) k : Int), .bool (fd (G.map Gw.r) k)]) ∧ Below w.heap.size w w' := by
  have hp := place_any h k
  have hle := place_le (G.map Gw.r) k
  rw [List.length_map] at hle
  obtain ⟨s, hs⟩ : ∃ s, place (G.map Gw.r) k = s := ⟨_, rfl⟩
  rw [hs] at hp hle ⊢
  by_cases hlt : s < G.length
  · have hfd : fd (G.map Gw.r) k = decide (G[s].r.key = k) := by unfold fd; rw [hs, List.getElem?_map, List.getElem?_eq_getElem hlt]; rfl
    rw [hfd]
    have s0 : (0 : Int) ≤ (s : Int) := by omega
    have s1 : (s : Int) < (G.length : Int) := by omega
    have sd : decide ((s : Int) < (G.length : Int)) = true := decide_eq_true s1
    have hse := same_eq G[s].r.key k
    obtain ⟨kk, hkk⟩ : ∃ kk, G[s].r.key = kk := ⟨_, rfl⟩
    rw [hkk] at hse ⊢
    have HKK := Lib.hid hkk
    clear hs hfd hkk
    go_enter Try.func107, Try.ntmps107
    go_wp2_with fail
    refine hp.mono ?_
    rintro e w1 ⟨rfl, hb1⟩
    have hv := h.on hb1
    obtain ⟨g, cap, rfl, hc1, hc2, hp0⟩ := hv.ptr hlt
    have hm : (cap : Int) ≤ 9223372036854775807 := by unfold maxLen at hc2; omega
    have a0 : w1.cell? ⟨A, 0, none⟩ = some (.slice (some ⟨g, 0, none⟩) G.length cap) := cell_blk hv.ob 0
    have r0 : w1.cell? ⟨G[s].ptr, 0, none⟩ = some (.string kk) := by rw [← HKK.out]; exact cell_blk (hv.at' _ (List.getElem_mem hlt)) 0
    have hp1 : w1.cell? ⟨g, s, none⟩ = some (.pointer (some ⟨G[s].ptr, 0, none⟩)) := hp0
    clear hp0
    obtain ⟨q, hq⟩ : ∃ q, G[s].ptr = q := ⟨_, rfl⟩
    rw [hq] at hp1 r0
    have HB := Lib.hid hb1
    have HSE := Lib.hid hse
    clear hv hb1 hp h hq hse
    go_wp2
    go_quiet (fail)
    go_wp2
    refine bodyPost_ret (v := .tuple #[.int .i64 (s : Int), .bool (kk.toList == k.toList)]) (by simp [results, Try.results107, go_sem]) rfl ?_
    rw [HSE.out]
    exact ⟨rfl, below_draw HB.out _⟩
  · have hfd : fd (G.map Gw.r) k = false := by unfold fd; rw [hs, List.getElem?_map, List.getElem?_eq_none (by omega)]; rfl
    rw [hfd]
    have s1 : ¬ (s : Int) < (G.length : Int) := by omega
    have sd : decide ((s : Int) < (G.length : Int)) = false := decide_eq_false s1
    clear hs hfd
    go_enter Try.func107, Try.ntmps107
    go_wp2_with fail
    refine hp.mono ?_
    rintro e w1 ⟨rfl, hb1⟩
    have hv := h.on hb1
    obtain ⟨ad, cap, rfl, hc1, hc2, _⟩ := hv.shape
    have a0 : w1.cell? ⟨A, 0, none⟩ = some (.slice ad G.length cap) := cell_blk hv.ob 0
    have HB := Lib.hid hb1
    clear hv hb1 hp h
    go_wp2
    go_quiet (fail)
    go_wp2
    refine bodyPost_ret (v := .tuple #[.int .i64 (s : Int), .bool false]) (by simp [results, Try.results107, go_sem]) rfl ?_
    exact ⟨rfl, below_draw HB.out _⟩
theorem newest_any {l : List Ve} {v : Value} (hl : w.ownsRow 0 125 3 v l.length (veC l)) (hne : l ≠ []) (hz : l.length ≤ 900000) : Calls Try.prog 109 #[v] w fun e w' => e = .returned (.int .i64 (newest l)) ∧ w' = w := by
  have hpos : 0 < l.length := List.length_pos_iff.2 hne
  obtain ⟨g, cap, rfl, hc1, hc2, c0, c1, c2⟩ := ve_cells hl (k := l.length - 1) (by omega)
  clear c1 c2
  have hn : newest l = (l[l.length - 1]'(by omega)).ts := by
    unfold newest
    rw [List.getLast?_eq_some_getLast hne, List.getLast_eq_getElem]
  rw [hn]
  obtain ⟨t, ht⟩ : ∃ t, (l[l.length - 1]'(by omega)).ts = t := ⟨_, rfl⟩
  rw [ht] at c0 ⊢
  obtain ⟨n, hnn⟩ : ∃ n, l.length = n + 1 := ⟨l.length - 1, by omega⟩
  rw [hnn, show n + 1 - 1 = n by omega] at c0
  rw [hnn] at hz ⊢
  have hm : (cap : Int) ≤ 9223372036854775807 := by unfold maxLen at hc2; omega
  have n0 : (0 : Int) ≤ (n : Int) := by omega
  have n1 : (n : Int) < ((n + 1 : Nat) : Int) := by omega
  have e1 : (((n + 1 : Nat) : Int) - 1) = (n : Int) := by omega
  clear hl ht hnn hn hne hpos hc1
  go_enter Try.func109, Try.ntmps109
  go_wp2
  go_ret
  exact ⟨rfl, rfl⟩
end
end Go.Proofs.Ytcoaahlakkghhaa
