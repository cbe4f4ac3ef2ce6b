/- The walks of Newest and Rows. -/
import Derived.Test.YthjnfkgheihgkaaVh
namespace Go.Proofs.Ythjnfkgheihgkaa
open Go.RowKit

section
variable {w w' W V : World} {A : Nat} {S T : Nat → Prop} {G : List Gw} {rv : Value} {R : List Rw}
theorem newR_fd {R : List Rw} {k : ByteArray} : newR R k = match R[place R k]? with
    | some r => if r.key = k then newest r.list else 0
    | none => 0 := rfl
set_option maxHeartbeats 2000000 in
set_option maxRecDepth 100000 in
theorem newest_p (h : Sv w A S G rv) (k : ByteArray) : Calls Try.prog 15 #[.pointer (some ⟨A, 0, none⟩), .string k] w fun e w' => e = .returned (.int .i64 (newR (G.map Gw.r) k)) ∧ Below w.heap.size w w' := by
  have hf := find_any h k
  have hle := place_le (G.map Gw.r) k
  rw [List.length_map] at hle
  obtain ⟨s, hs⟩ : ∃ s, place (G.map Gw.r) k = s := ⟨_, rfl⟩
  cases hfd : fd (G.map Gw.r) k with
  | false =>
    have hn : newR (G.map Gw.r) k = 0 := by
      unfold newR
      unfold fd at hfd
      cases hq : (G.map Gw.r)[place (G.map Gw.r) k]? with
      | none => rfl
      | some r =>
        rw [hq] at hfd
        simp only [decide_eq_false_iff_not] at hfd
        simp only
        rw [if_neg hfd]
    rw [hn]
    rw [hfd, hs] at hf
    clear hn hfd h hs
    go_enter Try.func15, Try.ntmps15
    go_wp2_with fail
    refine hf.mono ?_
    rintro e w1 ⟨rfl, hb1⟩
    have HB := Lib.hid hb1
    clear hf hb1
    go_wp2
    go_ret
    exact ⟨rfl, HB.out⟩
  | true =>
    obtain ⟨hlt, hn⟩ : ∃ hlt : s < G.length, newR (G.map Gw.r) k = newest G[s].r.list := by
      unfold newR
      unfold fd at hfd
      rw [hs, List.getElem?_map] at hfd ⊢
      by_cases hlt : s < G.length
      · rw [List.getElem?_eq_getElem hlt] at hfd ⊢
        simp only [Option.map_some, decide_eq_true_eq] at hfd ⊢
        exact ⟨hlt, by rw [if_pos hfd]⟩
      · rw [List.getElem?_eq_none (by omega)] at hfd
        cases hfd
    rw [hn]
    rw [hfd, hs] at hf
    have hrise := h.ok.rise G[s].r (List.mem_map_of_mem (List.getElem_mem hlt))
    have hnw := fun V (hV : Below w.heap.size w V) => newest_any (own_below (h.ls _ (List.getElem_mem hlt)) hV) hrise.ne (by have := h.less _ (List.getElem_mem hlt); omega)
    obtain ⟨nw, hnwe⟩ : ∃ nw, newest G[s].r.list = nw := ⟨_, rfl⟩
    rw [hnwe] at hnw ⊢
    obtain ⟨lv, hlv⟩ : ∃ lv, G[s].lv = lv := ⟨_, rfl⟩
    rw [hlv] at hnw
    have s0 : (0 : Int) ≤ (s : Int) := by omega
    have s1 : (s : Int) < (G.length : Int) := by omega
    have HLV := Lib.hid hlv
    have hls := h.ls _ (List.getElem_mem hlt)
    rw [hlv] at hls
    obtain ⟨lad, lcap, rfl⟩ := own_shape hls
    clear hn hfd hs hle hnwe hlv hrise hls
    go_enter Try.func15, Try.ntmps15
    go_wp2_with fail
    refine hf.mono ?_
    rintro e w1 ⟨rfl, hb1⟩
    have hv := h.on hb1
    obtain ⟨g, cap, rfl, hc1, hc2, hp0⟩ := hv.ptr hlt
    have hm : (cap : Int) ≤ 9223372036854775807 := by unfold maxLen at hc2; omega
    have a0 : w1.cell? ⟨A, 0, none⟩ = some (.slice (some ⟨g, 0, none⟩) G.length cap) := cell_blk hv.ob 0
    have r1 : w1.cell? ⟨G[s].ptr, 1, none⟩ = some (.slice lad G[s].r.list.length lcap) := by rw [← HLV.out]; exact cell_blk (hv.at' _ (List.getElem_mem hlt)) 1
    have hp1 : w1.cell? ⟨g, s, none⟩ = some (.pointer (some ⟨G[s].ptr, 0, none⟩)) := hp0
    clear hp0
    obtain ⟨q, hq⟩ : ∃ q, G[s].ptr = q := ⟨_, rfl⟩
    rw [hq] at hp1 r1
    have hn1 := hnw w1 hb1
    have HB := Lib.hid hb1
    clear hv hb1 hf h hq hnw
    go_wp2_with fail
    refine hn1.mono ?_
    rintro e w2 ⟨rfl, rfl⟩
    clear hn1
    go_wp2
    go_ret
    exact ⟨rfl, HB.out⟩
end
end Go.Proofs.Ythjnfkgheihgkaa
