/- Lists of texts where slices lead to; the walks of the document's Same and of awake. -/
import Derived.Test.YtoipmpaebngppaaSWf
namespace Go.Proofs.Ytoipmpaebngppaa
open Go.RowKit

/-- The list lies in the world, where the slice leads to. -/
structure Ls (ps : List ByteArray) (ad : Option Addr) (w : World) : Prop where
  at' : ∀ i (h : i < ps.length), ∃ b o, ad = some ⟨b, o, none⟩ ∧ b < w.heap.size ∧ w.cell? ⟨b, o + i, none⟩ = some (.string ps[i])
theorem Ls.on {L : List ByteArray} {ad : Option Addr} {w w' : World} (h : Ls L ad w) (hb : Below w.heap.size w w') : Ls L ad w' := by
  refine ⟨fun i hi => ?_⟩
  obtain ⟨b, o, ha, hl, c0⟩ := h.at' i hi
  have hc := (bcell hb).1
  exact ⟨b, o, ha, Nat.lt_of_lt_of_le hl hb.size, by rw [hc _ _ hl]; exact c0⟩
theorem Ls.nil (ad : Option Addr) (w : World) : Ls [] ad w := ⟨fun i h => absurd h (by simp)⟩
theorem Ls.take {L : List ByteArray} {ad : Option Addr} {w : World} (h : Ls L ad w) (k : Nat) : Ls (L.take k) ad w := by
  refine ⟨fun i hi => ?_⟩
  have hi' : i < L.length := by rw [List.length_take] at hi; omega
  obtain ⟨b, o, ha, hl, c0⟩ := h.at' i hi'
  exact ⟨b, o, ha, hl, by rw [c0]; simp⟩
theorem Ls.own {ps : List ByteArray} {v : Value} {B : Nat} {w : World} (h : w.ownsRow B 9 1 v ps.length (ps.map Value.string)) : ∃ ad cap, v = .slice ad ps.length cap ∧ Ls ps ad w ∧ ps.length ≤ cap ∧ (ad = none → cap = 0) := by
  have h' := h
  rcases h.2 with ⟨hv, h0⟩ | ⟨g, cap, cur, hv, hg, hc, hr⟩
  · have : ps = [] := by simpa using h0
    subst this
    exact ⟨none, 0, hv, Ls.nil _ _, Nat.le_refl _, fun _ => rfl⟩
  · subst hv
    have hlt : g < w.heap.size := by
      rcases Nat.lt_or_ge g w.heap.size with h | h
      · exact h
      · rw [Array.getElem?_eq_none h] at hc; cases hc
    refine ⟨_, cap, rfl, ⟨fun i hi => ⟨g, 0, rfl, hlt, ?_⟩⟩, ?_, fun h => by cases h⟩
    · have := h'.cells (g := g) rfl i (.string ps[i]) (by simp [hi])
      have e : (⟨g, 0, none⟩ : Addr).add i = ⟨g, 0 + i, none⟩ := by unfold Addr.add; split <;> simp_all
      rw [e] at this
      exact this
    · exact hr.1

theorem lists_inj : ∀ {ps qs : List ByteArray}, lists ps = lists qs → ps = qs
  | [], [], _ => rfl
  | [], _ :: _, h => by simp [lists] at h
  | _ :: _, [], h => by simp [lists] at h
  | p :: ps, q :: qs, h => by
    simp only [lists, List.map_cons, List.cons.injEq] at h
    rw [same_bytes h.1, lists_inj h.2]

set_option maxHeartbeats 2000000 in
set_option maxRecDepth 100000 in
theorem same_t (L : List ByteArray) (ad ad' : Option Addr) (cap cap' : Nat) (w : World) (hL : Ls L ad w) (hM : Ls L ad' w) (hmax : L.length ≤ 9223372036854775806) :
    Calls Try.prog 20 #[.slice ad L.length cap, .slice ad' L.length cap'] w fun e w' => e = .returned (.bool true) ∧ Below w.heap.size w w' := by
  go_enter Try.func20, Try.ntmps20
  go_wp2
  go_loopw [5] (fun i wr => ∃ k : Nat, k ≤ L.length ∧ i = .int .i64 k ∧ Below w.heap.size w wr) (fun i _ => L.length - (intOf i).toNat)
  case atStart => exact ⟨0, by omega, rfl, Below.refl _ _⟩
  case round =>
    obtain ⟨k, hk, rfl, hb⟩ := hrel
    by_cases hlt : k < L.length
    · obtain ⟨b, o, rfl, hbl, c0⟩ := (hL.on hb).at' k hlt
      obtain ⟨b', o', rfl, hbl', d0⟩ := (hM.on hb).at' k hlt
      obtain ⟨x, hx⟩ : ∃ x, L[k] = x := ⟨_, rfl⟩
      rw [hx] at c0 d0
      clear hx
      have z1 : (k : Int) < (L.length : Int) := by omega
      go_wp2
      go_quiet (fail)
      go_wp2
      exact ⟨⟨k + 1, by omega, by go_num, below_drewN hb _⟩, by simp [intOf]; omega⟩
    · go_wp2
      go_ret
      exact ⟨rfl, hb⟩

/-! ### Awake -/
theorem rec_empty : recB ⟨#[]⟩ = ⟨#[0, 0, 0, 0, 28, 223, 68, 33]⟩ := by
  apply same_bytes
  rw [recB_list]
  kernel_rfl
theorem sum_known : sumL (⟨#[49, 50, 51, 52, 53, 54, 55, 56, 57]⟩ : ByteArray).data.toList = 3421780262 := by kernel_rfl
theorem scan_known {ps : List (List UInt8)} {n : Nat} (h : Scans [0, 0, 0, 0, 28, 223, 68, 33, 0] ps n) : ps = [[]] ∧ n = 8 := by
  have e : recL [] = [0, 0, 0, 0, 28, 223, 68, 33] := by kernel_rfl
  have h' : Scans [0, 0, 0, 0, 28, 223, 68, 33, 0] [[]] 8 := by
    refine ⟨[0], ?_, ?_, ?_, noRec_short (by simp)⟩
    · rw [recs_one, e]; rfl
    · rw [recs_one, e]; rfl
    · intro p hp
      simp at hp
      subst hp
      simp
  exact scans_one h h'

theorem same_n (L : List ByteArray) (n : Nat) (hn : L.length = n) (ad ad' : Option Addr) (cap cap' : Nat) (w : World) (hL : Ls L ad w) (hM : Ls L ad' w) (hmax : L.length ≤ 9223372036854775806) :
    Calls Try.prog 20 #[.slice ad n cap, .slice ad' n cap'] w fun e w' => e = .returned (.bool true) ∧ Below w.heap.size w w' := by
  subst hn
  exact same_t L ad ad' cap cap' w hL hM hmax
end Go.Proofs.Ytoipmpaebngppaa
