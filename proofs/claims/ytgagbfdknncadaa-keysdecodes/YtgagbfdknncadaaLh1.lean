/- The walk of the statement KeysDecodes where there is no list; what its loop writes. -/
import Derived.Test.YtgagbfdknncadaaWo
import Derived.Test.YtgagbfdknncadaaWk
import Derived.Deep.AppendLies
namespace Go.Proofs.Ytgagbfdknncadaa
open Go.RowKit

theorem refDecode_no (s : ByteArray) (w : World) (hm : s.size ≤ 140737488351232) (h : decL 8 s.data.toList = none) :
    Calls Try.prog 14 #[.string s] w fun e w' => e = .returned (.tuple #[.slice none 0 0, .int .i64 20]) ∧ Below w.heap.size w w' := by
  refine (refDecode_any s w hm).mono ?_
  rintro e w' ⟨hb, ⟨M, v, hd, _⟩ | ⟨_, rfl⟩⟩
  · rw [h] at hd; cases hd
  · exact ⟨rfl, hb⟩
theorem refDecode_yes (s : ByteArray) (w : World) (hm : s.size ≤ 140737488351232) (M : List V) (h : decL 8 s.data.toList = some M) :
    Calls Try.prog 14 #[.string s] w fun e w' => ∃ ad cap, e = .returned (.tuple #[.slice ad M.length cap, .int .i64 0]) ∧ Below w.heap.size w w' ∧ Li M ad w' ∧ w'.ownsRow w.heap.size 24 3 (.slice ad M.length cap) M.length (flat M) := by
  refine (refDecode_any s w hm).mono ?_
  rintro e w' ⟨hb, ⟨M', v, hd, rfl, hown⟩ | ⟨hd, _⟩⟩
  · rw [h] at hd
    obtain rfl := Option.some.inj hd
    obtain ⟨ad, cap, rfl, hli, _⟩ := li_of_own hown
    exact ⟨ad, cap, rfl, hb, hli, hown⟩
  · rw [h] at hd; cases hd

set_option maxHeartbeats 4000000 in
theorem decodes_no (s : ByteArray) (w : World) (hm : s.size ≤ 140737488351232) (h : decL 8 s.data.toList = none) :
    Calls Try.prog 4 #[.string s] w fun e w' => e = .returned (.bool true) ∧ Below w.heap.size w w' := by
  have hmx : s.size ≤ maxLen := by unfold maxLen; omega
  have H := Lib.hid h
  clear h
  go_enter Try.func4, Try.ntmps4
  go_wp2_with (go_at_call 13; refine (decode_no s _ hmx H.out).mono ?_; rintro e w1 ⟨rfl, hb1⟩; refine Hid.out ?_)
  refine Lib.hid ?_
  go_wp2_with (go_at_call 14; refine (refDecode_no s _ hm H.out).mono ?_; rintro e w2 ⟨rfl, hb2⟩; refine Hid.out ?_)
  refine Lib.hid ?_
  have hw2 := hb1.trans (hb2.mono hb1.size)
  go_wp2_with (go_at_call 13; refine (decode_no s _ hmx H.out).mono ?_; rintro e w3 ⟨rfl, hb3⟩; refine Hid.out ?_)
  refine Lib.hid ?_
  have hw3 := hw2.trans (hb3.mono hw2.size)
  go_wp2_with (go_at_call 11; refine (awake_any _).mono ?_; rintro e w4 ⟨rfl, hb4⟩; refine Hid.out ?_)
  refine Lib.hid ?_
  have hw4 := hw3.trans (hb4.mono hw3.size)
  go_wp2_with (go_at_call 12; refine (same_t [] none none 0 0 _ (Li.nil _ _) (Li.nil _ _) (by simp)).mono ?_; rintro e w5 ⟨rfl, hb5⟩; refine Hid.out ?_)
  refine Lib.hid ?_
  have hw5 := hw4.trans (hb5.mono hw4.size)
  go_wp2
  refine wp_loop_rounds 1 ?_
  rw [rounds_succ]
  go_wp2_with (go_at_call 12; refine (same_t [] none none 0 0 _ (Li.nil _ _) (Li.nil _ _) (by simp)).mono ?_; rintro e w6 ⟨rfl, hb6⟩; refine Hid.out ?_)
  refine Lib.hid ?_
  go_wp2
  go_ret
  exact ⟨rfl, hw5.trans (hb6.mono hw5.size)⟩

/-- The cells of a list that the call owns may be written. -/
structure RowAt (row : Option Nat) (n : Nat) (w : World) : Prop where
  at' : ∀ g, row = some g → ∃ cur : Array Value, w.heap[g]? = some (.cells cur 24 (0, 0)) ∧ n * 3 ≤ cur.size

theorem rowAt_own {w : World} {B : Nat} {v : Value} {n : Nat} {xs : List Value} (h : w.ownsRow B 24 3 v n xs) : RowAt v.ownBlock n w := by
  refine ⟨fun g hg => ?_⟩
  rcases h.2 with ⟨hv, _⟩ | ⟨g', cap, cur, hv, _, hh, hc, _, hz, _⟩
  · rw [hv] at hg; simp [Value.ownBlock] at hg
  · rw [hv] at hg
    simp [Value.ownBlock] at hg
    subst hg
    exact ⟨cur, hh, by rw [hz]; exact Nat.mul_le_mul_right _ hc⟩
theorem rowAt_below {w w' : World} {row : Option Nat} {n : Nat} (h : RowAt row n w) (hb : Below w.heap.size w w') : RowAt row n w' := by
  refine ⟨fun g hg => ?_⟩
  obtain ⟨cur, hh, hz⟩ := h.at' g hg
  exact ⟨cur, (hb.block g (lt_of_block hh)).trans hh, hz⟩
theorem rowAt_set {w : World} {g n j : Nat} (h : RowAt (some g) n w) (u : Value) : RowAt (some g) n (w.setCell ⟨g, j, none⟩ u) := by
  refine ⟨fun g' hg => ?_⟩
  obtain rfl := Option.some.inj hg
  obtain ⟨cur, hh, hz⟩ := h.at' g rfl
  have hlt := lt_of_block hh
  have h' : w.heap[g] = .cells cur 24 (0, 0) := by simpa [Array.getElem?_eq_getElem hlt] using hh
  refine ⟨cur.setIfInBounds j u, ?_, by simpa using hz⟩
  show (w.heap.modify g _)[g]? = _
  rw [Array.getElem?_eq_getElem (by simpa using hlt), Array.getElem_modify_self, h']
  rfl
theorem rowAt_cell {w : World} {g n j : Nat} (h : RowAt (some g) n w) (hj : j < n * 3) : (∃ u, w.cell? ⟨g, j, none⟩ = some u) ∧ w.frozen? ⟨g, j, none⟩ = false := by
  obtain ⟨cur, hh, hz⟩ := h.at' g rfl
  have hlt : j < cur.size := by omega
  exact ⟨⟨cur[j], by simp [World.cell?, hh, hlt]⟩, by simp [World.frozen?, hh]⟩
theorem li_kept {M : List V} {ad : Option Addr} {w w' : World} {row : Option Nat} {n c : Nat} (h : Li M ad w) (hg : w.grownBy w' row) (hne : ∀ k, (Value.slice ad n c).ownBlock = some k → some k ≠ row) : Li M ad w' := by
  refine ⟨fun i hi => ?_⟩
  obtain ⟨b, o, rfl, hl, c0, c1, c2⟩ := h.at' i hi
  have hb := hne b rfl
  have e : ∀ q, w'.cell? ⟨b, q, none⟩ = w.cell? ⟨b, q, none⟩ := fun q => World.cell?_of_block (hg.block b hl hb)
  exact ⟨b, o, rfl, Nat.lt_of_lt_of_le hl hg.size, (e _).trans c0, (e _).trans c1, (e _).trans c2⟩

end Go.Proofs.Ytgagbfdknncadaa
