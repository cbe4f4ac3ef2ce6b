/- Decode's list as a list; the walks of Within and of Under. -/
import Derived.Test.YtbepekgaipipjaaWg
import Derived.Test.YtbepekgaipipjaaWh
namespace Go.Proofs.Ytbepekgaipipjaa
open Go.RowKit

theorem flat_cons (v : V) (M : List V) : flat (v :: M) = .int .i64 v.k :: .int .i64 v.n :: .string v.s :: flat M := rfl
theorem flat_get : ∀ (M : List V) (i : Nat) (h : i < M.length), (flat M)[i * 3]? = some (.int .i64 M[i].k) ∧ (flat M)[i * 3 + 1]? = some (.int .i64 M[i].n) ∧ (flat M)[i * 3 + 2]? = some (.string M[i].s)
  | [], i, h => absurd h (by simp)
  | v :: M, 0, _ => ⟨rfl, rfl, rfl⟩
  | v :: M, i + 1, h => by
    have ih := flat_get M i (by simpa using h)
    rw [flat_cons, show (i + 1) * 3 = i * 3 + 1 + 1 + 1 by omega, show i * 3 + 1 + 1 + 1 + 1 = (i * 3 + 1) + 1 + 1 + 1 by omega, show i * 3 + 1 + 1 + 1 + 2 = (i * 3 + 2) + 1 + 1 + 1 by omega]
    simpa using ih

theorem li_of_own {w : World} {B : Nat} {v : Value} {M : List V} (h : w.ownsRow B 23 3 v M.length (flat M)) : ∃ ad cap, v = .slice ad M.length cap ∧ Li M ad w ∧ M.length ≤ cap := by
  rcases h.2 with ⟨hv, h0⟩ | ⟨g, cap, cur, hv, hb, hg, hc, _⟩
  · refine ⟨none, 0, by rw [hv, h0], ⟨fun i hi => by omega⟩, by omega⟩
  · refine ⟨some ⟨g, 0, none⟩, cap, hv, ⟨fun i hi => ⟨g, 0, rfl, lt_of_block hg, ?_⟩⟩, hc⟩
    obtain ⟨f0, f1, f2⟩ := flat_get M i hi
    have hcell : ∀ j u, (flat M)[j]? = some u → w.cell? ⟨g, 0 + j, none⟩ = some u := by
      intro j u hu
      have := h.cells (g := g) (by rw [hv]; rfl) j u hu
      have e : (⟨g, 0, none⟩ : Addr).add j = ⟨g, 0 + j, none⟩ := by unfold Addr.add; split <;> simp_all
      rwa [e] at this
    refine ⟨hcell _ _ f0, ?_, ?_⟩
    · rw [Nat.add_assoc]; exact hcell _ _ f1
    · rw [Nat.add_assoc]; exact hcell _ _ f2

theorem decode_no (s : ByteArray) (w : World) (hm : s.size ≤ maxLen) (h : decL 8 s.data.toList = none) :
    Calls Try.prog 42 #[.string s] w fun e w' => e = .returned (.tuple #[.slice none 0 0, .int .i64 20]) ∧ Below w.heap.size w w' := by
  refine (decode_any s w hm).mono ?_
  rintro e w' ⟨hb, ⟨M, v, hd, _⟩ | ⟨_, rfl⟩⟩
  · rw [h] at hd; cases hd
  · exact ⟨rfl, hb⟩
theorem decode_yes (s : ByteArray) (w : World) (hm : s.size ≤ maxLen) (M : List V) (h : decL 8 s.data.toList = some M) :
    Calls Try.prog 42 #[.string s] w fun e w' => ∃ ad cap, e = .returned (.tuple #[.slice ad M.length cap, .int .i64 0]) ∧ Below w.heap.size w w' ∧ Li M ad w' ∧ w'.ownsRow w.heap.size 23 3 (.slice ad M.length cap) M.length (flat M) := by
  refine (decode_any s w hm).mono ?_
  rintro e w' ⟨hb, ⟨M', v, hd, rfl, hown⟩ | ⟨hd, _⟩⟩
  · rw [h] at hd
    obtain rfl := Option.some.inj hd
    obtain ⟨ad, cap, rfl, hli, _⟩ := li_of_own hown
    exact ⟨ad, cap, rfl, hb, hli, hown⟩
  · rw [h] at hd; cases hd

set_option maxHeartbeats 1000000 in
theorem under_any (s : ByteArray) (w : World) (hs : s.size ≤ 5000) :
    Calls Try.prog 41 #[.string s] w fun e w' => e = .returned (.agg #[.string s, .string (s ++ ⟨#[255]⟩)]) ∧ Below w.heap.size w w' := by
  go_enter Try.func41, Try.ntmps41
  go_wp2
  exact bodyPost_ret (v := .agg #[.string s, .string (s ++ ⟨#[255]⟩)]) (by simp [results, Try.results41, go_sem]) rfl ⟨rfl, (Below.refl _ _).alloc (Nat.le_refl _) _⟩

theorem box2 {w w1 : World} {x y : Value} {t : TypeId} (hb : Below (w.alloc (.cells #[x, y] t)).heap.size (w.alloc (.cells #[x, y] t)) w1) :
    w1.cell? ⟨w.heap.size, 0, none⟩ = some x ∧ w1.cell? ⟨w.heap.size, 1, none⟩ = some y ∧ w.heap.size < w1.heap.size := by
  have h := (bcell hb).1
  have hz := hb.size
  refine ⟨?_, ?_, ?_⟩
  · rw [h _ _ (by simp)]; simp
  · rw [h _ _ (by simp)]; simp
  · simp at hz; omega

set_option maxHeartbeats 2000000 in
theorem in_any (k f t : ByteArray) (w : World) (hk : k.size ≤ maxLen) (hf : f.size ≤ maxLen) (ht : t.size ≤ maxLen) (r : Bool) (hr : r = true ↔ (Lib.compareBytes f.data.toList k.data.toList ≤ 0 ∧ Lib.compareBytes k.data.toList t.data.toList < 0)) :
    Calls Try.prog 50 #[.string k, .agg #[.string f, .string t]] w fun e w' => e = .returned (.bool r) ∧ Below w.heap.size w w' := by
  have HR := Lib.hid hr
  clear hr
  obtain ⟨x, hx⟩ : ∃ x, Lib.compareBytes f.data.toList k.data.toList = x := ⟨_, rfl⟩
  obtain ⟨y, hy⟩ : ∃ y, Lib.compareBytes k.data.toList t.data.toList = y := ⟨_, rfl⟩
  rw [hx, hy] at HR
  by_cases h1 : x ≤ 0
  · go_enter Try.func50, Try.ntmps50
    go_wp2_with (go_at_call 56; refine (stands_any f k _ hf hk).mono ?_; rw [hx]; rintro e w1 ⟨rfl, hb1⟩; refine Hid.out ?_)
    refine Lib.hid ?_
    obtain ⟨c0, c1, hz⟩ := box2 hb1
    have hw1 : Below w.heap.size w w1 := ((Below.refl _ w).alloc (Nat.le_refl _) _).trans (hb1.mono (by simp))
    go_wp2_with (go_at_call 56; refine (stands_any k t _ hk ht).mono ?_; rw [hy]; rintro e w2 ⟨rfl, hb2⟩; refine Hid.out ?_)
    refine Lib.hid ?_
    clear hx hy
    by_cases h2 : y < 0
    · have HB : Hid (r = true) := HR.out.2 ⟨h1, h2⟩
      go_wp2
      go_ret
      rw [HB.out]
      exact ⟨rfl, hw1.trans (hb2.mono hw1.size)⟩
    · have HB : Hid (r = false) := by
        show r = false
        cases hrr : r with
        | false => rfl
        | true => exact absurd (HR.out.1 hrr).2 h2
      go_wp2
      go_ret
      rw [HB.out]
      exact ⟨rfl, hw1.trans (hb2.mono hw1.size)⟩
  · have HB : Hid (r = false) := by
      show r = false
      cases hrr : r with
      | false => rfl
      | true => exact absurd (HR.out.1 hrr).1 h1
    go_enter Try.func50, Try.ntmps50
    go_wp2_with (go_at_call 56; refine (stands_any f k _ hf hk).mono ?_; rw [hx]; rintro e w1 ⟨rfl, hb1⟩; refine Hid.out ?_)
    refine Lib.hid ?_
    clear hx hy
    have hw1 : Below w.heap.size w w1 := ((Below.refl _ w).alloc (Nat.le_refl _) _).trans (hb1.mono (by simp))
    go_wp2
    go_ret
    rw [HB.out]
    exact ⟨rfl, hw1⟩
end Go.Proofs.Ytbepekgaipipjaa
