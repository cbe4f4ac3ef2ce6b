/- The walk of awake. -/
import Derived.Test.YtcmdpahchbbicaaDoorWn
namespace Go.Proofs.YtcmdpahchbbicaaDoor
open Go.RowKit
abbrev awT : ByteArray := ⟨#[97, 61, 45, 48, 55, 59, 39, 105, 116, 39, 39, 115, 39]⟩
abbrev awL : List Wd := [⟨1, 0, [97], 0⟩, ⟨4, 1, [61], 0⟩, ⟨2, 2, [45, 48, 55], -7⟩, ⟨4, 5, [59], 0⟩, ⟨3, 6, [105, 116, 39, 115], 0⟩, ⟨5, 13, [], 0⟩]
theorem aw1 : wordsP awT = .inr awL := by kernel_rfl
theorem aw2 : wordsP ⟨#[97, 32, 63]⟩ = .inl (2, 170) := by kernel_rfl
/-- A list of words that a slice reads. -/
def Lw (L : List Wd) (ad : Option Addr) (w : World) : Prop := ∀ i (hi : i < L.length), ∃ b o, ad = some ⟨b, o, none⟩ ∧ b < w.heap.size ∧ w.cell? ⟨b, o + i * 4, none⟩ = some (.int .i64 L[i].kind) ∧ w.cell? ⟨b, o + i * 4 + 1, none⟩ = some (.int .i64 L[i].pl) ∧ w.cell? ⟨b, o + i * 4 + 2, none⟩ = some (.string ⟨L[i].text.toArray⟩) ∧ w.cell? ⟨b, o + i * 4 + 3, none⟩ = some (.int .i64 L[i].n)
theorem Lw.on {L : List Wd} {ad : Option Addr} {w w' : World} (h : Lw L ad w) (hb : Below w.heap.size w w') : Lw L ad w' := fun i hi => by
  obtain ⟨b, o, e, hlt, c0, c1, c2, c3⟩ := h i hi
  exact ⟨b, o, e, Nat.lt_of_lt_of_le hlt hb.size, cell_on hb c0, cell_on hb c1, cell_on hb c2, cell_on hb c3⟩
theorem wdC_at : ∀ (L : List Wd) (i : Nat) (hi : i < L.length), (wdC L)[i * 4]? = some (.int .i64 L[i].kind) ∧ (wdC L)[i * 4 + 1]? = some (.int .i64 L[i].pl) ∧ (wdC L)[i * 4 + 2]? = some (.string ⟨L[i].text.toArray⟩) ∧ (wdC L)[i * 4 + 3]? = some (.int .i64 L[i].n)
  | [], i, hi => by simp at hi
  | x :: r, 0, hi => by simp [wdC]
  | x :: r, i + 1, hi => by
    have h := wdC_at r i (by simpa using hi)
    have e : wdC (x :: r) = [.int .i64 x.kind, .int .i64 x.pl, .string ⟨x.text.toArray⟩, .int .i64 x.n] ++ wdC r := by simp [wdC]
    have e0 : ∀ q, (wdC (x :: r))[q + 4]? = (wdC r)[q]? := fun q => by
      rw [e, List.getElem?_append_right (by simp)]
      simp
    rw [show (i + 1) * 4 = i * 4 + 4 by omega, show i * 4 + 4 + 1 = (i * 4 + 1) + 4 by omega, show i * 4 + 4 + 2 = (i * 4 + 2) + 4 by omega, show i * 4 + 4 + 3 = (i * 4 + 3) + 4 by omega, e0, e0, e0, e0]
    exact h
theorem Lw.own {L : List Wd} {v : Value} {B : Nat} {w : World} (h : w.ownsRow B 31 4 v L.length (wdC L)) : ∃ ad cap, v = .slice ad L.length cap ∧ Lw L ad w := by
  rcases h.2 with ⟨hv, h0⟩ | ⟨g, cap, cur, hv, r1, r2, r3⟩
  · exact ⟨none, 0, by rw [hv, h0], fun i hi => by omega⟩
  · have hlt := (h.lt g (by rw [hv]; rfl)).2
    subst hv
    refine ⟨_, cap, rfl, fun i hi => ⟨g, 0, rfl, hlt, ?_⟩⟩
    obtain ⟨c0, c1, c2, c3⟩ := wdC_at L i hi
    have hc := fun j u hj => h.cells (g := g) rfl j u hj
    simp only [Nat.zero_add]
    simp only [add_at, Nat.zero_add] at hc
    exact ⟨hc _ _ c0, hc _ _ c1, hc _ _ c2, hc _ _ c3⟩
theorem Gd.up {B B' : Nat} {w w' : World} (h : Gd B w) (hb : Below B w w') (hB : B ≤ B') : Gd B' w' :=
  ⟨h.1.elim fun tp h => h.elim fun p h => ⟨tp, p, fun w2 h2 => h w2 (hb.trans (h2.mono hB))⟩, h.2.elim fun tp h => h.elim fun p h => ⟨tp, p, fun w2 h2 => h w2 (hb.trans (h2.mono hB))⟩⟩
set_option maxHeartbeats 4000000 in
set_option maxRecDepth 100000 in
theorem awake_any {w : World} (hg : Gd w.heap.size w) : Calls Tryd.prog 9 #[] w fun e w' => e = .returned (.bool true) ∧ Below w.heap.size w w' := by
  have h1 := words_any (s := awT) hg
  rw [aw1] at h1
  have H1 := Lib.hid h1
  have HG := Lib.hid hg
  clear h1 hg
  go_enter Tryd.func9, Tryd.ntmps9
  go_wp2_with (go_at_call 7; refine (H1.out).mono ?_; rintro e w1 ⟨⟨v1, rfl, ho1⟩, b1⟩; refine Hid.out ?_)
  refine Lib.hid ?_
  have h2 := words_any (s := ⟨#[97, 32, 63]⟩) (HG.out.up b1 b1.size)
  rw [aw2] at h2
  have H2 := Lib.hid h2
  obtain ⟨ad, cap, rfl, hL⟩ := Lw.own ho1
  have HL := Lib.hid hL
  have B1 := Lib.hid b1
  clear h2 ho1 b1 hL
  go_wp2_with (go_at_call 7; refine (H2.out).mono ?_; rintro e w2 ⟨rfl, b2⟩; refine Hid.out ?_)
  refine Lib.hid ?_
  have hL2 := HL.out.on b2
  obtain ⟨b, o, rfl, hlt, c20, c21, c22, c23⟩ := hL2 2 (by decide)
  obtain ⟨b', o', e4, _, _, _, c42, _⟩ := hL2 4 (by decide)
  obtain ⟨b'', o'', e5, _, c50, c51, c52, c53⟩ := hL2 5 (by decide)
  cases e4
  cases e5
  simp at c20 c21 c22 c23 c42 c50 c51 c52 c53
  have HBB := Lib.hid (B1.out.trans (b2.mono B1.out.size))
  clear hL2 b2 HL
  go_wp2
  go_ret
  exact ⟨rfl, HBB.out⟩
end Go.Proofs.YtcmdpahchbbicaaDoor
