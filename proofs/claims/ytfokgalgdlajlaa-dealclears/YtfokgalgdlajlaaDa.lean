/- awake: the deal that the statements begin with. -/
import Derived.Test.YtfokgalgdlajlaaCx
namespace Go.Proofs.Ytfokgalgdlajlaa
open Go.RowKit
abbrev sA : ByteArray := ⟨#[97]⟩
abbrev sB : ByteArray := ⟨#[98]⟩
abbrev sC : ByteArray := ⟨#[99]⟩
abbrev sD : ByteArray := ⟨#[100]⟩
abbrev r1 : Rd := ⟨sA, sC, [⟨sA, 3⟩]⟩
abbrev x1 : Wr := ⟨sD, ⟨#[]⟩, false⟩
def P1 : List Pt := [⟨0, sA, sB⟩, ⟨1, sB, sC⟩]
def Ls1 : List PP := [⟨0, [⟨sA, sB, [⟨sA, 3⟩]⟩], []⟩, ⟨1, [⟨sB, sC, []⟩], [x1]⟩]
theorem ok1 : okB [sB] = true := by decide
theorem parts1 : partsB [sB] sA sC 2 = P1 := by rfl
theorem find1 : findB [sB] sD = 1 := by decide
theorem seen1 : seenP sA sB [⟨sA, 3⟩] = [⟨sA, 3⟩] := by rfl
theorem seen2 : seenP sB sC [⟨sA, 3⟩] = [] := by rfl
theorem ls1 : (P1.map (rdOf r1)).set 1 ⟨((P1[1]'(by decide)).sh : Int), [⟨(P1[1]'(by decide)).lo, (P1[1]'(by decide)).hi, seenP (P1[1]'(by decide)).lo (P1[1]'(by decide)).hi r1.seen⟩], [x1]⟩ = Ls1 := by rfl
theorem rise1 : ∀ i j (hi : i < P1.length) (hj : j < P1.length), i < j → P1[i].sh < P1[j].sh := by
  intro i j hi hj hij
  have h2 : P1.length = 2 := rfl
  obtain rfl : i = 0 := by omega
  obtain rfl : j = 1 := by omega
  show (0 : Nat) < 1
  decide
/-- The deal as it is made, told once, told twice. -/
def da0 (g0 g1 : Gp) : Dl := ⟨0, 0, 1, 4, 5, 60, 0, false, [g0, g1], 1, [g0, g1], 0, 0, 0⟩
def da1 (g0 g1 : Gp) : Dl := ⟨0, 0, 1, 4, 5, 60, 0, false, [g0, g1], 1, [g1], 3, 0, 0⟩
def da2 (g0 g1 : Gp) : Dl := ⟨0, 0, 1, 4, 5, 60, 0, false, [g0, g1], 2, [g0, g1], 7, 0, 0⟩
abbrev rz (n : Int) : Rz := ⟨0, n, 0, 0, 0, 0, 0, 0, false⟩
theorem told_0 (a b c d : Sv) : (da0 ⟨0, a, b⟩ ⟨1, c, d⟩).told 0 1 (rz 3) = da1 ⟨0, a, b⟩ ⟨1, c, d⟩ := by rfl
theorem told_1 (a b c d : Sv) : (da1 ⟨0, a, b⟩ ⟨1, c, d⟩).told 1 1 (rz 7) = da2 ⟨0, a, b⟩ ⟨1, c, d⟩ := by rfl
theorem dok_0 (g0 g1 : Gp) : DOk (da0 g0 g1) := ⟨(by show (0 : Int) ≤ 1 ∧ (1 : Int) ≤ 4; decide), (by show 2 ≤ 900000; decide), (by show (0 : Int) ≤ 0 ∧ (0 : Int) ≤ 1125899906842624; decide)⟩
theorem dok_1 (g0 g1 : Gp) : DOk (da1 g0 g1) := ⟨(by show (0 : Int) ≤ 1 ∧ (1 : Int) ≤ 4; decide), (by show 1 ≤ 900000; decide), (by show (0 : Int) ≤ 3 ∧ (3 : Int) ≤ 1125899906842624; decide)⟩
theorem dok_2 (g0 g1 : Gp) : DOk (da2 g0 g1) := ⟨(by show (0 : Int) ≤ 2 ∧ (2 : Int) ≤ 4; decide), (by show 2 ≤ 900000; decide), (by show (0 : Int) ≤ 7 ∧ (7 : Int) ≤ 1125899906842624; decide)⟩
theorem asks_0 (g0 g1 : Gp) : (da0 g0 g1).asks = [(da0 g0 g1).prep g0, (da0 g0 g1).prep g1] := by rfl
theorem asks_2 (g0 g1 : Gp) : (da2 g0 g1).asks = [(da2 g0 g1).comm] := by rfl
/-- What New needs, where its effect lies in three new blocks. -/
theorem new_1 {w : World} {S lo0 b1 b2 b3 : Nat} (hsp : Sp w lo0 S [sB]) (h1 : w.heap[b1]? = some (.cells #[.string sA, .int .i64 3] 64 (0, 0))) (h2 : w.heap[b2]? = some (.cells #[.string sA, .string sC, .slice (some ⟨b1, 0, none⟩) 1 1] 67 (0, 0))) (h3 : w.heap[b3]? = some (.cells #[.string sD, .string ⟨#[]⟩, .bool false] 69 (0, 0))) : Calls Try.prog 9 #[.agg #[.int .i64 0, .int .i64 0, .int .i64 1], .int .i64 4, .int .i64 5, .int .i64 60, .agg #[.slice (some ⟨b2, 0, none⟩) 1 1, .slice (some ⟨b3, 0, none⟩) 1 1, .slice none 0 0], .pointer (some ⟨S, 0, none⟩)] w (NwAns w 0 0 1 4 5 60 Ls1) := by
  refine newD_any (fun X hX => ?_) (by decide) 0 0 1 4 5 60
  have j1 := (hX.block b1 (blk_lt h1)).trans h1
  have j2 := (hX.block b2 (blk_lt h2)).trans h2
  have j3 := (hX.block b3 (blk_lt h3)).trans h3
  have hsm : Lr smE 2 X [⟨sA, 3⟩] (.slice (some ⟨b1, 0, none⟩) 1 1) := ⟨_, 1, rfl, fun q => (by cases q), Nat.le_refl _, by decide, fun i hi => by
    have hi0 : i = 0 := by simpa using hi
    subst hi0
    exact ⟨b1, 0, smL ⟨sA, 3⟩, rfl, blk_lt j1, rfl, rfl, fun j u hu => by
      rw [Nat.zero_mul, Nat.zero_add, cell_blk j1, ← hu]
      exact (Array.getElem?_toList (xs := #[Value.string sA, .int .i64 3]) (i := j)).symm⟩⟩
  have hrd : Lr rdE 3 X [r1] (.slice (some ⟨b2, 0, none⟩) 1 1) := ⟨_, 1, rfl, fun q => (by cases q), Nat.le_refl _, by decide, fun i hi => by
    have hi0 : i = 0 := by simpa using hi
    subst hi0
    exact ⟨b2, 0, grL (r1, .slice (some ⟨b1, 0, none⟩) 1 1), rfl, blk_lt j2, ⟨some ⟨b1, 0, none⟩, 1, rfl, hsm⟩, rfl, fun j u hu => by
      rw [Nat.zero_mul, Nat.zero_add, cell_blk j2, ← hu]
      exact (Array.getElem?_toList (xs := #[Value.string sA, .string sC, .slice (some ⟨b1, 0, none⟩) 1 1]) (i := j)).symm⟩⟩
  have hwr : Lr (fun _ x cs => cs = wrL x) 3 X [x1] (.slice (some ⟨b3, 0, none⟩) 1 1) := ⟨_, 1, rfl, fun q => (by cases q), Nat.le_refl _, by decide, fun i hi => by
    have hi0 : i = 0 := by simpa using hi
    subst hi0
    exact ⟨b3, 0, wrL x1, rfl, blk_lt j3, rfl, rfl, fun j u hu => by
      rw [Nat.zero_mul, Nat.zero_add, cell_blk j3, ← hu]
      exact (Array.getElem?_toList (xs := #[Value.string sD, .string ⟨#[]⟩, .bool false]) (i := j)).symm⟩⟩
  exact partsOf_one (hsp.on hX) hrd hwr (by decide) parts1 rise1 (by decide) (k := 1) (by decide) find1 ls1
end Go.Proofs.Ytfokgalgdlajlaa
