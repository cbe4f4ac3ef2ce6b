/- A list of calls as it lies in memory. -/
import Derived.Test.YtmehdhjelggkpaaLa
namespace Go.Proofs.Ytmehdhjelggkpaa
open Go.RowKit Go.Maps

/-- A call, as the statements have it. -/
structure O where
  kind : Int
  what : Int
  due : Int

theorem bcell {W w1 : World} (hb : Below W.heap.size W w1) : (∀ b o, b < W.heap.size → w1.cell? ⟨b, o, none⟩ = W.cell? ⟨b, o, none⟩) ∧ (∀ b o, b < W.heap.size → w1.frozen? ⟨b, o, none⟩ = W.frozen? ⟨b, o, none⟩) :=
  ⟨fun b o h => hb.cell (p := ⟨b, o, none⟩) h, fun b o h => hb.frozen (p := ⟨b, o, none⟩) h⟩

/-- The list lies in the world, where the slice leads to, ahead of block B. -/
structure Li (L : List O) (ad : Option Addr) (B : Nat) (w : World) : Prop where
  at' : ∀ i (h : i < L.length), ∃ b o, ad = some ⟨b, o, none⟩ ∧ b < B ∧ w.cell? ⟨b, o + i * 3, none⟩ = some (.int .i64 L[i].kind) ∧ w.cell? ⟨b, o + i * 3 + 1, none⟩ = some (.int .i64 L[i].what) ∧ w.cell? ⟨b, o + i * 3 + 2, none⟩ = some (.int .i64 L[i].due)
theorem Li.on {L : List O} {ad : Option Addr} {B : Nat} {w w' : World} (h : Li L ad B w) (hb : Below B w w') : Li L ad B w' := by
  refine ⟨fun i hi => ?_⟩
  obtain ⟨b, o, ha, hl, c0, c1, c2⟩ := h.at' i hi
  have hc : ∀ o, w'.cell? ⟨b, o, none⟩ = w.cell? ⟨b, o, none⟩ := fun o => World.cell?_of_block (hb.block b hl)
  exact ⟨b, o, ha, hl, by rw [hc]; exact c0, by rw [hc]; exact c1, by rw [hc]; exact c2⟩
theorem Li.nil (ad : Option Addr) (B : Nat) (w : World) : Li [] ad B w := ⟨fun i h => absurd h (by simp)⟩
/-- Its numbers are whole numbers of 64 bits. -/
structure Fits (L : List O) : Prop where
  at' : ∀ v ∈ L, inI v.what
  due : ∀ v ∈ L, inI v.due
end Go.Proofs.Ytmehdhjelggkpaa
