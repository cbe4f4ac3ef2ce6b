/- A list of calls as it lies in memory; the walk of the statements' bytes. -/
import Derived.Test.YtphpadgmhanabaaRj
namespace Go.Proofs.Ytphpadgmhanabaa
open Go.RowKit Go.Maps

/-- A call, as the statements have it. -/
structure O where
  kind : Int
  name : ByteArray
  data : ByteArray
  n : Int
  kad : Option Addr
  kc : Nat
  keep : List Int
/-- The list lies in the world, where the slice leads to. -/
structure Li (L : List O) (ad : Option Addr) (w : World) : Prop where
  at' : ∀ i (h : i < L.length), ∃ b o, ad = some ⟨b, o, none⟩ ∧ b < w.heap.size ∧ w.cell? ⟨b, o + i * 5, none⟩ = some (.int .i64 L[i].kind) ∧ w.cell? ⟨b, o + i * 5 + 1, none⟩ = some (.string L[i].name) ∧ w.cell? ⟨b, o + i * 5 + 2, none⟩ = some (.string L[i].data) ∧ w.cell? ⟨b, o + i * 5 + 3, none⟩ = some (.int .i64 L[i].n) ∧ w.cell? ⟨b, o + i * 5 + 4, none⟩ = some (.slice L[i].kad L[i].keep.length L[i].kc)
  ints : ∀ i (h : i < L.length), Ints w (.slice L[i].kad L[i].keep.length L[i].kc) L[i].keep
/-- Its parts are as great as they may be. -/
structure Fits (L : List O) : Prop where
  len : L.length ≤ 140737488355328
  name : ∀ v ∈ L, v.name.size ≤ 140737488355328
  data : ∀ v ∈ L, v.data.size ≤ 140737488355328
  keep : ∀ v ∈ L, v.keep.length ≤ 140737488355328
  n : ∀ v ∈ L, -9223372036854775808 ≤ v.n ∧ v.n ≤ 9223372036854775807
theorem Li.at_on {L : List O} {ad : Option Addr} {w w' : World} (h : Li L ad w) (hb : Below w.heap.size w w') (i : Nat) (hi : i < L.length) : ∃ b o, ad = some ⟨b, o, none⟩ ∧ b < w.heap.size ∧ w'.cell? ⟨b, o + i * 5, none⟩ = some (.int .i64 L[i].kind) ∧ w'.cell? ⟨b, o + i * 5 + 1, none⟩ = some (.string L[i].name) ∧ w'.cell? ⟨b, o + i * 5 + 2, none⟩ = some (.string L[i].data) ∧ w'.cell? ⟨b, o + i * 5 + 3, none⟩ = some (.int .i64 L[i].n) ∧ w'.cell? ⟨b, o + i * 5 + 4, none⟩ = some (.slice L[i].kad L[i].keep.length L[i].kc) := by
  obtain ⟨b, o, ha, hl, c0, c1, c2, c3, c4⟩ := h.at' i hi
  have hc : ∀ o, w'.cell? ⟨b, o, none⟩ = w.cell? ⟨b, o, none⟩ := fun o => World.cell?_of_block (hb.block b hl)
  exact ⟨b, o, ha, hl, by rw [hc]; exact c0, by rw [hc]; exact c1, by rw [hc]; exact c2, by rw [hc]; exact c3, by rw [hc]; exact c4⟩

/-- The sizes of the first k calls. -/
def Upto (L : List O) (k : Nat) (r : Nat) : Prop := ∀ i (h : i < L.length), i < k → L[i].name.size ≤ r ∧ L[i].data.size ≤ r ∧ L[i].keep.length ≤ r

set_option maxHeartbeats 2000000 in
set_option maxRecDepth 100000 in
theorem bytes_any {L : List O} {ad : Option Addr} {cap : Nat} {w : World} (hL : Li L ad w) (hF : Fits L) :
    Calls Try.prog 9 #[.slice ad L.length cap] w fun e w' => ∃ r : Nat, e = .returned (.int .i64 r) ∧ Below w.heap.size w w' ∧ (r ≤ 65536 → ∀ i (h : i < L.length), L[i].name.size ≤ 65536 ∧ L[i].data.size ≤ 65536 ∧ L[i].keep.length ≤ 65536) := by
  have hlen := hF.len
  have l1 : (L.length : Int) ≤ 140737488355328 := by omega
  go_enter Try.func9, Try.ntmps9
  go_wp2
  go_loopw [3, 8] (fun a i wr => ∃ k r : Nat, k ≤ L.length ∧ i = .int .i64 k ∧ a = .int .i64 r ∧ r ≤ 65536 ∧ Hid (Upto L k r) ∧ Below w.heap.size w wr) (fun _ i _ => L.length - (intOf i).toNat)
  case atStart => exact ⟨0, 0, Nat.zero_le _, rfl, rfl, Nat.zero_le _, fun i _ hi => by omega, Below.refl _ _⟩
  case round =>
    obtain ⟨k, r, hk, rfl, rfl, hr, HU, hb⟩ := hrel
    by_cases hlt : k < L.length
    · obtain ⟨b, o, rfl, hbl, c0, c1, c2, c3, c4⟩ := hL.at_on hb k hlt
      have hmem : L[k] ∈ L := List.getElem_mem hlt
      have f1 := hF.name _ hmem
      have f2 := hF.data _ hmem
      have f3 := hF.keep _ hmem
      obtain ⟨x, hx⟩ : ∃ x, L[k] = x := ⟨_, rfl⟩
      rw [hx] at c0 c1 c2 c3 c4 f1 f2 f3
      have HX := Lib.hid hx
      have k0 : (0 : Int) ≤ k := by omega
      have k1 : (k : Int) < L.length := by omega
      have r0 : (0 : Int) ≤ r := by omega
      have r1 : (r : Int) ≤ 65536 := by omega
      have g1 : (x.name.size : Int) ≤ 140737488355328 := by omega
      have g2 : (x.data.size : Int) ≤ 140737488355328 := by omega
      have g3 : (x.keep.length : Int) ≤ 140737488355328 := by omega
      have hsum : (r : Int) + (1 + (x.name.size : Int) + (x.data.size : Int) + (x.keep.length : Int)) = ((r + (1 + x.name.size + x.data.size + x.keep.length) : Nat) : Int) := by omega
      obtain ⟨r', hr'⟩ : ∃ r', r + (1 + x.name.size + x.data.size + x.keep.length) = r' := ⟨_, rfl⟩
      rw [hr'] at hsum
      have HR := Lib.hid hr'
      clear hx hr' hmem
      by_cases hbig : 65536 < r'
      · have q1 : (65536 : Int) < r' := by omega
        go_wp2
        go_ret
        exact ⟨r', rfl, hb.alloc hb.size _, fun q => by omega⟩
      · have q1 : (r' : Int) ≤ 65536 := by omega
        go_wp2
        go_roundw
        case rel =>
          refine ⟨k + 1, r', by omega, by go_num, rfl, by omega, ?_, hb.alloc hb.size _⟩
          intro i hi hik
          have e := HR.out
          by_cases p : i = k
          · subst p
            rw [HX.out]
            omega
          · obtain ⟨a1, a2, a3⟩ := HU.out i hi (by omega)
            omega
        case measure => simp [intOf]; omega
    · have e : k = L.length := by omega
      have k1 : ¬ ((k : Int) < L.length) := by omega
      go_wp2
      go_ret
      refine ⟨r, rfl, hb, fun _ i hi => ?_⟩
      obtain ⟨a1, a2, a3⟩ := HU.out i hi (by omega)
      omega
end Go.Proofs.Ytphpadgmhanabaa
