/- A list of calls as it lies in memory; the walk of the statements' great. -/
import Derived.Test.YtoipmpaebngppaaEj
namespace Go.Proofs.Ytoipmpaebngppaa
open Go.RowKit Go.Maps

/-- A call, as the statements have it. -/
structure O where
  kind : Int
  lad : Option Addr
  lc : Nat
  list : List ByteArray
  n : Int
  kad : Option Addr
  kc : Nat
  keep : List Int
/-- The list lies in the world, where the slice leads to. -/
structure Li (L : List O) (ad : Option Addr) (w : World) : Prop where
  at' : ∀ i (h : i < L.length), ∃ b o, ad = some ⟨b, o, none⟩ ∧ b < w.heap.size ∧ w.cell? ⟨b, o + i * 4, none⟩ = some (.int .i64 L[i].kind) ∧ w.cell? ⟨b, o + i * 4 + 1, none⟩ = some (.slice L[i].lad L[i].list.length L[i].lc) ∧ w.cell? ⟨b, o + i * 4 + 2, none⟩ = some (.int .i64 L[i].n) ∧ w.cell? ⟨b, o + i * 4 + 3, none⟩ = some (.slice L[i].kad L[i].keep.length L[i].kc)
  strs : ∀ i (h : i < L.length), Ls L[i].list L[i].lad w
  ints : ∀ i (h : i < L.length), Ints w (.slice L[i].kad L[i].keep.length L[i].kc) L[i].keep
theorem Li.at_on {L : List O} {ad : Option Addr} {w w' : World} (h : Li L ad w) (hb : Below w.heap.size w w') (i : Nat) (hi : i < L.length) : ∃ b o, ad = some ⟨b, o, none⟩ ∧ b < w.heap.size ∧ w'.cell? ⟨b, o + i * 4, none⟩ = some (.int .i64 L[i].kind) ∧ w'.cell? ⟨b, o + i * 4 + 1, none⟩ = some (.slice L[i].lad L[i].list.length L[i].lc) ∧ w'.cell? ⟨b, o + i * 4 + 2, none⟩ = some (.int .i64 L[i].n) ∧ w'.cell? ⟨b, o + i * 4 + 3, none⟩ = some (.slice L[i].kad L[i].keep.length L[i].kc) := by
  obtain ⟨b, o, ha, hl, c0, c1, c2, c3⟩ := h.at' i hi
  have hc : ∀ o, w'.cell? ⟨b, o, none⟩ = w.cell? ⟨b, o, none⟩ := fun o => World.cell?_of_block (hb.block b hl)
  exact ⟨b, o, ha, hl, by rw [hc]; exact c0, by rw [hc]; exact c1, by rw [hc]; exact c2, by rw [hc]; exact c3⟩
theorem Li.on {L : List O} {ad : Option Addr} {w w' : World} (h : Li L ad w) (hb : Below w.heap.size w w') : Li L ad w' :=
  ⟨fun i hi => by
    obtain ⟨b, o, ha, hl, c⟩ := h.at_on hb i hi
    exact ⟨b, o, ha, Nat.lt_of_lt_of_le hl hb.size, c⟩, fun i hi => (h.strs i hi).on hb, fun i hi => (h.ints i hi).on hb⟩

/-- How much texts, a call, and calls hold. -/
def szT (l : List ByteArray) : Nat := (l.map (fun s => 1 + s.size)).sum
def szO (x : O) : Nat := 1 + x.keep.length + szT x.list
def szL (L : List O) : Nat := (L.map szO).sum
theorem szT_take (l : List ByteArray) (j : Nat) (h : j < l.length) : szT (l.take (j + 1)) = szT (l.take j) + (1 + l[j].size) := by
  unfold szT
  rw [List.take_succ_eq_append_getElem h, List.map_append, List.sum_append]
  simp
theorem szT_le (l : List ByteArray) (j : Nat) : szT (l.take j) ≤ szT l := by
  have e : szT l = szT (l.take j) + szT (l.drop j) := by
    unfold szT
    rw [← List.sum_append, ← List.map_append, List.take_append_drop]
  omega
theorem szL_take (L : List O) (j : Nat) (h : j < L.length) : szL (L.take (j + 1)) = szL (L.take j) + szO L[j] := by
  unfold szL
  rw [List.take_succ_eq_append_getElem h, List.map_append, List.sum_append]
  simp
theorem szL_le (L : List O) (j : Nat) : szL (L.take j) ≤ szL L := by
  have e : szL L = szL (L.take j) + szL (L.drop j) := by
    unfold szL
    rw [← List.sum_append, ← List.map_append, List.take_append_drop]
  omega
theorem szL_at (L : List O) (j : Nat) (h : j < L.length) : szO L[j] ≤ szL L := by
  have := szL_take L j h
  have := szL_le L (j + 1)
  omega
theorem sumS_szT : ∀ l : List ByteArray, sumS l ≤ 8 * szT l
  | [] => by simp [sumS_nil]
  | p :: l => by
    have := sumS_szT l
    have e : szT (p :: l) = (1 + p.size) + szT l := by simp [szT]
    rw [sumS_cons, e]
    omega
theorem szT_len : ∀ l : List ByteArray, l.length ≤ szT l
  | [] => by simp
  | p :: l => by
    have := szT_len l
    have e : szT (p :: l) = (1 + p.size) + szT l := by simp [szT]
    rw [e, List.length_cons]
    omega

/-- What great answers. -/
def GreatAns (L : List O) (w : World) (e : Ending) (w' : World) : Prop := ∃ b, e = .returned (.bool b) ∧ (b = false → L.length ≤ 100 ∧ szL L ≤ 16384) ∧ Below w.heap.size w w'

set_option maxHeartbeats 4000000 in
set_option maxRecDepth 100000 in
theorem great_any {L : List O} {ad : Option Addr} {cap : Nat} {w : World} (hL : Li L ad w) (hT : szL L ≤ 1000000000000000000) (hlen : L.length ≤ 1000000000000000000) :
    Calls Try.prog 8 #[.slice ad L.length cap] w fun e w' => GreatAns L w e w' := by
  have l1 : (L.length : Int) ≤ 1000000000000000000 := by omega
  go_enter Try.func8, Try.ntmps8
  go_wp2
  go_loopw [3, 10] (fun a i wr => ∃ k r : Nat, k ≤ L.length ∧ i = .int .i64 k ∧ a = .int .i64 r ∧ r ≤ 16384 ∧ Hid (r = szL (L.take k)) ∧ Below w.heap.size w wr) (fun _ i _ => L.length - (intOf i).toNat)
  case atStart => exact ⟨0, 0, Nat.zero_le _, rfl, rfl, Nat.zero_le _, Lib.hid rfl, Below.refl _ _⟩
  case round =>
    obtain ⟨k, r, hk, rfl, rfl, hr, HU, hb⟩ := hrel
    by_cases hlt : k < L.length
    · obtain ⟨b, o, rfl, hbl, c0, c1, c2, c3⟩ := hL.at_on hb k hlt
      have hst := hL.strs k hlt
      have hks := szL_take L k hlt
      have hkl := szL_le L (k + 1)
      obtain ⟨x, hx⟩ : ∃ x, L[k] = x := ⟨_, rfl⟩
      rw [hx] at c0 c1 c2 c3 hst hks
      have hsx : szO x = 1 + x.keep.length + szT x.list := rfl
      have hlx := szT_len x.list
      have k0 : (0 : Int) ≤ k := by omega
      have k1 : (k : Int) < L.length := by omega
      have r0 : (0 : Int) ≤ r := by omega
      have r1 : (r : Int) ≤ 16384 := by omega
      have g1 : (x.list.length : Int) ≤ 1000000000000000000 := by omega
      have g3 : (x.keep.length : Int) ≤ 1000000000000000000 := by omega
      have hsum : (r : Int) + (1 + (x.keep.length : Int)) = ((r + (1 + x.keep.length) : Nat) : Int) := by omega
      obtain ⟨r', hr'⟩ : ∃ r', r + (1 + x.keep.length) = r' := ⟨_, rfl⟩
      rw [hr'] at hsum
      have HS : Hid (r' + szT x.list = szL (L.take (k + 1))) := by
        show _ = _
        have := HU.out
        omega
      have HB : Hid (r' + szT x.list ≤ 1000000000000000000) := by
        show _ ≤ _
        have := HU.out
        omega
      clear hx hr' hks hkl hsx hlx
      have hal := hb.alloc hb.size (.cells #[.int .i64 x.kind, .slice x.lad x.list.length x.lc, .int .i64 x.n, .slice x.kad x.keep.length x.kc] 41)
      have hst' := hst.on hal
      go_wp2
      go_loop [3, 23] (fun a i => ∃ j q : Nat, j ≤ x.list.length ∧ i = .int .i64 j ∧ a = .int .i64 q ∧ Hid (q = r' + szT (x.list.take j))) (fun _ i => x.list.length - (intOf i).toNat)
      case atStart => exact ⟨0, r', Nat.zero_le _, rfl, rfl, Lib.hid rfl⟩
      case round =>
        obtain ⟨j, q, hj, rfl, rfl, HQ⟩ := hrel
        have hqb : q ≤ 1000000000000000000 := by
          have h1 := HQ.out
          have h2 := szT_le x.list j
          have h3 := HB.out
          omega
        have q0 : (0 : Int) ≤ q := by omega
        have q1 : (q : Int) ≤ 1000000000000000000 := by omega
        by_cases hjl : j < x.list.length
        · obtain ⟨b2, o2, e2, hbl2, d0⟩ := hst'.at' j hjl
          have hjs := szT_take x.list j hjl
          have hj2 := szT_le x.list (j + 1)
          obtain ⟨y, hy⟩ : ∃ y, x.list[j] = y := ⟨_, rfl⟩
          rw [hy] at d0 hjs
          rw [e2] at d0
          have j0 : (0 : Int) ≤ j := by omega
          have j1 : (j : Int) < x.list.length := by omega
          have hys : y.size ≤ 1000000000000000000 := by
            have h3 := HB.out
            omega
          have hys' : (y.size : Int) ≤ 1000000000000000000 := by omega
          have hsum2 : (q : Int) + (1 + (y.size : Int)) = ((q + (1 + y.size) : Nat) : Int) := by omega
          obtain ⟨q', hq'⟩ : ∃ q', q + (1 + y.size) = q' := ⟨_, rfl⟩
          rw [hq'] at hsum2
          have HQ' : Hid (q' = r' + szT (x.list.take (j + 1))) := by
            show _ = _
            have h1 := HQ.out
            omega
          clear hq' hjs hj2
          go_wp2
          go_round
          case rel =>
            exact ⟨_, _, _, ⟨j + 1, hjl, by go_num, q', rfl, HQ'⟩, rfl, rfl, rfl⟩
          case measure => simp [intOf]; omega
        · have e2 : j = x.list.length := by omega
          have j1 : ¬ ((j : Int) < x.list.length) := by omega
          have HF : Hid (q = szL (L.take (k + 1))) := by
            show _ = _
            have h1 := HQ.out
            have h2 := HS.out
            rw [e2, List.take_of_length_le (Nat.le_refl _)] at h1
            omega
          by_cases hbig : 16384 < q
          · have q2 : (16384 : Int) < q := by omega
            go_wp2
            go_ret
            exact ⟨true, rfl, fun h => (by cases h), hal⟩
          · have q2 : ¬ (16384 : Int) < q := by omega
            go_wp2
            go_roundw
            case rel => exact ⟨k + 1, q, by omega, by go_num, rfl, by omega, HF, hal⟩
            case measure => simp [intOf]; omega
    · have e : k = L.length := by omega
      have k1 : ¬ ((k : Int) < L.length) := by omega
      go_wp2
      go_ret
      refine ⟨_, rfl, fun hq => ?_, hb⟩
      have h2 := HU.out
      rw [e, List.take_of_length_le (Nat.le_refl _)] at h2
      have h3 : ¬ (100 : Int) < L.length := of_decide_eq_false hq
      exact ⟨by omega, by omega⟩
/-- A call's block. -/
def opO (kd : Int) (x : O) : Obj := .cells #[.int .i64 kd, .slice x.lad x.list.length x.lc, .int .i64 x.n, .slice x.kad x.keep.length x.kc] 41
/-- So much is put by so many calls. -/
def bud (k : Nat) : Nat := k * 131072
theorem bud_succ (k : Nat) : bud (k + 1) = bud k + 131072 := by unfold bud; omega
theorem bud_le {k : Nat} (h : k ≤ 100) : bud k ≤ 13107200 := by unfold bud; omega
theorem bud_on {k a : Nat} (h : a ≤ bud k) : a ≤ bud (k + 1) := by rw [bud_succ]; omega
theorem bud_add {k a b : Nat} (h : a ≤ bud k) (h2 : b ≤ 131072) : a + b ≤ bud (k + 1) := by rw [bud_succ]; omega
theorem bud_one {k b : Nat} (h2 : b ≤ 131072) : b ≤ bud (k + 1) := by rw [bud_succ]; omega
theorem size_box (w : World) (kd : Int) (x : O) : (w.alloc (opO kd x)).heap.size = w.heap.size + 1 := by simp
end Go.Proofs.Ytoipmpaebngppaa
