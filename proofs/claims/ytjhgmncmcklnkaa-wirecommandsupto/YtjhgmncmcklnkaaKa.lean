/- Numbers as bytes, in groups of seven bits: plain facts. -/
import Derived.Test.YtjhgmncmcklnkaaRows
namespace Go.Proofs.Ytjhgmncmcklnkaa

def zig (n : Int) : Nat := if n < 0 then (-2 * n - 1).toNat else (2 * n).toNat
def zag (z : Nat) : Int := if z % 2 = 1 then -((z / 2 : Nat) : Int) - 1 else ((z / 2 : Nat) : Int)
theorem zag_zig (n : Int) : zag (zig n) = n := by
  unfold zag zig
  split <;> split <;> omega
theorem zig_zag (z : Nat) : zig (zag z) = z := by
  unfold zag zig
  split <;> split <;> omega
/-- A number of 64 bits. -/
def I64 (n : Int) : Prop := -9223372036854775808 ≤ n ∧ n ≤ 9223372036854775807
theorem zig_lt {n : Int} (h : I64 n) : zig n < 18446744073709551616 := by
  unfold I64 at h
  unfold zig
  split <;> omega
theorem zag_in {z : Nat} (h : z < 18446744073709551616) : I64 (zag z) := by
  unfold I64 zag
  split <;> omega

/-- At most k groups. -/
def grpN : Nat → Nat → List UInt8
  | 0, _ => []
  | k + 1, z => if z < 128 then [UInt8.ofNat z] else UInt8.ofNat (z % 128 + 128) :: grpN k (z / 128)
def grp (z : Nat) : List UInt8 := grpN 10 z
/-- May the group b be the last one, where k more might follow? -/
def endK (k : Nat) (b : Nat) : Bool := if b = 0 then k == 9 else (decide (0 < k) || decide (b ≤ 1))
/-- What is read in at most k groups. -/
def rdN : Nat → List UInt8 → Option (Nat × List UInt8)
  | 0, _ => none
  | _ + 1, [] => none
  | k + 1, b :: l => if 128 ≤ b.toNat then (rdN k l).map fun p => (b.toNat - 128 + 128 * p.1, p.2) else if endK k b.toNat then some (b.toNat, l) else none
/-- What fits into k groups, behind those that are there. -/
def cap : Nat → Nat
  | 0 => 0
  | 1 => 2
  | k + 2 => 128 * cap (k + 1)
theorem cap_ten : cap 10 = 18446744073709551616 := by decide
theorem grpN_len : ∀ (k z : Nat), (grpN k z).length ≤ k
  | 0, _ => Nat.le_refl _
  | k + 1, z => by
    unfold grpN
    split
    · simp
    · have := grpN_len k (z / 128)
      simp only [List.length_cons]
      omega
theorem grp_len (z : Nat) : (grp z).length ≤ 10 := grpN_len 10 z
theorem grp_pos (z : Nat) : 0 < (grp z).length := by
  unfold grp grpN
  split <;> simp
theorem toNat_of {z : Nat} (h : z < 256) : (UInt8.ofNat z).toNat = z := by
  rw [UInt8.toNat_ofNat']
  exact Nat.mod_eq_of_lt h
/-- What is read was written, behind the first group. -/
theorem rd_back : ∀ (k : Nat) (l r : List UInt8) (z : Nat), k < 10 → rdN k l = some (z, r) → 0 < z ∧ z < cap k ∧ l = grpN k z ++ r
  | 0, _, _, _, _, h => by simp [rdN] at h
  | k + 1, [], _, _, _, h => by simp [rdN] at h
  | k + 1, b :: l, r, z, hk, h => by
    unfold rdN at h
    split at h
    · rename_i hb
      cases hq : rdN k l with
      | none => simp [hq] at h
      | some p =>
        obtain ⟨y, s⟩ := p
        simp only [hq, Option.map_some, Option.some.injEq, Prod.mk.injEq] at h
        obtain ⟨h1, h2⟩ := h
        obtain ⟨i1, i2, i3⟩ := rd_back k l s y (by omega) hq
        have hbl : b.toNat < 256 := b.toNat_lt
        cases k with
        | zero => simp [rdN] at hq
        | succ k =>
          refine ⟨by omega, ?_, ?_⟩
          · show z < 128 * cap (k + 1)
            omega
          · unfold grpN
            rw [if_neg (by omega)]
            have e1 : z % 128 + 128 = b.toNat := by omega
            have e2 : z / 128 = y := by omega
            rw [e1, e2, ← h2, UInt8.ofNat_toNat, i3]
            rfl
    · rename_i hb
      split at h
      · rename_i he
        simp only [Option.some.injEq, Prod.mk.injEq] at h
        obtain ⟨h1, h2⟩ := h
        unfold endK at he
        split at he
        · simp at he
          omega
        · rename_i h0
          refine ⟨by omega, ?_, ?_⟩
          · cases k with
            | zero => simp at he; show z < 2; omega
            | succ k =>
              have : 2 ≤ cap (k + 1) := by
                clear he h1 h2 hk
                induction k with
                | zero => exact Nat.le_refl _
                | succ k ih => show 2 ≤ 128 * cap (k + 1); omega
              show z < 128 * cap (k + 1)
              omega
          · unfold grpN
            rw [if_pos (by omega), ← h1, ← h2, UInt8.ofNat_toNat]
            rfl
      · cases h
/-- What was written is read, behind the first group. -/
theorem rd_fore : ∀ (k : Nat) (r : List UInt8) (z : Nat), 0 < z → z < cap k → k < 10 → rdN k (grpN k z ++ r) = some (z, r)
  | 0, _, _, _, h, _ => by simp [cap] at h
  | k + 1, r, z, h0, h1, hk => by
    unfold grpN
    split
    · rename_i hz
      have e : (UInt8.ofNat z).toNat = z := toNat_of (by omega)
      show rdN (k + 1) (UInt8.ofNat z :: r) = _
      unfold rdN
      rw [e, if_neg (by omega), if_pos]
      unfold endK
      rw [if_neg (by omega)]
      cases k with
      | zero => simp; have : z < 2 := h1; omega
      | succ k => simp
    · rename_i hz
      have e : (UInt8.ofNat (z % 128 + 128)).toNat = z % 128 + 128 := toNat_of (by omega)
      show rdN (k + 1) (UInt8.ofNat (z % 128 + 128) :: (grpN k (z / 128) ++ r)) = _
      unfold rdN
      cases k with
      | zero => have : z < 2 := h1; omega
      | succ k =>
        have h1' : z < 128 * cap (k + 1) := h1
        rw [e, if_pos (by omega), rd_fore (k + 1) r (z / 128) (by omega) (by omega) (by omega)]
        simp only [Option.map_some, Option.some.injEq, Prod.mk.injEq, and_true]
        omega
/-- What is read of any bytes. -/
theorem rd_iff (l r : List UInt8) (z : Nat) : rdN 10 l = some (z, r) ↔ z < 18446744073709551616 ∧ l = grp z ++ r := by
  have hcap : 128 * cap 9 = 18446744073709551616 := by decide
  constructor
  · intro h
    cases l with
    | nil => simp [rdN] at h
    | cons b l =>
      rw [show (10 : Nat) = 9 + 1 from rfl] at h
      unfold rdN at h
      have hbl : b.toNat < 256 := b.toNat_lt
      split at h
      · cases hq : rdN 9 l with
        | none => simp [hq] at h
        | some p =>
          obtain ⟨y, s⟩ := p
          simp only [hq, Option.map_some, Option.some.injEq, Prod.mk.injEq] at h
          obtain ⟨h1, h2⟩ := h
          obtain ⟨i1, i2, i3⟩ := rd_back 9 l s y (by omega) hq
          refine ⟨by omega, ?_⟩
          show b :: l = grpN (9 + 1) z ++ r
          unfold grpN
          rw [if_neg (by omega)]
          have e1 : z % 128 + 128 = b.toNat := by omega
          have e2 : z / 128 = y := by omega
          rw [e1, e2, ← h2, UInt8.ofNat_toNat, i3]
          rfl
      · split at h
        · simp only [Option.some.injEq, Prod.mk.injEq] at h
          obtain ⟨h1, h2⟩ := h
          refine ⟨by omega, ?_⟩
          show b :: l = grpN (9 + 1) z ++ r
          unfold grpN
          rw [if_pos (by omega), ← h1, ← h2, UInt8.ofNat_toNat]
          rfl
        · cases h
  · rintro ⟨hz, rfl⟩
    show rdN (9 + 1) (grpN (9 + 1) z ++ r) = _
    unfold grpN
    split
    · have e : (UInt8.ofNat z).toNat = z := toNat_of (by omega)
      show rdN (9 + 1) (UInt8.ofNat z :: r) = _
      unfold rdN
      rw [e, if_neg (by omega), if_pos]
      unfold endK
      split <;> simp
    · have e : (UInt8.ofNat (z % 128 + 128)).toNat = z % 128 + 128 := toNat_of (by omega)
      show rdN (9 + 1) (UInt8.ofNat (z % 128 + 128) :: (grpN 9 (z / 128) ++ r)) = _
      unfold rdN
      rw [e, if_pos (by omega), rd_fore 9 r (z / 128) (by omega) (by omega) (by omega)]
      simp only [Option.map_some, Option.some.injEq, Prod.mk.injEq, and_true]
      omega
/-- Groups, where there is room for all. -/
theorem grpN_step (k z : Nat) (h : 128 ≤ z) : grpN (k + 1) z = UInt8.ofNat (z % 128 + 128) :: grpN k (z / 128) := by
  show (if z < 128 then _ else _) = _
  rw [if_neg (by omega)]
theorem grpN_last (k z : Nat) (h : z < 128) : grpN (k + 1) z = [UInt8.ofNat z] := by
  show (if z < 128 then _ else _) = _
  rw [if_pos h]

/-- A number's bytes. -/
def num (n : Int) : List UInt8 := grp (zig n)
theorem num_len (n : Int) : (num n).length ≤ 10 := grp_len _
theorem num_pos (n : Int) : 0 < (num n).length := grp_pos _
theorem grp_pre {y z : Nat} {r s : List UInt8} (hy : y < 18446744073709551616) (hz : z < 18446744073709551616) (h : grp y ++ r = grp z ++ s) : y = z ∧ r = s := by
  have h1 := (rd_iff (grp y ++ r) r y).2 ⟨hy, rfl⟩
  have h2 := (rd_iff (grp y ++ r) s z).2 ⟨hz, h⟩
  rw [h1] at h2
  simpa using h2
theorem num_pre {m n : Int} {r s : List UInt8} (hm : I64 m) (hn : I64 n) (h : num m ++ r = num n ++ s) : m = n ∧ r = s := by
  obtain ⟨h1, h2⟩ := grp_pre (zig_lt hm) (zig_lt hn) h
  exact ⟨by rw [← zag_zig m, h1, zag_zig], h2⟩
end Go.Proofs.Ytjhgmncmcklnkaa
