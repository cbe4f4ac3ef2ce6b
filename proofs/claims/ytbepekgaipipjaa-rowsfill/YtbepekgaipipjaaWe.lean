/- The walks of the reader's methods null and number. -/
import Derived.Test.YtbepekgaipipjaaWd
import Derived.OneCell
namespace Go.Proofs.Ytbepekgaipipjaa
open Go.RowKit

theorem gb_refl (w : World) (r : Option Nat) : w.grownBy w r := ⟨rfl, rfl, rfl, Nat.le_refl _, fun _ _ _ => rfl⟩
theorem gb_trans {w w1 w2 : World} {r : Option Nat} (h : w.grownBy w1 r) (k : w1.grownBy w2 r) : w.grownBy w2 r :=
  ⟨k.os.trans h.os, k.tape.trans h.tape, k.output.trans h.output, Nat.le_trans h.size k.size, fun j hj hr => (k.block j (Nat.lt_of_lt_of_le hj h.size) hr).trans (h.block j hj hr)⟩
theorem gb_alloc {w w1 : World} {r : Option Nat} (h : w.grownBy w1 r) (o : Obj) : w.grownBy (w1.alloc o) r :=
  ⟨h.os, h.tape, h.output, Nat.le_trans h.size (by simp), fun j hj hr => (Below.heap_alloc w1 o j (Nat.lt_of_lt_of_le hj h.size)).trans (h.block j hj hr)⟩
theorem gb_set {w w1 : World} {r : Option Nat} (h : w.grownBy w1 r) {a : Addr} (ha : some a.block = r ∨ w.heap.size ≤ a.block) (u : Value) : w.grownBy (w1.setCell a u) r :=
  ⟨h.os, h.tape, h.output, Nat.le_trans h.size (by simp [World.setCell]), fun j hj hr => (Below.heap_setCell w1 a u j (by rintro rfl; rcases ha with ha | ha; exact hr ha; omega)).trans (h.block j hj hr)⟩
theorem gb_grown {w w1 w2 : World} {r row : Option Nat} (h : w.grownBy w1 r) (k : w1.grownBy w2 row) (hr : ∀ k, row = some k → w.heap.size ≤ k) : w.grownBy w2 r :=
  ⟨k.os.trans h.os, k.tape.trans h.tape, k.output.trans h.output, Nat.le_trans h.size k.size, fun j hj hrj => (k.block j (Nat.lt_of_lt_of_le hj h.size) (fun e => by have := hr j e.symm; omega)).trans (h.block j hj hrj)⟩
theorem gb_below {w w1 w2 : World} {r : Option Nat} (h : w.grownBy w1 r) (k : Below w1.heap.size w1 w2) : w.grownBy w2 r :=
  ⟨k.os.trans h.os, k.tape.trans h.tape, k.output.trans h.output, Nat.le_trans h.size k.size, fun j hj hrj => (k.block j (Nat.lt_of_lt_of_le hj h.size)).trans (h.block j hj hrj)⟩
theorem gb_drew {w w1 : World} {r : Option Nat} (h : w.grownBy w1 r) : w.grownBy w1.drew r := ⟨h.os, h.tape, h.output, h.size, h.block⟩

/-- The reader lies at block b and has s left. -/
abbrev Rd (b : Nat) (s : ByteArray) (w : World) : Prop := w.heap[b]? = some (.cells #[.string s] 106 (0, 0))

set_option maxHeartbeats 1000000 in
theorem null_any (b : Nat) (w : World) :
    Calls Try.prog 53 #[.pointer (some ⟨b, 0, none⟩)] w fun e w' => e = .returned (.tuple #[.agg #[.int .i64 0, .int .i64 0, .string ⟨#[]⟩], .bool true]) ∧ Below w.heap.size w w' := by
  go_enter Try.func53, Try.ntmps53
  go_wp2
  exact bodyPost_ret (v := .tuple #[.agg #[.int .i64 0, .int .i64 0, .string ⟨#[]⟩], .bool true]) (by simp [results, Try.results53, go_sem]) rfl ⟨rfl, (Below.refl _ _).alloc (Nat.le_refl _) _⟩

set_option maxHeartbeats 1000000 in
theorem number_short (b : Nat) (s : ByteArray) (w : World) (hR : Rd b s w) (hs : s.size < 8) :
    Calls Try.prog 54 #[.pointer (some ⟨b, 0, none⟩)] w fun e w' => e = .returned (.tuple #[.agg #[.int .i64 0, .int .i64 0, .string ⟨#[]⟩], .bool false]) ∧ Below w.heap.size w w' := by
  have t1 : (s.size : Int) < 8 := by omega
  have hlt := lt_of_block hR
  have c0 := cell_of_one hR
  have c1 : ∀ o, (w.alloc o).cell? ⟨b, 0, none⟩ = some (.string s) := fun o => by rw [World.cell?_alloc_past _ _ _ hlt]; exact c0
  go_enter Try.func54, Try.ntmps54
  go_wp2
  exact bodyPost_ret (v := .tuple #[.agg #[.int .i64 0, .int .i64 0, .string ⟨#[]⟩], .bool false]) (by simp [results, Try.results54, go_sem]) rfl ⟨rfl, (Below.refl _ _).alloc (Nat.le_refl _) _⟩

theorem or_step (m c : Nat) (hm : m < 72057594037927936) (hc : c < 256) : bits .or .u64 (IntKind.u64.wrap ((m : Int) * 256)) (IntKind.u64.wrap (c : Int)) = ((m * 256 + c : Nat) : Int) := by
  have e1 : IntKind.u64.wrap ((m : Int) * 256) = ((m * 256 : Nat) : Int) := by rw [IntKind.wrap_u64]; omega
  have e2 : IntKind.u64.wrap (c : Int) = (c : Int) := by rw [IntKind.wrap_u64]; omega
  rw [e1, e2]
  have h1 : (BitVec.ofInt 64 ((m * 256 : Nat) : Int)).toNat = m * 256 := by
    rw [BitVec.ofInt_natCast, BitVec.toNat_ofNat]; exact Nat.mod_eq_of_lt (by omega)
  have h2 : (BitVec.ofInt 64 (c : Int)).toNat = c := by
    rw [BitVec.ofInt_natCast, BitVec.toNat_ofNat]; exact Nat.mod_eq_of_lt (by omega)
  show IntKind.u64.wrap ((BitVec.ofInt 64 ((m * 256 : Nat) : Int) ||| BitVec.ofInt 64 (c : Int)).toNat : Int) = _
  have h3 : m * 256 ||| c = m * 256 + c := by
    have := Nat.two_pow_add_eq_or_of_lt (i := 8) (b := c) (by simpa using hc) m
    rw [Nat.mul_comm m 256]
    exact this.symm
  rw [BitVec.toNat_or, h1, h2, h3, IntKind.wrap_u64]
  omega

theorem num_take_lt (l : List UInt8) (k : Nat) (hk : k < 8) : num 0 (l.take k) < 72057594037927936 := by
  have h := num_lt (l.take k)
  have h2 : (l.take k).length ≤ 7 := Nat.le_trans (List.length_take_le _ _) (by omega)
  exact Nat.lt_of_lt_of_le h (Nat.pow_le_pow_right (by omega) h2)

/-- How far the number has been read. -/
def NumAt (l : List UInt8) (k : Nat) (U : Int) : Prop := U = (num 0 (l.take k) : Nat)

theorem numAt_step (s : ByteArray) (k : Nat) (hk : k < 8) (hs : k < s.size) (U : Int) (h : NumAt s.data.toList k U) :
    NumAt s.data.toList (k + 1) (bits .or .u64 (IntKind.u64.wrap (U * 256)) (IntKind.u64.wrap (s[k].toNat : Int))) := by
  unfold NumAt at *
  rw [h, or_step _ _ (num_take_lt _ _ hk) s[k].toNat_lt, take_snoc s k hs, num_snoc]

theorem num_final (s : ByteArray) (U : Int) (h : NumAt s.data.toList 8 U) : wrap64 (IntKind.u64.wrap (U - 9223372036854775808)) = (numV (s.data.toList.take 8)).n := by
  unfold NumAt at h
  have hl := num_lt (s.data.toList.take 8)
  have h2 : num 0 (s.data.toList.take 8) < 18446744073709551616 := Nat.lt_of_lt_of_le hl (Nat.pow_le_pow_right (j := 8) (by decide) (List.length_take_le _ _))
  show _ = (num 0 (s.data.toList.take 8) : Int) - 9223372036854775808
  rw [h, IntKind.wrap_u64]
  unfold wrap64
  omega

set_option maxHeartbeats 1000000 in
set_option maxRecDepth 100000 in
theorem number_good (b : Nat) (s : ByteArray) (w : World) (hR : Rd b s w) (hs : 8 ≤ s.size) :
    Calls Try.prog 54 #[.pointer (some ⟨b, 0, none⟩)] w fun e w' => e = .returned (.tuple #[.agg #[.int .i64 1, .int .i64 (numV (s.data.toList.take 8)).n, .string ⟨#[]⟩], .bool true]) ∧ w.grownBy w' (some b) ∧ Rd b (s.extract 8 s.size) w' := by
  have t1 : ¬ (s.size : Int) < 8 := by omega
  have hlt := lt_of_block hR
  have c0 := cell_of_one hR
  have c1 : ∀ o, (w.alloc o).cell? ⟨b, 0, none⟩ = some (.string s) := fun o => by rw [World.cell?_alloc_past _ _ _ hlt]; exact c0
  have f1 : ∀ o, (w.alloc o).frozen? ⟨b, 0, none⟩ = false := fun o => by rw [World.frozen?_alloc_past _ _ _ hlt]; exact free_of_one hR
  go_enter Try.func54, Try.ntmps54
  go_wp2
  go_loop [4, 13] (fun u i => ∃ (k : Nat) (U : Int), k ≤ 8 ∧ i = .int .i64 k ∧ u = .int .u64 U ∧ Hid (NumAt s.data.toList k U)) (fun _ i => 8 - (intOf i).toNat)
  case atStart => exact ⟨0, 0, by omega, rfl, rfl, rfl⟩
  case round =>
    obtain ⟨k, U, hk, rfl, rfl, HU⟩ := hrel
    by_cases hk8 : k < 8
    · go_wp2
      go_round
      case rel => exact ⟨k + 1, _, by omega, by go_num, rfl, numAt_step s k hk8 (by omega) U HU.out⟩
      case measure => simp [intOf]; omega
    · obtain rfl : k = 8 := by omega
      have HF := Lib.hid (num_final s U HU.out)
      clear HU
      go_wp2
      rw [HF.out]
      exact bodyPost_ret (v := .tuple #[.agg #[.int .i64 1, .int .i64 (numV (s.data.toList.take 8)).n, .string ⟨#[]⟩], .bool true]) (by simp [results, Try.results54, go_sem]) rfl ⟨rfl, gb_alloc (gb_set (gb_refl _ _) (.inl rfl) _) _, (Below.heap_alloc _ _ _ (by simpa [World.setCell] using hlt)).trans (one_setCell hR)⟩
end Go.Proofs.Ytbepekgaipipjaa
