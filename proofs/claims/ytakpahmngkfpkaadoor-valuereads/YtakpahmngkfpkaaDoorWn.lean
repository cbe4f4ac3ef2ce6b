/- The document's number at every text, in one word: what numL says. -/
import Derived.Test.YtakpahmngkfpkaaDoorWm
namespace Go.Proofs.YtakpahmngkfpkaaDoor
open Go.RowKit

set_option maxHeartbeats 400000 in
theorem number_empty (s : ByteArray) (w : World) (h : s.size = 0) :
    Calls Tryd.prog 27 #[.string s] w fun e w' => e = .returned (.tuple #[.int .i64 0, .bool false]) ∧ Below w.heap.size w w' := by
  have t1 : ¬ (0 : Int) < (s.size : Int) := by omega
  have t2 : ((s.size : Int) == 0) = true := by rw [beq_iff_eq]; omega
  clear h
  go_enter Tryd.func27, Tryd.ntmps27
  go_wp2
  go_ret2
  exact ⟨rfl, Below.refl _ _⟩

set_option maxHeartbeats 400000 in
theorem number_long (s : ByteArray) (w : World) (h1 : 0 < s.size) (hm : ((s[0].toNat : Int) == 45) = false) (h : 19 < s.size) :
    Calls Tryd.prog 27 #[.string s] w fun e w' => e = .returned (.tuple #[.int .i64 0, .bool false]) ∧ Below w.heap.size w w' := by
  have t1 : (0 : Int) < (s.size : Int) := by omega
  have t2 : ((s.size : Int) == 0) = false := by rw [beq_eq_false_iff_ne]; omega
  have t3 : (19 : Int) < (s.size : Int) := by omega
  go_enter Tryd.func27, Tryd.ntmps27
  go_wp2
  go_ret2
  exact ⟨rfl, Below.refl _ _⟩

set_option maxHeartbeats 400000 in
theorem minus_empty (s m : ByteArray) (w : World) (h1 : 0 < s.size) (hm : ((s[0].toNat : Int) == 45) = true) (he : s.extract 1 s.size = m) (h : m.size = 0) :
    Calls Tryd.prog 27 #[.string s] w fun e w' => e = .returned (.tuple #[.int .i64 0, .bool false]) ∧ Below w.heap.size w w' := by
  have t1 : (0 : Int) < (s.size : Int) := by omega
  have t2 : ((m.size : Int) == 0) = true := by rw [beq_iff_eq]; omega
  clear h
  go_enter Tryd.func27, Tryd.ntmps27
  go_wp2
  go_ret2
  exact ⟨rfl, Below.refl _ _⟩

set_option maxHeartbeats 400000 in
theorem minus_long (s m : ByteArray) (w : World) (h1 : 0 < s.size) (hm : ((s[0].toNat : Int) == 45) = true) (he : s.extract 1 s.size = m) (h : 19 < m.size) :
    Calls Tryd.prog 27 #[.string s] w fun e w' => e = .returned (.tuple #[.int .i64 0, .bool false]) ∧ Below w.heap.size w w' := by
  have t1 : (0 : Int) < (s.size : Int) := by omega
  have t2 : ((m.size : Int) == 0) = false := by rw [beq_eq_false_iff_ne]; omega
  have t3 : (19 : Int) < (m.size : Int) := by omega
  go_enter Tryd.func27, Tryd.ntmps27
  go_wp2
  go_ret2
  exact ⟨rfl, Below.refl _ _⟩

/-- What number answers, beside numL. -/
def numRel (l : List UInt8) (V : Int) (b : Bool) : Prop :=
  match numL l with
  | some v => V = v ∧ b = true
  | none => b = false

theorem szl (s : ByteArray) : s.size = s.data.toList.length := Array.length_toList.symm

theorem numRel_minus {c d : UInt8} {q : List UInt8} (hc : c.toNat = 45) (m : ByteArray) (hm : m.data.toList = d :: q) (hl : m.size ≤ 19) (ha : m.data.toList.all isD = true) {V : Int} {b : Bool} (hV : valM m V) (hb : okM m b) : numRel (c :: d :: q) V b := by
  have hsz := szl m
  unfold valM at hV
  unfold okM at hb
  rw [hm] at hV hb ha hsz
  unfold numRel numL
  dsimp only
  rw [if_pos hc]
  by_cases h : (d :: q).length ≤ 19 ∧ (d :: q).all isD = true ∧ nv 0 (d :: q) ≤ 9223372036854775808 ∧ 0 < nv 0 (d :: q) ∧ d.toNat ≠ 48
  · rw [if_pos h]
    obtain ⟨_, _, h3, h4, h5⟩ := h
    constructor
    · rw [← hV]
      generalize nv 0 (d :: q) = z at h3 h4
      unfold wrap64
      omega
    · rw [← hb]
      have e3 : (((((d :: q).headD 0).toNat : Nat) : Int) != 48) = true := by rw [bne_iff_ne]; show ((d.toNat : Nat) : Int) ≠ 48; omega
      rw [e3, decide_eq_true (by omega), decide_eq_true (by omega)]
      rfl
  · rw [if_neg h]
    rw [← hb]
    by_cases h3 : nv 0 (d :: q) ≤ 9223372036854775808
    · by_cases h4 : 0 < nv 0 (d :: q)
      · have h5 : d.toNat = 48 := by
          apply Classical.byContradiction
          intro h5
          exact h ⟨by omega, ha, h3, h4, h5⟩
        have e3 : (((((d :: q).headD 0).toNat : Nat) : Int) != 48) = false := by rw [bne_eq_false_iff_eq]; show ((d.toNat : Nat) : Int) = 48; omega
        rw [e3, Bool.and_false]
      · rw [decide_eq_false (p := 0 < ((nv 0 (d :: q) : Nat) : Int)) (by omega), Bool.and_false, Bool.false_and]
    · rw [decide_eq_false (p := ((nv 0 (d :: q) : Nat) : Int) ≤ 9223372036854775808) (by omega), Bool.false_and, Bool.false_and]

theorem numRel_plain {c : UInt8} {q : List UInt8} (hc : ¬ c.toNat = 45) (m : ByteArray) (hm : m.data.toList = c :: q) (hl : m.size ≤ 19) (ha : m.data.toList.all isD = true) {V : Int} {b : Bool} (hV : valP m V) (hb : okP m b) : numRel (c :: q) V b := by
  have hsz := szl m
  unfold valP at hV
  unfold okP at hb
  rw [hm] at hV hb ha hsz
  unfold numRel numL
  dsimp only
  rw [if_neg hc]
  by_cases h : (c :: q).length ≤ 19 ∧ (c :: q).all isD = true ∧ nv 0 (c :: q) < 9223372036854775808 ∧ (q = [] ∨ c.toNat ≠ 48)
  · rw [if_pos h]
    obtain ⟨_, _, h3, h5⟩ := h
    constructor
    · rw [← hV]
      generalize nv 0 (c :: q) = z at h3
      unfold wrap64
      omega
    · rw [← hb, decide_eq_true (by omega)]
      rcases h5 with h5 | h5
      · have e2 : ((m.size : Int) == 1) = true := by rw [beq_iff_eq, hsz, h5]; rfl
        rw [e2]
        rfl
      · have e3 : (((((c :: q).headD 0).toNat : Nat) : Int) != 48) = true := by rw [bne_iff_ne]; show ((c.toNat : Nat) : Int) ≠ 48; omega
        rw [e3, Bool.or_true]
        rfl
  · rw [if_neg h, ← hb]
    by_cases h3 : nv 0 (c :: q) < 9223372036854775808
    · have h5 : ¬ (q = [] ∨ c.toNat ≠ 48) := fun h5 => h ⟨by omega, ha, h3, h5⟩
      have h6 : c.toNat = 48 := by
        apply Classical.byContradiction
        intro h6
        exact h5 (Or.inr h6)
      have e2 : ((m.size : Int) == 1) = false := by
        rw [beq_eq_false_iff_ne, hsz, List.length_cons]
        intro e
        exact h5 (Or.inl (List.length_eq_zero_iff.1 (by omega)))
      have e3 : (((((c :: q).headD 0).toNat : Nat) : Int) != 48) = false := by rw [bne_eq_false_iff_eq]; show ((c.toNat : Nat) : Int) = 48; omega
      rw [e2, e3, Bool.or_false, Bool.and_false]
    · rw [decide_eq_false (p := ((nv 0 (c :: q) : Nat) : Int) < 9223372036854775808) (by omega), Bool.false_and]

theorem number_any (s : ByteArray) (w : World) :
    Calls Tryd.prog 27 #[.string s] w fun e w' => ∃ (V : Int) (b : Bool), e = .returned (.tuple #[.int .i64 V, .bool b]) ∧ numRel s.data.toList V b ∧ Below w.heap.size w w' := by
  have hsz := szl s
  have fin : ∀ (hn : numL s.data.toList = none), (Calls Tryd.prog 27 #[.string s] w fun e w' => e = .returned (.tuple #[.int .i64 0, .bool false]) ∧ Below w.heap.size w w') → Calls Tryd.prog 27 #[.string s] w fun e w' => ∃ (V : Int) (b : Bool), e = .returned (.tuple #[.int .i64 V, .bool b]) ∧ numRel s.data.toList V b ∧ Below w.heap.size w w' := by
    intro hn h
    refine h.mono ?_
    rintro e w' ⟨rfl, hb⟩
    exact ⟨0, false, rfl, by unfold numRel; rw [hn], hb⟩
  cases hl : s.data.toList with
  | nil =>
    rw [hl] at fin hsz
    exact fin rfl (number_empty s w hsz)
  | cons c r =>
    rw [hl] at fin hsz
    have h1 : 0 < s.size := by rw [hsz]; simp
    have hc0 : s[0] = c := by have := head0 s h1; rw [hl] at this; exact this.symm
    by_cases hc : c.toNat = 45
    · have hm : ((s[0].toNat : Int) == 45) = true := by rw [hc0, hc]; rfl
      obtain ⟨m, he⟩ : ∃ m, s.extract 1 s.size = m := ⟨_, rfl⟩
      have hme : m.data.toList = r := by rw [← he, Lib.extract_to_end, hl]; rfl
      have hms := szl m
      rw [hme] at hms
      cases hr : r with
      | nil =>
        rw [hr] at fin hms
        exact fin (by unfold numL; dsimp only; rw [if_pos hc]) (minus_empty s m w h1 hm he hms)
      | cons d q =>
        rw [hr] at fin hms hme
        by_cases hlong : 19 < m.size
        · refine fin ?_ (minus_long s m w h1 hm he hlong)
          unfold numL; dsimp only; rw [if_pos hc, if_neg]
          intro h
          omega
        · cases ha : m.data.toList.all isD
          · refine fin ?_ (minus_bad s m w h1 hm he (by rw [hms]; simp) (by omega) ha)
            unfold numL; dsimp only; rw [if_pos hc, if_neg]
            intro h
            rw [hme, h.2.1] at ha
            cases ha
          · refine (minus_digits s m w h1 hm he (by rw [hms]; simp) (by omega) ha).mono ?_
            rintro e w' ⟨V, b, rfl, hV, hb, hw⟩
            exact ⟨V, b, rfl, numRel_minus hc m hme (by omega) ha hV hb, hw⟩
    · have hm : ((s[0].toNat : Int) == 45) = false := by rw [hc0, beq_eq_false_iff_ne]; omega
      by_cases hlong : 19 < s.size
      · refine fin ?_ (number_long s w h1 hm hlong)
        unfold numL; dsimp only; rw [if_neg hc, if_neg]
        intro h
        omega
      · cases ha : s.data.toList.all isD
        · refine fin ?_ (plain_bad s w (fun _ => hm) h1 (by omega) ha)
          unfold numL; dsimp only; rw [if_neg hc, if_neg]
          intro h
          rw [hl, h.2.1] at ha
          cases ha
        · refine (plain_digits s w (fun _ => hm) h1 (by omega) ha).mono ?_
          rintro e w' ⟨V, b, rfl, hV, hb, hw⟩
          exact ⟨V, b, rfl, numRel_plain hc s hl (by omega) ha hV hb, hw⟩
end Go.Proofs.YtakpahmngkfpkaaDoor
