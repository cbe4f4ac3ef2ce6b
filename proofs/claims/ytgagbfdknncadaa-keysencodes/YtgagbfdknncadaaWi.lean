/- The walk of the document's Same: two lists of the same values. -/
import Derived.Test.YtgagbfdknncadaaWd
import Derived.Deep.QuietTactic
import Derived.BigQuiet
namespace Go.Proofs.Ytgagbfdknncadaa
open Go.RowKit

theorem ba_ext {s t : ByteArray} (h : s.data.toList = t.data.toList) : s = t := by
  obtain ⟨⟨l⟩⟩ := s
  obtain ⟨⟨m⟩⟩ := t
  simp at h
  subst h
  rfl

set_option maxHeartbeats 2000000 in
theorem same_len (a b : Nat) (ad ad' : Option Addr) (cap cap' : Nat) (w : World) (h : a ≠ b) :
    Calls Try.prog 12 #[.slice ad a cap, .slice ad' b cap'] w fun e w' => e = .returned (.bool false) ∧ Below w.heap.size w w' := by
  have t : ((a : Int) != (b : Int)) = true := by rw [bne_iff_ne]; omega
  go_enter Try.func12, Try.ntmps12
  go_wp2
  go_ret
  exact ⟨rfl, Below.refl _ _⟩

set_option maxHeartbeats 4000000 in
set_option maxRecDepth 100000 in
theorem same_rest (L M : List V) (ad ad' : Option Addr) (cap cap' : Nat) (w : World) (hL : Li L ad w) (hM : Li M ad' w) (hlen : L.length = M.length) (hmax : L.length ≤ 9223372036854775806) (r : Bool) (hr : r = true ↔ L = M) :
    Calls Try.prog 12 #[.slice ad L.length cap, .slice ad' M.length cap'] w fun e w' => e = .returned (.bool r) ∧ Below w.heap.size w w' := by
  have t : ((L.length : Int) != (M.length : Int)) = false := by rw [hlen]; simp
  have HR := Lib.hid hr
  clear hr
  go_enter Try.func12, Try.ntmps12
  go_wp2
  go_loopw [5] (fun i wr => ∃ k : Nat, k ≤ L.length ∧ i = .int .i64 k ∧ Below w.heap.size w wr ∧ Hid (∀ j (h : j < L.length), j < k → L[j] = M[j]'(by omega))) (fun i _ => L.length - (intOf i).toNat)
  case atStart => exact ⟨0, by omega, rfl, Below.refl _ _, fun j _ h => by omega⟩
  case round =>
    obtain ⟨k, hk, rfl, hb, HK⟩ := hrel
    by_cases hlt : k < L.length
    · have hlt' : k < M.length := by omega
      obtain ⟨b, o, rfl, hbl, c0, c1, c2⟩ := (hL.on hb).at' k hlt
      obtain ⟨b', o', rfl, hbl', d0, d1, d2⟩ := (hM.on hb).at' k hlt'
      obtain ⟨x, hx⟩ : ∃ x, x = L[k] := ⟨_, rfl⟩
      obtain ⟨y, hy⟩ : ∃ y, y = M[k] := ⟨_, rfl⟩
      rw [← hx] at c0 c1 c2
      rw [← hy] at d0 d1 d2
      have HX := Lib.hid hx
      have HY := Lib.hid hy
      clear hx hy
      have z1 : (k : Int) < (M.length : Int) := by omega
      have z2 : (k : Int) < (L.length : Int) := by omega
      by_cases hxy : x = y
      · have HN : Hid (∀ j (h : j < L.length), j < k + 1 → L[j] = M[j]'(by omega)) := by
          intro j h hj
          by_cases e : j = k
          · subst e; rw [← HX.out, ← HY.out, hxy]
          · exact HK.out j h (by omega)
        subst hxy
        go_wp2
        go_quiet (fail)
        go_wp2
        exact ⟨⟨k + 1, by omega, by go_num, below_drewN hb _, HN⟩, by simp [intOf]; omega⟩
      · have HF : Hid (r = false) := by
          show r = false
          cases hrr : r with
          | false => rfl
          | true =>
            exfalso
            have := HR.out.1 hrr
            subst this
            exact hxy (HX.out.trans HY.out.symm)
        by_cases e1 : x.k = y.k
        · by_cases e2 : x.n = y.n
          · have e3 : (x.s.toList == y.s.toList) = false := by
              rw [beq_eq_false_iff_ne, toL, toL]
              intro h
              exact hxy (V.ext' e1 e2 h)
            have q1 : (x.k == y.k) = true := by rw [e1]; simp
            have q2 : (x.n == y.n) = true := by rw [e2]; simp
            clear e1 e2 hxy
            go_wp2
            go_quiet (fail)
            go_wp2
            go_ret
            rw [HF.out]
            exact ⟨rfl, below_drewN hb _⟩
          · have q1 : (x.k == y.k) = true := by rw [e1]; simp
            have q2 : (x.n == y.n) = false := by rw [beq_eq_false_iff_ne]; exact e2
            clear e1 e2 hxy
            go_wp2
            go_quiet (fail)
            go_wp2
            go_ret
            rw [HF.out]
            exact ⟨rfl, below_drewN hb _⟩
        · have q1 : (x.k == y.k) = false := by rw [beq_eq_false_iff_ne]; exact e1
          clear e1 hxy
          go_wp2
          go_quiet (fail)
          go_wp2
          go_ret
          rw [HF.out]
          exact ⟨rfl, below_drewN hb _⟩
    · have HT : Hid (r = true) := by
        show r = true
        rw [HR.out]
        exact List.ext_getElem hlen (fun j h1 h2 => HK.out j h1 (by omega))
      go_wp2
      go_ret
      rw [HT.out]
      exact ⟨rfl, hb⟩

theorem same_t (L : List V) (ad ad' : Option Addr) (cap cap' : Nat) (w : World) (hL : Li L ad w) (hM : Li L ad' w) (hmax : L.length ≤ 9223372036854775806) :
    Calls Try.prog 12 #[.slice ad L.length cap, .slice ad' L.length cap'] w fun e w' => e = .returned (.bool true) ∧ Below w.heap.size w w' :=
  same_rest L L ad ad' cap cap' w hL hM rfl hmax true (by simp)
theorem same_f (L M : List V) (ad ad' : Option Addr) (cap cap' : Nat) (w : World) (hL : Li L ad w) (hM : Li M ad' w) (hmax : L.length ≤ 9223372036854775806) (h : L ≠ M) :
    Calls Try.prog 12 #[.slice ad L.length cap, .slice ad' M.length cap'] w fun e w' => e = .returned (.bool false) ∧ Below w.heap.size w w' := by
  by_cases hl : L.length = M.length
  · exact same_rest L M ad ad' cap cap' w hL hM hl hmax false (by simp [h])
  · exact same_len _ _ ad ad' cap cap' w hl
end Go.Proofs.Ytgagbfdknncadaa
