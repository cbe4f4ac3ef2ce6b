/- The walks of the document's letter, digit, number. -/
import Derived.Test.YtcmdpahchbbicaaDoorWn
import Derived.BigQuiet
namespace Go.Proofs.YtcmdpahchbbicaaDoor
open Go.RowKit
set_option maxHeartbeats 1000000 in
theorem let_any {w : World} (c : UInt8) : Calls Tryd.prog 23 #[.int .u8 c.toNat] w fun e w' => e = .returned (.bool (isL c)) ∧ w' = w := by
  by_cases h1 : 97 ≤ c.toNat
  · have k1 : (97 : Int) ≤ c.toNat := by omega
    by_cases h2 : c.toNat ≤ 122
    · have k2 : (c.toNat : Int) ≤ 122 := by omega
      go_enter Tryd.func23, Tryd.ntmps23
      go_wp2
      go_ret
      exact ⟨by simp [isL, h1, h2], rfl⟩
    · have k2 : ¬ (c.toNat : Int) ≤ 122 := by omega
      go_enter Tryd.func23, Tryd.ntmps23
      go_wp2
      go_ret
      exact ⟨by simp [isL, h2], rfl⟩
  · have k1 : ¬ (97 : Int) ≤ c.toNat := by omega
    go_enter Tryd.func23, Tryd.ntmps23
    go_wp2
    go_ret
    exact ⟨by simp [isL, h1], rfl⟩
set_option maxHeartbeats 1000000 in
theorem dig_any {w : World} (c : UInt8) : Calls Tryd.prog 24 #[.int .u8 c.toNat] w fun e w' => e = .returned (.bool (isD c)) ∧ w' = w := by
  by_cases h1 : 48 ≤ c.toNat
  · have k1 : (48 : Int) ≤ c.toNat := by omega
    by_cases h2 : c.toNat ≤ 57
    · have k2 : (c.toNat : Int) ≤ 57 := by omega
      go_enter Tryd.func24, Tryd.ntmps24
      go_wp2
      go_ret
      exact ⟨by simp [isD, h1, h2], rfl⟩
    · have k2 : ¬ (c.toNat : Int) ≤ 57 := by omega
      go_enter Tryd.func24, Tryd.ntmps24
      go_wp2
      go_ret
      exact ⟨by simp [isD, h2], rfl⟩
  · have k1 : ¬ (48 : Int) ≤ c.toNat := by omega
    go_enter Tryd.func24, Tryd.ntmps24
    go_wp2
    go_ret
    exact ⟨by simp [isD, h1], rfl⟩
theorem wrapu (z : Int) (h0 : 0 ≤ z) (h1 : z < 18446744073709551616) : IntKind.u64.wrap z = z := by
  simp [IntKind.wrap, IntKind.bits, IntKind.signed]
  omega
theorem wrap64_in (z : Int) (h0 : -9223372036854775808 ≤ z) (h1 : z ≤ 9223372036854775807) : wrap64 z = z := by
  simp [wrap64]
  omega
/-- What the document's number answers, beside numP. -/
def NumR (l : List UInt8) (V : Int) (b : Bool) : Prop := match numP l with
  | some v => V = v ∧ b = true
  | none => b = false
theorem take_snoc (s : ByteArray) (k : Nat) (h : k < s.size) : s.data.toList.take (k + 1) = s.data.toList.take k ++ [s[k]] := by
  rw [List.take_add_one, List.getElem?_eq_getElem (by simpa using h)]
  rfl
theorem nv_more {l : List UInt8} {k : Nat} (h : k < l.length) : nv 0 (l.take k) * 10 ≤ nv 0 l := by
  have e : l = l.take k ++ l[k] :: l.drop (k + 1) := by rw [← List.drop_eq_getElem_cons h, List.take_append_drop]
  have h1 : nv 0 l = nv (nv 0 (l.take k)) (l[k] :: l.drop (k + 1)) := by
    rw [← nv_app, ← e]
  rw [h1, nv_cons]
  exact Nat.le_trans (by omega) (nv_ge _ _)
/-- What comes of the digits m, of the sign q. -/
def NumQ (q : Bool) (l : List UInt8) : Option Int := if q = true then (if nv 0 l ≤ 9223372036854775808 then some (-(nv 0 l : Int)) else none) else if nv 0 l < 9223372036854775808 then some (nv 0 l : Int) else none
def NumS (q : Bool) (l : List UInt8) (V : Int) (b : Bool) : Prop := match NumQ q l with
  | some v => V = v ∧ b = true
  | none => b = false
/-- What number answers. -/
def NumA (q : Bool) (l : List UInt8) (e : Ending) : Prop := ∃ (V : Int) (b : Bool), e = .returned (.tuple #[.int .i64 V, .bool b]) ∧ NumS q l V b
theorem numS_big {q : Bool} {l : List UInt8} {k : Nat} {x : Int} (hk : k < l.length) (hx : x = (nv 0 (l.take k) : Int)) (h : decide (922337203685477580 < x) = true) : NumS q l 0 false := by
  have h1 := of_decide_eq_true h
  have h2 := nv_more hk
  unfold NumS NumQ
  cases q with
  | true => rw [if_pos rfl, if_neg (by omega)]
  | false => rw [if_neg (by decide), if_neg (by omega)]
theorem numS_plus {l : List UInt8} {x : Int} {b : Bool} (hx : x = (nv 0 l : Int)) (h : decide (x < 9223372036854775808) = b) : NumS false l (wrap64 x) b := by
  subst h
  unfold NumS NumQ
  rw [if_neg (by decide)]
  by_cases h1 : nv 0 l < 9223372036854775808
  · rw [if_pos h1]
    exact ⟨by rw [wrap64_in x (by omega) (by omega), hx], decide_eq_true (by omega)⟩
  · rw [if_neg h1]
    exact decide_eq_false (by omega)
theorem numS_minus {l : List UInt8} {x : Int} {b : Bool} (hx : x = (nv 0 l : Int)) (h : decide (x ≤ 9223372036854775808) = b) : NumS true l (wrap64 (-(wrap64 x))) b := by
  subst h
  unfold NumS NumQ
  rw [if_pos rfl]
  by_cases h1 : nv 0 l ≤ 9223372036854775808
  · rw [if_pos h1]
    refine ⟨?_, decide_eq_true (by omega)⟩
    rw [← hx]
    by_cases h2 : x = 9223372036854775808
    · rw [h2]
      simp [wrap64]
    · rw [wrap64_in x (by omega) (by omega), wrap64_in _ (by omega) (by omega)]
  · rw [if_neg h1]
    exact decide_eq_false (by omega)
set_option maxHeartbeats 2000000 in
set_option maxRecDepth 100000 in
theorem num_plus (s : ByteArray) (w : World) (h0 : 0 < s.size) (hm : ((s[0].toNat : Int) == 45) = false) (hs : s.size ≤ 1024) (ha : ∀ c ∈ s.data.toList, isD c = true) :
    Calls Tryd.prog 25 #[.string s] w fun e w' => NumA false s.data.toList e ∧ w' = w := by
  have t1 : (0 : Int) < (s.size : Int) := by omega
  have HA := Lib.hid ha
  clear ha
  go_enter Tryd.func25, Tryd.ntmps25
  go_wp2
  go_loop [5, 6] (fun a i => ∃ (k : Nat) (x : Int), k ≤ s.size ∧ i = .int .i64 k ∧ a = .int .u64 x ∧ Hid (x = (nv 0 (s.data.toList.take k) : Int))) (fun _ i => s.size - (intOf i).toNat)
  case atStart => exact ⟨0, 0, by omega, rfl, rfl, rfl⟩
  case round =>
    obtain ⟨k, x, hk, rfl, rfl, HX⟩ := hrel
    by_cases hlt : k < s.size
    · have hd : isD s[k] = true := HA.out _ (by show s.data.toList[k] ∈ _; exact List.getElem_mem _)
      have hdd := (isD_iff _).1 hd
      have d0 : (48 : Int) ≤ (s[k].toNat : Int) := by omega
      have d1 : (s[k].toNat : Int) ≤ 57 := by omega
      cases c1 : decide (922337203685477580 < x) with
      | true =>
        have HB := Lib.hid (numS_big (q := false) (l := s.data.toList) (by simpa using hlt) HX.out c1)
        clear HX hd hdd
        go_wp2
        go_ret2
        exact ⟨⟨0, false, rfl, HB.out⟩, rfl⟩
      | false =>
        have HN : Hid (x * 10 + ((s[k].toNat : Int) - 48) = (nv 0 (s.data.toList.take (k + 1)) : Int)) := by
          have hx := HX.out
          show _ = _
          rw [take_snoc s k hlt, nv_snoc]
          omega
        have hx0 : 0 ≤ x := by have := HX.out; omega
        have hx1 := of_decide_eq_false c1
        have w1 : IntKind.u64.wrap (x * 10) = x * 10 := wrapu _ (by omega) (by omega)
        have w2 : IntKind.u64.wrap (x * 10 + ((s[k].toNat : Int) - 48)) = x * 10 + ((s[k].toNat : Int) - 48) := wrapu _ (by omega) (by omega)
        clear HX hd hdd hx1
        go_wp2
        exact ⟨⟨k + 1, _, by omega, by go_num, rfl, HN⟩, by simp [intOf]; omega⟩
    · have HV : Hid (x = (nv 0 s.data.toList : Int)) := by
        have hx := HX.out
        rw [List.take_of_length_le (by simp; omega)] at hx
        exact hx
      obtain ⟨b, hb⟩ : ∃ b, decide (x < 9223372036854775808) = b := ⟨_, rfl⟩
      have HR := Lib.hid (numS_plus HV.out hb)
      clear HX HV
      go_wp2
      go_ret2
      exact ⟨⟨_, b, rfl, HR.out⟩, rfl⟩
set_option maxHeartbeats 2000000 in
set_option maxRecDepth 100000 in
theorem num_minus (s m : ByteArray) (w : World) (h0 : 0 < s.size) (hm : ((s[0].toNat : Int) == 45) = true) (he : s.extract 1 s.size = m) (hs : m.size ≤ 1024) (ha : ∀ c ∈ m.data.toList, isD c = true) :
    Calls Tryd.prog 25 #[.string s] w fun e w' => NumA true m.data.toList e ∧ w' = w := by
  have t1 : (0 : Int) < (s.size : Int) := by omega
  have HA := Lib.hid ha
  clear ha
  go_enter Tryd.func25, Tryd.ntmps25
  go_wp2
  go_loop [5, 6] (fun a i => ∃ (k : Nat) (x : Int), k ≤ m.size ∧ i = .int .i64 k ∧ a = .int .u64 x ∧ Hid (x = (nv 0 (m.data.toList.take k) : Int))) (fun _ i => m.size - (intOf i).toNat)
  case atStart => exact ⟨0, 0, by omega, rfl, rfl, rfl⟩
  case round =>
    obtain ⟨k, x, hk, rfl, rfl, HX⟩ := hrel
    by_cases hlt : k < m.size
    · have hd : isD m[k] = true := HA.out _ (by show m.data.toList[k] ∈ _; exact List.getElem_mem _)
      have hdd := (isD_iff _).1 hd
      have d0 : (48 : Int) ≤ (m[k].toNat : Int) := by omega
      have d1 : (m[k].toNat : Int) ≤ 57 := by omega
      cases c1 : decide (922337203685477580 < x) with
      | true =>
        have HB := Lib.hid (numS_big (q := true) (l := m.data.toList) (by simpa using hlt) HX.out c1)
        clear HX hd hdd
        go_wp2
        go_ret2
        exact ⟨⟨0, false, rfl, HB.out⟩, rfl⟩
      | false =>
        have HN : Hid (x * 10 + ((m[k].toNat : Int) - 48) = (nv 0 (m.data.toList.take (k + 1)) : Int)) := by
          have hx := HX.out
          show _ = _
          rw [take_snoc m k hlt, nv_snoc]
          omega
        have hx0 : 0 ≤ x := by have := HX.out; omega
        have hx1 := of_decide_eq_false c1
        have w1 : IntKind.u64.wrap (x * 10) = x * 10 := wrapu _ (by omega) (by omega)
        have w2 : IntKind.u64.wrap (x * 10 + ((m[k].toNat : Int) - 48)) = x * 10 + ((m[k].toNat : Int) - 48) := wrapu _ (by omega) (by omega)
        clear HX hd hdd hx1
        go_wp2
        exact ⟨⟨k + 1, _, by omega, by go_num, rfl, HN⟩, by simp [intOf]; omega⟩
    · have HV : Hid (x = (nv 0 m.data.toList : Int)) := by
        have hx := HX.out
        rw [List.take_of_length_le (by simp; omega)] at hx
        exact hx
      obtain ⟨b, hb⟩ : ∃ b, decide (x ≤ 9223372036854775808) = b := ⟨_, rfl⟩
      have HR := Lib.hid (numS_minus HV.out hb)
      clear HX HV
      go_wp2
      go_ret2
      exact ⟨⟨_, b, rfl, HR.out⟩, rfl⟩
theorem num_same {c : UInt8} {r : List UInt8} : numP (c :: r) = NumQ (decide (c.toNat = 45)) (if c.toNat = 45 then r else c :: r) := by
  unfold NumQ
  by_cases h : c.toNat = 45
  · rw [num_neg h, if_pos (decide_eq_true h), if_pos h]
  · rw [num_pos h, if_neg h]
    simp only [decide_eq_false h, Bool.false_eq_true, if_false]
theorem num_ref {s : ByteArray} {w : World} {c : UInt8} {r : List UInt8} (hs : s.data.toList = c :: r) (hr : ∀ x ∈ r, isD x = true) (hc : isD c = true ∨ c.toNat = 45) (hz : s.size ≤ 1024) :
    Calls Tryd.prog 25 #[.string s] w fun e w' => (∃ (V : Int) (b : Bool), e = .returned (.tuple #[.int .i64 V, .bool b]) ∧ NumR (c :: r) V b) ∧ w' = w := by
  have hlen : s.size = r.length + 1 := by
    have := congrArg List.length hs
    rw [Array.length_toList, List.length_cons] at this
    exact this
  have h0 : 0 < s.size := by omega
  have hd := drop_at s 0 h0
  rw [List.drop_zero, hs] at hd
  have hc0 : c = s[0] := (List.cons.inj hd).1
  unfold NumR
  rw [num_same]
  by_cases h : c.toNat = 45
  · rw [decide_eq_true h, if_pos h]
    have he : (s.extract 1 s.size).data.toList = r := by
      rw [Lib.extract_to_end s 1, hs]
      rfl
    have := num_minus s (s.extract 1 s.size) w h0 (by rw [← hc0, h]; rfl) rfl (by simp; omega) (by rw [he]; exact hr)
    rw [he] at this
    exact this.mono fun e w' h => ⟨h.1.elim fun V h => h.elim fun b h => ⟨V, b, h.1, h.2⟩, h.2⟩
  · rw [decide_eq_false h, if_neg h]
    have hcd : isD c = true := hc.resolve_right h
    have := num_plus s w h0 (by rw [← hc0, beq_eq_false_iff_ne]; exact fun e => h (Int.ofNat_inj.1 e)) hz (by
      rw [hs]
      intro x hx
      rcases List.mem_cons.1 hx with rfl | hx
      · exact hcd
      · exact hr x hx)
    rw [hs] at this
    exact this.mono fun e w' h => ⟨h.1.elim fun V h => h.elim fun b h => ⟨V, b, h.1, h.2⟩, h.2⟩
end Go.Proofs.YtcmdpahchbbicaaDoor
