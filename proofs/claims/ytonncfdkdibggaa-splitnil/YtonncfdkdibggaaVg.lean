/- The document's Stands once more, as a reader; its Has and Right. -/
import Derived.Test.YtonncfdkdibggaaVf
namespace Go.Proofs.Ytonncfdkdibggaa
open Go.RowKit
def Dw (w V : World) : Prop := ∃ m, V = w.drewN m
theorem dn_more {w V : World} (h : Dw w V) (k : Nat) : Dw w (V.drewN k) := by
  obtain ⟨m, rfl⟩ := h
  exact ⟨m + k, World.drewN_drewN _ _ _⟩
set_option maxHeartbeats 1000000 in
set_option maxRecDepth 100000 in
theorem stands_q0 (a b : ByteArray) (w : World) (ha : a.size ≤ maxLen) (hb : b.size ≤ maxLen) :
    Calls Try.prog 18 #[.string a, .string b] w fun e w' => e = .returned (.int .i64 (cb a b)) ∧ ∃ l, w' = w.drewN l := by
  unfold cb
  unfold maxLen at ha hb
  go_enter Try.func18, Try.ntmps18
  go_wp2
  go_loopw [5] (fun i wr => ∃ k : Nat, k ≤ a.size ∧ k ≤ b.size ∧ i = .int .i64 k ∧ Hid (Lib.compareBytes (a.data.toList.drop k) (b.data.toList.drop k) = Lib.compareBytes a.data.toList b.data.toList) ∧ Dw w wr) (fun i _ => a.size - (intOf i).toNat)
  case atStart => exact ⟨0, by omega, by omega, rfl, rfl, ⟨0, rfl⟩⟩
  case round =>
    obtain ⟨k, hka, hkb, rfl, H, hw⟩ := hrel
    by_cases h1 : k < a.size
    · by_cases h2 : k < b.size
      · have e1 := drop_atS a k h1
        have e2 := drop_atS b k h2
        by_cases c1 : (a[k].toNat : Int) < (b[k].toNat : Int)
        · have HR : Hid (Lib.compareBytes a.data.toList b.data.toList = -1) := by
            have h := H.out
            rw [e1, e2, Lib.compareBytes, if_pos (UInt8.lt_iff_toNat_lt.2 (by omega))] at h
            exact h.symm
          clear e1 e2 H
          go_wp2
          go_quiet (fail)
          go_wp2
          go_ret
          rw [HR.out]
          exact ⟨rfl, dn_more hw _⟩
        · by_cases c2 : (b[k].toNat : Int) < (a[k].toNat : Int)
          · have HR : Hid (Lib.compareBytes a.data.toList b.data.toList = 1) := by
              have h := H.out
              rw [e1, e2, Lib.compareBytes, if_neg (by rw [UInt8.lt_iff_toNat_lt]; omega), if_pos (UInt8.lt_iff_toNat_lt.2 (by omega))] at h
              exact h.symm
            clear e1 e2 H
            go_wp2
            go_quiet (fail)
            go_wp2
            go_quiet (fail)
            go_wp2
            go_ret
            rw [HR.out]
            exact ⟨rfl, dn_more (dn_more hw _) _⟩
          · have HR : Hid (Lib.compareBytes (a.data.toList.drop (k + 1)) (b.data.toList.drop (k + 1)) = Lib.compareBytes a.data.toList b.data.toList) := by
              have h := H.out
              rw [e1, e2, Lib.compareBytes, if_neg (by rw [UInt8.lt_iff_toNat_lt]; omega), if_neg (by rw [UInt8.lt_iff_toNat_lt]; omega)] at h
              exact h
            clear e1 e2 H
            go_wp2
            go_quiet (fail)
            go_wp2
            go_quiet (fail)
            go_wp2
            exact ⟨⟨k + 1, by omega, by omega, by go_num, HR, dn_more hw _⟩, by simp [intOf]; omega⟩
      · have HR : Hid (Lib.compareBytes a.data.toList b.data.toList = 1) := by
          have h := H.out
          rw [cb_end2 _ _ (drop_nil b k h2) (drop_ne a k h1)] at h
          exact h.symm
        clear H
        go_wp2
        go_ret
        rw [HR.out]
        exact ⟨rfl, hw⟩
    · by_cases h2 : k < b.size
      · have HR : Hid (Lib.compareBytes a.data.toList b.data.toList = -1) := by
          have h := H.out
          rw [cb_end1 _ _ (drop_nil a k h1) (drop_ne b k h2)] at h
          exact h.symm
        clear H
        go_wp2
        go_ret
        rw [HR.out]
        exact ⟨rfl, hw⟩
      · have HR : Hid (Lib.compareBytes a.data.toList b.data.toList = 0) := by
          have h := H.out
          rw [drop_nil a k h1, drop_nil b k h2] at h
          exact h.symm
        clear H
        go_wp2
        go_ret
        rw [HR.out]
        exact ⟨rfl, hw⟩


theorem stands_q {a b : ByteArray} (ha : a.size ≤ maxLen) (hb : b.size ≤ maxLen) (w : World) (n : Nat) : Calls Try.prog 18 #[.string a, .string b] (w.drewN n) fun e w' => e = .returned (.int .i64 (cb a b)) ∧ ∃ l, w' = w.drewN l := by
  refine (stands_q0 a b (w.drewN n) ha hb).mono ?_
  rintro e w' ⟨rfl, l, rfl⟩
  exact ⟨rfl, n + l, World.drewN_drewN _ _ _⟩
section
variable {w w' W V : World} {L : List ByteArray} {v : Value}
structure Sz (L : List ByteArray) : Prop where
  at' : ∀ v ∈ L, v.size ≤ maxLen
set_option maxHeartbeats 1000000 in
set_option maxRecDepth 100000 in
theorem has_any (hl : Ls w L v) (hs : Sz L) {i : Nat} (hi : i ≤ L.length) {k : ByteArray} (hk : k.size ≤ maxLen) : Calls Try.prog 12 #[v, .int .i64 (i : Int), .string k] w fun e w' => e = .returned (.bool (hasB L i k)) ∧ Below w.heap.size w w' := by
  have hl' := hl
  obtain ⟨ad, cap, rfl, h0, h1, h2, h3⟩ := hl'
  have hmx : (L.length : Int) ≤ 9223372036854775807 := by unfold maxLen at h2; omega
  have hi2 : (i : Int) ≤ 9223372036854775807 := by omega
  have H3 := Lib.hid h3
  have HL := Lib.hid hl
  clear h0 h1 h2 h3 hl
  by_cases i0 : 0 < i
  · obtain ⟨b, o, rfl, hbl, c0⟩ := H3.out (i - 1) (by omega)
    obtain ⟨x, hx⟩ : ∃ x, L[i - 1] = x := ⟨_, rfl⟩
    have hxz : x.size ≤ maxLen := by rw [← hx]; exact hs.at' _ (List.getElem_mem _)
    have ha : atB L (i - 1) = x := by rw [atB_get (by omega), hx]
    rw [hx] at c0
    have k0 : (i : Int) > 0 := by omega
    have k2 : (i : Int) - 1 = ((i - 1 : Nat) : Int) := by omega
    have k4 : ((i - 1 : Nat) : Int) < (L.length : Int) := by omega
    have hst := stands_any k x w hk hxz
    have HA := Lib.hid ha
    clear hx ha
    by_cases hc : cb k x < 0
    · have HR : Hid (hasB L i k = false) := Lib.hid (by unfold hasB; rw [HA.out, decide_eq_true i0, decide_eq_true hc]; rfl)
      have kc : decide (cb k x < 0) = true := decide_eq_true hc
      go_enter Try.func12, Try.ntmps12
      go_wp2_with (go_at_call 18; refine hst.mono ?_; rintro e w1 ⟨rfl, hb⟩; refine Hid.out ?_)
      refine Lib.hid ?_
      have HB := Lib.hid hb
      clear hb
      go_wp2
      go_ret
      rw [HR.out]
      exact ⟨rfl, HB.out⟩
    · have kc : decide (cb k x < 0) = false := decide_eq_false hc
      by_cases i1 : i < L.length
      · obtain ⟨b2, o2, e2, hbl2, c2⟩ := H3.out i i1
        cases e2
        obtain ⟨y, hy⟩ : ∃ y, L[i] = y := ⟨_, rfl⟩
        have hyz : y.size ≤ maxLen := by rw [← hy]; exact hs.at' _ (List.getElem_mem _)
        have ha2 : atB L i = y := by rw [atB_get i1, hy]
        rw [hy] at c2
        have HR : Hid (hasB L i k = decide (cb k y < 0)) := Lib.hid (by unfold hasB; rw [HA.out, ha2, decide_eq_false hc, Bool.and_false, decide_eq_false (by omega : ¬ L.length ≤ i)]; rfl)
        have k3 : ¬ ((i : Int) ≥ L.length) := by omega
        have k6 : (i : Int) < L.length := by omega
        have HST2 := Lib.hid (fun V => stands_any k y V hk hyz)
        clear hy ha2
        go_enter Try.func12, Try.ntmps12
        go_wp2_with (go_at_call 18; refine hst.mono ?_; rintro e w1 ⟨rfl, hb⟩; refine Hid.out ?_)
        refine Lib.hid ?_
        have HB := Lib.hid hb
        have c3 := cell_on hb c2
        have hst2 := HST2.out w1
        clear hb c2 c0
        go_wp2_with (go_at_call 18; refine hst2.mono ?_; rintro e w2 ⟨rfl, hb2⟩; refine Hid.out ?_)
        refine Lib.hid ?_
        have HB2 := Lib.hid hb2
        clear hb2
        go_wp2
        go_ret
        rw [HR.out]
        exact ⟨by simp; omega, HB.out.trans (HB2.out.mono HB.out.size)⟩
      · have k3 : (i : Int) ≥ L.length := by omega
        have HR : Hid (hasB L i k = true) := Lib.hid (by unfold hasB; rw [HA.out, decide_eq_false hc, Bool.and_false, decide_eq_true (by omega : L.length ≤ i)]; rfl)
        go_enter Try.func12, Try.ntmps12
        go_wp2_with (go_at_call 18; refine hst.mono ?_; rintro e w1 ⟨rfl, hb⟩; refine Hid.out ?_)
        refine Lib.hid ?_
        have HB := Lib.hid hb
        clear hb c0
        go_wp2
        go_ret
        rw [HR.out]
        exact ⟨rfl, HB.out⟩
  · have k0 : ¬ ((i : Int) > 0) := by omega
    by_cases i1 : i < L.length
    · obtain ⟨b2, o2, rfl, hbl2, c2⟩ := H3.out i i1
      obtain ⟨y, hy⟩ : ∃ y, L[i] = y := ⟨_, rfl⟩
      have hyz : y.size ≤ maxLen := by rw [← hy]; exact hs.at' _ (List.getElem_mem _)
      have ha2 : atB L i = y := by rw [atB_get i1, hy]
      rw [hy] at c2
      have HR : Hid (hasB L i k = decide (cb k y < 0)) := Lib.hid (by unfold hasB; rw [ha2, decide_eq_false i0, Bool.false_and, decide_eq_false (by omega : ¬ L.length ≤ i)]; rfl)
      have k3 : ¬ ((i : Int) ≥ L.length) := by omega
      have k6 : (i : Int) < L.length := by omega
      have hst2 := stands_any k y w hk hyz
      clear hy ha2
      go_enter Try.func12, Try.ntmps12
      go_wp2_with (go_at_call 18; refine hst2.mono ?_; rintro e w2 ⟨rfl, hb2⟩; refine Hid.out ?_)
      refine Lib.hid ?_
      have HB2 := Lib.hid hb2
      clear hb2
      go_wp2
      go_ret
      rw [HR.out]
      exact ⟨by simp, HB2.out⟩
    · have k3 : (i : Int) ≥ L.length := by omega
      have HR : Hid (hasB L i k = true) := Lib.hid (by unfold hasB; rw [decide_eq_false i0, Bool.false_and, decide_eq_true (by omega : L.length ≤ i)]; rfl)
      go_enter Try.func12, Try.ntmps12
      go_wp2
      go_ret
      rw [HR.out]
      exact ⟨rfl, Below.refl _ _⟩
/-- What Right asks at i. -/
def badB (L : List ByteArray) (i : Nat) : Bool := decide (atB L i = ⟨#[]⟩ ∨ 0 < i ∧ 0 ≤ cb (atB L (i - 1)) (atB L i))
theorem right_bad {L : List ByteArray} {i : Nat} (h : i < L.length) (hb : badB L i = true) : rightB L = false := by
  have e : decide (∀ i, i < L.length → ¬ (atB L i = ⟨#[]⟩ ∨ 0 < i ∧ 0 ≤ cb (atB L (i - 1)) (atB L i))) = false := decide_eq_false (fun q => q i h (of_decide_eq_true hb))
  unfold rightB
  rw [e, Bool.and_false]
theorem right_good {L : List ByteArray} (h4 : L.length < 4) (hb : ∀ i, i < L.length → badB L i = false) : rightB L = true := by
  unfold rightB
  rw [decide_eq_true h4, decide_eq_true (fun i hi => of_decide_eq_false (hb i hi))]
  rfl
set_option maxHeartbeats 2000000 in
set_option maxRecDepth 100000 in
theorem right_any (hl : Ls w L v) (hs : Sz L) : Calls Try.prog 9 #[v] w fun e w' => e = .returned (.bool (rightB L)) ∧ Below w.heap.size w w' := by
  have hl' := hl
  obtain ⟨ad, cap, rfl, h0, h1, h2, h3⟩ := hl'
  have hmx : (L.length : Int) ≤ 9223372036854775807 := by unfold maxLen at h2; omega
  by_cases h4 : (L.length : Int) ≥ 4
  · have HR : Hid (rightB L = false) := Lib.hid (by unfold rightB; rw [decide_eq_false (by omega), Bool.false_and])
    clear h0 h1 h2 h3 hl
    go_enter Try.func9, Try.ntmps9
    go_wp2
    go_ret
    rw [HR.out]
    exact ⟨rfl, Below.refl _ _⟩
  · have hlen : L.length < 4 := by omega
    have H3 := Lib.hid h3
    have HLL := Lib.hid hl
    clear h0 h1 h2 h3 hl
    go_enter Try.func9, Try.ntmps9
    go_wp2
    go_loopw [3] (fun iv wr => ∃ i : Nat, i ≤ L.length ∧ iv = .int .i64 (i : Int) ∧ Hid (∀ j, j < i → badB L j = false) ∧ Below w.heap.size w wr) (fun iv _ => L.length - (intOf iv).toNat)
    case atStart => exact ⟨0, Nat.zero_le _, rfl, Lib.hid (fun j hj => by omega), Below.refl _ _⟩
    case round =>
      obtain ⟨i, hi, rfl, HB, hbw⟩ := hrel
      obtain ⟨V, rfl⟩ : ∃ V, V = wr := ⟨_, rfl⟩
      by_cases hlt : i < L.length
      · obtain ⟨b, o, rfl, hbl, c1⟩ := H3.out i hlt
        obtain ⟨y, hy⟩ : ∃ y, L[i] = y := ⟨_, rfl⟩
        have hyz : y.size ≤ maxLen := by rw [← hy]; exact hs.at' _ (List.getElem_mem _)
        have ha2 : atB L i = y := by rw [atB_get hlt, hy]
        rw [hy] at c1
        have c1 : V.cell? ⟨b, o + i, none⟩ = some (.string y) := cell_on hbw c1
        have k1 : (i : Int) < L.length := by omega
        have k0 : (0 : Int) ≤ i := by omega
        have hse : y.toList.isEmpty = decide (y = ⟨#[]⟩) := by
          rw [← same_eq]
          have e0 : (⟨#[]⟩ : ByteArray).toList = [] := by rw [ByteArray.toList_eq]
          rw [e0]
          cases y.toList <;> rfl
        have HBW := Lib.hid hbw
        have HA2 := Lib.hid ha2
        clear hy ha2 hbw
        by_cases hem : y = ⟨#[]⟩
        · have HR : Hid (rightB L = false) := Lib.hid (right_bad hlt (decide_eq_true (.inl (by rw [HA2.out]; exact hem))))
          rw [decide_eq_true hem] at hse
          clear hem
          go_wp2
          go_quiet (fail)
          go_wp2
          go_ret
          rw [HR.out]
          exact ⟨rfl, below_draw HBW.out _⟩
        · rw [decide_eq_false hem] at hse
          by_cases i0 : 0 < i
          · obtain ⟨b2, o2, e2, hbl2, c2⟩ := H3.out (i - 1) (by omega)
            cases e2
            obtain ⟨x, hx⟩ : ∃ x, L[i - 1] = x := ⟨_, rfl⟩
            have hxz : x.size ≤ maxLen := by rw [← hx]; exact hs.at' _ (List.getElem_mem _)
            have ha : atB L (i - 1) = x := by rw [atB_get (by omega), hx]
            rw [hx] at c2
            have c2 : V.cell? ⟨b, o + (i - 1), none⟩ = some (.string x) := cell_on HBW.out c2
            have k5 : (i : Int) > 0 := by omega
            have k2 : (i : Int) - 1 = ((i - 1 : Nat) : Int) := by omega
            have k4 : ((i - 1 : Nat) : Int) < (L.length : Int) := by omega
            have hst := fun n => stands_q hxz hyz V n
            have HA := Lib.hid ha
            clear hx ha
            by_cases hc : 0 ≤ cb x y
            · have HR : Hid (rightB L = false) := Lib.hid (right_bad hlt (decide_eq_true (.inr ⟨i0, by rw [HA2.out, HA.out]; exact hc⟩)))
              have hcc : (cb x y) ≥ 0 := hc
              clear hem hc
              go_wp2
              go_quiet ((go_at_call 18; exact hst _))
              go_wp2
              go_ret
              rw [HR.out]
              exact ⟨rfl, below_draw HBW.out _⟩
            · have HR : Hid (badB L i = false) := Lib.hid (decide_eq_false (by rw [HA2.out, HA.out]; exact fun q => q.elim hem fun q => hc q.2))
              have hcc : ¬ ((cb x y) ≥ 0) := hc
              clear hem hc
              go_wp2
              go_quiet ((go_at_call 18; exact hst _))
              go_wp2
              go_roundw
              case rel =>
                refine ⟨i + 1, hlt, by go_num, Lib.hid (fun j hj => ?_), below_draw HBW.out _⟩
                by_cases e : j = i
                · subst e
                  exact HR.out
                · exact HB.out j (by omega)
              case measure => simp [intOf]; omega
          · have HR : Hid (badB L i = false) := Lib.hid (decide_eq_false (by rw [HA2.out]; exact fun q => q.elim hem fun q => i0 q.1))
            have k5 : ¬ ((i : Int) > 0) := by omega
            clear hem
            go_wp2
            go_quiet (fail)
            go_wp2
            go_roundw
            case rel =>
              refine ⟨i + 1, hlt, by go_num, Lib.hid (fun j hj => ?_), below_draw HBW.out _⟩
              by_cases e : j = i
              · subst e
                exact HR.out
              · exact HB.out j (by omega)
            case measure => simp [intOf]; omega
      · have k1 : ¬ ((i : Int) < L.length) := by omega
        have HR : Hid (rightB L = true) := Lib.hid (right_good hlen fun j hj => HB.out j (by omega))
        have HBW := Lib.hid hbw
        clear hbw
        go_wp2
        go_ret
        rw [HR.out]
        exact ⟨rfl, HBW.out⟩
end
end Go.Proofs.Ytonncfdkdibggaa
