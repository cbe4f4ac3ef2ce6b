/- The walk of the statement KeysApart, part 2. -/
import Derived.Test.YtgagbfdknncadaaLc
namespace Go.Proofs.Ytgagbfdknncadaa
open Go.RowKit

set_option maxHeartbeats 8000000 in
set_option maxRecDepth 100000 in
theorem apart_2 (A B : List V) (x y : V) (ad ad' : Option Addr) (cap cap' : Nat) (w : World) (hA : Li A ad w) (hB : Li B ad' w) (fA : Fits A) (fB : Fits B) (fx : Fit x.n) (fy : Fit y.n) (h0 : encE A = 0) (h1 : encE B ≠ 0) :
    Calls Try.prog 8 #[.slice ad A.length cap, .slice ad' B.length cap', .agg #[.int .i64 x.k, .int .i64 x.n, .string x.s], .agg #[.int .i64 y.k, .int .i64 y.n, .string y.s]] w fun e w' => e = .returned (.bool true) ∧ Below w.heap.size w w' := by
  have t0 : (encE A == 0) = true := by rw [h0]; rfl
  have t1 : (encE B == 0) = false := by rw [beq_eq_false_iff_ne]; exact h1
  clear h0 h1
  have HL := Lib.hid (last_any fx fy)
  have hw0 : Below w.heap.size w ((w.alloc (vO x)).alloc (vO y)) := ((Below.refl _ w).alloc (Nat.le_refl _) _).alloc (by simp) _
  have B1 : Bx w.heap.size x ((w.alloc (vO x)).alloc (vO y)) := (Bx.mk' w x).on ((Below.refl _ _).alloc (Nat.le_refl _) _)
  have B2 : Bx (w.heap.size + 1) y ((w.alloc (vO x)).alloc (vO y)) := (show (w.alloc (vO x)).heap.size = w.heap.size + 1 by simp) ▸ Bx.mk' (w.alloc (vO x)) y
  go_enter Try.func8, Try.ntmps8
  go_wp2_with (go_at_call 9; refine (encode_any A ad cap _ (hA.on hw0) fA).mono ?_; rintro e w1 ⟨rfl, hb1⟩; refine Hid.out ?_)
  refine Lib.hid ?_
  have hw1 := hw0.trans (hb1.mono hw0.size)
  have B1 := B1.on hb1
  have B2 := B2.on hb1
  go_wp2_with (go_at_call 9; refine (encode_any B ad' cap' _ (hB.on hw1) fB).mono ?_; rintro e w2 ⟨rfl, hb2⟩; refine Hid.out ?_)
  refine Lib.hid ?_
  have hw2 := hw1.trans (hb2.mono hw1.size)
  have B1 := B1.on hb2
  have B2 := B2.on hb2
  go_wp2_with (go_at_call 11; refine (awake_any _).mono ?_; rintro e w3 ⟨rfl, hb3⟩; refine Hid.out ?_)
  refine Lib.hid ?_
  have hw3 := hw2.trans (hb3.mono hw2.size)
  have B1 := B1.on hb3
  have B2 := B2.on hb3
  obtain ⟨b0, b1, b2, b3⟩ := B1
  have B1 : Bx w.heap.size x w3 := ⟨b0, b1, b2, b3⟩
  obtain ⟨U, hU⟩ : ∃ U : ByteArray, (⟨(encS [x]).toArray⟩ : ByteArray) = U := ⟨_, rfl⟩
  obtain ⟨T, hT⟩ : ∃ T : ByteArray, (⟨(encS [y]).toArray⟩ : ByteArray) = T := ⟨_, rfl⟩
  have HU := Lib.hid hU
  have HT := Lib.hid hT
  clear hU hT
  obtain ⟨ex, hex⟩ : ∃ z, encE [x] = z := ⟨_, rfl⟩
  obtain ⟨ey, hey⟩ : ∃ z, encE [y] = z := ⟨_, rfl⟩
  have HEX := Lib.hid hex
  have HEY := Lib.hid hey
  clear hex hey
  go_wp2_with (go_at_call 9; refine (encode_one x fx _).mono ?_; rw [HU.out, HEX.out]; rintro e w4 ⟨rfl, hb4⟩; refine Hid.out ?_)
  refine Lib.hid ?_
  have hbx4 : Below w3.heap.size w3 w4 := ((Below.refl _ _).alloc (Nat.le_refl _) _).trans (hb4.mono (by simp))
  have hw4 := hw3.trans (hbx4.mono hw3.size)
  have B1 := B1.on hbx4
  have B2 := B2.on hbx4
  obtain ⟨d0, d1, d2, d3⟩ := B2
  have B2 : Bx (w.heap.size + 1) y w4 := ⟨d0, d1, d2, d3⟩
  go_wp2_with (go_at_call 9; refine (encode_one y fy _).mono ?_; rw [HT.out, HEY.out]; rintro e w5 ⟨rfl, hb5⟩; refine Hid.out ?_)
  refine Lib.hid ?_
  have hbx5 : Below w4.heap.size w4 w5 := ((Below.refl _ _).alloc (Nat.le_refl _) _).trans (hb5.mono (by simp))
  have hw5 := hw4.trans (hbx5.mono hw4.size)
  obtain ⟨a0, a1, a2, a3⟩ := B1.on hbx5
  obtain ⟨g0, g1, g2, g3⟩ := B2.on hbx5
  clear b0 b1 b2 b3 d0 d1 d2 d3 B1 B2
  have hUl : U.size = (encS [x]).length := by rw [← HU.out]; exact List.size_toArray
  have hTl : T.size = (encS [y]).length := by rw [← HT.out]; exact List.size_toArray
  have hUz : U.size ≤ 1048 := by rw [hUl]; exact encS_len ⟨fun v hv => by simp at hv; rw [hv]; exact fx⟩
  have hTz : T.size ≤ 1048 := by rw [hTl]; exact encS_len ⟨fun v hv => by simp at hv; rw [hv]; exact fy⟩
  have HLx : Hid (ex ≠ 0 ∨ (ex = 0 ∧ ey ≠ 0) ∨ (ex = 0 ∧ ey = 0 ∧ x = y) ∨ (ex = 0 ∧ ey = 0 ∧ x ≠ y ∧ T.size < U.size) ∨ (ex = 0 ∧ ey = 0 ∧ x ≠ y ∧ U.size ≤ T.size ∧ ((T.extract 0 U.size).toList == U.toList) = false)) := by
    have h := HL.out
    unfold Last at h
    rw [HEX.out, HEY.out] at h
    rcases h with h | h | h | ⟨p, q, r, s⟩ | ⟨p, q, r, s, t⟩
    · exact .inl h
    · exact .inr (.inl h)
    · exact .inr (.inr (.inl h))
    · exact .inr (.inr (.inr (.inl ⟨p, q, r, by omega⟩)))
    · refine .inr (.inr (.inr (.inr ⟨p, q, r, by omega, ?_⟩)))
      rw [beq_eq_false_iff_ne, toL, toL]
      intro h
      apply t
      have e1 : U.data.toList = encS [x] := by rw [← HU.out]
      have e2 : (T.extract 0 U.size).data.toList = (encS [y]).take (encS [x]).length := by
        rw [← HT.out, hUl]
        simp [ByteArray.data_extract]
      exact e2.symm.trans (h.trans e1)
  clear HL hUl hTl
  rcases HLx.out with h | ⟨h, h'⟩ | ⟨h, h', hxy⟩ | ⟨h, h', hxy, hlen⟩ | ⟨h, h', hxy, hlen, hne⟩
  · have q : (ex != 0) = true := by rw [bne_iff_ne]; exact h
    clear HLx h
    go_wp2
    go_ret
    exact ⟨rfl, hw5⟩
  · have q : (ex != 0) = false := by rw [h]; rfl
    have q' : (ey != 0) = true := by rw [bne_iff_ne]; exact h'
    clear HLx h h'
    go_wp2
    go_ret
    exact ⟨rfl, hw5⟩
  · have q : (ex != 0) = false := by rw [h]; rfl
    have q' : (ey != 0) = false := by rw [h']; rfl
    clear HLx h h' HU HT HEX HEY
    subst hxy
    go_wp2
    go_ret
    exact ⟨rfl, hw5⟩
  · have q : (ex != 0) = false := by rw [h]; rfl
    have q' : (ey != 0) = false := by rw [h']; rfl
    have q2 : (U.size : Int) > (T.size : Int) := by omega
    clear HLx h h'
    rcases differ hxy with k1 | ⟨k1, k2⟩ | ⟨k1, k2, k3⟩
    all_goals
      clear hxy
      go_wp2
      go_ret
      exact ⟨rfl, hw5⟩
  · have q : (ex != 0) = false := by rw [h]; rfl
    have q' : (ey != 0) = false := by rw [h']; rfl
    have q2 : ¬ (U.size : Int) > (T.size : Int) := by omega
    clear HLx h h'
    rcases differ hxy with k1 | ⟨k1, k2⟩ | ⟨k1, k2, k3⟩
    all_goals
      clear hxy
      go_wp2
      go_ret
      exact ⟨rfl, hw5⟩
end Go.Proofs.Ytgagbfdknncadaa
