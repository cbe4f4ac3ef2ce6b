/- The walk of the document's Scan. -/
import Derived.Test.YtoipmpaebngppaaSWe
namespace Go.Proofs.Ytoipmpaebngppaa
open Go.RowKit

theorem own_drewN {w : World} {base : Nat} {e : TypeId} {size : Nat} {v : Value} {n : Nat} {xs : List Value} (h : w.ownsRow base e size v n xs) (k : Nat) : (w.drewN k).ownsRow base e size v n xs := h
theorem four_at (s : ByteArray) (n : Nat) (h : n + 8 ≤ s.size) : (s.data.toList.drop n).take 4 = [s[n]'(by omega), s[n + 1]'(by omega), s[n + 2]'(by omega), s[n + 3]'(by omega)] := by
  have g : ∀ (l : List UInt8) (k : Nat) (hk : k + 3 < l.length), (l.drop k).take 4 = [l[k], l[k + 1], l[k + 2], l[k + 3]] := by
    intro l k hk
    rw [List.drop_eq_getElem_cons (by omega), List.drop_eq_getElem_cons (by omega), List.drop_eq_getElem_cons (by omega), List.drop_eq_getElem_cons (by omega)]
    rfl
  exact g s.data.toList n (by rw [len_size]; omega)
theorem num_at (s : ByteArray) (n : Nat) (h : n + 8 ≤ s.size) : ((((s[n]'(by omega)).toNat : Int) * 256 + ((s[n + 1]'(by omega)).toNat : Int)) * 256 + ((s[n + 2]'(by omega)).toNat : Int)) * 256 + ((s[n + 3]'(by omega)).toNat : Int) = (num 0 ((s.data.toList.drop n).take 4) : Int) := by
  rw [four_at s n h]
  simp only [num_cons, num_nil]
  omega

theorem cut_yes {X : List UInt8} {m : Nat} (h : X.take (8 + m) = recL ((X.drop 8).take m)) : X = recL ((X.drop 8).take m) ++ X.drop (8 + m) := by
  rw [← h, List.take_append_drop]
theorem cut_no {X : List UInt8} {m : Nat} (hm : num 0 (X.take 4) = m) (h : X.take (8 + m) ≠ recL ((X.drop 8).take m)) : NoRec X := by
  intro q r hq e
  obtain ⟨_, a, _, b⟩ := rec_parts q r hq
  rw [e, a] at hm
  subst hm
  apply h
  rw [e, b, List.take_append_of_le_length (Nat.le_refl _), List.take_of_length_le (Nat.le_refl _), List.take_append_of_le_length (by rw [rec_len]; omega), List.take_of_length_le (by rw [rec_len]; omega)]

set_option maxHeartbeats 4000000 in
set_option maxRecDepth 100000 in
theorem refScan_any (s : ByteArray) (w : World) (hs : s.size ≤ 1000000000000) :
    Calls Try.prog 25 #[.string s] w fun e w' => ∃ v ps, ∃ n : Nat, e = .returned (.tuple #[v, .int .i64 n]) ∧ w'.ownsRow w.heap.size 9 1 v ps.length (ps.map Value.string) ∧ Scans s.data.toList (lists ps) n ∧ n ≤ s.size ∧ 8 * ps.length ≤ s.size ∧ Below w.heap.size w w' := by
  obtain ⟨inf, hi, hz0, hz1, hz2⟩ := info_parts infoStr
  go_enter Try.func25, Try.ntmps25
  go_wp2
  go_loopw [4, 5] (fun v i wr => ∃ n : Nat, ∃ ps, i = .int .i64 n ∧ n ≤ s.size ∧ Hid (At s ps n) ∧ wr.ownsRow w.heap.size 9 1 v ps.length (ps.map Value.string) ∧ Below w.heap.size w wr) (fun _ i _ => s.size - (intOf i).toNat)
  case atStart => exact ⟨0, [], rfl, Nat.zero_le _, At.nil s, World.ownsRow_nil _ _ _ _, Below.refl _ _⟩
  case round =>
    obtain ⟨n, ps, rfl, hn, HA, hown, hb⟩ := hrel
    have hcount := HA.out.count
    by_cases h8 : n + 8 ≤ s.size
    · have b0 := (s[n]'(by omega)).toNat_lt
      have b1 := (s[n + 1]'(by omega)).toNat_lt
      have b2 := (s[n + 2]'(by omega)).toNat_lt
      have b3 := (s[n + 3]'(by omega)).toNat_lt
      have h8' : (n : Int) + 8 ≤ s.size := by omega
      have i0 : (n : Int) < s.size := by omega
      have i0' : n < s.size := by omega
      have i1 : (n : Int) + 1 < s.size := by omega
      have i1' : n + 1 < s.size := by omega
      have i2 : (n : Int) + 2 < s.size := by omega
      have i2' : n + 2 < s.size := by omega
      have i3 : (n : Int) + 3 < s.size := by omega
      have i3' : n + 3 < s.size := by omega
      have hN := num_at s n h8
      obtain ⟨m, eM⟩ : ∃ m, num 0 ((s.data.toList.drop n).take 4) = m := ⟨_, rfl⟩
      rw [eM] at hN
      have HM := Lib.hid eM
      clear eM
      have q1 : (0 : Int) ≤ n + 1 := by omega
      have q2 : (0 : Int) ≤ n + 2 := by omega
      have q3 : (0 : Int) ≤ n + 3 := by omega
      have t1 : ((n : Int) + 1).toNat = n + 1 := by omega
      have t2 : ((n : Int) + 2).toNat = n + 2 := by omega
      have t3 : ((n : Int) + 3).toNat = n + 3 := by omega
      go_wp2
      go_quiet (fail)
      by_cases hbig : 65536 < m ∨ (m ≤ 65536 ∧ s.size < n + 8 + m)
      · have HD : Hid (Scans s.data.toList (lists ps) n) := by
          refine HA.out.done (first_no _ (.inr ?_))
          rw [tail_list, HM.out, List.drop_drop, List.length_drop, len_size]
          rcases hbig with h | h
          · exact .inl h
          · exact .inr (.inl (by omega))
        rcases hbig with h | ⟨h, h'⟩
        · have k1 : (65536 : Int) < m := by omega
          go_wp2
          go_ret2
          exact ⟨_, ps, n, rfl, hown, HD.out, hn, by omega, below_drewN hb nq⟩
        · have k1 : (m : Int) ≤ 65536 := by omega
          have k2 : (s.size : Int) < n + 8 + m := by omega
          go_wp2
          go_ret2
          exact ⟨_, ps, n, rfl, hown, HD.out, hn, by omega, below_drewN hb nq⟩
      · have hm : m ≤ 65536 := by omega
        have hl : n + 8 + m ≤ s.size := by omega
        have k1 : (m : Int) ≤ 65536 := by omega
        have k2 : (n : Int) + 8 + m ≤ s.size := by omega
        have q4 : (0 : Int) ≤ n + 8 := by omega
        have t4 : ((n : Int) + 8).toNat = n + 8 := by omega
        have q5 : (0 : Int) ≤ n + 8 + m := by omega
        have t5 : ((n : Int) + 8 + m).toNat = n + 8 + m := by omega
        clear hbig
        obtain ⟨p, eP⟩ : ∃ p, s.extract (n + 8) (n + 8 + m) = p := ⟨_, rfl⟩
        obtain ⟨G, eG⟩ : ∃ G, s.extract n (n + 8 + m) = G := ⟨_, rfl⟩
        have hp : p.size = m := by rw [← eP, ext_size _ _ _ hl]; omega
        have hps : p.size ≤ 65536 := by omega
        have lp : p.data.toList = ((s.data.toList.drop n).drop 8).take m := by
          rw [← eP, ext_list, List.drop_drop]
          congr 1
          omega
        have lG : G.data.toList = (s.data.toList.drop n).take (8 + m) := by
          rw [← eG, ext_list]
          congr 1
          omega
        have lW := recB_list p
        obtain ⟨W, eW⟩ : ∃ W, recB p = W := ⟨_, rfl⟩
        rw [eW] at lW
        have HW := Lib.hid eW
        clear eW
        by_cases hq : (s.data.toList.drop n).take (8 + m) = recL (((s.data.toList.drop n).drop 8).take m)
        · have HD : Hid (At s (ps ++ [p]) (n + (8 + m))) := by
            have := HA.out.step (p := p) hps (by rw [ext_size _ _ _ (Nat.le_refl _)]; omega) (by rw [tail_list, lp, hp]; exact cut_yes hq)
            rw [hp] at this
            exact this
          have hgw : (G.toList == W.toList) = true := by rw [beq_iff_eq, toL, toL, lG, lW, lp, hq]
          clear hq lG lW lp
          go_wp2_with (go_at_call 40; refine (refPut_any p _ hps).mono ?_; rintro e w1 ⟨rfl, hb1⟩; rw [HW.out]; refine Hid.out ?_)
          refine Lib.hid ?_
          have hown1 := own_below (own_drewN hown nq) hb1
          have hbb : Below w.heap.size w w1 := (below_drewN hb nq).trans (hb1.mono hb.size)
          have hsz := hbb.size
          go_wp2_with (at_builtin; refine wpList_append_own _ rfl _ _ 32 rfl w.heap.size 9 inf (.string ⟨#[]⟩) 1 16 Try.underlying32 hi hz0 hz1 hz2 rfl (by decide) _ _ _ rfl (hown1.alloc _) ⟨w1.heap.size, 0, none⟩ 1 1 [Value.string p] rfl rfl (news_one _ _ _) (by intro u' hu'; simp at hu'; subst hu'; rfl) (by unfold maxLen; omega) (by omega) (by simp; omega) ?_; intro v3 w3 hown3 hgrow3 _; refine Hid.out ?_)
          refine Lib.hid ?_
          have hb3 : Below w.heap.size w w3 := (hbb.alloc hsz _).grown hgrow3 (by simp; omega) (fun k hk => (hown1.lt k hk).1)
          go_wp2
          refine ⟨⟨n + (8 + m), ps ++ [p], by go_num, by omega, HD, ?_, hb3⟩, by simp [intOf]; omega⟩
          have e1 : (ps ++ [p]).length = ps.length + 1 := by simp
          have e2 : (ps ++ [p]).map Value.string = ps.map Value.string ++ [Value.string p] := by simp
          rw [e1, e2]
          exact hown3
        · have HD : Hid (Scans s.data.toList (lists ps) n) := HA.out.done (by rw [tail_list]; exact cut_no HM.out hq)
          have hgw : (G.toList == W.toList) = false := by
            rw [beq_eq_false_iff_ne, toL, toL, lG, lW, lp]
            exact hq
          clear hq lG lW lp
          go_wp2_with (go_at_call 40; refine (refPut_any p _ hps).mono ?_; rintro e w1 ⟨rfl, hb1⟩; rw [HW.out]; refine Hid.out ?_)
          refine Lib.hid ?_
          go_wp2
          go_ret2
          exact ⟨_, ps, n, rfl, own_below (own_drewN hown nq) hb1, HD.out, hn, by omega, (below_drewN hb nq).trans (hb1.mono hb.size)⟩
    · have HD : Hid (Scans s.data.toList (lists ps) n) := HA.out.done (noRec_short (by rw [len_size, ext_size _ _ _ (Nat.le_refl _)]; omega))
      have h8' : (s.size : Int) < n + 8 := by omega
      go_wp2
      go_ret2
      exact ⟨_, ps, n, rfl, hown, HD.out, hn, by omega, hb⟩
end Go.Proofs.Ytoipmpaebngppaa
