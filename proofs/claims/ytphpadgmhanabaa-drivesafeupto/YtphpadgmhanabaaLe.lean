/- The walk of DriveSafe. -/
import Derived.Test.YtphpadgmhanabaaLd
namespace Go.Proofs.Ytphpadgmhanabaa
open Go.RowKit Go.Maps

theorem empty_app (s : ByteArray) : (⟨#[]⟩ : ByteArray) ++ s = s := bytes_ext (by rw [app_list]; rfl)
theorem safe1 (data : ByteArray) : appF [] nF data = [⟨nF, data, 0⟩] := by
  have e : appF [] nF data = [⟨nF, (⟨#[]⟩ : ByteArray) ++ data, 0⟩] := rfl
  rw [e, empty_app]
theorem safe2 (data : ByteArray) : synF [⟨nF, data, 0⟩] nF = [⟨nF, data, data.size⟩] := rfl
theorem safe3 (data more : ByteArray) (s : Nat) : appF [⟨nF, data, s⟩] nF more = [⟨nF, data ++ more, s⟩] := rfl
theorem safe4 (all more : ByteArray) (s : Nat) : appF [⟨nF, all, s⟩] nG more = [⟨nF, all, s⟩, ⟨nG, more, 0⟩] := by
  have e : appF [⟨nF, all, s⟩] nG more = [⟨nF, all, s⟩, ⟨nG, (⟨#[]⟩ : ByteArray) ++ more, 0⟩] := rfl
  rw [e, empty_app]
theorem safe_old (data : ByteArray) (s : Nat) : (oldF [⟨nF, data, s⟩] nF).data = data := rfl
theorem safe_oldG (data : ByteArray) (s : Nat) : (oldF [⟨nF, data, s⟩] nG).data = ⟨#[]⟩ := rfl
theorem safe_read (all : ByteArray) (s : Nat) (F : List Fl) (keep : List Int) : (oldF (crashF (⟨nF, all, s⟩ :: F) keep) nF).data = all.extract 0 (kept all.size s (keep.getD 0 0)) := by
  cases keep <;> rfl
theorem kept_ge (l s : Nat) (k : Int) : s ≤ kept l s k := by unfold kept; omega
theorem ext_size (s : ByteArray) (m : Nat) (h : m ≤ s.size) : (s.extract 0 m).size = m := by simp; omega

/-- What the statement asks of the text that it reads. -/
theorem safe_end (data all : ByteArray) (k : Int) (h : data.size ≤ all.size) : ∃ s : ByteArray, all.extract 0 (kept all.size data.size k) = s ∧ data.size ≤ s.size ∧ s.size ≤ all.size ∧ all.extract 0 s.size = s := by
  have h1 := kept_le h k
  have h2 := kept_ge all.size data.size k
  refine ⟨_, rfl, ?_, ?_, ?_⟩
  · rw [ext_size _ _ h1]; exact h2
  · rw [ext_size _ _ h1]; exact h1
  · rw [ext_size _ _ h1]

set_option maxHeartbeats 4000000 in
set_option maxRecDepth 100000 in
theorem safe_law (data more : ByteArray) (n : Int) {kv : Value} {keep : List Int} {w : World} (hn : -9223372036854775808 ≤ n ∧ n ≤ 9223372036854775807) (hI : Ints w kv keep) (hz : keep.length ≤ 1048576) (h0 : data.size ≤ 1048576) (h1 : more.size ≤ 1048576) :
    Calls Try.prog 4 #[.string data, .string more, kv, .int .i64 n] w fun e w' => e = .returned (.bool true) ∧ Below w.heap.size w w' := by
  obtain ⟨all, hall⟩ : ∃ all, data ++ more = all := ⟨_, rfl⟩
  have hsz : all.size = data.size + more.size := by rw [← hall]; exact ByteArray.size_append
  go_enter Try.func4, Try.ntmps4
  go_wp2_with fail
  refine (own_new (Below.refl _ w)).mono ?_
  rintro e w1 ⟨A, rfl, o1⟩
  go_wp2_with fail
  refine (awake_any w1).mono ?_
  rintro e w2 ⟨rfl, hb2⟩
  have o2 := o1.on hb2
  clear o1 hb2
  go_wp2_with fail
  refine (own_append o2 (n := nF) (d := data) (by decide) (by show 0 + data.size ≤ _; omega) (by omega)).mono ?_
  rintro e w3 ⟨rfl, o3⟩
  rw [safe1] at o3
  rw [show pw (downB 0 false) = 0 from rfl]
  go_wp2_with fail
  refine (own_sync o3 (n := nF) (by decide) (by omega)).mono ?_
  rintro e w4 ⟨rfl, o4⟩
  have o4' : Own w w4 A 2 [⟨nF, data, data.size⟩] 0 false := o4
  clear o4
  rw [show pw (downB (leftB 0) false) = 0 from rfl]
  go_wp2_with fail
  refine (own_arm o4' hn).mono ?_
  rintro e w5 ⟨rfl, o5⟩
  have o5' : Own w w5 A 2 [⟨nF, data, data.size⟩] n false := o5
  clear o5
  go_wp2_with fail
  refine (own_append o5' (n := nF) (d := more) (by decide) (by rw [safe_old]; omega) (by omega)).mono ?_
  rintro e w6 ⟨rfl, o6⟩
  rw [safe3, hall] at o6
  -- the second Append: with power or without
  have hg : Calls Try.prog 13 #[.pointer (some ⟨A, 0, none⟩), .string nG, .string more] w6 fun e w' => ∃ x F l dn, e = .returned (.int .i64 x) ∧ Own w w' A 4 (⟨nF, all, data.size⟩ :: F) l dn := by
    cases hd : downB n false with
    | true =>
      rw [hd] at o6
      refine (own_append_down o6 nG more).mono ?_
      rintro e w' ⟨rfl, rfl⟩
      obtain ⟨T, ⟨mv, loc, hdv⟩, hT, hw⟩ := o6
      exact ⟨50, [], _, _, rfl, Gro T w' w', hdv.self (by omega) (Fr.refl _ _) hdv, gro_fresh hT hw.size, hw⟩
    | false =>
      rw [hd] at o6
      refine (own_append o6 (n := nG) (d := more) (by decide) (by rw [safe_oldG]; show 0 + _ ≤ _; omega) (by omega)).mono ?_
      rintro e w' ⟨rfl, o7⟩
      rw [safe4] at o7
      exact ⟨_, _, _, _, rfl, o7⟩
  obtain ⟨p, hp⟩ : ∃ p, pw (downB n false) = p := ⟨_, rfl⟩
  rw [hp]
  clear hp o6
  go_wp2_with fail
  refine hg.mono ?_
  rintro e w7 ⟨x, F, l, dn, rfl, o7⟩
  have hI7 := hI.on o7.below
  obtain ⟨v8, w8, hrun, hI8, hb8⟩ := copy_run hI7 (by omega)
  have o8 := o7.on hb8
  have hc := own_crash o8 hI8
  obtain ⟨s, hs, hs1, hs2, hs3⟩ := safe_end data all (keep.getD 0 0) (by omega)
  have hrd := safe_read all data.size F keep
  rw [hs] at hrd
  clear hI hI7 hI8 hg o7 o8
  go_wp2_with (at_builtin; refine wpl_run _ _ rfl hrun ?_)
  refine hc.mono ?_
  rintro e w9 ⟨B, rfl, o9, _⟩
  go_wp2_with fail
  refine (own_read o9 (n := nF) (by decide)).mono ?_
  rintro e w10 ⟨rfl, rfl⟩
  rw [hrd]
  have e1 := str_self s
  have i1 : (data.size : Int) ≤ s.size := by omega
  have i2 : (s.size : Int) ≤ all.size := by omega
  have i3 : (0 : Int) ≤ s.size := by omega
  clear hrd hs hc
  go_wp2
  go_ret
  exact ⟨rfl, o9.below⟩
end Go.Proofs.Ytphpadgmhanabaa
