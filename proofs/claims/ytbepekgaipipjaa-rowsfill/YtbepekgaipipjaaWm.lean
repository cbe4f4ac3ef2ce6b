/- The walk of the document's Encode. -/
import Derived.Test.YtbepekgaipipjaaWj
namespace Go.Proofs.Ytbepekgaipipjaa
open Go.RowKit

theorem app_data (a b : ByteArray) : (a ++ b).data.toList = a.data.toList ++ b.data.toList := by
  rw [ByteArray.data_append, Array.toList_append]
theorem mk_data (s : ByteArray) {l : List UInt8} (h : s.data.toList = l) : s = ⟨l.toArray⟩ := by
  obtain ⟨⟨m⟩⟩ := s
  simp at h
  subst h
  rfl

set_option maxHeartbeats 2000000 in
set_option maxRecDepth 100000 in
theorem refEncode_long (L : List V) (ad : Option Addr) (cap : Nat) (w : World) (hlen : 8 < L.length) :
    Calls Try.prog 40 #[.slice ad L.length cap] w fun e w' => e = .returned (.tuple #[.string ⟨#[]⟩, .int .i64 21]) ∧ Below w.heap.size w w' := by
  have t1 : ((L.length : Nat) : Int) > 8 := by omega
  go_enter Try.func40, Try.ntmps40
  go_wp2
  go_ret2
  exact ⟨rfl, Below.refl _ _⟩

set_option maxHeartbeats 4000000 in
set_option maxRecDepth 100000 in
theorem refEncode_short (L : List V) (ad : Option Addr) (cap : Nat) (w : World) (hL : Li L ad w) (hf : Fits L) (hlen : L.length ≤ 8) :
    Calls Try.prog 40 #[.slice ad L.length cap] w fun e w' => e = .returned (.tuple #[.string ⟨(encS L).toArray⟩, .int .i64 (encE L)]) ∧ Below w.heap.size w w' := by
  have t1 : ¬ ((L.length : Nat) : Int) > 8 := by omega
  go_enter Try.func40, Try.ntmps40
  go_wp2
  go_loopw [4, 5] (fun v i wr => ∃ (k : Nat) (o : ByteArray), k ≤ L.length ∧ i = .int .i64 k ∧ v = .string o ∧ Hid (o.data.toList = encL (L.take k)) ∧ Below w.heap.size w wr ∧ Hid (∀ v ∈ L.take k, Right v)) (fun _ i _ => L.length - (intOf i).toNat)
  case atStart => exact ⟨0, ⟨#[]⟩, by omega, rfl, rfl, rfl, Below.refl _ _, fun v hv => by simp at hv⟩
  case round =>
    obtain ⟨k, o, hk, rfl, rfl, HO, hb, HRt⟩ := hrel
    have hsz := hb.size
    have hln : o.size ≤ 2000 := by
      have h1 := encL_len _ HRt.out
      have h2 : (L.take k).length ≤ k := List.length_take_le _ _
      have h3 : o.data.toList.length = o.size := Array.length_toList
      rw [← h3, HO.out]
      omega
    by_cases hlt : k < L.length
    · obtain ⟨b, o', rfl, hbl, c0, c1, c2⟩ := (hL.on hb).at' k hlt
      obtain ⟨x, hx⟩ : ∃ x, x = L[k] := ⟨_, rfl⟩
      rw [← hx] at c0 c1 c2
      have HX := Lib.hid hx
      clear hx
      have z2 : (k : Int) < (L.length : Int) := by omega
      cases hr : rightV x
      · have HE : Hid (encS L = [] ∧ encE L = 10) := by
          have : L.all rightV = false := by
            rw [List.all_eq_false]
            exact ⟨L[k], List.getElem_mem _, by rw [← HX.out, hr]; simp⟩
          unfold encS encE
          show _ ∧ _
          have h8 : ¬ 8 < L.length := by omega
          rw [if_neg h8, if_neg h8, this]
          exact ⟨rfl, rfl⟩
        go_wp2_with (go_at_call 44; refine (right_any _ _ _ _).mono ?_; rw [show rightB x.k x.n x.s = false from hr]; rintro e w1 ⟨rfl, hb1⟩; refine Hid.out ?_)
        refine Lib.hid ?_
        go_wp2
        go_ret2
        rw [HE.out.1, HE.out.2]
        exact ⟨rfl, hb.trans (hb1.mono hsz)⟩
      · have hxr : Right x := right_of hr (by rw [HX.out]; exact hf.at' _ (List.getElem_mem _))
        have hel := enc1_len hxr
        have HXR := Lib.hid hxr
        clear hxr
        go_wp2_with (go_at_call 44; refine (right_any _ _ _ _).mono ?_; rw [show rightB x.k x.n x.s = true from hr]; rintro e w1 ⟨rfl, hb1⟩; refine Hid.out ?_)
        refine Lib.hid ?_
        have hw1 := hb.trans (hb1.mono hsz)
        obtain ⟨d0, d1, d2⟩ : w1.cell? ⟨b, o' + k * 3, none⟩ = some (.int .i64 x.k) ∧ w1.cell? ⟨b, o' + k * 3 + 1, none⟩ = some (.int .i64 x.n) ∧ w1.cell? ⟨b, o' + k * 3 + 2, none⟩ = some (.string x.s) := by
          have hc := (bcell hb1).1
          exact ⟨by rw [hc _ _ hbl]; exact c0, by rw [hc _ _ hbl]; exact c1, by rw [hc _ _ hbl]; exact c2⟩
        obtain ⟨E, hE⟩ : ∃ E : ByteArray, (⟨(enc1 x).toArray⟩ : ByteArray) = E := ⟨_, rfl⟩
        have hEz : E.size ≤ 131 := by rw [← hE]; show (enc1 x).toArray.size ≤ _; rw [List.size_toArray]; exact hel
        have HEE := Lib.hid hE
        clear hE
        go_wp2_with (go_at_call 52; refine (one_any x _ HXR.out).mono ?_; rw [HEE.out]; rintro e w2 ⟨rfl, hb2⟩; refine Hid.out ?_)
        refine Lib.hid ?_
        go_wp2
        refine ⟨⟨k + 1, o ++ E, by omega, by go_num, rfl, ?_, hw1.trans (hb2.mono hw1.size), ?_⟩, by simp [intOf]; omega⟩
        · show _ = _
          rw [app_data, HO.out, encL_step L k hlt, ← HX.out, ← HEE.out]
        · intro v hv
          rw [List.take_succ_eq_append_getElem hlt, List.mem_append] at hv
          rcases hv with hv | hv
          · exact HRt.out v hv
          · simp at hv
            rw [hv, ← HX.out]
            exact HXR.out
    · have hk' : L.take k = L := List.take_of_length_le (by omega)
      have HE : Hid (encS L = encL L ∧ encE L = 0) := by
        have : L.all rightV = true := by
          rw [List.all_eq_true]
          intro v hv
          exact rightV_of (HRt.out v (by rw [hk']; exact hv))
        unfold encS encE
        show _ ∧ _
        have h8 : ¬ 8 < L.length := by omega
        rw [if_neg h8, if_neg h8, this]
        exact ⟨rfl, rfl⟩
      have HOO : Hid (o = ⟨(encL L).toArray⟩) := mk_data o (by rw [HO.out, hk'])
      go_wp2
      go_ret2
      rw [HE.out.1, HE.out.2, HOO.out]
      exact ⟨rfl, hb⟩

theorem refEncode_any (L : List V) (ad : Option Addr) (cap : Nat) (w : World) (hL : Li L ad w) (hf : Fits L) :
    Calls Try.prog 40 #[.slice ad L.length cap] w fun e w' => e = .returned (.tuple #[.string ⟨(encS L).toArray⟩, .int .i64 (encE L)]) ∧ Below w.heap.size w w' := by
  by_cases h : 8 < L.length
  · have e1 : encS L = [] := if_pos h
    have e2 : encE L = 21 := if_pos h
    rw [e1, e2]
    exact refEncode_long L ad cap w h
  · exact refEncode_short L ad cap w hL hf (by omega)
end Go.Proofs.Ytbepekgaipipjaa
