/- The document's nums, flag, text. -/
import Derived.Test.YtjhgmncmcklnkaaRa
namespace Go.Proofs.Ytjhgmncmcklnkaa
open Go.RowKit

theorem txt_append (a b : List UInt8) : txt a ++ txt b = txt (a ++ b) := by
  apply ba_ext
  simp [txt]
theorem sum_ok {a b : ByteArray} (ha : a.size ≤ 4000000000) (hb : b.size ≤ 4000000000) : ¬ 9223372036854775807 < a.size + b.size := by omega
theorem numsL_len (ns : List Int) : (ns.flatMap num).length ≤ ns.length * 10 := by
  induction ns with
  | nil => simp
  | cons n r ih =>
    have := num_len n
    simp only [List.flatMap_cons, List.length_append, List.length_cons]
    omega
def numsL (ns : List Int) : List UInt8 := ns.flatMap num
theorem numsL_take (ns : List Int) (i : Nat) (h : i < ns.length) : numsL (ns.take (i + 1)) = numsL (ns.take i) ++ num ns[i] := by
  unfold numsL
  rw [List.take_succ_eq_append_getElem h, List.flatMap_append]
  simp only [List.flatMap_cons, List.flatMap_nil, List.append_nil]
/-- Numbers in a row of their own. -/
def Ints (w : World) (F : Nat) (ns : List Int) : Prop := ∃ cs ty, w.heap[F]? = some (.cells cs ty (0, 0)) ∧ ∀ i (h : i < ns.length), cs[i]? = some (.int .i64 ns[i])
theorem Ints.on {w w' : World} {F : Nat} {ns : List Int} (h : Ints w F ns) (hb : Below w.heap.size w w') : Ints w' F ns := by
  obtain ⟨cs, ty, h1, h2⟩ := h
  exact ⟨cs, ty, (hb.block F (blk_lt h1)).trans h1, h2⟩
set_option maxHeartbeats 2000000 in
set_option maxRecDepth 100000 in
theorem nums_ref {F : Nat} {ns : List Int} (w : World) (k : Nat) (hk : ns.length = k) (hk2 : k ≤ 100) (h : Ints w F ns) (hi : ∀ n ∈ ns, I64 n) : Calls Try.prog 28 #[.slice (some ⟨F, 0, none⟩) k k] w fun e w' => e = .returned (.string (txt (numsL ns))) ∧ Below w.heap.size w w' := by
  have HK := Lib.hid hk
  have HI := Lib.hid hi
  have HX := Lib.hid h
  clear hk hi h
  go_enter Try.func28, Try.ntmps28
  go_wp2
  go_loopw [3, 4] (fun ov iv wr => ∃ (i : Nat) (str : ByteArray), i ≤ k ∧ iv = .int .i64 i ∧ ov = .string str ∧ Hid (str = txt (numsL (ns.take i))) ∧ Below w.heap.size w wr) (fun _ iv _ => k - (intOf iv).toNat)
  case atStart => exact ⟨0, ⟨#[]⟩, by omega, rfl, rfl, rfl, Below.refl _ _⟩
  case round =>
    obtain ⟨i, str, hik, rfl, rfl, HS, hb⟩ := hrel
    by_cases hlt : i < k
    · have hltn : i < ns.length := by rw [HK.out]; exact hlt
      obtain ⟨cs, ty, h1, h2⟩ := HX.out.on hb
      obtain ⟨n, hn⟩ : ∃ n, ns[i] = n := ⟨_, rfl⟩
      have hin : I64 n := by rw [← hn]; exact HI.out _ (List.getElem_mem hltn)
      have cF : wr.cell? ⟨F, i, none⟩ = some (.int .i64 n) := by rw [cell_blk h1, h2 i hltn, hn]
      have HE : Hid (numsL (ns.take (i + 1)) = numsL (ns.take i) ++ num n) := by
        show _ = _
        rw [numsL_take ns i hltn, hn]
      have hcall := num_ref n wr hin
      have HB := Lib.hid hb
      clear h1 h2 hn hin hltn hb
      obtain ⟨str2, hs2⟩ : ∃ q, txt (num n) = q := ⟨_, rfl⟩
      rw [hs2] at hcall
      have hsum := sum_ok (a := str) (b := str2) (by
        have := numsL_len (ns.take i)
        rw [HS.out, txt_size]
        unfold numsL
        rw [List.length_take] at this
        omega) (by
        have := num_len n
        rw [← hs2, txt_size]
        omega)
      go_wp2_with (go_at_call 38; refine hcall.mono ?_; rintro e w1 ⟨rfl, hb1⟩; refine Hid.out ?_)
      refine Lib.hid ?_
      have HB1 : Hid (Below w.heap.size w w1) := HB.out.trans (hb1.mono HB.out.size)
      clear hb1 hcall
      go_wp2
      go_roundw
      case rel =>
        refine ⟨i + 1, _, by omega, by go_num, rfl, ?_, HB1.out⟩
        show _ = _
        rw [HE.out, HS.out, ← hs2, txt_append]
      case measure => simp [intOf]; omega
    · have hiF : i = k := by omega
      subst hiF
      go_wp2
      go_ret
      refine ⟨?_, hb⟩
      rw [HS.out, ← HK.out, List.take_length]
      rfl
set_option maxHeartbeats 2000000 in
set_option maxRecDepth 100000 in
theorem flag_ref (b : Bool) (w : World) : Calls Try.prog 29 #[.bool b] w fun e w' => e = .returned (.string (txt (At.yes b).enc)) ∧ Below w.heap.size w w' := by
  have h1 := num_ref 1 w (by unfold I64; omega)
  have h0 := num_ref 0 w (by unfold I64; omega)
  cases b with
  | false =>
    go_enter Try.func29, Try.ntmps29
    go_wp2_with (go_at_call 38; refine h0.mono ?_; rintro e w1 ⟨rfl, hb1⟩; refine Hid.out ?_)
    refine Lib.hid ?_
    go_wp2
    go_ret
    exact ⟨rfl, hb1⟩
  | true =>
    go_enter Try.func29, Try.ntmps29
    go_wp2_with (go_at_call 38; refine h1.mono ?_; rintro e w1 ⟨rfl, hb1⟩; refine Hid.out ?_)
    refine Lib.hid ?_
    go_wp2
    go_ret
    exact ⟨rfl, hb1⟩
set_option maxHeartbeats 2000000 in
set_option maxRecDepth 100000 in
theorem text_ref (s : ByteArray) (w : World) (h : s.size ≤ 1000000000) : Calls Try.prog 31 #[.string s] w fun e w' => e = .returned (.string (txt (At.text s).enc)) ∧ Below w.heap.size w w' := by
  have e0 : s.data.toList.length = s.size := by rw [Array.length_toList]; rfl
  have HE : Hid ((At.text s).enc = num (s.size : Int) ++ s.data.toList) := by
    show _ = _
    simp only [At.enc]
    rw [e0]
  clear e0
  have h1 := num_ref (s.size : Int) w (by unfold I64; omega)
  obtain ⟨str2, hs2⟩ : ∃ q, txt (num (s.size : Int)) = q := ⟨_, rfl⟩
  rw [hs2] at h1
  have hsum := sum_ok (a := str2) (b := s) (by
    have := num_len (s.size : Int)
    rw [← hs2, txt_size]
    omega) (by omega)
  go_enter Try.func31, Try.ntmps31
  go_wp2_with (go_at_call 38; refine h1.mono ?_; rintro e w1 ⟨rfl, hb1⟩; refine Hid.out ?_)
  refine Lib.hid ?_
  go_wp2
  go_ret
  refine ⟨?_, hb1⟩
  rw [HE.out, ← txt_append, hs2, txt_of]
  rfl
end Go.Proofs.Ytjhgmncmcklnkaa
