/- The statement DriveSwaps: a Swap is there whole or not at all, wherever the power goes, and other files stay; with no condition. -/
import Derived.Test.YtphpadgmhanabaaLd
import Derived.Test.YtphpadgmhanabaaPa
namespace Go.Proofs.Ytphpadgmhanabaa
open Go.ChangeShapes Go.WideShapes Go.ChangeAt Go.WideMaps Go.WideElems Go.RowKit
open Go.ChangeMaps (open_string)

set_option maxRecDepth 100000 in
theorem driveSwaps_lifted (os : Os) (started : os.Started) (H : Type) (enc : TypeId × Value → H) :
    ReturnsInHanded {} Try.checked os 5 .any (Rows.driveSwapsSpec.pre6 enc Try.prog Try.f5 Rows.driveSwapsRow.domain false) (Rows.driveSwapsSpec.post enc Try.prog Try.f5 false true false false) := by
  refine returnsInHanded_of_change_sized (C := Try.checked) own started (by kernel_rfl) Try.func5
    (ChangeSpec.witness6 (enc := enc) (C := Try.checked) false ⟨#[], #[.string ⟨#[]⟩, .string ⟨#[]⟩, .string ⟨#[]⟩, .int .i64 0, .slice none 0 0], []⟩ 8 (by kernel_rfl) (by kernel_rfl) (by kernel_rfl) (by kernel_rfl)) ?_
  intro W base args ds gs before hval0 hW _ hsz0 _
  have hsz : (DataW.weightsEach Try.prog (Try.f5.params.toList ++ Rows.driveSwapsSpec.plain.varTypes Try.prog) (ds ++ gs)).all (· ≤ reachBytes) = true := hsz0
  clear hsz0
  have hval : ∀ (j : Nat) t v, Try.f5.params[j]? = some t → args[j]? = some v → Value.okWide Try.prog W .any base t v := hval0
  have hW' := hW
  obtain ⟨p, q, hA0, hV, rfl, _, _⟩ := hW
  have hA : DataW.TrodAll enc Try.prog W 0 (fun _ => true) true Try.f5.params.toList args.toList ds p := hA0
  rw [Try.params5] at hA hval hsz
  obtain ⟨v0, v1, v2, v3, v4, d0, d1, d2, d3, d4, p0, p1, p2, p3, p4, rfl, rfl, rfl, h0, h1, h2, h3, h4⟩ := five hA
  obtain ⟨rfl, rfl⟩ := trodVars_none hV
  have h0k := h0
  obtain ⟨t0, rfl, ht0, hr0⟩ : ∃ t : ByteArray, v0 = .string t ∧ t.size ≤ maxLen ∧ d0 = .lit (.string t.data.toList) := by obtain ⟨t, e, e2, _, ht⟩ := open_string Try.underlying9 (hval 0 9 v0 rfl rfl) h0; exact ⟨t, e, ht, e2⟩
  have h1k := h1
  obtain ⟨t1, rfl, ht1, hr1⟩ : ∃ t : ByteArray, v1 = .string t ∧ t.size ≤ maxLen ∧ d1 = .lit (.string t.data.toList) := by obtain ⟨t, e, e2, _, ht⟩ := open_string Try.underlying9 (hval 1 9 v1 rfl rfl) h1; exact ⟨t, e, ht, e2⟩
  have h2k := h2
  obtain ⟨t2, rfl, ht2, hr2⟩ : ∃ t : ByteArray, v2 = .string t ∧ t.size ≤ maxLen ∧ d2 = .lit (.string t.data.toList) := by obtain ⟨t, e, e2, _, ht⟩ := open_string Try.underlying9 (hval 2 9 v2 rfl rfl) h2; exact ⟨t, e, ht, e2⟩
  have h3k := h3
  obtain ⟨n3, rfl, lo3, hi3⟩ : ∃ n : Int, v3 = .int .i64 n ∧ -9223372036854775808 ≤ n ∧ n ≤ 9223372036854775807 := by obtain ⟨n, e, _, _, hn⟩ := open_int Try.underlying3 (hval 3 3 v3 rfl rfl) h3; exact ⟨n, e, (bounds_i64 hn).1, (bounds_i64 hn).2⟩
  have h4k := h4
  obtain ⟨ks4, ad4, cap4, rfl, hI4, lc4, hd4⟩ := open_ints31 (hval 4 31 v4 rfl rfl) h4
  clear hA0 hval0
  simp only [List.append_nil] at hW'
  have hlt0 : ∀ x ∈ p0, x.block < W.heap.size := fun x hx => hW'.lt x (by simp [hx])
  have hlt1 : ∀ x ∈ p1, x.block < W.heap.size := fun x hx => hW'.lt x (by simp [hx])
  have hlt2 : ∀ x ∈ p2, x.block < W.heap.size := fun x hx => hW'.lt x (by simp [hx])
  have hlt3 : ∀ x ∈ p3, x.block < W.heap.size := fun x hx => hW'.lt x (by simp [hx])
  have hlt4 : ∀ x ∈ p4, x.block < W.heap.size := fun x hx => hW'.lt x (by simp [hx])
  have hz0 : t0.size ≤ 140737488355328 := by
    have := sized_string hsz (j := 0) (t := 9) rfl (by rw [hr0]; rfl)
    rw [len_size] at this
    simp only [reachBytes] at this
    omega
  have hz1 : t1.size ≤ 140737488355328 := by
    have := sized_string hsz (j := 1) (t := 9) rfl (by rw [hr1]; rfl)
    rw [len_size] at this
    simp only [reachBytes] at this
    omega
  have hz2 : t2.size ≤ 140737488355328 := by
    have := sized_string hsz (j := 2) (t := 9) rfl (by rw [hr2]; rfl)
    rw [len_size] at this
    simp only [reachBytes] at this
    omega
  have hz4 : ks4.length * 8 ≤ 140737488355328 := by
    rcases hd4 with ⟨_, hc⟩ | ⟨elems, spare, rfl, hc⟩
    · omega
    · have := sized_slice hsz (j := 4) (t := 31) (e := 3) rfl rfl Try.underlying31
      rw [bytes3] at this
      simp only [reachBytes] at this
      omega
  clear hsz
  refine (swaps_law t0 t1 t2 n3 ⟨lo3, hi3⟩ hI4 hz4 hz0 hz1 hz2).mono fun e W' ⟨he, hb⟩ => ?_
  subst he
  refine ⟨_, rfl, _, _, _, [], _, [], hW', ?_, mk5 (again_str h0k hb (hlt0)) (again_str h1k hb (hlt1)) (again_str h2k hb (hlt2)) (again_int h3k hb (hlt3)) (again_ints h4k hb (hlt4)), rfl, hb.frame _, fun h => by cases h⟩
  exact trodAll_mk1 (shut_bool Try.underlying4 true)

theorem driveSwaps_holds : Rows.DriveSwapsSaid :=
  OpenClaim.holds_of_wide 5 Try.f5 rfl rfl rfl rfl rfl rfl rfl ⟨rfl, rfl, rfl, rfl, rfl⟩ rfl rfl rfl rfl rfl (by kernel_rfl) Try.func5 (by kernel_rfl)
    (of_decide_eq_true (by kernel_rfl)) (by unfold Func.isWrapper; rw [if_neg (of_decide_eq_false (by kernel_rfl))]; exact ⟨rfl, rfl⟩)
    (fun os started H enc _ => driveSwaps_lifted os started H enc)
#print axioms driveSwaps_holds
end Go.Proofs.Ytphpadgmhanabaa
