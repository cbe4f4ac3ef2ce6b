/- The statement DriveSafe: what a Sync that was answered OK found is there behind any loss of power, and in front, whatever was appended later; its second form: where the arguments hold together at most 1048576 values and letters. -/
import Derived.Test.YtphpadgmhanabaaLe
import Derived.Test.YtphpadgmhanabaaPb
import Derived.Test.YtphpadgmhanabaaPa
import Derived.JoinedCond
namespace Go.Proofs.Ytphpadgmhanabaa
open Go.ChangeShapes Go.WideShapes Go.ChangeAt Go.WideMaps Go.WideElems Go.RowKit
open Go.ChangeMaps (open_string)

set_option maxRecDepth 100000 in
theorem driveSafe_lifted (os : Os) (started : os.Started) (H : Type) (enc : TypeId × Value → H) (F : Stop.Interp) :
    ReturnsInHanded {} Try.checked os 4 .any ((Rows.OpenSpec.upto Rows.driveSafeSpec).pre6 enc Try.prog Try.f4 Rows.driveSafeUptoRow.domain false) (((Rows.OpenSpec.upto Rows.driveSafeSpec).at F).post enc Try.prog Try.f4 false true false false) := by
  refine returnsInHanded_of_cond (C := Try.checked) (s := Rows.OpenSpec.upto Rows.driveSafeSpec) (k := Rows.uptoSmall) rfl own started (by kernel_rfl) Try.func4
    (OpenSpec.witness (enc := enc) (C := Try.checked) (s := Rows.OpenSpec.upto Rows.driveSafeSpec) (k := Rows.uptoSmall) rfl false ⟨#[], #[.string ⟨#[]⟩, .string ⟨#[]⟩, .slice none 0 0, .int .i64 0], []⟩ 8 (by kernel_rfl) (by kernel_rfl) (by kernel_rfl)
      (x := ([.lit (.string []), .lit (.string []), .nil, .lit (.int .i64 0)], [], [])) (by kernel_rfl) rfl (by kernel_rfl)) ?_
  intro W base args ds gs before hval0 hW _ hk _
  have hval : ∀ (j : Nat) t v, Try.f4.params[j]? = some t → args[j]? = some v → Value.okWide Try.prog W .any base t v := hval0
  have hW' := hW
  obtain ⟨p, q, hA0, hV, rfl, _, _⟩ := hW
  have hA : DataW.TrodAll enc Try.prog W 0 (fun _ => true) true Try.f4.params.toList args.toList ds p := hA0
  rw [Try.params4] at hA hval
  obtain ⟨v0, v1, v2, v3, d0, d1, d2, d3, p0, p1, p2, p3, rfl, rfl, rfl, h0, h1, h2, h3⟩ := trodAll_four hA
  obtain ⟨rfl, rfl⟩ := trodVars_none hV
  have h0k := h0
  obtain ⟨t0, rfl, ht0, hr0⟩ : ∃ t : ByteArray, v0 = .string t ∧ t.size ≤ maxLen ∧ d0 = .lit (.string t.data.toList) := by obtain ⟨t, e, e2, _, ht⟩ := open_string Try.underlying9 (hval 0 9 v0 rfl rfl) h0; exact ⟨t, e, ht, e2⟩
  have h1k := h1
  obtain ⟨t1, rfl, ht1, hr1⟩ : ∃ t : ByteArray, v1 = .string t ∧ t.size ≤ maxLen ∧ d1 = .lit (.string t.data.toList) := by obtain ⟨t, e, e2, _, ht⟩ := open_string Try.underlying9 (hval 1 9 v1 rfl rfl) h1; exact ⟨t, e, ht, e2⟩
  have h2k := h2
  obtain ⟨ks2, ad2, cap2, rfl, hI2, lc2, hd2⟩ := open_ints31 (hval 2 31 v2 rfl rfl) h2
  have h3k := h3
  obtain ⟨n3, rfl, lo3, hi3⟩ : ∃ n : Int, v3 = .int .i64 n ∧ -9223372036854775808 ≤ n ∧ n ≤ 9223372036854775807 := by obtain ⟨n, e, _, _, hn⟩ := open_int Try.underlying3 (hval 3 3 v3 rfl rfl) h3; exact ⟨n, e, (bounds_i64 hn).1, (bounds_i64 hn).2⟩
  clear hA0 hval0
  simp only [List.append_nil] at hW' hk
  have hlt0 : ∀ x ∈ p0, x.block < W.heap.size := fun x hx => hW'.lt x (by simp [hx])
  have hlt1 : ∀ x ∈ p1, x.block < W.heap.size := fun x hx => hW'.lt x (by simp [hx])
  have hlt2 : ∀ x ∈ p2, x.block < W.heap.size := fun x hx => hW'.lt x (by simp [hx])
  have hlt3 : ∀ x ∈ p3, x.block < W.heap.size := fun x hx => hW'.lt x (by simp [hx])
  have hk : Rows.uptoBulkAll [d0, d1, d2, d3] ≤ 1048576 := of_decide_eq_true hk
  simp only [Rows.uptoBulkAll] at hk
  have hz0 : t0.size ≤ 1048576 := by
    have e : Rows.uptoBulk d0 = t0.data.toList.length + 1 := by rw [hr0]; simp [Rows.uptoBulk]
    have e2 := len_size t0
    omega
  have hz1 : t1.size ≤ 1048576 := by
    have e : Rows.uptoBulk d1 = t1.data.toList.length + 1 := by rw [hr1]; simp [Rows.uptoBulk]
    have e2 := len_size t1
    omega
  have hz2 : ks2.length ≤ 1048576 := by
    rcases hd2 with ⟨_, hc⟩ | ⟨elems, spare, rfl, hc⟩
    · omega
    · have := bulk_slice elems spare
      omega
  refine (safe_law t0 t1 n3 ⟨lo3, hi3⟩ hI2 hz2 hz0 hz1).mono fun e W' ⟨he, hb⟩ => ?_
  subst he
  refine ⟨_, rfl, _, _, _, [], _, [], hW', ?_, trodAll_mk4 (again_str h0k hb (hlt0)) (again_str h1k hb (hlt1)) (again_ints h2k hb (hlt2)) (again_int h3k hb (hlt3)), rfl, hb.frame _, fun h => by cases h⟩
  exact trodAll_mk1 (shut_bool Try.underlying4 true)

theorem driveSafe_holds : Rows.DriveSafeUptoSaid :=
  OpenClaim.holds_of_cond 4 Try.f4 rfl rfl rfl rfl rfl rfl rfl ⟨rfl, rfl, rfl, rfl, rfl⟩ rfl rfl rfl rfl rfl (by kernel_rfl) Try.func4 (by kernel_rfl)
    (of_decide_eq_true (by kernel_rfl)) (by unfold Func.isWrapper; rw [if_neg (of_decide_eq_false (by kernel_rfl))]; exact ⟨rfl, rfl⟩)
    (fun os started H enc _ F => driveSafe_lifted os started H enc F)
#print axioms driveSafe_holds
end Go.Proofs.Ytphpadgmhanabaa
