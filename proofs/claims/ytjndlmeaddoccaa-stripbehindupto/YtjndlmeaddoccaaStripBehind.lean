/- What stands behind records never changes them, they are told first: the statement StripBehind answers true at every list of texts and every text behind, where both together hold at most 1048576 values and letters (the second form's bound). -/
import Derived.Test.YtjndlmeaddoccaaLf
import Derived.Test.YtjndlmeaddoccaaPa
import Derived.JoinedCond
namespace Go.Proofs.Ytjndlmeaddoccaa
open Go.ChangeShapes Go.WideShapes Go.ChangeAt Go.WideMaps Go.WideElems Go.RowKit
open Go.ChangeMaps (open_string)

set_option maxRecDepth 100000 in
theorem stripBehind_lifted (os : Os) (started : os.Started) (H : Type) (enc : TypeId × Value → H) (F : Stop.Interp) :
    ReturnsInHanded {} Try.checked os 7 .any ((Rows.OpenSpec.upto Rows.stripBehindSpec).pre6 enc Try.prog Try.f7 Rows.stripBehindUptoRow.domain false) (((Rows.OpenSpec.upto Rows.stripBehindSpec).at F).post enc Try.prog Try.f7 false true false false) := by
  refine returnsInHanded_of_cond (C := Try.checked) (s := Rows.OpenSpec.upto Rows.stripBehindSpec) (k := Rows.uptoSmall) rfl own started (by kernel_rfl) Try.func7
    (OpenSpec.witness (enc := enc) (C := Try.checked) (s := Rows.OpenSpec.upto Rows.stripBehindSpec) (k := Rows.uptoSmall) rfl false ⟨#[], #[.slice none 0 0, .string ⟨#[]⟩], []⟩ 8 (by kernel_rfl) (by kernel_rfl) (by kernel_rfl)
      (x := ([.nil, .lit (.string [])], [], [])) (by kernel_rfl) rfl (by kernel_rfl)) ?_
  intro W base args ds gs before hval0 hW _ hk _
  have hval : ∀ (j : Nat) t v, Try.f7.params[j]? = some t → args[j]? = some v → Value.okWide Try.prog W .any base t v := hval0
  have hW' := hW
  obtain ⟨p, q, hA0, hV, rfl, _, _⟩ := hW
  have hA : DataW.TrodAll enc Try.prog W 0 (fun _ => true) true Try.f7.params.toList args.toList ds p := hA0
  rw [Try.params7] at hA hval
  obtain ⟨v0, v1, d0, d1, p0, p1, rfl, rfl, rfl, h0, h1⟩ := trodAll_two hA
  obtain ⟨rfl, rfl⟩ := trodVars_none hV
  have h0k := h0
  obtain ⟨L0, ad0, cap0, rfl, hL0, sL0, lc0, nz0, hd0⟩ := open_list (hval 0 31 v0 rfl rfl) h0
  have h1k := h1
  obtain ⟨t1, rfl, ht1, hr1⟩ : ∃ t : ByteArray, v1 = .string t ∧ t.size ≤ maxLen ∧ d1 = .lit (.string t.data.toList) := by obtain ⟨t, e, e2, _, ht⟩ := open_string Try.underlying9 (hval 1 9 v1 rfl rfl) h1; exact ⟨t, e, ht, e2⟩
  clear hA0 hval0
  simp only [List.append_nil] at hW' hk
  have hlt0 : ∀ x ∈ p0, x.block < W.heap.size := fun x hx => hW'.lt x (by simp [hx])
  have hlt1 : ∀ x ∈ p1, x.block < W.heap.size := fun x hx => hW'.lt x (by simp [hx])
  have hk : Rows.uptoBulkAll [d0, d1] ≤ 1048576 := of_decide_eq_true hk
  simp only [Rows.uptoBulkAll] at hk
  have hk0 : L0.length ≤ 1048576 := by
    rcases hd0 with ⟨_, hc⟩ | ⟨elems, spare, rfl, hc⟩
    · omega
    · have := bulk_slice elems spare
      omega
  have hk1 : t1.size ≤ 1048576 := by
    have e : Rows.uptoBulk d1 = t1.data.toList.length + 1 := by rw [hr1]; simp [Rows.uptoBulk]
    have e2 := len_size t1
    omega
  refine (behind_any L0 ad0 cap0 t1 W hL0 sL0 (by omega) hk1).mono fun e W' ⟨he, hb⟩ => ?_
  subst he
  refine ⟨_, rfl, _, _, _, [], _, [], hW', ?_, trodAll_mk2 (again_list h0k hb (hlt0)) (again_str h1k hb (hlt1)), rfl, hb.frame _, fun h => by cases h⟩
  exact trodAll_mk1 (shut_bool Try.underlying4 true)

theorem stripBehind_holds : Rows.StripBehindUptoSaid :=
  OpenClaim.holds_of_cond 7 Try.f7 rfl rfl rfl rfl rfl rfl rfl ⟨rfl, rfl, rfl, rfl, rfl⟩ rfl rfl rfl rfl rfl (by kernel_rfl) Try.func7 (by kernel_rfl)
    (of_decide_eq_true (by kernel_rfl)) (by unfold Func.isWrapper; rw [if_neg (of_decide_eq_false (by kernel_rfl))]; exact ⟨rfl, rfl⟩)
    (fun os started H enc _ F => stripBehind_lifted os started H enc F)
#print axioms stripBehind_holds
end Go.Proofs.Ytjndlmeaddoccaa
