/- RowsKeys, as the given row states it: rows, entries and spans have the keys that the document says, and a key's last value is found again; with no condition. -/
import Derived.Test.YtbepekgaipipjaaRt
import Derived.Test.YtbepekgaipipjaaPz
import Derived.Test.YtbepekgaipipjaaRows
import Derived.Carry
namespace Go.Proofs.Ytbepekgaipipjaa
open Go.ChangeShapes Go.WideShapes Go.ChangeAt Go.WideMaps Go.WideElems Go.RowKit
open Go.ChangeMaps (open_string)
set_option maxRecDepth 100000 in
theorem rowsKeys_lifted (os : Os) (started : os.Started) (H : Type) (enc : TypeId × Value → H) :
    ReturnsInHanded {} Try.checked os 3 .any (Rows.rowsKeysSpec.pre6 enc Try.prog Try.f3 Rows.rowsKeysRow.domain false) (Rows.rowsKeysSpec.post enc Try.prog Try.f3 false true false false) := by
  refine returnsInHanded_of_change_sized (C := Try.checked) own started (by kernel_rfl) Try.func3
    (ChangeSpec.witness6 (enc := enc) (C := Try.checked) false ⟨#[], #[.int .i64 0, .agg #[.int .i64 0, .int .i64 0, .string ⟨#[]⟩], .agg #[.int .i64 0, .int .i64 0, .string ⟨#[]⟩], .string ⟨#[]⟩], []⟩ 12 (by kernel_rfl) (by kernel_rfl) (by kernel_rfl) (by kernel_rfl)) ?_
  intro W base args ds gs before hval0 hW _ hsz0 _
  have hsz : (DataW.weightsEach Try.prog (Try.f3.params.toList ++ Rows.rowsKeysSpec.plain.varTypes Try.prog) (ds ++ gs)).all (· ≤ reachBytes) = true := hsz0
  clear hsz0
  have hval : ∀ (j : Nat) t v, Try.f3.params[j]? = some t → args[j]? = some v → Value.okWide Try.prog W .any base t v := hval0
  have hW' := hW
  obtain ⟨p, q, hA0, hV, rfl, _, _⟩ := hW
  have hA : DataW.TrodAll enc Try.prog W 0 (fun _ => true) true Try.f3.params.toList args.toList ds p := hA0
  rw [Try.params3] at hA hval hsz
  obtain ⟨v0, v1, v2, v3, d0x, d1x, d2x, d3x, p0, p1, p2, p3, rfl, rfl, rfl, h0, h1, h2, h3⟩ := trodAll_four hA
  obtain ⟨rfl, rfl⟩ := trodVars_none hV
  have h0k := h0
  obtain ⟨n0, rfl, lo0, hi0⟩ : ∃ n : Int, v0 = .int .i64 n ∧ -9223372036854775808 ≤ n ∧ n ≤ 9223372036854775807 := by obtain ⟨n, e, _, _, hn⟩ := open_int Try.underlying3 (hval 0 3 v0 rfl rfl) h0; exact ⟨n, e, (bounds_i64 hn).1, (bounds_i64 hn).2⟩
  have h1k := h1
  obtain ⟨x1, rfl, hI1⟩ := open_vl (hval 1 23 v1 rfl rfl) h1
  have h2k := h2
  obtain ⟨x2, rfl, hI2⟩ := open_vl (hval 2 23 v2 rfl rfl) h2
  have h3k := h3
  obtain ⟨t3, rfl, he3, _, hz93⟩ := open_string Try.underlying9 (hval 3 9 v3 rfl rfl) h3
  have hr3 : t3.size ≤ 140737488351232 := by
    have := sized_string hsz (j := 3) (t := 9) rfl (congrArg some he3)
    rw [Array.length_toList] at this
    exact this
  clear hA0 hval0 hsz
  simp only [List.append_nil] at hW'
  have hlt0 : ∀ x ∈ p0, x.block < W.heap.size := fun x hx => hW'.lt x (by simp [hx])
  have hlt1 : ∀ x ∈ p1, x.block < W.heap.size := fun x hx => hW'.lt x (by simp [hx])
  have hlt2 : ∀ x ∈ p2, x.block < W.heap.size := fun x hx => hW'.lt x (by simp [hx])
  have hlt3 : ∀ x ∈ p3, x.block < W.heap.size := fun x hx => hW'.lt x (by simp [hx])
  refine (keys_law ⟨lo0, hi0⟩ ⟨hI1.n.1, hI1.n.2⟩ ⟨hI2.n.1, hI2.n.2⟩ hr3 _).mono fun e W' ⟨he, hb⟩ => ?_
  subst he
  refine ⟨_, rfl, _, _, _, [], _, [], hW', ?_, trodAll_mk4 (againT_int h0k hb hlt0) (againT_vl h1k hb hlt1) (againT_vl h2k hb hlt2) (againT_str h3k hb hlt3), rfl, hb.frame _, fun h => by cases h⟩
  exact trodAll_mk1 (shut_bool Try.underlying4 true)

theorem rowsKeys_holds : Rows.RowsKeysSaid :=
  OpenClaim.holds_of_wide 3 Try.f3 rfl rfl rfl rfl rfl rfl rfl ⟨rfl, rfl, rfl, rfl, rfl⟩ rfl rfl rfl rfl rfl (by kernel_rfl) Try.func3 (by kernel_rfl)
    (of_decide_eq_true (by kernel_rfl)) (by unfold Func.isWrapper; rw [if_neg (of_decide_eq_false (by kernel_rfl))]; exact ⟨rfl, rfl⟩)
    (fun os started H enc _ => rowsKeys_lifted os started H enc)
#print axioms rowsKeys_holds
end Go.Proofs.Ytbepekgaipipjaa
