/- The statement ShardHolds, where what comes in holds at most 1048576 values and letters: what a prepared transaction has read stays as it was seen until it is resolved; no other condition. -/
import Derived.Test.YtcoaahlakkghhaaMYd
import Derived.Test.YtcoaahlakkghhaaMYf
import Derived.Test.YtcoaahlakkghhaaRows
import Derived.Carry
import Derived.JoinedCond
namespace Go.Proofs.Ytcoaahlakkghhaa
open Go.ChangeShapes Go.WideShapes Go.ChangeAt Go.WideMaps Go.WideElems Go.RowKit
set_option maxRecDepth 100000 in
theorem shardHolds_lifted (os : Os) (started : os.Started) (H : Type) (enc : TypeId × Value → H) (F : Stop.Interp) :
    ReturnsInHanded {} Try.checked os 6 .any ((Rows.OpenSpec.upto Rows.shardHoldsSpec).pre6 enc Try.prog Try.f6 Rows.shardHoldsUptoRow.domain false) (((Rows.OpenSpec.upto Rows.shardHoldsSpec).at F).post enc Try.prog Try.f6 false true false false) := by
  refine returnsInHanded_of_cond (C := Try.checked) (s := Rows.OpenSpec.upto Rows.shardHoldsSpec) (k := Rows.uptoSmall) rfl own started (by kernel_rfl) Try.func6
    (OpenSpec.witness (enc := enc) (C := Try.checked) (s := Rows.OpenSpec.upto Rows.shardHoldsSpec) (k := Rows.uptoSmall) rfl false ⟨#[], #[.slice none 0 0, .agg #[.string ⟨#[]⟩, .string ⟨#[]⟩], .agg #[.int .i64 0, .int .i64 0, .int .i64 0], .slice none 0 0], []⟩ 12 (by kernel_rfl) (by kernel_rfl) (by kernel_rfl)
      (x := ([.nil, .agg [.lit (.string []), .lit (.string [])], .agg [.lit (.int .i64 0), .lit (.int .i64 0), .lit (.int .i64 0)], .nil], [], [])) (by kernel_rfl) rfl (by kernel_rfl)) ?_
  intro W base args ds gs before hval0 hW _ hk _
  have hval : ∀ (j : Nat) t v, Try.f6.params[j]? = some t → args[j]? = some v → Value.okWide Try.prog W .any base t v := hval0
  have hW' := hW
  obtain ⟨p, q, hA0, hV, rfl, _, _⟩ := hW
  have hA : DataW.TrodAll enc Try.prog W 0 (fun _ => true) true Try.f6.params.toList args.toList ds p := hA0
  rw [Try.params6] at hA hval
  obtain ⟨v0, v1, v2, v3, d0, d1, d2, d3, p0, p1, p2, p3, rfl, rfl, rfl, h0, h1, h2, h3⟩ := trodAll_four hA
  obtain ⟨rfl, rfl⟩ := trodVars_none hV
  have h0k := h0
  obtain ⟨L0, hL0, hI0, hB0⟩ := open_opsB (hval 0 22 v0 rfl rfl) h0
  have h1k := h1
  obtain ⟨s1, rfl, hs1⟩ := open_spanB (hval 1 57 v1 rfl rfl) h1
  have h2k := h2
  obtain ⟨t2, rfl, ht2⟩ := open_tdB (hval 2 37 v2 rfl rfl) h2
  have h3k := h3
  obtain ⟨L3, hL3, hI3, hB3⟩ := open_opsB (hval 3 22 v3 rfl rfl) h3
  clear hA0 hval0
  simp only [List.append_nil] at hW' hk
  have hlt0 : ∀ x ∈ p0, x.block < W.heap.size := fun x hx => hW'.lt x (by simp [hx])
  have hlt1 : ∀ x ∈ p1, x.block < W.heap.size := fun x hx => hW'.lt x (by simp [hx])
  have hlt2 : ∀ x ∈ p2, x.block < W.heap.size := fun x hx => hW'.lt x (by simp [hx])
  have hlt3 : ∀ x ∈ p3, x.block < W.heap.size := fun x hx => hW'.lt x (by simp [hx])
  have hk : Rows.uptoBulkAll [d0, d1, d2, d3] ≤ 1048576 := of_decide_eq_true hk
  simp only [Rows.uptoBulkAll] at hk
  refine (holds_law hL0 (fun q hq => cmB_sz (Nat.le_trans (sum_mem (f := fun q : Oq => cmB q.2) hq) (Nat.le_trans hB0 (by omega)))) (Nat.le_trans (tot_totB L0) (by omega)) hL3 (fun q hq => cmB_sz (Nat.le_trans (sum_mem (f := fun q : Oq => cmB q.2) hq) (Nat.le_trans hB3 (by omega)))) (Nat.le_trans (tot_totB L3) (by omega)) ht2).mono fun e W' ⟨he, hb⟩ => ?_
  subst he
  refine ⟨_, rfl, _, _, _, [], _, [], hW', ?_, trodAll_mk4 (again_ops h0k hb (hlt0)) (again_span h1k hb (hlt1)) (again_td h2k hb (hlt2)) (again_ops h3k hb (hlt3)), rfl, hb.frame _, fun h => by cases h⟩
  exact trodAll_mk1 (shut_bool Try.underlying4 true)

theorem shardHolds_holds : Rows.ShardHoldsUptoSaid :=
  OpenClaim.holds_of_cond 6 Try.f6 rfl rfl rfl rfl rfl rfl rfl ⟨rfl, rfl, rfl, rfl, rfl⟩ rfl rfl rfl rfl rfl (by kernel_rfl) Try.func6 (by kernel_rfl)
    (of_decide_eq_true (by kernel_rfl)) (by unfold Func.isWrapper; rw [if_neg (of_decide_eq_false (by kernel_rfl))]; exact ⟨rfl, rfl⟩)
    (fun os started H enc _ F => shardHolds_lifted os started H enc F)
#print axioms shardHolds_holds
end Go.Proofs.Ytcoaahlakkghhaa
