/- slices.Delete of a list's end. -/
import Derived.Test.YtmiagjcihmenfaaPe
namespace Go.Proofs.Ytmiagjcihmenfaa
open Go.RowKit

section
variable {w w' : World} {A : Nat} {S T : Nat → Prop} {b : Bs} {lv : Value} {pf : Int}
set_option maxHeartbeats 2000000 in
theorem delete_none (w : World) (ad : Option Addr) (n cap : Nat) (h1 : n ≤ cap) (h2 : cap ≤ maxLen) : Calls Try.prog 81 #[.slice ad n cap, .int .i64 n, .int .i64 n] w fun e w' => e = .returned (.slice ad n cap) ∧ w' = w := by
  have k1 : (n : Int) ≤ cap := by omega
  have k0 : (0 : Int) ≤ n := by omega
  have h3 : cap ≤ 9223372036854775807 := by unfold maxLen at h2; omega
  clear h2
  go_enter Try.func81, Try.ntmps81
  cases ad <;>
  · go_wp2
    all_goals (go_ret; exact ⟨rfl, rfl⟩)
set_option maxHeartbeats 400000 in
set_option maxRecDepth 100000 in
theorem delete_some {g o n cap i : Nat} {cur : Array Value} (hb : w.heap[g]? = some (.cells cur 49 (0, 0))) (hs : cur.size = o + cap * 4) (h1 : n ≤ cap) (h2 : cap ≤ maxLen) (hi : i < n) : Calls Try.prog 81 #[.slice (some ⟨g, o, none⟩) n cap, .int .i64 i, .int .i64 n] w fun e w' => e = .returned (.slice (some ⟨g, o, none⟩) i cap) ∧ w' = w.drew.setCells g (o + i * 4) (zE (n - i)) := by
  have k1 : (n : Int) ≤ cap := by omega
  have k0 : (0 : Int) ≤ i := by omega
  have k2 : (i : Int) < n := by omega
  have k3 : i ≤ cap := by omega
  have h3 : cap ≤ 9223372036854775807 := by unfold maxLen at h2; omega
  have hne : ¬ cap = i := by omega
  have hcl := fun ty c => clear_run (w := w.drew) (n := n - i) (o := o + i * 4) (cap := c) ty hb (by omega)
  have hrun1 := append_none w.drew (some ⟨g, o, none⟩) (some ⟨g, o, none⟩) i cap 0 k3
  have hrun2 := append_none w.drew (some ⟨g, o, none⟩) (some ⟨g, o + n * 4, none⟩) i cap (cap - n) k3
  clear h2 hb hs
  go_enter Try.func81, Try.ntmps81
  by_cases hc : cap = n
  · subst hc
    clear hrun2
    go_wp2
    go_region_law (refine step_run2 (.tmp 22) (.tmp 25) rfl rfl rfl (by simp [Act.eval, Act.put]) (by simp [Act.eval, Act.put]) hrun1 ?_)
    all_goals
      go_wp2_with (at_builtin; refine wpl_clear _ rfl (hcl _ _) ?_)
      go_ret
      exact ⟨rfl, rfl⟩
  · clear hrun1
    go_wp2
    go_region_law (refine step_run2 (.tmp 22) (.tmp 25) rfl rfl rfl (by simp [Act.eval, Act.put]) (by simp [Act.eval, Act.put]) hrun2 ?_)
    all_goals
      go_wp2_with (at_builtin; refine wpl_clear _ rfl (hcl _ _) ?_)
      go_ret
      exact ⟨rfl, rfl⟩
theorem Lg.cleared {g o cap p n : Nat} {cur : Array Value} {L : List En} (hn : L.length = n) (h0 : 0 < cap) (h1 : n ≤ cap) (h2 : cap ≤ maxLen) (h3 : w.heap[g]? = some (.cells cur 49 (0, 0))) (h4 : cur.size = o + cap * 4) (h5 : ∀ j, j < n * 4 → w.cell? ⟨g, o + j, none⟩ = (enC L)[j]?) (hp : p ≤ n) : Lg (w.setCells g (o + p * 4) (zE (n - p))) (L.take p) (.slice (some ⟨g, o, none⟩) p cap) := by
  obtain ⟨cur', c1, c2⟩ := setCells_blk g (zE (n - p)) (o + p * 4) w cur h3
  have hl : (L.take p).length = p := by simp; omega
  refine .inr ⟨g, o, cap, cur', by rw [hl], h0, by omega, h2, c1, c2.trans h4, fun j hj => ?_⟩
  rw [hl] at hj
  rw [World.cell?_setCells_out g _ _ w _ (fun _ _ => .inl (by show o + j < _; omega)), h5 j (by omega)]
  have e : enC L = enC (L.take p) ++ enC (L.drop p) := by rw [← enC_append, List.take_append_drop]
  rw [e, List.getElem?_append_left (by rw [enC_len, hl]; exact hj)]
theorem delete_any {L : List En} {v : Value} (h : Lg w L v) {p : Nat} (hp : p ≤ L.length) : Calls Try.prog 81 #[v, .int .i64 p, .int .i64 L.length] w fun e w' => ∃ ad cap, e = .returned (.slice ad p cap) ∧ Lg w' (L.take p) (.slice ad p cap) ∧ Fr w w' (fun k => lgB v = some k) ∧ (∀ k, lgB (.slice ad p cap) = some k → lgB v = some k) := by
  by_cases he : p = L.length
  · subst he
    obtain ⟨ad, cap, rfl, h1, h2⟩ := h.shape
    refine (delete_none w ad L.length cap h1 h2).mono ?_
    rintro e w' ⟨rfl, rfl⟩
    exact ⟨ad, cap, rfl, by rw [List.take_length]; exact h, Fr.refl _ _, fun k hk => hk⟩
  · rcases h with ⟨rfl, ad, rfl⟩ | ⟨g, o, cap, cur, rfl, h0, h1, h2, h3, h4, h5⟩
    · simp at hp
      simp [hp] at he
    · refine (delete_some h3 h4 h1 h2 (by omega)).mono ?_
      rintro e w' ⟨rfl, rfl⟩
      refine ⟨_, cap, rfl, Lg.cleared (w := w.drew) rfl h0 h1 h2 h3 h4 h5 hp, ?_, fun k hk => ?_⟩
      · have := setCells_fr g (o + p * 4) (zE (L.length - p)) w.drew (S := fun k => lgB (.slice (some ⟨g, o, none⟩) L.length cap) = some k) (lgB_pos h0)
        exact ⟨this.os, this.tape, this.output, this.size, this.block⟩
      · rw [lgB_pos h0] at hk ⊢
        exact hk
end
end Go.Proofs.Ytmiagjcihmenfaa
