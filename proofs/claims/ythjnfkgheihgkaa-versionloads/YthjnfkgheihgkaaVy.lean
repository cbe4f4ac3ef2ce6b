/- The document's store in memory; the walk of its Newest. -/
import Derived.Test.YthjnfkgheihgkaaVx
namespace Go.Proofs.Ythjnfkgheihgkaa
open Go.RowKit

def onC (D : List On) : List Value := D.flatMap fun p => [.string p.1, .int .i64 p.2.ts, .string p.2.val, .bool p.2.dead]
theorem onC_append (a b : List On) : onC (a ++ b) = onC a ++ onC b := by simp [onC]
theorem onC_len (D : List On) : (onC D).length = D.length * 4 := by
  induction D with
  | nil => rfl
  | cons p D ih =>
    simp only [onC, List.flatMap_cons, List.length_append, List.length_cons, List.length_nil] at ih ⊢
    omega
theorem onC_get (D : List On) : ∀ (k : Nat) (h : k < D.length), (onC D)[k * 4]? = some (.string D[k].1) ∧ (onC D)[k * 4 + 1]? = some (.int .i64 D[k].2.ts) ∧ (onC D)[k * 4 + 2]? = some (.string D[k].2.val) ∧ (onC D)[k * 4 + 3]? = some (.bool D[k].2.dead) := by
  induction D with
  | nil => exact fun k h => by simp at h
  | cons p D ih =>
    have e : onC (p :: D) = .string p.1 :: .int .i64 p.2.ts :: .string p.2.val :: .bool p.2.dead :: onC D := by simp [onC]
    intro k h
    rw [e]
    cases k with
    | zero => exact ⟨rfl, rfl, rfl, rfl⟩
    | succ k =>
      obtain ⟨a, b, c, d⟩ := ih k (by simpa using h)
      have e4 : (k + 1) * 4 = k * 4 + 4 := by omega
      rw [e4]
      exact ⟨a, b, c, d⟩
theorem onC_one (D : List On) : ∀ u ∈ onC D, u.oneCell' = true := by
  intro u hu
  obtain ⟨p, _, hp⟩ := List.mem_flatMap.1 hu
  simp only [List.mem_cons, List.not_mem_nil, or_false] at hp
  rcases hp with rfl | rfl | rfl | rfl <;> rfl
/-- The document's store at A, in the blocks S. -/
structure Rs (w : World) (A : Nat) (S : Nat → Prop) (D : List On) (lv : Value) : Prop where
  ob : w.heap[A]? = some (.cells #[lv] 29 (0, 0))
  own : w.ownsRow 0 70 4 lv D.length (onC D)
  mem : ∀ k, S k ↔ k = A ∨ lv.ownBlock = some k
section
variable {w w' : World} {A : Nat} {S T : Nat → Prop} {D : List On} {lv : Value}
theorem Rs.lt (h : Rs w A S D lv) : ∀ k, S k → k < w.heap.size := by
  intro k hk
  rcases (h.mem k).1 hk with rfl | e
  · exact blk_lt h.ob
  · obtain ⟨cs, hc⟩ := own_tag h.own k e
    exact blk_lt hc
theorem Rs.stays (h : Rs w A S D lv) (hf : Fr w w' T) (hd : ∀ k, S k → ¬ T k) : Rs w' A S D lv :=
  ⟨(hf.block A (blk_lt h.ob) (hd A ((h.mem A).2 (.inl rfl)))).trans h.ob, row_keep h.own hf (fun j hj => hd j ((h.mem j).2 (.inr hj))), h.mem⟩
theorem Rs.on (h : Rs w A S D lv) (hb : Below w.heap.size w w') : Rs w' A S D lv := h.stays (Fr.ofBelow (fun _ => False) hb) (fun _ _ q => q)
theorem Rs.at' (h : Rs w A S D lv) {i : Nat} (hi : i < D.length) : ∃ g cap, lv = .slice (some ⟨g, 0, none⟩) D.length cap ∧ D.length ≤ cap ∧ cap ≤ maxLen ∧ w.cell? ⟨g, i * 4, none⟩ = some (.string D[i].1) ∧ w.cell? ⟨g, i * 4 + 1, none⟩ = some (.int .i64 D[i].2.ts) ∧ w.cell? ⟨g, i * 4 + 2, none⟩ = some (.string D[i].2.val) ∧ w.cell? ⟨g, i * 4 + 3, none⟩ = some (.bool D[i].2.dead) := by
  have h' := h.own
  rcases h.own.2 with ⟨hv, h0⟩ | ⟨g, cap, cur, hv, hg, hc, h1, h2, hr⟩
  · omega
  · subst hv
    obtain ⟨a, b, c, d⟩ := onC_get D i hi
    exact ⟨g, cap, rfl, h1, h2, (h'.cellAt _ (by omega)).trans a, (h'.cellAt _ (by omega)).trans b, (h'.cellAt _ (by omega)).trans c, (h'.cellAt _ (by omega)).trans d⟩
theorem Rs.shape (h : Rs w A S D lv) : ∃ ad cap, lv = .slice ad D.length cap ∧ D.length ≤ cap ∧ cap ≤ maxLen := by
  rcases h.own.2 with ⟨hv, h0⟩ | ⟨g, cap, cur, hv, hg, hc, h1, h2, hr⟩
  · exact ⟨none, 0, by rw [hv, h0], by omega, Nat.zero_le _⟩
  · exact ⟨_, cap, hv, h1, h2⟩
theorem newest_take {D : List On} {k : ByteArray} {i : Nat} (h : i < D.length) : newD (D.take (i + 1)) k = if D[i].1 = k then D[i].2.ts else newD (D.take i) k := by
  have e : D.take (i + 1) = D.take i ++ [(D[i].1, D[i].2)] := by rw [List.take_add_one, List.getElem?_eq_getElem h]; rfl
  unfold newD
  rw [e, vsOf_snoc]
  by_cases q : D[i].1 = k
  · rw [if_pos q, if_pos q]
    unfold newest
    rw [List.getLast?_append]
    rfl
  · rw [if_neg q, if_neg q, List.append_nil]
set_option maxHeartbeats 2000000 in
set_option maxRecDepth 100000 in
theorem newest_r (h : Rs w A S D lv) (k : ByteArray) : Calls Try.prog 16 #[.pointer (some ⟨A, 0, none⟩), .string k] w fun e w' => e = .returned (.int .i64 (newD D k)) ∧ w' = w := by
  obtain ⟨ad, cap, rfl, z1, z2⟩ := h.shape
  have hml : (D.length : Int) ≤ 9223372036854775807 := by unfold maxLen at z2; omega
  have y0 : w.cell? ⟨A, 0, none⟩ = some (.slice ad D.length cap) := cell_blk h.ob 0
  have HH := Lib.hid h
  clear h z1 z2
  go_enter Try.func16, Try.ntmps16
  go_wp2
  go_loopw [5, 6] (fun nv iv wr => ∃ i : Nat, i ≤ D.length ∧ iv = .int .i64 (i : Int) ∧ nv = .int .i64 (newD (D.take i) k) ∧ wr = w) (fun _ iv _ => D.length - (intOf iv).toNat)
  case atStart => exact ⟨0, Nat.zero_le _, rfl, rfl, rfl⟩
  case round =>
    obtain ⟨i, hi, rfl, rfl, rfl⟩ := hrel
    by_cases hlt : i < D.length
    · obtain ⟨g, cap', e, _, _, c0, c1, _, _⟩ := HH.out.at' hlt
      cases e
      have k0 : (0 : Int) ≤ i := by omega
      have k1 : (i : Int) < D.length := by omega
      have HN := Lib.hid (newest_take (k := k) hlt)
      by_cases q : D[i].1 = k
      · have es := same_eq D[i].1 k
        rw [decide_eq_true q] at es
        rw [if_pos q] at HN
        clear q
        go_wp2
        go_roundw
        case rel => exact ⟨i + 1, hlt, by go_num, by rw [HN.out], trivial⟩
        case measure => simp [intOf]; omega
      · have es := same_eq D[i].1 k
        rw [decide_eq_false q] at es
        rw [if_neg q] at HN
        clear q
        go_wp2
        go_roundw
        case rel => exact ⟨i + 1, hlt, by go_num, by rw [HN.out], trivial⟩
        case measure => simp [intOf]; omega
    · have k1 : ¬ ((i : Int) < D.length) := by omega
      have e : D.take i = D := List.take_of_length_le (by omega)
      go_wp2
      go_ret
      exact ⟨rfl, rfl⟩
end
end Go.Proofs.Ythjnfkgheihgkaa
