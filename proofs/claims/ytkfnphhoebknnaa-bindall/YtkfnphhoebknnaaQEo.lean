import Derived.Test.YtkfnphhoebknnaaQEc
import Derived.Test.YtkfnphhoebknnaaQSc
namespace Go.Proofs.Ytkfnphhoebknnaa
open Go.RowKit
theorem info37 : (Try.prog.info? 37).map (fun i => (i.zero, i.size, i.bytes)) = some (some (.agg #[.int .i64 0, .int .i64 0, .string ⟨#[]⟩]), 3, 32) := by kernel_rfl
theorem info39 : (Try.prog.info? 39).map (fun i => (i.zero, i.size, i.bytes)) = some (some (.agg #[.int .i64 0, .int .i64 0, .slice none 0 0, .int .i64 0, .int .i64 0, .int .i64 0, .string ⟨#[]⟩, .int .i64 0, .int .i64 0, .int .i64 0, .string ⟨#[]⟩]), 11, 120) := by kernel_rfl
theorem size39 : (Try.prog.info? 39).map (·.size) = some 11 := by kernel_rfl
theorem size46 : (Try.prog.info? 46).map (·.size) = some 22 := by kernel_rfl
theorem size65 : (Try.prog.info? 65).map (·.size) = some 7 := by kernel_rfl
section
variable {w : World} {v : Value}
theorem run_vl {base n m c : Nat} {xs news : List Value} {ad : Option Addr} (ho : w.ownsRow base 37 3 v n xs) (hb : base ≤ w.heap.size) (hs : (ad = none ∧ m = 0 ∧ c = 0 ∧ news = []) ∨ ∃ a, ad = some a ∧ news.length = m * 3 ∧ (∀ j u, news[j]? = some u → w.cell? (a.add j) = some u))
    (h1 : ∀ u ∈ news, u.oneCell' = true) (hnm : (n + m) * 32 ≤ 140737488355328) : ∃ ad' cap' w', (Builtin.append_ #[35, 35] 35 #[v, .slice ad m c]).run Try.prog w = .ok (.slice ad' (n + m) cap') w' ∧ w'.ownsRow base 37 3 (.slice ad' (n + m) cap') (n + m) (xs ++ news) ∧ w.grownBy w' v.ownBlock ∧ ((Value.slice ad' (n + m) cap').ownBlock = v.ownBlock ∨ (Value.slice ad' (n + m) cap').ownBlock = some w.heap.size) := by
  obtain ⟨i0, hi, hz0, hz1, hz2⟩ := info_parts info37
  rcases hs with ⟨rfl, rfl, rfl, rfl⟩ | ⟨a, rfl, hl, hc⟩
  · obtain ⟨ad', cap', rfl⟩ := own_shape ho
    refine ⟨ad', cap', w, ?_, by simpa using ho, ⟨rfl, rfl, rfl, Nat.le_refl _, fun _ _ _ => rfl⟩, .inl rfl⟩
    exact run_append_owned_none (P := Try.prog) (w := w) base 35 35 37 i0 3 Try.underlying35 hi _ n xs ho
  · obtain ⟨v', w', hr, ho', hg, _, hat⟩ := run_append_own_at (P := Try.prog) (w := w) base 35 35 37 i0 _ 3 32 Try.underlying35 hi hz0 hz1 hz2 rfl (by decide) v n xs ho a m c news hl hc h1 (by unfold maxLen; omega) hnm hb
    obtain ⟨ad', cap', rfl⟩ := own_shape ho'
    exact ⟨ad', cap', w', hr, ho', hg, hat⟩
theorem run_bd {base n m c : Nat} {xs news : List Value} {ad : Option Addr} (ho : w.ownsRow base 39 11 v n xs) (hb : base ≤ w.heap.size) (hs : (ad = none ∧ m = 0 ∧ c = 0 ∧ news = []) ∨ ∃ a, ad = some a ∧ news.length = m * 11 ∧ (∀ j u, news[j]? = some u → w.cell? (a.add j) = some u))
    (h1 : ∀ u ∈ news, u.oneCell' = true) (hnm : (n + m) * 120 ≤ 140737488355328) : ∃ ad' cap' w', (Builtin.append_ #[28, 28] 28 #[v, .slice ad m c]).run Try.prog w = .ok (.slice ad' (n + m) cap') w' ∧ w'.ownsRow base 39 11 (.slice ad' (n + m) cap') (n + m) (xs ++ news) ∧ w.grownBy w' v.ownBlock ∧ ((Value.slice ad' (n + m) cap').ownBlock = v.ownBlock ∨ (Value.slice ad' (n + m) cap').ownBlock = some w.heap.size) := by
  obtain ⟨i0, hi, hz0, hz1, hz2⟩ := info_parts info39
  rcases hs with ⟨rfl, rfl, rfl, rfl⟩ | ⟨a, rfl, hl, hc⟩
  · obtain ⟨ad', cap', rfl⟩ := own_shape ho
    refine ⟨ad', cap', w, ?_, by simpa using ho, ⟨rfl, rfl, rfl, Nat.le_refl _, fun _ _ _ => rfl⟩, .inl rfl⟩
    exact run_append_owned_none (P := Try.prog) (w := w) base 28 28 39 i0 11 Try.underlying28 hi _ n xs ho
  · obtain ⟨v', w', hr, ho', hg, _, hat⟩ := run_append_own_at (P := Try.prog) (w := w) base 28 28 39 i0 _ 11 120 Try.underlying28 hi hz0 hz1 hz2 rfl (by decide) v n xs ho a m c news hl hc h1 (by unfold maxLen; omega) hnm hb
    obtain ⟨ad', cap', rfl⟩ := own_shape ho'
    exact ⟨ad', cap', w', hr, ho', hg, hat⟩
theorem oneV (l : List Vl) : ∀ u ∈ l.flatMap vlL, u.oneCell' = true := by
  intro u hu
  obtain ⟨x, _, hx⟩ := List.mem_flatMap.1 hu
  simp only [List.mem_cons, List.not_mem_nil, or_false] at hx
  rcases hx with rfl | rfl | rfl <;> rfl
theorem copyV {X : World} {l : List Vl} {ad : Option Addr} {cap : Nat} (hl : Lr valsE 3 X l (.slice ad l.length cap)) (hz : l.length ≤ 1000000) : ∃ ad' cap' X', (Builtin.append_ #[35, 35] 35 #[.slice (some ⟨X.heap.size, 0, none⟩) 0 0, .slice ad l.length cap]).run Try.prog (X.alloc (.cells #[] 37)) = .ok (.slice ad' l.length cap') X' ∧ X'.ownsRow X.heap.size 37 3 (.slice ad' l.length cap') l.length (l.flatMap vlL) ∧ Below X.heap.size X X' := by
  have hal := bnew X (.cells #[] 37)
  have hj := heap_alloc_new X (.cells #[] 37)
  have ho : (X.alloc (.cells #[] 37)).ownsRow X.heap.size 37 3 (.slice (some ⟨X.heap.size, 0, none⟩) 0 0) 0 [] := ⟨rfl, .inr ⟨X.heap.size, 0, #[], rfl, Nat.le_refl _, hj, Nat.le_refl _, Nat.zero_le _, rfl, rfl⟩⟩
  have hs := Lr.src vlL_len (L := l) (ad := ad) (cap := cap) (w := X.alloc (.cells #[] 37)) (hl.on valsE_held hal)
  obtain ⟨ad', cap', X', h1, h2, h3, _⟩ := run_vl (m := l.length) (c := cap) (news := l.flatMap vlL) ho hal.size hs (oneV l) (by omega)
  rw [Nat.zero_add] at h1 h2
  exact ⟨ad', cap', X', h1, by simpa using h2, hal.grown h3 hal.size (fun k hk => by cases hk; exact Nat.le_refl _)⟩
end
end Go.Proofs.Ytkfnphhoebknnaa
