/- The statement's copy of a list of numbers; what a crash leaves of files that are all safe. -/
import Derived.Test.YtoipmpaebngppaaDLa
import Derived.Laws.OwnMore
namespace Go.Proofs.Ytoipmpaebngppaa
open Go.RowKit Go.Maps

theorem infoInt : (Try.prog.info? 3).map (fun i => (i.zero, i.size, i.bytes)) = some (some (.int .i64 0), 1, 8) := by kernel_rfl
theorem own_empty3 (w : World) : (w.alloc (.cells #[] 3)).ownsRow w.heap.size 3 1 (.slice (some ⟨w.heap.size, 0, none⟩) 0 0) 0 [] :=
  ⟨rfl, .inr ⟨w.heap.size, 0, #[], rfl, Nat.le_refl _, heap_alloc_new w _, Nat.le_refl _, by decide, rfl, rfl⟩⟩
theorem wpl_run {P : Program} {w w' : World} {ops : Array Oper} {rest : List Oper} {o : Oper} {a : Act} {Q : Exit → Act → World → Prop} {t u ty : TypeId} {v' : Value} {ds : Option Tmp} {ps : String} {af : Array Edge} (s x : Operand)
    (ho : o = ⟨ds, .call { callee := .builtin .append, args := #[s, x], argTypes := #[t, u] }, ty, ps, af, none⟩) (hrun : (Builtin.append_ #[t, u] ty #[a.eval s, a.eval x]).run P w = .ok v' w')
    (h : wpList P ops Q rest (a.put ds v') w') : wpList P ops Q (o :: rest) a w := by
  subst ho
  refine wpList_plain rfl fun K hK => ?_
  unfold Oper.wp execOp
  simp only [resolve, invoke, builtin, Sem.run_bind, Sem.run_pure, Result.andThen_ok, List.map_toArray, List.map_cons, List.map_nil, hrun]
  exact hK _ _ h
/-- append([]int{}, keep...) -/
theorem copy_run {w : World} {kv : Value} {keep : List Int} (hI : Ints w kv keep) (hz : keep.length * 8 ≤ 140737488355328) :
    ∃ v' w', (Builtin.append_ #[39, 39] 39 #[.slice (some ⟨w.heap.size, 0, none⟩) 0 0, kv]).run Try.prog (w.alloc (.cells #[] 3)) = .ok v' w' ∧ Ints w' v' keep ∧ Below w.heap.size w w' := by
  obtain ⟨i0, hi, hz0, hz1, hz2⟩ := info_parts infoInt
  have hal : Below w.heap.size w (w.alloc (.cells #[] 3)) := (Below.refl _ w).alloc (Nat.le_refl _) _
  obtain ⟨ad, cap, rfl, hm, hc⟩ := hI
  cases ad with
  | none =>
    have hk : keep = [] := by
      cases keep with
      | nil => rfl
      | cons k ks =>
        obtain ⟨b, o, e, _⟩ := hc 0 (by simp)
        cases e
    subst hk
    refine ⟨.slice (some ⟨w.heap.size, 0, none⟩) 0 0, _, ?_, ⟨_, 0, rfl, hm, fun i h => by simp at h⟩, hal⟩
    simp [Builtin.append_, run_underlying Try.underlying39, sizeOf, typeInfo, hi, Builtin.lenOf, Builtin.firstCells, storeCells]
  | some a =>
    have hnews : ∀ j u, (keep.map (Value.int .i64))[j]? = some u → (w.alloc (.cells #[] 3)).cell? (a.add j) = some u := by
      intro j u hu
      have hj : j < keep.length := by
        have := (List.getElem?_eq_some_iff.1 hu).1
        simpa using this
      obtain ⟨b, o, e, hlt, c⟩ := hc j hj
      cases e
      have e : (⟨b, o, none⟩ : Addr).add j = ⟨b, o + j, none⟩ := by unfold Addr.add; split <;> simp_all
      rw [e, hal.cell (p := ⟨b, o + j, none⟩) hlt, c]
      simpa [hj] using hu
    obtain ⟨v', w1, hrun, ho, hgr, _⟩ := run_append_own (P := Try.prog) (w := w.alloc (.cells #[] 3)) w.heap.size 39 39 3 i0 (.int .i64 0) 1 8 Try.underlying39 hi hz0 hz1 hz2 rfl (by decide) (.slice (some ⟨w.heap.size, 0, none⟩) 0 0) 0 [] (own_empty3 w) a keep.length cap (keep.map (Value.int .i64)) (by simp) hnews (by
      intro u hu
      obtain ⟨k, _, rfl⟩ := List.mem_map.1 hu
      rfl) (by unfold maxLen; omega) (by omega) hal.size
    simp only [Nat.zero_add, List.nil_append] at ho
    exact ⟨v', w1, hrun, Ints.ofOwn ho rfl hm, hal.grown hgr hal.size (fun k hk => ((own_empty3 w).lt k hk).1)⟩

theorem ext_all (s : ByteArray) : s.extract 0 s.size = s := bytes_ext (by simp)
theorem crash_safe (F : List Fl) : ∀ keep : List Int, (∀ f ∈ F, f.safe = f.data.size) → crashF F keep = F := by
  have one : ∀ (f : Fl) (k : Int), f.safe = f.data.size → (⟨f.name, f.data.extract 0 (keptN f k), keptN f k⟩ : Fl) = f := by
    intro f k h
    have e : keptN f k = f.data.size := by unfold keptN; omega
    rw [e, ext_all, ← h]
  induction F with
  | nil => intro keep _; rfl
  | cons f F ih =>
    intro keep h
    cases keep with
    | nil => rw [crashF, one f 0 (h f (by simp)), ih [] (fun g hg => h g (by simp [hg]))]
    | cons k ks => rw [crashF, one f k (h f (by simp)), ih ks (fun g hg => h g (by simp [hg]))]

abbrev nF : ByteArray := ⟨#[102]⟩
abbrev nG : ByteArray := ⟨#[103]⟩
theorem swap1 (old : ByteArray) : swpF [] nF old = [⟨nF, old, old.size⟩] := rfl
theorem swap2 (old other : ByteArray) : swpF [⟨nF, old, old.size⟩] nG other = [⟨nF, old, old.size⟩, ⟨nG, other, other.size⟩] := rfl
theorem swap3 (old other data : ByteArray) : swpF [⟨nF, old, old.size⟩, ⟨nG, other, other.size⟩] nF data = [⟨nF, data, data.size⟩, ⟨nG, other, other.size⟩] := rfl
theorem swapF (old other : ByteArray) : (oldF [⟨nF, old, old.size⟩, ⟨nG, other, other.size⟩] nF).data = old := rfl
theorem swapG (old other : ByteArray) : (oldF [⟨nF, old, old.size⟩, ⟨nG, other, other.size⟩] nG).data = other := rfl
theorem swap_safe (old other : ByteArray) (keep : List Int) : crashF [⟨nF, old, old.size⟩, ⟨nG, other, other.size⟩] keep = [⟨nF, old, old.size⟩, ⟨nG, other, other.size⟩] :=
  crash_safe _ keep (fun f hf => by
    simp only [List.mem_cons, List.not_mem_nil, or_false] at hf
    rcases hf with rfl | rfl <;> rfl)
end Go.Proofs.Ytoipmpaebngppaa
