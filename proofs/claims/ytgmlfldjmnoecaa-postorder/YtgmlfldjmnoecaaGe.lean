/- A list of letters in memory; the walk of the document's Without. -/
import Derived.Test.YtgmlfldjmnoecaaGd
namespace Go.Proofs.Ytgmlfldjmnoecaa
open Go.RowKit

/-- The letters lie in the world, where the slice leads to. -/
structure Lk (L : List Lt) (ad : Option Addr) (w : World) : Prop where
  at' : ∀ i (h : i < L.length), ∃ b o, ad = some ⟨b, o, none⟩ ∧ b < w.heap.size ∧ w.cell? ⟨b, o + i * 3, none⟩ = some (.int .i64 L[i].fr) ∧ w.cell? ⟨b, o + i * 3 + 1, none⟩ = some (.int .i64 L[i].to) ∧ w.cell? ⟨b, o + i * 3 + 2, none⟩ = some (.string L[i].text)
theorem Lk.on {L : List Lt} {ad : Option Addr} {w w' : World} (h : Lk L ad w) (hb : Below w.heap.size w w') : Lk L ad w' := by
  refine ⟨fun i hi => ?_⟩
  obtain ⟨b, o, ha, hl, c0, c1, c2⟩ := h.at' i hi
  have hc : ∀ o, w'.cell? ⟨b, o, none⟩ = w.cell? ⟨b, o, none⟩ := fun o => World.cell?_of_block (hb.block b hl)
  exact ⟨b, o, ha, Nat.lt_of_lt_of_le hl hb.size, by rw [hc]; exact c0, by rw [hc]; exact c1, by rw [hc]; exact c2⟩
theorem Lk.own {L : List Lt} {v : Value} {B : Nat} {w : World} (h : w.ownsRow B 28 3 v L.length (ltC L)) : ∃ ad cap, v = .slice ad L.length cap ∧ Lk L ad w := by
  have h' := h
  rcases h.2 with ⟨hv, h0⟩ | ⟨g, cap, cur, hv, hg, hc, hr⟩
  · exact ⟨none, 0, by rw [hv, h0], ⟨fun i hi => absurd hi (by omega)⟩⟩
  · subst hv
    refine ⟨_, cap, rfl, ⟨fun i hi => ⟨g, 0, rfl, blk_lt hc, ?_⟩⟩⟩
    obtain ⟨a, b, c⟩ := ltC_get L i hi
    rw [Nat.zero_add]
    exact ⟨(h'.cellAt _ (by omega)).trans a, (h'.cellAt _ (by omega)).trans b, (h'.cellAt _ (by omega)).trans c⟩
theorem wpl_run {P : Program} {w w' : World} {ops : Array Oper} {rest : List Oper} {o : Oper} {a : Act} {Q : Exit → Act → World → Prop} {t u ty : TypeId} {v' : Value} {ds : Option Tmp} {ps : String} {af : Array Edge} (s x : Operand)
    (ho : o = ⟨ds, .call { callee := .builtin .append, args := #[s, x], argTypes := #[t, u] }, ty, ps, af, none⟩) (hrun : (Builtin.append_ #[t, u] ty #[a.eval s, a.eval x]).run P w = .ok v' w')
    (h : wpList P ops Q rest (a.put ds v') w') : wpList P ops Q (o :: rest) a w := by
  subst ho
  refine wpList_plain rfl fun K hK => ?_
  unfold Oper.wp execOp
  simp only [resolve, invoke, builtin, Sem.run_bind, Sem.run_pure, Result.andThen_ok, List.map_toArray, List.map_cons, List.map_nil, hrun]
  exact hK _ _ h
/-- append(list, l) -/
theorem append_one {w : World} {B : Nat} {v : Value} {M : List Lt} (ho : w.ownsRow B 28 3 v M.length (ltC M)) (hb : B ≤ w.heap.size) (l : Lt) (hz : (M.length + 1) * 32 ≤ 140737488355328) :
    ∃ v' w', (Builtin.append_ #[26, 26] 26 #[v, .slice (some ⟨w.heap.size, 0, none⟩) 1 1]).run Try.prog (w.alloc (.cells #[.int .i64 l.fr, .int .i64 l.to, .string l.text] 28)) = .ok v' w' ∧ w'.ownsRow B 28 3 v' (M ++ [l]).length (ltC (M ++ [l])) ∧ (w.alloc (ltO l)).grownBy w' v.ownBlock ∧ (v'.ownBlock = v.ownBlock ∨ v'.ownBlock = some (w.heap.size + 1)) := by
  have hal : Below w.heap.size w (w.alloc (ltO l)) := (Below.refl _ w).alloc (Nat.le_refl _) _
  obtain ⟨v', w3, hrun, ho3, hg3, hat3⟩ := letters_run (ad := some ⟨w.heap.size, 0, none⟩) (m := 1) (c := 1) (news := ltC [l]) (own_below ho hal) (Nat.le_trans hb hal.size) (.inr ⟨_, rfl, by rw [ltC_len]; rfl, one_letter w l⟩) (ltC_one _) hz
  refine ⟨v', w3, hrun, ?_, hg3, ?_⟩
  · rw [List.length_append, ltC_append]
    exact ho3
  · simpa using hat3

set_option maxHeartbeats 2000000 in
set_option maxRecDepth 100000 in
theorem without_any {L : List Lt} {ad : Option Addr} {cap : Nat} {w : World} (hL : Lk L ad w) (hf : L.length ≤ 900000) (i : Int) :
    Calls Try.prog 13 #[.slice ad L.length cap, .int .i64 i] w fun e w' => ∃ v', e = .returned v' ∧ w'.ownsRow w.heap.size 28 3 v' (remL L i).length (ltC (remL L i)) ∧ Below w.heap.size w w' := by
  go_enter Try.func13, Try.ntmps13
  go_wp2
  go_loopw [5, 6] (fun vo iv wr => ∃ k : Nat, k ≤ L.length ∧ iv = .int .i64 k ∧ wr.ownsRow w.heap.size 28 3 vo (remL (L.take k) i).length (ltC (remL (L.take k) i)) ∧ Below w.heap.size w wr) (fun _ iv _ => L.length - (intOf iv).toNat)
  case atStart =>
    refine ⟨0, Nat.zero_le _, rfl, ?_, Below.refl _ _⟩
    have e : remL (L.take 0) i = [] := List.eq_nil_of_length_eq_zero (by have := remL_le (L.take 0) i; simp at this; simpa using this)
    rw [e]
    exact World.ownsRow_nil _ _ _ _
  case round =>
    obtain ⟨k, hk, rfl, ho, hb⟩ := hrel
    by_cases hkl : k < L.length
    · have hki : (k : Int) < L.length := by omega
      have k0 : (0 : Int) ≤ k := by omega
      obtain ⟨b, o, rfl, hbl, c0, c1, c2⟩ := (hL.on hb).at' k hkl
      have hst := remL_step L i k hkl
      have hle := remL_le (L.take k) i
      have hle2 : (L.take k).length ≤ k := by simp; omega
      obtain ⟨y, hy⟩ : ∃ y, L[k] = y := ⟨_, rfl⟩
      rw [hy] at c0 c1 c2 hst
      obtain ⟨M, hM⟩ : ∃ M, remL (L.take k) i = M := ⟨_, rfl⟩
      rw [hM] at hst ho hle
      clear hM hy
      by_cases hki2 : (k : Int) = i
      · rw [if_pos hki2] at hst
        have HS := Lib.hid hst
        clear hst hle hle2
        go_wp2
        refine ⟨⟨k + 1, hkl, by go_num, by rw [HS.out]; exact ho, hb⟩, by simp [intOf]; omega⟩
      · rw [if_neg hki2] at hst
        obtain ⟨v', w3, hrun, ho3, hg3, hat3⟩ := append_one ho hb.size y (by omega)
        rw [← hst] at ho3
        have hal := hb.alloc hb.size (ltO y)
        have hb3 := hal.grown hg3 hal.size (fun j hj => (ho.lt j hj).1)
        have HO := Lib.hid ho3
        clear hst hle hle2 ho ho3 hg3 hat3
        go_wp2_with (at_builtin; refine wpl_run _ _ rfl hrun ?_)
        refine ⟨⟨k + 1, hkl, by go_num, HO.out, hb3⟩, by simp [intOf]; omega⟩
    · have e : k = L.length := by omega
      have hki : ¬ (k : Int) < L.length := by omega
      subst e
      rw [List.take_of_length_le (Nat.le_refl _)] at ho
      go_wp2
      go_ret
      exact ⟨_, rfl, ho, hb⟩
end Go.Proofs.Ytgmlfldjmnoecaa
