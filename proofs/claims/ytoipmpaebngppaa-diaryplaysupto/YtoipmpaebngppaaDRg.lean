/- The walk of the document's Crash. -/
import Derived.Test.YtoipmpaebngppaaDRf
namespace Go.Proofs.Ytoipmpaebngppaa
open Go.RowKit Go.Maps

theorem kept_int2 {l s : Nat} (hs : s ≤ l) (k : Int) : (s : Int) + max 0 (min k ((l : Int) - s)) = (kept l s k : Nat) := by
  unfold kept
  omega
theorem kept_zero {l s : Nat} (hs : s ≤ l) : kept l s 0 = s := by
  unfold kept
  omega
theorem ext_sz (s : ByteArray) (m : Nat) (h : m ≤ s.size) : (s.extract 0 m).size = m := by simp; omega
/-- Between two rounds: the new drive at C. -/
structure Half (w wr : World) (C : Nat) (F : List Fl) (keep : List Int) (k : Nat) (ov : Value) : Prop where
  ob : wr.heap[C]? = some (rfO ov false 0)
  row : wr.ownsRow w.heap.size 78 3 ov k (flat3 ((crashF F keep).take k))
  old : Below w.heap.size w wr
section
variable {w wr w' : World} {B C k : Nat} {T : Nat → Prop} {F : List Fl} {left : Int} {off : Bool} {v ov : Value} {keep : List Int}
/-- One file more is put behind the others. -/
theorem Half.step (h : Half w wr C F keep k ov) (hk : k < F.length) (hfew : F.length ≤ 900000) {W : World} (hW : Fr wr W (fun _ => False)) {g : Nat} {nm dt : ByteArray} {m : Nat} (hg : W.heap[g]? = some (.cells #[.string nm, .string dt, .int .i64 m] 78 (0, 0))) (hx : (crashF F keep)[k]'(by rw [crash_len]; exact hk) = ⟨nm, dt, m⟩) :
    ∃ v' w1, (Builtin.append_ #[28, 28] 28 #[ov, .slice (some ⟨g, 0, none⟩) 1 1]).run Try.prog W = .ok v' w1 ∧ w1.ownsRow w.heap.size 78 3 v' (k + 1) (flat3 ((crashF F keep).take (k + 1))) ∧ W.grownBy w1 ov.ownBlock := by
  have ho : W.ownsRow w.heap.size 78 3 ov k (flat3 ((crashF F keep).take k)) := own_like h.row (fun b hb => hW.block b (h.row.lt b hb).2 (fun q => q))
  have hs := h.old.size
  have hs2 := hW.size
  obtain ⟨v', w1, hrun, ho1, hg1⟩ := files_run ho (by omega) (m := 1) (c := 1) (ad := some ⟨g, 0, none⟩) (news := [.string nm, .string dt, .int .i64 m]) (.inr ⟨_, rfl, rfl, World.news_of_block hg⟩) (by intro u hu; simp at hu; rcases hu with rfl | rfl | rfl <;> rfl) (by omega)
  refine ⟨v', w1, hrun, ?_, hg1⟩
  have e : flat3 ((crashF F keep).take (k + 1)) = flat3 ((crashF F keep).take k) ++ [.string nm, .string dt, .int .i64 m] := by
    rw [List.take_succ_eq_append_getElem (by rw [crash_len]; exact hk), flat3_append, hx]
    rfl
  rw [e]
  exact ho1

theorem Half.next (h : Half w wr C F keep k ov) (hC : w.heap.size ≤ C) (hk : k < F.length) (hfew : F.length ≤ 900000) {X Y : World} (hX : Fr wr X (fun _ => False)) {nm dt : ByteArray} {m : Nat} (hY : Y = X.drew.alloc (.cells #[.string nm, .string dt, .int .i64 m] 78)) (hx : (crashF F keep)[k]'(by rw [crash_len]; exact hk) = ⟨nm, dt, m⟩) :
    ∃ v' w1 ad' ln' cap', v' = .slice ad' ln' cap' ∧ (Builtin.append_ #[28, 28] 28 #[ov, .slice (some ⟨X.heap.size, 0, none⟩) 1 1]).run Try.prog Y = .ok v' w1 ∧ w1.cell? ⟨C, 0, none⟩ = some ov ∧ w1.frozen? ⟨C, 0, none⟩ = false ∧ (∀ b, wr.heap.size ≤ b → b < X.heap.size → w1.heap[b]? = X.heap[b]?) ∧
      ∀ W', Like W' (w1.setCell ⟨C, 0, none⟩ v') → Half w W' C F keep (k + 1) v' := by
  have hYX : Fr wr Y (fun _ => False) := by rw [hY]; exact (hX.drewN 1).alloc _
  have hg : Y.heap[X.heap.size]? = some (.cells #[.string nm, .string dt, .int .i64 m] 78 (0, 0)) := by rw [hY]; exact heap_alloc_new X.drew _
  obtain ⟨v', w1, hrun, ho, hgr⟩ := h.step hk hfew hYX hg hx
  have hCl := blk_lt h.ob
  have hov : ∀ b, ov.ownBlock = some b → b < wr.heap.size ∧ b ≠ C := by
    intro b hb
    refine ⟨(h.row.lt b hb).2, fun e => ?_⟩
    rcases h.row.2 with ⟨rfl, _⟩ | ⟨g', cap', cur, rfl, _, hgg, _⟩
    · cases hb
    · cases hb
      exact tag_ne hgg h.ob (by decide) e
  have hYs : Y.heap.size = X.heap.size + 1 := by rw [hY]; show (X.drew.alloc _).heap.size = X.drew.heap.size + 1; simp
  have hXs := hX.size
  have hbC : w1.heap[C]? = some (rfO ov false 0) := (hgr.block C (by omega) (fun q => (hov C q.symm).2 rfl)).trans ((hYX.block C hCl (fun q => q)).trans h.ob)
  obtain ⟨ad', cap', hv'⟩ : ∃ ad cap, v' = .slice ad (k + 1) cap := by
    rcases ho.2 with ⟨_, e⟩ | ⟨g, cap, cur, e, _⟩
    · omega
    · exact ⟨_, _, e⟩
  have hneC : ∀ b, v'.ownBlock = some b → b ≠ C := by
    intro b hb e
    rcases ho.2 with ⟨rfl, _⟩ | ⟨g', cap', cur, rfl, _, hgg, _⟩
    · cases hb
    · cases hb
      exact tag_ne hgg hbC (by decide) e
  have hold : Below w.heap.size w w1 := by
    have h1 : Below w.heap.size w Y := h.old.trans (hYX.toBelow (fun _ _ q => q) h.old.size)
    exact h1.grown hgr h1.size (fun b hb => (h.row.lt b hb).1)
  refine ⟨v', w1, ad', _, cap', hv', hrun, by rw [cell_blk hbC]; rfl, frozen_blk hbC 0, fun b h1 h2 => ?_, fun W' hW => ?_⟩
  · refine (hgr.block b (by omega) (fun q => ?_)).trans ?_
    · have := (hov b q.symm).1
      omega
    · rw [hY]
      exact Below.heap_alloc X.drew _ b h2
  · refine ⟨by rw [hW.heap, set_blk hbC]; rfl, own_like ho (fun b hb => by rw [hW.heap]; exact set_other _ (hneC b hb)), ⟨hW.os.trans hold.os, hW.tape.trans hold.tape, hW.output.trans hold.output, by rw [hW.heap]; simpa using hold.size, fun b hb => ?_⟩⟩
    rw [hW.heap, set_other _ (show b ≠ C by omega)]
    exact hold.block b hb

set_option maxHeartbeats 2000000 in
set_option maxRecDepth 100000 in
theorem rcrash_any (h : Rv w B T F left off v) {kv : Value} (hI : Ints w kv keep) :
    Calls Try.prog 19 #[.pointer (some ⟨B, 0, none⟩), kv] w fun e w' => e = .returned (.pointer (some ⟨w.heap.size, 0, none⟩)) ∧ (∃ T', Rd w' w.heap.size T' (crashF F keep) 0 false ∧ ∀ j, T' j → w.heap.size ≤ j) ∧ Rv w' B T F left true v ∧ Fr w w' (fun k => k = B) := by
  obtain ⟨kad, kcap, rfl, hkm, hkc⟩ := hI
  unfold maxLen at hkm
  obtain ⟨ad, cap, rfl⟩ := h.shape
  have hB := h.lt B h.covB
  have hfew := h.few
  obtain ⟨L, hL⟩ : ∃ L, F.length = L := ⟨_, rfl⟩
  have HL := Lib.hid hL
  have hstart : Half w (w.alloc (rfO (.slice none 0 0) false 0)) w.heap.size F keep 0 (.slice none 0 0) :=
    ⟨heap_alloc_new w _, World.ownsRow_nil _ _ _ _, (Below.refl _ w).alloc (Nat.le_refl _) _⟩
  have hc0 : ∀ wr, Below w.heap.size w wr → wr.cell? ⟨B, 0, none⟩ = some (.slice ad L cap) := by
    intro wr hb
    have := (h.on hb).c0
    rwa [hL] at this
  rw [hL] at hfew
  clear hL
  go_enter Try.func19, Try.ntmps19
  go_wp2
  go_loopw [6] (fun i wr => ∃ (k : Nat) (ov : Value), i = .int .i64 k ∧ k ≤ L ∧ Half w wr w.heap.size F keep k ov) (fun i _ => L - (intOf i).toNat)
  case atStart => exact ⟨0, _, rfl, Nat.zero_le _, hstart⟩
  case round =>
    obtain ⟨k, ov, rfl, hk, hm⟩ := hrel
    have c0 := hc0 wr hm.old
    by_cases hlt : k < L
    · have hkF : k < F.length := by rw [HL.out]; exact hlt
      have hr := h.on hm.old
      obtain ⟨g, cap', e⟩ := hr.form (by omega)
      simp only [Value.slice.injEq] at e
      obtain ⟨rfl, _, rfl⟩ := e
      obtain ⟨x0, x1, x2⟩ := hr.at' hkF
      have hmem : F[k] ∈ F := List.getElem_mem hkF
      have hsafe := h.safe F[k] hmem
      have hbig := h.big F[k] hmem
      have hx := crash_at F keep k hkF
      obtain ⟨nm, hnm⟩ : ∃ nm, F[k].name = nm := ⟨_, rfl⟩
      obtain ⟨dt, hdt⟩ : ∃ dt, F[k].data = dt := ⟨_, rfl⟩
      obtain ⟨s0, hs0⟩ : ∃ s0, F[k].safe = s0 := ⟨_, rfl⟩
      rw [hnm, hdt, hs0] at hx
      rw [hnm] at x0
      rw [hdt] at x1
      rw [hs0] at x2
      rw [hdt, hs0] at hsafe
      rw [hdt] at hbig
      obtain ⟨m, hmm⟩ : ∃ m, kept dt.size s0 (keep.getD k 0) = m := ⟨_, rfl⟩
      rw [hmm] at hx
      have hml : m ≤ dt.size := by rw [← hmm]; exact kept_le hsafe _
      obtain ⟨d', hd'⟩ : ∃ d', dt.extract 0 m = d' := ⟨_, rfl⟩
      have hz' : d'.size = m := by rw [← hd']; exact ext_sz _ _ hml
      rw [hd'] at hx
      have HX := Lib.hid hx
      have k0 : (0 : Int) ≤ k := by omega
      have k1 : (k : Int) < L := by omega
      have k2 : (L : Int) ≤ 900000 := by omega
      have m0 : (0 : Int) ≤ m := by omega
      have m1 : (m : Int) ≤ dt.size := by omega
      have m2 : (dt.size : Int) ≤ 140737488355328 := by omega
      have m3 : (s0 : Int) ≤ dt.size := by omega
      clear hnm hdt hs0 hmem hr hx
      by_cases hkk : k < keep.length
      · obtain ⟨b, o, rfl, hbl, hc⟩ := hkc k hkk
        have hck : wr.cell? ⟨b, o + k, none⟩ = some (.int .i64 keep[k]) := by rw [hm.old.cell (p := ⟨b, o + k, none⟩) hbl]; exact hc
        rw [show keep.getD k 0 = keep[k] by simp [List.getD, hkk]] at hmm
        obtain ⟨x, hx⟩ : ∃ x, keep[k] = x := ⟨_, rfl⟩
        rw [hx] at hmm hck
        have hmi : (s0 : Int) + max 0 (min x ((dt.size : Int) - s0)) = (m : Nat) := by rw [← hmm]; exact kept_int2 hsafe x
        have k3 : (k : Int) < keep.length := by omega
        have k4 : (keep.length : Int) ≤ 9223372036854775807 := by omega
        obtain ⟨W, hW⟩ : ∃ W, W = wr.alloc (.cells #[.string nm, .string dt, .int .i64 s0] 78) := ⟨_, rfl⟩
        have hWb : W.heap[wr.heap.size]? = some (.cells #[.string nm, .string dt, .int .i64 s0] 78 (0, 0)) := by rw [hW]; exact heap_alloc_new wr _
        have hWw : Below wr.heap.size wr W := by rw [hW]; exact (Below.refl _ wr).alloc (Nat.le_refl _) _
        have y1 : W.cell? ⟨wr.heap.size, 1, none⟩ = some (.string dt) := by rw [cell_blk hWb]; rfl
        have y2 : W.cell? ⟨wr.heap.size, 2, none⟩ = some (.int .i64 s0) := by rw [cell_blk hWb]; rfl
        have z1 : W.frozen? ⟨wr.heap.size, 1, none⟩ = false := frozen_blk hWb 1
        have z2 : W.frozen? ⟨wr.heap.size, 2, none⟩ = false := frozen_blk hWb 2
        have hck' : W.cell? ⟨b, o + k, none⟩ = some (.int .i64 x) := by rw [hWw.cell (p := ⟨b, o + k, none⟩) (Nat.lt_of_lt_of_le hbl hm.old.size)]; exact hck
        have HW := Lib.hid hW
        clear hx hc hkc hmm hck hW
        go_wp2
        rw [← HW.out]
        go_quiet (fail)
        go_wp2
        obtain ⟨X, hX⟩ : ∃ X, X = ((W.drewN nq).setCell ⟨wr.heap.size, 1, none⟩ (.string d')).setCell ⟨wr.heap.size, 2, none⟩ (.int .i64 m) := ⟨_, rfl⟩
        have hWd : (W.drewN nq).heap[wr.heap.size]? = some (.cells #[.string nm, .string dt, .int .i64 s0] 78 (0, 0)) := hWb
        have hXb : X.heap[wr.heap.size]? = some (.cells #[.string nm, .string d', .int .i64 m] 78 (0, 0)) := by
          rw [hX, set_blk (set_blk hWd _)]
          rfl
        have hXf : Fr wr X (fun _ => False) := by
          rw [hX]
          have a1 : Fr wr (W.drewN nq) (fun _ => False) := (Fr.ofBelow _ hWw).drewN nq
          exact (a1.set (a := ⟨wr.heap.size, 1, none⟩) (.inr (Nat.le_refl _)) _).set (a := ⟨wr.heap.size, 2, none⟩) (.inr (Nat.le_refl _)) _
        rw [← hX]
        clear hX hWd
        have hCl := blk_lt hm.ob
        obtain ⟨v', w1, ad', ln', cap', rfl, hrun, d0, d1, hkeep, hnext⟩ := hm.next (Nat.le_refl _) hkF (by rw [HL.out]; omega) hXf (Y := X.drew.alloc (.cells #[.string nm, .string d', .int .i64 m] 78)) rfl HX.out
        have hXl : wr.heap.size < X.heap.size := blk_lt hXb
        have hwb := (hkeep wr.heap.size (Nat.le_refl _) hXl).trans hXb
        have b0 : X.cell? ⟨wr.heap.size, 0, none⟩ = some (.string nm) := by rw [cell_blk hXb]; rfl
        have b1 : X.cell? ⟨wr.heap.size, 1, none⟩ = some (.string d') := by rw [cell_blk hXb]; rfl
        have b2 : X.cell? ⟨wr.heap.size, 2, none⟩ = some (.int .i64 m) := by rw [cell_blk hXb]; rfl
        have e0 : w1.cell? ⟨wr.heap.size, 0, none⟩ = some (.string nm) := by rw [cell_blk hwb]; rfl
        have e1 : w1.cell? ⟨wr.heap.size, 1, none⟩ = some (.string d') := by rw [cell_blk hwb]; rfl
        have e2 : w1.cell? ⟨wr.heap.size, 2, none⟩ = some (.int .i64 m) := by rw [cell_blk hwb]; rfl
        have hXC := (hXf.block w.heap.size hCl (fun q => q)).trans hm.ob
        have b3 : X.cell? ⟨w.heap.size, 0, none⟩ = some ov := by rw [cell_blk hXC]; rfl
        have n1 : wr.heap.size ≠ X.heap.size := by omega
        have n2 : w.heap.size ≠ X.heap.size := by omega
        have n3 : w.heap.size ≠ wr.heap.size := by omega
        clear y1 y2 z1 z2 hck' hmi x0 x1 x2 hc0
        have b4 : (X.alloc (.cells #[.string nm, .string d', .int .i64 m] 78)).cell? ⟨w.heap.size, 0, none⟩ = some ov := by rw [cell_blk ((Below.heap_alloc X _ _ (blk_lt hXC)).trans hXC)]; rfl
        go_region_law (refine step_run (.tmp 59) (.tmp 61) rfl rfl hrun ?_)
        all_goals
          go_wp2
          exact ⟨⟨k + 1, _, by go_num, by omega, hnext _ (Like.refl _)⟩, by simp [intOf]; omega⟩
      · rw [show keep.getD k 0 = 0 by simp [List.getD, Nat.le_of_not_lt hkk], kept_zero hsafe] at hmm
        subst hmm
        have k3 : (keep.length : Int) ≤ k := by omega
        clear hkc
        go_wp2
        obtain ⟨X, hX⟩ : ∃ X, X = wr.alloc (.cells #[.string nm, .string d', .int .i64 s0] 78) := ⟨_, rfl⟩
        have hXb : X.heap[wr.heap.size]? = some (.cells #[.string nm, .string d', .int .i64 s0] 78 (0, 0)) := by rw [hX]; exact heap_alloc_new wr _
        have hXf : Fr wr X (fun _ => False) := by rw [hX]; exact (Fr.refl wr _).alloc _
        rw [← hX]
        clear hX
        have hCl := blk_lt hm.ob
        obtain ⟨v', w1, ad', ln', cap', rfl, hrun, d0, d1, hkeep, hnext⟩ := hm.next (Nat.le_refl _) hkF (by rw [HL.out]; omega) hXf (Y := X.drew.alloc (.cells #[.string nm, .string d', .int .i64 s0] 78)) rfl HX.out
        have hXl : wr.heap.size < X.heap.size := blk_lt hXb
        have hwb := (hkeep wr.heap.size (Nat.le_refl _) hXl).trans hXb
        have b0 : X.cell? ⟨wr.heap.size, 0, none⟩ = some (.string nm) := by rw [cell_blk hXb]; rfl
        have b1 : X.cell? ⟨wr.heap.size, 1, none⟩ = some (.string d') := by rw [cell_blk hXb]; rfl
        have b2 : X.cell? ⟨wr.heap.size, 2, none⟩ = some (.int .i64 s0) := by rw [cell_blk hXb]; rfl
        have e0 : w1.cell? ⟨wr.heap.size, 0, none⟩ = some (.string nm) := by rw [cell_blk hwb]; rfl
        have e1 : w1.cell? ⟨wr.heap.size, 1, none⟩ = some (.string d') := by rw [cell_blk hwb]; rfl
        have e2 : w1.cell? ⟨wr.heap.size, 2, none⟩ = some (.int .i64 s0) := by rw [cell_blk hwb]; rfl
        have hXC := (hXf.block w.heap.size hCl (fun q => q)).trans hm.ob
        have b3 : X.cell? ⟨w.heap.size, 0, none⟩ = some ov := by rw [cell_blk hXC]; rfl
        have n1 : wr.heap.size ≠ X.heap.size := by omega
        have n2 : w.heap.size ≠ X.heap.size := by omega
        have n3 : w.heap.size ≠ wr.heap.size := by omega
        clear x0 x1 x2 hc0
        have b4 : (X.alloc (.cells #[.string nm, .string d', .int .i64 s0] 78)).cell? ⟨w.heap.size, 0, none⟩ = some ov := by rw [cell_blk ((Below.heap_alloc X _ _ (blk_lt hXC)).trans hXC)]; rfl
        go_region_law (refine step_run (.tmp 59) (.tmp 61) rfl rfl hrun ?_)
        all_goals
          go_wp2
          exact ⟨⟨k + 1, _, by go_num, by omega, hnext _ (Like.refl _)⟩, by simp [intOf]; omega⟩
    · have e : k = L := by omega
      subst e
      have hr := h.on hm.old
      have c1 := hr.c1
      have f1 := frozen_blk hr.ob 1
      have k1 : ¬ ((k : Int) < k) := by omega
      go_wp2
      go_ret
      have hfr : Fr wr (wr.setCell ⟨B, 1, none⟩ (.bool true)) (fun j => j = B) := Fr.set (S := fun j => j = B) (Fr.refl wr _) (.inl rfl) _
      have hCl := blk_lt hm.ob
      have hrow := hm.row
      rw [List.take_of_length_le (by rw [crash_len, HL.out]; exact Nat.le_refl _)] at hrow
      have hrow2 : wr.ownsRow w.heap.size 78 3 ov (crashF F keep).length (flat3 (crashF F keep)) := by rw [crash_len, HL.out]; exact hrow
      have hmem : ∀ f ∈ crashF F keep, ∃ (i : Nat) (hi : i < F.length), f = ⟨F[i].name, F[i].data.extract 0 (kept F[i].data.size F[i].safe (keep.getD i 0)), kept F[i].data.size F[i].safe (keep.getD i 0)⟩ := by
        intro f hf
        obtain ⟨i, hi, e⟩ := List.getElem_of_mem hf
        have hi' : i < F.length := by rwa [crash_len] at hi
        exact ⟨i, hi', by rw [← e, crash_at F keep i hi']⟩
      refine ⟨rfl, ⟨fun j => j = w.heap.size ∨ ov.ownBlock = some j, ⟨ov, ⟨?_, ?_, crash_rise h.rise keep, ?_, ?_, ?_, .inl rfl, fun j hj => .inr hj, ?_, by rw [crash_len, HL.out]; omega, by omega⟩⟩, ?_⟩, hr.turn hfr (by rw [set_blk hr.ob]; rfl) h.int, (Fr.ofBelow _ hm.old).step hfr (fun j q => .inl q)⟩
      · rw [set_other _ (show w.heap.size ≠ B by omega)]
        exact hm.ob
      · refine ownsRow_base_a (own_like hrow2 (fun j hj => set_other _ ?_)) (Nat.zero_le _)
        have := (hrow2.lt j hj).1
        show j ≠ B
        omega
      · intro f hf
        obtain ⟨i, hi, rfl⟩ := hmem f hf
        have := kept_le (h.safe F[i] (List.getElem_mem hi)) (keep.getD i 0)
        show kept _ _ _ ≤ (F[i].data.extract 0 _).size
        rw [ext_sz _ _ this]
        exact Nat.le_refl _
      · intro f hf
        obtain ⟨i, hi, rfl⟩ := hmem f hf
        have h1 := kept_le (h.safe F[i] (List.getElem_mem hi)) (keep.getD i 0)
        have h2 := h.big F[i] (List.getElem_mem hi)
        show (F[i].data.extract 0 _).size ≤ _
        rw [ext_sz _ _ h1]
        omega
      · intro f hf
        obtain ⟨i, hi, rfl⟩ := hmem f hf
        exact h.nm F[i] (List.getElem_mem hi)
      · intro j hj
        rcases hj with rfl | hj
        · simpa using hCl
        · have := (hrow2.lt j hj).2
          simpa using this
      · intro j hj
        rcases hj with rfl | hj
        · exact Nat.le_refl _
        · exact (hrow2.lt j hj).1
end
end Go.Proofs.Ytoipmpaebngppaa
