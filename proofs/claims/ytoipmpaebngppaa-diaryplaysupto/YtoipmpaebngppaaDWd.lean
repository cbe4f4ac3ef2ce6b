/- The walk of the drive's set. -/
import Derived.Test.YtoipmpaebngppaaDWc
namespace Go.Proofs.Ytoipmpaebngppaa
open Go.RowKit Go.Maps

theorem map_some (b : Nat) (w : World) : (binOp .eql 58 (.map (some b)) (.map none)).run Try.prog w = .ok (.bool false) w := by kernel_rfl
theorem map_none (w : World) : (binOp .eql 58 (.map none) (.map none)).run Try.prog w = .ok (.bool true) w := by kernel_rfl

/-- What may be set: the file x, its row v. -/
structure May (w : World) (S : Nat → Prop) (F : List Fl) (loc : ByteArray → Value) (x : Fl) (v : Value) : Prop where
  nm : x.name.size ≤ maxLen
  row : Row w v x.data.data.toList
  safe : x.safe ≤ x.data.size
  big : x.data.size ≤ 140737488355328
  sep : ∀ f ∈ F, f.name ≠ x.name → ∀ k, v.ownBlock = some k → (loc f.name).ownBlock ≠ some k
  cov : ∀ k, v.ownBlock = some k → S k

section
variable {w w' : World} {A N b : Nat} {S : Nat → Prop} {F : List Fl} {left : Int} {down : Bool} {mv : Value} {loc : ByteArray → Value} {x : Fl} {v : Value}
theorem Dv.put (h : Dv w A S N F left down (.map (some b)) loc) (hx : May w S F loc x v) (hfr : Fr w w' (fun k => k = b)) (hm : Mp w' (.map (some b)) (N + 1) (putF F x) (upd loc x.name v)) (hN : N < 900000) :
    Dv w' A S (N + 1) (putF F x) left down (.map (some b)) (upd loc x.name v) := by
  obtain ⟨es, clock, hb⟩ := h.mp.block rfl
  have hA : A ≠ b := h.neM rfl
  refine ⟨(hfr.block A (h.lt A h.covA) hA).trans h.ob, hm, putF_rise h.rise x, ?_, ?_, ?_, ?_, ?_, h.covA, h.covM, ?_, fun k hk => Nat.lt_of_lt_of_le (h.lt k hk) hfr.size, by omega, h.int⟩
  · intro f hf
    by_cases e : x.name = f.name
    · have : f = x := by
        have h1 := fileF_mem (putF_rise h.rise x) hf
        rw [fileF_put h.rise, if_pos ((cmpN_zero _ _).2 e)] at h1
        cases h1
        rfl
      subst this
      rw [upd_same]
      exact hx.row.keep (fun k hk => hfr.block k (h.lt k (hx.cov k hk)) (by
        obtain ⟨cur, fz, hkb⟩ := hx.row.blk hk
        exact map_ne hkb hb))
    · rw [upd_other _ _ e]
      rcases putF_mem hf with q | q
      · exact absurd (by rw [q]) e
      · exact (h.row f q).keep (fun k hk => hfr.block k (h.lt k (h.covR f q k hk)) (h.neMR rfl q hk))
  · intro f hf
    rcases putF_mem hf with rfl | q
    · exact hx.safe
    · exact h.safe f q
  · intro f hf
    rcases putF_mem hf with rfl | q
    · exact hx.big
    · exact h.big f q
  · intro f hf
    rcases putF_mem hf with rfl | q
    · exact hx.nm
    · exact h.nm f q
  · intro f hf g hg hne k hk
    by_cases e : x.name = f.name
    · have e2 : x.name ≠ g.name := fun q => hne (e.symm.trans q)
      rw [← e, upd_same] at hk
      rw [upd_other _ _ e2]
      rcases putF_mem hg with q | q
      · exact absurd (by rw [q]) e2
      · exact hx.sep g q (Ne.symm e2) k hk
    · rw [upd_other _ _ e] at hk
      have qf : f ∈ F := by
        rcases putF_mem hf with q | q
        · exact absurd (by rw [q]) e
        · exact q
      by_cases e2 : x.name = g.name
      · rw [← e2, upd_same]
        intro q
        exact hx.sep f qf (Ne.symm e) k q hk
      · rw [upd_other _ _ e2]
        rcases putF_mem hg with q | q
        · exact absurd (by rw [q]) e2
        · exact h.sep f qf g q hne k hk
  · intro f hf k hk
    by_cases e : x.name = f.name
    · rw [← e, upd_same] at hk
      exact hx.cov k hk
    · rw [upd_other _ _ e] at hk
      rcases putF_mem hf with q | q
      · exact absurd (by rw [q]) e
      · exact h.covR f q k hk
theorem May.stays {T : Nat → Prop} (hx : May w S F loc x v) (hl : ∀ k, S k → k < w.heap.size) (k : Fr w w' T) (hd : ∀ b, S b → ¬ T b) : May w' S F loc x v :=
  ⟨hx.nm, hx.row.keep (fun b hb => k.block b (hl b (hx.cov b hb)) (hd b (hx.cov b hb))), hx.safe, hx.big, hx.sep, hx.cov⟩
theorem May.wider (hx : May w S F loc x v) {T : Nat → Prop} (hT : ∀ k, S k → T k) : May w T F loc x v := ⟨hx.nm, hx.row, hx.safe, hx.big, hx.sep, fun k hk => hT k (hx.cov k hk)⟩

set_option maxHeartbeats 2000000 in
set_option maxRecDepth 100000 in
theorem set_some (h : Dv w A S N F left down (.map (some b)) loc) (hx : May w S F loc x v) (hN : N < 900000) :
    Calls Try.prog 36 #[.pointer (some ⟨A, 0, none⟩), .string x.name, fileV v x.safe] w fun e w' => e = .returned (.tuple #[]) ∧ Dv w' A S (N + 1) (putF F x) left down (.map (some b)) (upd loc x.name v) ∧ Fr w w' S := by
  obtain ⟨W, hW⟩ : ∃ W, W = w.alloc (.cells #[v, .int .i64 x.safe] 75) := ⟨_, rfl⟩
  have hal : Fr w W (fun _ => False) := by rw [hW]; exact (Fr.refl w _).alloc _
  have hd := h.stays hal (fun _ _ q => q)
  have hxx := hx.stays h.lt hal (fun _ _ q => q)
  obtain ⟨w1, hrun, hm, ht⟩ := (hd.mp.stays (w' := W.drew) (fun _ _ => rfl)).put h.rise (by unfold maxLen; omega) x hx.nm v
  have hg : W.grownBy w1 (some b) := undrew ht.grown
  have hfr : Fr W w1 (fun k => k = b) := (Fr.refl W _).grown hg (fun k hk => .inl (by cases hk; rfl))
  have hres := hd.put hxx hfr hm hN
  have C0 := hd.c0
  have c0 := hd.c0
  rw [hW] at c0
  have c3 : W.cell? ⟨w.heap.size, 0, none⟩ = some v := by rw [hW, cell_blk (heap_alloc_new w _)]; rfl
  have c4 : W.cell? ⟨w.heap.size, 1, none⟩ = some (.int .i64 x.safe) := by rw [hW, cell_blk (heap_alloc_new w _)]; rfl
  obtain ⟨ad, cap, ev⟩ := hx.row.shape
  have hm0 := map_some b
  have HW := Lib.hid hW
  have HE := Lib.hid ev
  clear hW ev
  go_enter Try.func36, Try.ntmps36
  go_wp2
  rw [← HW.out]
  go_region
  go_end0
  exact ⟨rfl, hres, (hal.mono (fun _ q => q.elim)).step hfr (fun k hk => .inl (by rw [hk]; exact h.covM b rfl))⟩

set_option maxHeartbeats 2000000 in
set_option maxRecDepth 100000 in
theorem set_none (h : Dv w A S N F left down (.map none) loc) (hx : May w S F loc x v) (hN : N < 900000) :
    Calls Try.prog 36 #[.pointer (some ⟨A, 0, none⟩), .string x.name, fileV v x.safe] w fun e w' => e = .returned (.tuple #[]) ∧ Dv w' A (Gro S w w') (N + 1) (putF F x) left down (.map (some (w.heap.size + 1))) (upd loc x.name v) ∧ Fr w w' S := by
  have hA := h.lt A h.covA
  have hF : F = [] := by
    rcases h.mp with ⟨_, e⟩ | ⟨b, D, e, _⟩
    · exact e
    · cases e
  obtain ⟨V, hV⟩ : ∃ V, V = (w.setCell ⟨A, 0, none⟩ (.map (some (w.heap.size + 1)))).alloc (.cells #[v, .int .i64 x.safe] 75) := ⟨_, rfl⟩
  obtain ⟨W, hW⟩ : ∃ W, W = V.alloc (.map #[] 0) := ⟨_, rfl⟩
  have hVs : V.heap.size = w.heap.size + 1 := by rw [hV]; simp
  have hVb : V.heap[A]? = some (drO (.map (some (w.heap.size + 1))) left down) := by
    rw [hV, Below.heap_alloc _ _ A (by simpa using hA), set_blk h.ob]
    rfl
  have hfr0 : Fr w W (fun k => k = A) := by
    rw [hW, hV]
    exact Fr.alloc (Fr.alloc (Fr.set (S := fun k => k = A) (Fr.refl w _) (.inl rfl) _) _) _
  have hWs : W.heap.size = w.heap.size + 2 := by rw [hW]; simp [hVs]
  have hb1 : W.heap[A]? = some (drO (.map (some (w.heap.size + 1))) left down) := by
    rw [hW, Below.heap_alloc _ _ A (by omega)]
    exact hVb
  have hmap : W.ownsMap Try.prog 9 rd (w.heap.size + 1) N (.map []) := by
    have a := World.ownsMap_made V Try.prog 9 rd
    rw [hVs] at a
    rw [hW]
    exact a.mono (Nat.zero_le N)
  have hd : Dv W A (fun k => S k ∨ k = w.heap.size + 1) N F left down (.map (some (w.heap.size + 1))) loc := by
    refine ⟨hb1, .inr ⟨_, _, rfl, hmap, fun n _ => .inr ⟨by rw [hF]; rfl, rfl⟩⟩, h.rise, ?_, h.safe, h.big, h.nm, h.sep, .inl h.covA, fun b hb => .inr (by cases hb; rfl), fun f hf k hk => .inl (h.covR f hf k hk), ?_, h.few, h.int⟩
    · intro f hf
      rw [hF] at hf
      cases hf
    · intro k hk
      rcases hk with hk | hk
      · have := h.lt k hk
        omega
      · omega
  have hxx : May W (fun k => S k ∨ k = w.heap.size + 1) F loc x v := by
    refine ⟨hx.nm, hx.row.keep (fun k hk => ?_), hx.safe, hx.big, hx.sep, fun k hk => .inl (hx.cov k hk)⟩
    obtain ⟨cur, fz, hkb⟩ := hx.row.blk hk
    exact hfr0.block k (blk_lt hkb) (fun q => tag_ne hkb h.ob (by decide) q)
  obtain ⟨w1, hrun, hm, ht⟩ := (hd.mp.stays (w' := W.drew) (fun _ _ => rfl)).put h.rise (by unfold maxLen; omega) x hx.nm v
  have hg : W.grownBy w1 (some (w.heap.size + 1)) := undrew ht.grown
  have hfr : Fr W w1 (fun k => k = w.heap.size + 1) := (Fr.refl W _).grown hg (fun k hk => .inl (by cases hk; rfl))
  have hres := hd.put hxx hfr hm hN
  have C0 := hd.c0
  have hUb : (w.alloc (.cells #[v, .int .i64 x.safe] 75)).heap[A]? = some (drO (.map none) left down) := by rw [Below.heap_alloc w _ A hA]; exact h.ob
  have c0 : (w.alloc (.cells #[v, .int .i64 x.safe] 75)).cell? ⟨A, 0, none⟩ = some (.map none) := by rw [cell_blk hUb]; rfl
  have f0 : (w.alloc (.cells #[v, .int .i64 x.safe] 75)).frozen? ⟨A, 0, none⟩ = false := frozen_blk hUb 0
  have hWn : W.heap[w.heap.size]? = some (.cells #[v, .int .i64 x.safe] 75 (0, 0)) := by
    rw [hW, Below.heap_alloc _ _ _ (by omega), hV]
    have := heap_alloc_new (w.setCell ⟨A, 0, none⟩ (.map (some (w.heap.size + 1)))) (.cells #[v, .int .i64 x.safe] 75)
    rwa [show (w.setCell ⟨A, 0, none⟩ (.map (some (w.heap.size + 1)))).heap.size = w.heap.size by simp] at this
  have c3 : W.cell? ⟨w.heap.size, 0, none⟩ = some v := by rw [cell_blk hWn]; rfl
  have c4 : W.cell? ⟨w.heap.size, 1, none⟩ = some (.int .i64 x.safe) := by rw [cell_blk hWn]; rfl
  have hm0 := map_none
  have hmm := @run_makeMap Try.prog
  rw [hV] at hW
  have HW := Lib.hid hW
  clear hW hV hVb hVs hF hUb
  go_enter Try.func36, Try.ntmps36
  go_wp2
  rw [← HW.out]
  go_region
  go_end0
  have hs1 := hfr.size
  refine ⟨rfl, hres.wider (fun k hk => ?_) (fun k hk => ?_), (hfr0.mono (fun k q => by rw [q]; exact h.covA)).step hfr (fun k hk => .inr (by omega))⟩
  · rcases hk with hk | hk
    · exact .inl hk
    · exact .inr (by omega)
  · rcases hk with hk | hk
    · have := h.lt k hk
      omega
    · exact hk.2
theorem set_any (h : Dv w A S N F left down mv loc) (hx : May w S F loc x v) (hN : N < 900000) :
    Calls Try.prog 36 #[.pointer (some ⟨A, 0, none⟩), .string x.name, fileV v x.safe] w fun e w' => e = .returned (.tuple #[]) ∧ ∃ mv', Dv w' A (Gro S w w') (N + 1) (putF F x) left down mv' (upd loc x.name v) ∧ Fr w w' S := by
  obtain ⟨o, rfl⟩ := h.mp.form
  cases o with
  | none =>
    refine (set_none h hx hN).mono ?_
    rintro e w' ⟨rfl, hd, hf⟩
    exact ⟨rfl, _, hd, hf⟩
  | some b =>
    refine (set_some h hx hN).mono ?_
    rintro e w' ⟨rfl, hd, hf⟩
    refine ⟨rfl, _, hd.wider (fun k hk => .inl hk) (fun k hk => ?_), hf⟩
    rcases hk with hk | hk
    · exact hd.lt k hk
    · exact hk.2
end
end Go.Proofs.Ytoipmpaebngppaa
