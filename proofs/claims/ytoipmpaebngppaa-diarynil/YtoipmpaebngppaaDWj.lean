/- The walks of slices.Clone and of a file's after. -/
import Derived.Test.YtoipmpaebngppaaDWi
namespace Go.Proofs.Ytoipmpaebngppaa
open Go.RowKit Go.Maps

theorem slice_no (a : Addr) (n cap : Nat) (w : World) : (binOp .eql 73 (.slice (some a) n cap) (.slice none 0 0)).run Try.prog w = .ok (.bool false) w := by kernel_rfl
theorem slice_yes (w : World) : (binOp .eql 73 (.slice none 0 0) (.slice none 0 0)).run Try.prog w = .ok (.bool true) w := by kernel_rfl
theorem clone_nil (w : World) : Calls Try.prog 51 #[.slice none 0 0] w fun e w' => e = .returned (.slice none 0 0) ∧ w' = w := by
  have hs := slice_yes
  go_enter Try.func51, Try.ntmps51
  go_wp2
  go_ret
  exact ⟨rfl, rfl⟩
theorem own_empty (w : World) : (w.alloc (.cells #[] 5)).ownsRow w.heap.size 5 1 (.slice (some ⟨w.heap.size, 0, none⟩) 0 0) 0 [] :=
  ⟨rfl, .inr ⟨w.heap.size, 0, #[], rfl, Nat.le_refl _, heap_alloc_new w _, Nat.le_refl _, by decide, rfl, rfl⟩⟩

theorem bytes_one (l : List UInt8) : ∀ u ∈ Lib.byteCells l, u.oneCell' = true := by
  intro u hu
  obtain ⟨b, _, rfl⟩ := List.mem_map.1 hu
  rfl
set_option maxHeartbeats 1000000 in
set_option maxRecDepth 100000 in
theorem clone_any {w : World} (l : List UInt8) (g cap : Nat) (hg : g < w.heap.size) (hc : ∀ j (hj : j < l.length), w.cell? ⟨g, j, none⟩ = some (.int .u8 l[j].toNat)) (hl : l.length ≤ 140737488355328) :
    Calls Try.prog 51 #[.slice (some ⟨g, 0, none⟩) l.length cap] w fun e w' => ∃ v, e = .returned v ∧ w'.ownsRow w.heap.size 5 1 v l.length (Lib.byteCells l) ∧ Below w.heap.size w w' := by
  obtain ⟨i0, hi, hz0, hz1, hz2⟩ := info_parts infoByte
  have hs := slice_no ⟨g, 0, none⟩ l.length cap
  have hal : Below w.heap.size w (w.alloc (.cells #[] 5)) := (Below.refl _ w).alloc (Nat.le_refl _) _
  have hnews : ∀ j u, (Lib.byteCells l)[j]? = some u → (w.alloc (.cells #[] 5)).cell? ((⟨g, 0, none⟩ : Addr).add j) = some u := by
    intro j u hu
    have hj : j < l.length := by
      have := (List.getElem?_eq_some_iff.1 hu).1
      rwa [Lib.byteCells_length] at this
    have e : (⟨g, 0, none⟩ : Addr).add j = ⟨g, j, none⟩ := by unfold Addr.add; split <;> simp_all
    rw [e, hal.cell (p := ⟨g, j, none⟩) hg, hc j hj]
    simpa [Lib.byteCells, hj] using hu
  have hlen : (Lib.byteCells l).length = l.length * 1 := by simp [Lib.byteCells_length]
  obtain ⟨n, hn⟩ : ∃ n, l.length = n := ⟨_, rfl⟩
  rw [hn] at hlen hs hl ⊢
  have HN := Lib.hid hn
  clear hc hn
  go_enter Try.func51, Try.ntmps51
  go_wp2_with (at_builtin; refine wpList_append_own _ rfl _ _ 73 rfl w.heap.size 5 i0 (.int .u8 0) 1 1 Try.underlying73 hi hz0 hz1 hz2 rfl (by decide) _ _ _ rfl (own_empty w) ⟨g, 0, none⟩ n cap (Lib.byteCells l) rfl hlen hnews (bytes_one l) (by unfold maxLen; omega) (by omega) hal.size ?_; intro v2 w2 hown2 hgrow2 _; refine Hid.out ?_)
  refine Lib.hid ?_
  have hb1 : Below w.heap.size w w2 := hal.grown hgrow2 hal.size (fun k hk => ((own_empty w).lt k hk).1)
  go_wp2
  go_ret
  refine ⟨_, rfl, ?_, hb1⟩
  simpa using hown2

/-- How much is kept of l bytes, s of them safe. -/
def kept (l s : Nat) (k : Int) : Nat := s + (min k ((l : Int) - s)).toNat
theorem kept_int {l s : Nat} (hs : s ≤ l) (k : Int) : (s : Int) + min (max k 0) ((l : Int) - s) = (kept l s k : Nat) := by
  unfold kept
  omega
theorem kept_le {l s : Nat} (hs : s ≤ l) (k : Int) : kept l s k ≤ l := by
  unfold kept
  omega
set_option maxHeartbeats 1000000 in
set_option maxRecDepth 100000 in
theorem after_nil {w : World} {k : Int} :
    Calls Try.prog 37 #[fileV (.slice none 0 0) 0, .int .i64 k] w fun e w' => e = .returned (fileV (.slice none 0 0) 0) ∧ Below w.heap.size w w' := by
  have hm : (0 : Int) + min (max k 0) ((0 : Int) - 0) = 0 := by omega
  have hm' : min (max k 0) 0 = 0 := by omega
  go_enter Try.func37, Try.ntmps37
  go_wp2_with fail
  refine (clone_nil _).mono ?_
  rintro e w1 ⟨rfl, rfl⟩
  go_wp2
  refine bodyPost_ret (v := fileV (.slice none 0 0) 0) (by simp [results, Try.results37, go_sem]) rfl ?_
  exact ⟨rfl, ((Below.refl _ w).alloc (Nat.le_refl _) _).alloc (by simp) _⟩
set_option maxHeartbeats 1000000 in
set_option maxRecDepth 100000 in
theorem after_some {w : World} {g n cap m s : Nat} {l : List UInt8} {k : Int} (hr : Row w (.slice (some ⟨g, 0, none⟩) n cap) l) (hn : l.length = n) (hs : s ≤ n) (hl : n ≤ 140737488355328) (hm : kept n s k = m) :
    Calls Try.prog 37 #[fileV (.slice (some ⟨g, 0, none⟩) n cap) s, .int .i64 k] w fun e w' => ∃ v', e = .returned (fileV v' m) ∧ Row w' v' (l.take m) ∧ (∀ b, v'.ownBlock = some b → w.heap.size ≤ b) ∧ Below w.heap.size w w' := by
  have hmi : (s : Int) + min (max k 0) ((n : Int) - s) = (m : Nat) := by rw [← hm]; exact kept_int hs k
  have hmn : m ≤ n := by rw [← hm]; exact kept_le hs k
  have hg : g < w.heap.size := by
    obtain ⟨cur, fz, hb⟩ := hr.blk (k := g) rfl
    exact blk_lt hb
  have hcap : n ≤ cap := by
    rcases hr with ⟨e, _⟩ | ⟨g', cap', cur, fz, e, _, _, h1, _⟩
    · cases e
    · simp only [Value.slice.injEq] at e
      omega
  have m0 : (0 : Int) ≤ (m : Int) := by omega
  have m1 : (m : Int) ≤ (cap : Int) := by omega
  obtain ⟨W, hW⟩ : ∃ W, W = (w.alloc (.cells #[.slice (some ⟨g, 0, none⟩) n cap, .int .i64 s] 75)).alloc (.cells #[.slice none 0 0, .int .i64 0] 75) := ⟨_, rfl⟩
  have hb : Below w.heap.size w W := by rw [hW]; exact ((Below.refl _ w).alloc (Nat.le_refl _) _).alloc (by simp) _
  have hWs : W.heap.size = w.heap.size + 2 := by rw [hW]; simp
  have hbox : W.heap[w.heap.size + 1]? = some (.cells #[.slice none 0 0, .int .i64 0] 75 (0, 0)) := by
    rw [hW]
    have := heap_alloc_new (w.alloc (.cells #[.slice (some ⟨g, 0, none⟩) n cap, .int .i64 s] 75)) (.cells #[.slice none 0 0, .int .i64 0] 75)
    rwa [show (w.alloc (.cells #[.slice (some ⟨g, 0, none⟩) n cap, .int .i64 s] 75)).heap.size = w.heap.size + 1 by simp] at this
  have hml : (l.take m).length = m := by rw [List.length_take]; omega
  have hc := clone_any (w := W) (l.take m) g cap (by omega) (fun j hj => by
    rw [hb.cell (p := ⟨g, j, none⟩) hg, hr.cell (by omega)]
    simp) (by omega)
  rw [hml] at hc
  have HW := Lib.hid hW
  have HN := Lib.hid hn
  have HM := Lib.hid hml
  clear hW hn hm hml
  go_enter Try.func37, Try.ntmps37
  go_wp2_with fail
  rw [← HW.out]
  refine hc.mono ?_
  rintro e w1 ⟨v, rfl, ho, hb1⟩
  have hrow := Row.ofOwn ho HM.out.symm
  obtain ⟨ad, cap', rfl⟩ := hrow.shape
  rw [HM.out] at hrow ho ⊢
  have hbox1 : w1.heap[w.heap.size + 1]? = some (.cells #[.slice none 0 0, .int .i64 0] 75 (0, 0)) := (hb1.block _ (by omega)).trans hbox
  have x0 : w1.cell? ⟨w.heap.size + 1, 0, none⟩ = some (.slice none 0 0) := by rw [cell_blk hbox1]; rfl
  have x1 : w1.cell? ⟨w.heap.size + 1, 1, none⟩ = some (.int .i64 0) := by rw [cell_blk hbox1]; rfl
  have y0 := frozen_blk hbox1 0
  have y1 := frozen_blk hbox1 1
  go_wp2
  have hne : ∀ b, (Value.slice ad m cap').ownBlock = some b → W.heap.size ≤ b := fun b hb2 => (ho.lt b hb2).1
  obtain ⟨w3, hw3⟩ : ∃ w3, (w1.setCell ⟨w.heap.size + 1, 0, none⟩ (.slice ad m cap')).setCell ⟨w.heap.size + 1, 1, none⟩ (.int .i64 m) = w3 := ⟨_, rfl⟩
  have hbox3 : w3.heap[w.heap.size + 1]? = some (.cells #[.slice ad m cap', .int .i64 m] 75 (0, 0)) := by
    rw [← hw3, set_blk (set_blk hbox1 _)]
    rfl
  have hfr : Fr w1 w3 (fun k => k = w.heap.size + 1) := by
    rw [← hw3]
    exact Fr.set (S := fun k => k = w.heap.size + 1) (Fr.set (S := fun k => k = w.heap.size + 1) (Fr.refl w1 _) (.inl rfl) _) (.inl rfl) _
  rw [hw3]
  clear hw3
  have z0 : w3.cell? ⟨w.heap.size + 1, 0, none⟩ = some (.slice ad m cap') := by rw [cell_blk hbox3]; rfl
  have z1 : w3.cell? ⟨w.heap.size + 1, 1, none⟩ = some (.int .i64 m) := by rw [cell_blk hbox3]; rfl
  refine bodyPost_ret (v := fileV (.slice ad m cap') m) (by simp [results, Try.results37, go_sem, z0, z1]) rfl ?_
  refine ⟨_, rfl, hrow.keep (fun b hb2 => hfr.block b (ho.lt b hb2).2 (fun q => by have := hne b hb2; omega)), fun b hb2 => by have := hne b hb2; omega, ?_⟩
  exact (hb.trans (hb1.mono (by omega))).trans (hfr.toBelow (B := w.heap.size) (fun k hk q => by omega) (by have := hb1.size; omega))
theorem after_any {w : World} {v : Value} {l : List UInt8} {s : Nat} {k : Int} (hr : Row w v l) (hs : s ≤ l.length) (hl : l.length ≤ 140737488355328) :
    Calls Try.prog 37 #[fileV v s, .int .i64 k] w fun e w' => ∃ v', e = .returned (fileV v' (kept l.length s k)) ∧ Row w' v' (l.take (kept l.length s k)) ∧ (∀ b, v'.ownBlock = some b → w.heap.size ≤ b) ∧ Below w.heap.size w w' := by
  obtain ⟨ad, cap, rfl⟩ := hr.shape
  cases ad with
  | some a =>
    have e : a = ⟨a.block, 0, none⟩ := by
      rcases hr with ⟨e, _⟩ | ⟨g', cap', cur, fz, e, _⟩
      · cases e
      · simp only [Value.slice.injEq, Option.some.injEq] at e
        rw [e.1]
    rw [e] at hr ⊢
    exact after_some hr rfl hs hl rfl
  | none =>
    rcases hr with ⟨e, rfl⟩ | ⟨g', cap', cur, fz, e, _⟩
    · simp only [Value.slice.injEq] at e
      obtain ⟨_, _, rfl⟩ := e
      have : s = 0 := by simpa using hs
      subst this
      have hkz : kept 0 0 k = 0 := by have := kept_le (Nat.le_refl 0) k; omega
      refine after_nil.mono ?_
      rintro e w' ⟨rfl, hb⟩
      refine ⟨_, ?_, .inl ⟨rfl, by simp⟩, (fun b hb => by cases hb), hb⟩
      rw [show kept ([] : List UInt8).length 0 k = 0 from hkz]
    · cases e
end Go.Proofs.Ytoipmpaebngppaa
