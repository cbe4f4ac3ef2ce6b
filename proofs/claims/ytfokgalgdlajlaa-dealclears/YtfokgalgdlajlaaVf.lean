/- The walk of Parts. -/
import Derived.Test.YtfokgalgdlajlaaVe
namespace Go.Proofs.Ytfokgalgdlajlaa
open Go.RowKit
def ptL (x : Pt) : List Value := [.int .i64 (x.sh : Int), .string x.lo, .string x.hi]
def ptC (P : List Pt) : List Value := P.flatMap ptL
theorem ptC_append (a b : List Pt) : ptC (a ++ b) = ptC a ++ ptC b := by simp [ptC]
theorem ptC_cons (x : Pt) (L : List Pt) : ptC (x :: L) = .int .i64 (x.sh : Int) :: .string x.lo :: .string x.hi :: ptC L := by simp [ptC, ptL]
theorem ptC_len (L : List Pt) : (ptC L).length = L.length * 3 := by
  induction L with
  | nil => rfl
  | cons l L ih => rw [ptC_cons]; simp [ih]; omega
theorem ptC_one (L : List Pt) : ∀ u ∈ ptC L, u.oneCell' = true := by
  intro u hu
  obtain ⟨f, _, hf⟩ := List.mem_flatMap.1 hu
  simp [ptL] at hf
  rcases hf with rfl | rfl | rfl <;> rfl
theorem ptC_get (L : List Pt) : ∀ (k : Nat) (h : k < L.length), (ptC L)[k * 3]? = some (.int .i64 (L[k].sh : Int)) ∧ (ptC L)[k * 3 + 1]? = some (.string L[k].lo) ∧ (ptC L)[k * 3 + 2]? = some (.string L[k].hi) := by
  induction L with
  | nil => intro k h; simp at h
  | cons l L ih =>
    intro k h
    rw [ptC_cons]
    cases k with
    | zero => simp
    | succ k =>
      have := ih k (by simpa using h)
      have e : (k + 1) * 3 = k * 3 + 3 := by omega
      rw [e]
      simpa using this
section
variable {w w' W V X : World} {L : List ByteArray} {v : Value} {P : List Pt} {B : Nat}
theorem pts_snoc (h : w.ownsRow B 93 3 v P.length (ptC P)) (hB : B ≤ w.heap.size) {x : Pt} {Y : Nat} (hY : w.heap[Y]? = some (.cells #[.int .i64 (x.sh : Int), .string x.lo, .string x.hi] 93 (0, 0))) (hf : P.length < 900000) :
    ∃ ad cap w', (Builtin.append_ #[90, 90] 90 #[v, .slice (some ⟨Y, 0, none⟩) 1 1]).run Try.prog w = .ok (.slice ad (P.length + 1) cap) w' ∧ w'.ownsRow B 93 3 (.slice ad (P.length + 1) cap) (P ++ [x]).length (ptC (P ++ [x])) ∧ Fr w w' (fun k => v.ownBlock = some k) := by
  obtain ⟨ad, cap, w', hrun, ho, hg, hat⟩ := run_pt (m := 1) (c := 1) (news := ptC [x]) h hB (.inr ⟨⟨Y, 0, none⟩, rfl, rfl, fun j u hu => by
    rw [add_at, Nat.zero_add, cell_blk hY]
    simpa [ptC, ptL] using hu⟩) (ptC_one _) (by omega)
  exact ⟨ad, cap, w', hrun, by rw [List.length_append, ptC_append]; exact ho, Fr.grown (Fr.refl w _) hg (fun k hk => .inl hk)⟩
def PtAns (w : World) (P : List Pt) (e : Ending) (w' : World) : Prop := ∃ ad cap, e = .returned (.slice ad P.length cap) ∧ w'.ownsRow w.heap.size 93 3 (.slice ad P.length cap) P.length (ptC P) ∧ Below w.heap.size w w'
def PJ (L : List ByteArray) (w wr : World) (a b : ByteArray) (Y : Nat) (lv iv : Value) : Prop := ∃ i : Nat, i ≤ L.length + 1 ∧ iv = .int .i64 (i : Int) ∧ wr.ownsRow (Y + 1) 93 3 lv (partsB L a b i).length (ptC (partsB L a b i)) ∧ wr.heap[Y]? = some (.cells #[.string a, .string b] 62 (0, 0)) ∧ Below w.heap.size w wr
/-- One part more, in a row of its own. -/
theorem pj_more {a b : ByteArray} {Y i : Nat} {lv : Value} {lo hi : ByteArray} (hl : loB L a i = lo) (hh : hiB L b i = hi) (hc : cb lo hi < 0) (hY : w.heap.size = Y) (ho : V.ownsRow (Y + 1) 93 3 lv (partsB L a b i).length (ptC (partsB L a b i))) (hj : V.heap[Y]? = some (.cells #[.string a, .string b] 62 (0, 0))) (hb : Below w.heap.size w V) (hi' : i < L.length + 1) (hn : L.length < 4) {w1 : World} (h1 : Below V.heap.size V w1) :
    ∃ ad cap w', (Builtin.append_ #[90, 90] 90 #[lv, .slice (some ⟨w1.heap.size + 1, 0, none⟩) 1 1]).run Try.prog ((w1.alloc (.cells #[.string lo, .string hi] 62)).alloc (.cells #[.int .i64 (i : Int), .string lo, .string hi] 93)) = .ok (.slice ad ((partsB L a b i).length + 1) cap) w' ∧ PJ L w w' a b Y (.slice ad ((partsB L a b i).length + 1) cap) (.int .i64 ((i + 1 : Nat) : Int)) := by
  obtain ⟨W3, hW3⟩ : ∃ W3, W3 = (w1.alloc (.cells #[.string lo, .string hi] 62)).alloc (.cells #[.int .i64 (i : Int), .string lo, .string hi] 93) := ⟨_, rfl⟩
  have hs1 : (w1.alloc (.cells #[.string lo, .string hi] 62)).heap.size = w1.heap.size + 1 := by simp
  have j3 : W3.heap[w1.heap.size + 1]? = some (.cells #[.int .i64 (i : Int), .string lo, .string hi] 93 (0, 0)) := by
    rw [hW3, ← hs1]
    exact heap_alloc_new _ _
  have b3 : Below V.heap.size V W3 := by
    rw [hW3]
    exact ((h1.alloc h1.size _).alloc (by rw [hs1]; exact Nat.le_succ_of_le h1.size) _)
  have hYV := blk_lt hj
  have hk := parts_few L a b i
  obtain ⟨ad, cap, w', hrun, ho', hf⟩ := pts_snoc (x := ⟨i, lo, hi⟩) (own_below ho b3) (Nat.le_trans hYV b3.size) j3 (by omega)
  rw [← hW3]
  refine ⟨ad, cap, w', hrun, i + 1, by omega, rfl, ?_, ?_, ?_⟩
  · have e : partsB L a b (i + 1) = partsB L a b i ++ [(⟨i, lo, hi⟩ : Pt)] := by
      rw [parts_next]
      unfold partB
      rw [hl, hh, if_pos hc]
      rfl
    rw [e]
    have e2 : (partsB L a b i ++ [(⟨i, lo, hi⟩ : Pt)]).length = (partsB L a b i).length + 1 := by simp
    rw [e2] at ho' ⊢
    exact ho'
  · refine (hf.block Y (Nat.lt_of_lt_of_le hYV b3.size) (fun q => ?_)).trans ((b3.block Y hYV).trans hj)
    have := (ho.lt Y q).1
    omega
  · have b4 := hb.trans (b3.mono hb.size)
    refine b4.trans (hf.toBelow (fun k hk q => ?_) b4.size)
    have := (ho.lt k q).1
    omega
theorem pj_less {a b : ByteArray} {Y i : Nat} {lv : Value} {lo hi : ByteArray} (hl : loB L a i = lo) (hh : hiB L b i = hi) (hc : ¬ cb lo hi < 0) (ho : V.ownsRow (Y + 1) 93 3 lv (partsB L a b i).length (ptC (partsB L a b i))) (hj : V.heap[Y]? = some (.cells #[.string a, .string b] 62 (0, 0))) (hb : Below w.heap.size w V) (hi' : i < L.length + 1) (h1 : Below V.heap.size V X) : PJ L w X a b Y lv (.int .i64 ((i + 1 : Nat) : Int)) := by
  have e : partsB L a b (i + 1) = partsB L a b i := by
    rw [parts_next]
    unfold partB
    rw [hl, hh, if_neg hc]
    exact List.append_nil _
  exact ⟨i + 1, by omega, rfl, by rw [e]; exact own_below ho h1, (h1.block Y (blk_lt hj)).trans hj, hb.trans (h1.mono hb.size)⟩
set_option maxHeartbeats 2000000 in
set_option maxRecDepth 100000 in
theorem parts_any {lo B : Nat} (h : Sp w lo B L) (a b : ByteArray) : Calls Try.prog 43 #[.pointer (some ⟨B, 0, none⟩), .agg #[.string a, .string b]] w fun e w' => PtAns w (partsB L a b (L.length + 1)) e w' := by
  have hf := h.few
  obtain ⟨W, hW⟩ : ∃ W, W = w.alloc (.cells #[.string a, .string b] 62) := ⟨_, rfl⟩
  obtain ⟨Y, hY⟩ : ∃ Y, w.heap.size = Y := ⟨_, rfl⟩
  have hb : Below w.heap.size w W := by rw [hW]; exact (Below.refl _ w).alloc (Nat.le_refl _) _
  have jY : W.heap[Y]? = some (.cells #[.string a, .string b] 62 (0, 0)) := by rw [hW, ← hY]; exact heap_alloc_new w _
  have hsz := size_any (h.on hb)
  have HH := Lib.hid h
  have HW := Lib.hid hW
  have HYY := Lib.hid hY
  have HB := Lib.hid hb
  have HJ := Lib.hid jY
  have hmx : ((L.length + 1 : Nat) : Int) ≤ 9223372036854775807 := by omega
  obtain ⟨n, hn⟩ : ∃ n, L.length + 1 = n := ⟨_, rfl⟩
  rw [hn] at hsz hmx
  have HN := Lib.hid hn
  have HSZ := Lib.hid hsz
  clear h hW hY hb jY hn hsz
  go_enter Try.func43, Try.ntmps43
  go_upto_region 1 with fail
  rw [← HW.out, HYY.out]
  go_wp2_with (go_at_call 62; refine HSZ.out.mono ?_; rintro e w1 ⟨rfl, rfl⟩; refine Hid.out ?_)
  refine Lib.hid ?_
  go_wp2
  go_loopw [5, 10] (fun lv iv wr => PJ L w wr a b Y lv iv) (fun _ iv _ => n - (intOf iv).toNat)
  case atStart => exact ⟨0, Nat.zero_le _, rfl, World.ownsRow_nil _ _ _ _, HJ.out, HB.out⟩
  case round =>
    obtain ⟨i, hi, rfl, ho, hj, hbw⟩ := hrel
    obtain ⟨V, rfl⟩ : ∃ V, V = wr := ⟨_, rfl⟩
    obtain ⟨oad, ocap, rfl⟩ := own_shape ho
    by_cases hlt : i < n
    · have hi' : i < L.length + 1 := by rw [HN.out]; exact hlt
      have k1 : (i : Int) < (n : Int) := by omega
      have hcut := cut_any (HH.out.on hbw) i (by omega) a b
      have y0 : V.cell? ⟨Y, 0, none⟩ = some (.string a) := cell_blk hj 0
      have y1 : V.cell? ⟨Y, 1, none⟩ = some (.string b) := cell_blk hj 1
      have HO := Lib.hid ho
      have HJV := Lib.hid hj
      have HBW := Lib.hid hbw
      obtain ⟨p, hp⟩ : ∃ p, loB L a i = p := ⟨_, rfl⟩
      obtain ⟨q, hq⟩ : ∃ q, hiB L b i = q := ⟨_, rfl⟩
      rw [hp, hq] at hcut
      have HP := Lib.hid hp
      have HQ := Lib.hid hq
      have HC := Lib.hid hcut
      clear ho hj hbw hp hq hcut
      go_wp2_with (go_at_call 63; refine HC.out.mono ?_; rintro e w1 ⟨rfl, hb1⟩; refine Hid.out ?_)
      refine Lib.hid ?_
      have HB1 := Lib.hid hb1
      clear hb1
      have hle := less_eq p q
      by_cases hc : cb p q < 0
      · rw [decide_eq_true hc] at hle
        obtain ⟨ad9, cap9, w9, hrun, hpj⟩ := pj_more HP.out HQ.out hc HYY.out HO.out HJV.out HBW.out hi' hf HB1.out
        have HPJ := Lib.hid hpj
        clear hpj hc
        go_wp2_with (at_builtin; refine wpl_run2 _ _ rfl (by simp [Act.eval]) (by simp [Act.eval]) hrun ?_)
        go_roundw
        case rel => exact HPJ.out
        case measure => simp [intOf]; omega
      · rw [decide_eq_false hc] at hle
        have ba : Below V.heap.size V (w1.alloc (.cells #[.string p, .string q] 62)) := HB1.out.alloc HB1.out.size _
        have HPJ := Lib.hid (pj_less HP.out HQ.out hc HO.out HJV.out HBW.out hi' ba)
        clear ba hc
        go_wp2
        go_roundw
        case rel => exact HPJ.out
        case measure => simp [intOf]; omega
    · have k1 : ¬ ((i : Int) < (n : Int)) := by omega
      have e : i = L.length + 1 := by have := HN.out; omega
      subst e
      have HO := Lib.hid ho
      have HBW := Lib.hid hbw
      clear ho hj hbw
      go_wp2
      refine bodyPost_ret (v := .slice oad (partsB L a b (L.length + 1)).length ocap) (by simp [results, Try.results43, go_sem]) rfl ?_
      exact ⟨oad, ocap, rfl, own_mono HO.out (by have := HYY.out; omega), HBW.out⟩
set_option maxRecDepth 100000 in
theorem parts_nil (w : World) (a b : ByteArray) : Calls Try.prog 43 #[.pointer none, .agg #[.string a, .string b]] w fun e w' => e = .returned (.slice none 0 0) ∧ Below w.heap.size w w' := by
  have hs := size_nil (w.alloc (.cells #[.string a, .string b] 62))
  have ba : Below w.heap.size w (w.alloc (.cells #[.string a, .string b] 62)) := (Below.refl _ w).alloc (Nat.le_refl _) _
  have HB := Lib.hid ba
  clear ba
  go_enter Try.func43, Try.ntmps43
  go_wp2_with (go_at_call 62; refine hs.mono ?_; rintro e w1 ⟨rfl, rfl⟩; refine Hid.out ?_)
  refine Lib.hid ?_
  go_wp2
  go_loopw [5, 10] (fun lv iv wr => lv = .slice none 0 0 ∧ iv = .int .i64 0 ∧ wr = (w.alloc (.cells #[.string a, .string b] 62))) (fun _ _ _ => 0)
  case atStart => exact ⟨rfl, rfl, rfl⟩
  case round =>
    obtain ⟨rfl, rfl, rfl⟩ := hrel
    go_wp2
    refine bodyPost_ret (v := .slice none 0 0) (by simp [results, Try.results43, go_sem]) rfl ?_
    exact ⟨rfl, HB.out⟩
end
end Go.Proofs.Ytfokgalgdlajlaa
