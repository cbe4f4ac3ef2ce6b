import Derived.Test.YtkfnphhoebknnaaQBo
import Derived.Test.YtkfnphhoebknnaaQBa
import Derived.Test.YtkfnphhoebknnaaQBc
namespace Go.Proofs.Ytkfnphhoebknnaa
open Go.RowKit
/-- What is wrong with a value of a kind of column; 0: nothing. -/
def fitP (v : Vl) (k : Int) : Int := if rightB v.k v.n v.s = false then 10 else if v.k = 0 ∨ v.k = k then 0 else 154
section
variable {w : World}
set_option maxHeartbeats 2000000 in
set_option maxRecDepth 100000 in
theorem fits_any (c : Col) (v : Vl) : Calls Try.prog 89 #[.agg (colA c), vlV v] w fun e w' => e = .returned (.int .i64 (fitP v c.kd)) ∧ Below w.heap.size w w' := by
  obtain ⟨W, hW⟩ : ∃ W, W = (w.alloc (.cells (colA c) 65)).alloc (.cells #[.int .i64 v.k, .int .i64 v.n, .string v.s] 37) := ⟨_, rfl⟩
  have hb : Below w.heap.size w W := by rw [hW]; exact ((Below.refl _ w).alloc (Nat.le_refl _) _).alloc (by simp) _
  obtain ⟨Y0, hY0⟩ : ∃ Y0, w.heap.size = Y0 := ⟨_, rfl⟩
  obtain ⟨Y1, hY1⟩ : ∃ Y1, Y0 + 1 = Y1 := ⟨_, rfl⟩
  have j0 : W.heap[Y0]? = some (.cells (colA c) 65 (0, 0)) := by
    have := heap_alloc_new w (.cells (colA c) 65)
    rw [hW, ← hY0, Below.heap_alloc _ _ _ (by simp only [World.size_alloc]; omega)]
    exact this
  have j1 : W.heap[Y1]? = some (.cells #[.int .i64 v.k, .int .i64 v.n, .string v.s] 37 (0, 0)) := by
    have := heap_alloc_new (w.alloc (.cells (colA c) 65)) (.cells #[.int .i64 v.k, .int .i64 v.n, .string v.s] 37)
    simp only [World.size_alloc] at this
    rw [hW, ← hY1, ← hY0]
    exact this
  have c0 : W.cell? ⟨Y1, 0, none⟩ = some (.int .i64 v.k) := cell_blk j1 0
  have c1 : W.cell? ⟨Y1, 1, none⟩ = some (.int .i64 v.n) := cell_blk j1 1
  have c2 : W.cell? ⟨Y1, 2, none⟩ = some (.string v.s) := cell_blk j1 2
  have HJ0 := Lib.hid j0
  have HJ1 := Lib.hid j1
  have hcall := check_any v.k v.n v.s W
  obtain ⟨r, hr⟩ : ∃ r, rightB v.k v.n v.s = r := ⟨_, rfl⟩
  have HR := Lib.hid hr
  have HW := Lib.hid hW
  have HY0 := Lib.hid hY0
  have HY1 := Lib.hid hY1
  have HB := Lib.hid hb
  rw [hr] at hcall
  clear hW hY0 hY1 hb j0 j1 hr
  cases r with
  | false =>
    go_enter Try.func89, Try.ntmps89
    go_upto_region 1 with fail
    rw [← HW.out, HY0.out, HY1.out]
    go_wp2_with (go_at_call 94; refine hcall.mono ?_; rintro e w1 ⟨rfl, b1⟩; refine Hid.out ?_)
    refine Lib.hid ?_
    have HB1 := Lib.hid (bgo HB.out b1)
    clear hcall b1
    go_wp2
    go_ret
    exact ⟨by unfold fitP; rw [HR.out]; rfl, HB1.out⟩
  | true =>
    go_enter Try.func89, Try.ntmps89
    go_upto_region 1 with fail
    rw [← HW.out, HY0.out, HY1.out]
    go_wp2_with (go_at_call 94; refine hcall.mono ?_; rintro e w1 ⟨rfl, b1⟩; refine Hid.out ?_)
    refine Lib.hid ?_
    have HB1 := Lib.hid (bgo HB.out b1)
    have d0 : w1.cell? ⟨Y1, 0, none⟩ = some (.int .i64 v.k) := cell_blk ((b1.block Y1 (blk_lt HJ1.out)).trans HJ1.out) 0
    have d1 : w1.cell? ⟨Y0, 2, none⟩ = some (.int .i64 c.kd) := cell_blk ((b1.block Y0 (blk_lt HJ0.out)).trans HJ0.out) 2
    have HF : Hid (fitP v c.kd = if v.k = 0 ∨ v.k = c.kd then 0 else 154) := Lib.hid (by unfold fitP; rw [HR.out]; rfl)
    clear hcall b1 c0 c1 c2
    obtain ⟨q, hq⟩ : ∃ q, v.k = q := ⟨_, rfl⟩
    obtain ⟨k, hk⟩ : ∃ k, c.kd = k := ⟨_, rfl⟩
    rw [hq, hk] at HF
    rw [hq] at d0
    rw [hk] at d1
    have HQ := Lib.hid (And.intro hq hk)
    clear hq hk
    by_cases h1 : q = 0
    · subst h1
      go_wp2
      go_ret
      exact ⟨by rw [HQ.out.2, HF.out]; simp, HB1.out⟩
    · have g1 : (q == 0) = false := by simpa using h1
      have g2 : (q != 0) = true := by simpa using h1
      by_cases h2 : q = k
      · subst h2
        go_wp2
        go_ret
        exact ⟨by rw [HQ.out.2, HF.out]; simp, HB1.out⟩
      · have g3 : (q == k) = false := by simpa using h2
        have g4 : (q != k) = true := by simpa using h2
        go_wp2
        go_ret
        exact ⟨by rw [HQ.out.2, HF.out]; simp [h1, h2], HB1.out⟩
end
end Go.Proofs.Ytkfnphhoebknnaa
namespace Go.Proofs.Ytkfnphhoebknnaa
open Go.RowKit
section
variable {w : World}
set_option maxHeartbeats 2000000 in
set_option maxRecDepth 100000 in
theorem fitsR_any (v : Vl) (k : Int) : Calls Try.prog 41 #[vlV v, .int .i64 k] w fun e w' => e = .returned (.int .i64 (fitP v k)) ∧ Below w.heap.size w w' := by
  obtain ⟨W, hW⟩ : ∃ W, W = w.alloc (.cells #[.int .i64 v.k, .int .i64 v.n, .string v.s] 37) := ⟨_, rfl⟩
  have hb : Below w.heap.size w W := by rw [hW]; exact bnew _ _
  obtain ⟨Y, hY⟩ : ∃ Y, w.heap.size = Y := ⟨_, rfl⟩
  have jY : W.heap[Y]? = some (.cells #[.int .i64 v.k, .int .i64 v.n, .string v.s] 37 (0, 0)) := by rw [hW, ← hY]; exact heap_alloc_new w _
  have c0 : W.cell? ⟨Y, 0, none⟩ = some (.int .i64 v.k) := cell_blk jY 0
  have c1 : W.cell? ⟨Y, 1, none⟩ = some (.int .i64 v.n) := cell_blk jY 1
  have c2 : W.cell? ⟨Y, 2, none⟩ = some (.string v.s) := cell_blk jY 2
  have HJ := Lib.hid jY
  have hcall := right_any v.k v.n v.s W
  obtain ⟨r, hr⟩ : ∃ r, rightB v.k v.n v.s = r := ⟨_, rfl⟩
  have HR := Lib.hid hr
  have HW := Lib.hid hW
  have HY := Lib.hid hY
  have HB := Lib.hid hb
  rw [hr] at hcall
  clear hW hY hb jY hr
  cases r with
  | false =>
    go_enter Try.func41, Try.ntmps41
    go_upto_region 1 with fail
    rw [← HW.out, HY.out]
    go_wp2_with (go_at_call 40; refine hcall.mono ?_; rintro e w1 ⟨rfl, b1⟩; refine Hid.out ?_)
    refine Lib.hid ?_
    have HB1 := Lib.hid (bgo HB.out b1)
    clear hcall b1
    go_wp2
    go_ret
    exact ⟨by unfold fitP; rw [HR.out]; rfl, HB1.out⟩
  | true =>
    go_enter Try.func41, Try.ntmps41
    go_upto_region 1 with fail
    rw [← HW.out, HY.out]
    go_wp2_with (go_at_call 40; refine hcall.mono ?_; rintro e w1 ⟨rfl, b1⟩; refine Hid.out ?_)
    refine Lib.hid ?_
    have HB1 := Lib.hid (bgo HB.out b1)
    have d0 : w1.cell? ⟨Y, 0, none⟩ = some (.int .i64 v.k) := cell_blk ((b1.block Y (blk_lt HJ.out)).trans HJ.out) 0
    have HF : Hid (fitP v k = if v.k = 0 ∨ v.k = k then 0 else 154) := Lib.hid (by unfold fitP; rw [HR.out]; rfl)
    clear hcall b1 c0 c1 c2
    obtain ⟨q, hq⟩ : ∃ q, v.k = q := ⟨_, rfl⟩
    rw [hq] at HF d0
    clear hq
    by_cases h1 : q = 0
    · subst h1
      go_wp2
      go_ret
      exact ⟨by rw [HF.out]; simp, HB1.out⟩
    · have g1 : (q == 0) = false := by simpa using h1
      have g2 : (q != 0) = true := by simpa using h1
      by_cases h2 : q = k
      · subst h2
        go_wp2
        go_ret
        exact ⟨by rw [HF.out]; simp, HB1.out⟩
      · have g3 : (q == k) = false := by simpa using h2
        have g4 : (q != k) = true := by simpa using h2
        go_wp2
        go_ret
        exact ⟨by rw [HF.out]; simp [h1, h2], HB1.out⟩
set_option maxHeartbeats 1000000 in
set_option maxRecDepth 100000 in
theorem named_clo {z : ByteArray} {Y : Nat} (x : Col) (hz : w.cell? ⟨Y, 0, none⟩ = some (.string z)) : Calls Try.prog 98 #[.agg (colA x), .pointer (some ⟨Y, 0, none⟩)] w fun e w' => e = .returned (.bool (decide (x.nm = z))) ∧ Below w.heap.size w w' := by
  obtain ⟨W, hW⟩ : ∃ W, W = w.alloc (.cells (colA x) 65) := ⟨_, rfl⟩
  have hb : Below w.heap.size w W := by rw [hW]; exact bnew _ _
  obtain ⟨Q, hQ⟩ : ∃ Q, w.heap.size = Q := ⟨_, rfl⟩
  have jQ : W.heap[Q]? = some (.cells (colA x) 65 (0, 0)) := by rw [hW, ← hQ]; exact heap_alloc_new w _
  have c1 : W.cell? ⟨Q, 1, none⟩ = some (.string x.nm) := cell_blk jQ 1
  have c2 := cell_on hb hz
  have hs := same_eq x.nm z
  have HW := Lib.hid hW
  have HQ := Lib.hid hQ
  have HB := Lib.hid hb
  clear hW hb hQ jQ hz
  go_enter Try.func98, Try.ntmps98
  go_upto_region 1 with fail
  rw [← HW.out, HQ.out]
  go_wp2
  go_ret
  exact ⟨by rw [← hs]; rfl, HB.out⟩
set_option maxHeartbeats 2000000 in
set_option maxRecDepth 100000 in
theorem idxC_any {L : List Col} {v : Value} {z : ByteArray} {Y : Nat} (hL : Lr colE 7 w L v) (hz : w.cell? ⟨Y, 0, none⟩ = some (.string z)) :
    Calls Try.prog 97 #[v, .func (.func 98) #[] #[.pointer (some ⟨Y, 0, none⟩)]] w fun e w' => e = .returned (.int .i64 (fidx (fun x => decide (x.nm = z)) L)) ∧ Below w.heap.size w w' := by
  obtain ⟨ad, cap, rfl, _, z1, z2, hX⟩ := hL
  have hmx : (L.length : Int) ≤ 9223372036854775807 := by unfold maxLen at z2; omega
  have HX := Lib.hid hX
  have HZ := Lib.hid hz
  clear hX z1 z2 hz
  go_enter Try.func97, Try.ntmps97
  go_wp2
  go_loopw [8] (fun iv wr => ∃ i : Nat, i ≤ L.length ∧ iv = .int .i64 (i : Int) ∧ (∀ j (hj : j < L.length), j < i → decide (L[j].nm = z) = false) ∧ Below w.heap.size w wr) (fun iv _ => L.length - (intOf iv).toNat)
  case atStart => exact ⟨0, Nat.zero_le _, rfl, fun j _ hj => by omega, Below.refl _ _⟩
  case round =>
    obtain ⟨i, hi, rfl, hno, hb⟩ := hrel
    obtain ⟨V, rfl⟩ : ∃ V, V = wr := ⟨_, rfl⟩
    have HN := Lib.hid hno
    have HB := Lib.hid hb
    by_cases hlt : i < L.length
    · obtain ⟨b, o, cs', rfl, hbl, hE, _, hcell⟩ := HX.out i hlt
      cases hE
      have hc := named_clo (w := V) L[i] (cell_on hb HZ.out)
      obtain ⟨x, hx⟩ : ∃ x, L[i] = x := ⟨_, rfl⟩
      rw [hx] at hc hcell
      have c0 : V.cell? ⟨b, o + i * 7, none⟩ = some (.int .i64 x.id) := cell_on hb (hcell 0 _ rfl)
      have c1 : V.cell? ⟨b, o + i * 7 + 1, none⟩ = some (.string x.nm) := cell_on hb (hcell 1 _ rfl)
      have c2 : V.cell? ⟨b, o + i * 7 + 2, none⟩ = some (.int .i64 x.kd) := cell_on hb (hcell 2 _ rfl)
      have c3 : V.cell? ⟨b, o + i * 7 + 3, none⟩ = some (.int .i64 x.st) := cell_on hb (hcell 3 _ rfl)
      have c4 : V.cell? ⟨b, o + i * 7 + 4, none⟩ = some (.int .i64 x.df.k) := cell_on hb (hcell 4 _ rfl)
      have c5 : V.cell? ⟨b, o + i * 7 + 5, none⟩ = some (.int .i64 x.df.n) := cell_on hb (hcell 5 _ rfl)
      have c6 : V.cell? ⟨b, o + i * 7 + 6, none⟩ = some (.string x.df.s) := cell_on hb (hcell 6 _ rfl)
      have k0 : (0 : Int) ≤ i := by omega
      have k1 : (i : Int) < L.length := by omega
      have HAT := Lib.hid (fun hp => fidx_at (p := fun x => decide (x.nm = z)) hlt hp hno)
      have HXX := Lib.hid hx
      clear hb hno hcell hx
      cases hp : decide (x.nm = z) with
      | true =>
        rw [hp] at hc
        have HP := Lib.hid hp
        clear hp
        go_wp2_with (refine hc.mono ?_; rintro e w1 ⟨rfl, b1⟩; refine Hid.out ?_)
        refine Lib.hid ?_
        have HB1 := Lib.hid (bgo HB.out b1)
        clear b1 hc
        go_wp2
        go_ret
        exact ⟨by rw [HAT.out (by rw [HXX.out]; exact HP.out)]; rfl, HB1.out⟩
      | false =>
        rw [hp] at hc
        have HP := Lib.hid hp
        clear hp
        go_wp2_with (refine hc.mono ?_; rintro e w1 ⟨rfl, b1⟩; refine Hid.out ?_)
        refine Lib.hid ?_
        have HB1 := Lib.hid (bgo HB.out b1)
        have HNN : Hid (∀ j (hj : j < L.length), j < i + 1 → decide (L[j].nm = z) = false) := Lib.hid (fun j hj hji => by
          rcases Nat.lt_or_ge j i with r | r
          · exact HN.out j hj r
          · obtain rfl : j = i := by omega
            rw [HXX.out]
            exact HP.out)
        clear b1 hc
        go_wp2
        go_roundw
        case rel => exact ⟨i + 1, hlt, by go_num, HNN.out, HB1.out⟩
        case measure => simp [intOf]; omega
    · have k1 : ¬ (i : Int) < L.length := by omega
      obtain rfl : i = L.length := by omega
      have HE : Hid (fidx (fun x => decide (x.nm = z)) L = -1) := Lib.hid (fidx_none (fun j hj => HN.out j hj hj))
      clear hno
      go_wp2
      go_ret
      exact ⟨by rw [HE.out]; rfl, HB.out⟩
set_option maxHeartbeats 2000000 in
set_option maxRecDepth 100000 in
theorem colNamed_any {t : Tb} {cv iv kv : Value} (h : Three w t cv iv kv) (z : ByteArray) : Calls Try.prog 92 #[tbV t cv iv kv, .string z] w fun e w' => e = .returned (.int .i64 (fidx (fun x => decide (x.nm = z)) t.cols)) ∧ Below w.heap.size w w' := by
  obtain ⟨W, hW⟩ : ∃ W, W = (w.alloc (.cells (tbA t cv iv kv) 54)).alloc (.cells #[.string z] 9) := ⟨_, rfl⟩
  have hb : Below w.heap.size w W := by rw [hW]; exact ((Below.refl _ w).alloc (Nat.le_refl _) _).alloc (by simp) _
  obtain ⟨Y0, hY0⟩ : ∃ Y0, w.heap.size = Y0 := ⟨_, rfl⟩
  obtain ⟨Y1, hY1⟩ : ∃ Y1, Y0 + 1 = Y1 := ⟨_, rfl⟩
  have j0 : W.heap[Y0]? = some (.cells (tbA t cv iv kv) 54 (0, 0)) := by
    have := heap_alloc_new w (.cells (tbA t cv iv kv) 54)
    rw [hW, ← hY0, Below.heap_alloc _ _ _ (by simp only [World.size_alloc]; omega)]
    exact this
  have j1 : W.heap[Y1]? = some (.cells #[.string z] 9 (0, 0)) := by
    have := heap_alloc_new (w.alloc (.cells (tbA t cv iv kv) 54)) (.cells #[.string z] 9)
    simp only [World.size_alloc] at this
    rw [hW, ← hY1, ← hY0]
    exact this
  have hcl := idxC_any (h.c.on colE_held hb) (z := z) (Y := Y1) (cell_blk j1 0)
  obtain ⟨ca, cc, e, _⟩ := h.c
  subst e
  have c2 : W.cell? ⟨Y0, 2, none⟩ = some (.slice ca t.cols.length cc) := cell_blk j0 2
  have HW := Lib.hid hW
  have HY0 := Lib.hid hY0
  have HY1 := Lib.hid hY1
  have HB := Lib.hid hb
  clear hW hY0 hY1 hb j0 j1 h
  go_enter Try.func92, Try.ntmps92
  go_upto_region 1 with fail
  rw [← HW.out, HY0.out, HY1.out]
  go_wp2_with (go_at_call 97; refine hcl.mono ?_; rintro e w1 ⟨rfl, b1⟩; refine Hid.out ?_)
  refine Lib.hid ?_
  have HB1 := Lib.hid (bgo HB.out b1)
  clear hcl b1
  go_wp2
  go_ret
  exact ⟨rfl, HB1.out⟩
end
end Go.Proofs.Ytkfnphhoebknnaa
namespace Go.Proofs.Ytkfnphhoebknnaa
open Go.RowKit
structure St where
  kind : Int
  tab : ByteArray
  vals : List Vl
  set : ByteArray
  nv : Vl
  wh : ByteArray
  be : Vl
  dd : Dd
structure Bd where
  kind : Int
  tab : Int
  vals : List Vl
  set : Int
  nv : Vl
  wh : Int
  be : Vl
def noV : Vl := ⟨0, 0, ⟨#[]⟩⟩
def noC : Col := ⟨0, ⟨#[]⟩, 0, 0, noV⟩
def noT : Tb := ⟨0, ⟨#[]⟩, [], [], []⟩
def nmIx (t : Tb) (z : ByteArray) : Int := fidx (fun x => decide (x.nm = z)) t.cols
def colN (t : Tb) (i : Int) : Col := t.cols.getD i.toNat noC
def vAll (f : Nat → Int) : Nat → Int
  | 0 => 0
  | n + 1 => if vAll f n = 0 then f n else vAll f n
theorem vAll_stop {f : Nat → Int} {i : Nat} (h : vAll f i = 0) (hf : f i ≠ 0) : ∀ n, i < n → vAll f n = f i
  | 0, q => by omega
  | n + 1, q => by
    unfold vAll
    rcases Nat.lt_or_ge i n with r | r
    · rw [vAll_stop h hf n r, if_neg hf]
    · obtain rfl : i = n := by omega
      rw [if_pos h]
theorem vAll_next {f : Nat → Int} {i : Nat} (h : vAll f i = 0) (hf : f i = 0) : vAll f (i + 1) = 0 := by
  unfold vAll
  rw [if_pos h, hf]
def whereE (t : Tb) (x : St) : Int := if x.wh = ⟨#[]⟩ then 0 else if nmIx t x.wh = -1 then 151 else fitP x.be (colN t (nmIx t x.wh)).kd
def setE (t : Tb) (x : St) : Int := if nmIx t x.set = -1 then 151 else if nmIx t x.set = 0 then 155 else fitP x.nv (colN t (nmIx t x.set)).kd
def valE1 (t : Tb) (x : St) (i : Nat) : Int := if fitP (x.vals.getD i noV) (colN t i).kd = 0 then (if i = 0 ∧ (x.vals.getD i noV).k = 0 then 191 else 0) else fitP (x.vals.getD i noV) (colN t i).kd
def valE (t : Tb) (x : St) : Int := if x.vals.length = t.cols.length then vAll (valE1 t x) x.vals.length else 190
def whereB (t : Tb) (x : St) (b : Bd) : Bd := if x.wh = ⟨#[]⟩ then b else { b with wh := (colN t (nmIx t x.wh)).id, be := x.be }
def setB (t : Tb) (x : St) (b : Bd) : Bd := { b with set := (colN t (nmIx t x.set)).id, nv := x.nv }
def valB (x : St) (b : Bd) : Bd := { b with vals := x.vals }
def tabIx (s : Sc) (z : ByteArray) : Int := fidx (fun t => decide (t.nm = z)) s.tabs
def tabN (s : Sc) (i : Int) : Tb := s.tabs.getD i.toNat noT
def zeroB : Bd := ⟨0, 0, [], 0, noV, 0, noV⟩
def ruleE (t : Tb) (x : St) : Int := if x.kind = 1 then valE t x else if x.kind = 2 then (if setE t x = 0 then whereE t x else setE t x) else whereE t x
def ruleB (t : Tb) (x : St) : Bd := if x.kind = 1 then valB x ⟨x.kind, t.id, [], 0, noV, 0, noV⟩ else if x.kind = 2 then whereB t x (setB t x ⟨x.kind, t.id, [], 0, noV, 0, noV⟩) else whereB t x ⟨x.kind, t.id, [], 0, noV, 0, noV⟩
/-- What is wrong with a statement against a schema of public elements alone. -/
def oneE (s : Sc) (x : St) : Int := if x.kind < 1 ∨ 4 < x.kind then 1 else if tabIx s x.tab = -1 then 150 else ruleE (tabN s (tabIx s x.tab)) x
def oneB (s : Sc) (x : St) : Bd := ruleB (tabN s (tabIx s x.tab)) x
def bindAt (s : Sc) : Nat → List St → Int × Int
  | _, [] => (0, 0)
  | k, x :: r => if oneE s x = 0 then bindAt s (k + 1) r else ((k : Int), oneE s x)
theorem bindAt_stop {s : Sc} : ∀ {L : List St} {i k : Nat} (h : i < L.length) (_ : ∀ j (hj : j < L.length), j < i → oneE s L[j] = 0) (_ : oneE s L[i] ≠ 0), bindAt s k L = (((k + i : Nat) : Int), oneE s L[i])
  | [], i, k, h, _, _ => absurd h (by simp)
  | x :: r, 0, k, h, _, he => by
    have he' : oneE s x ≠ 0 := he
    unfold bindAt
    rw [if_neg he']
    rfl
  | x :: r, i + 1, k, h, hz, he => by
    have h0 : oneE s x = 0 := hz 0 (by simp) (by omega)
    have h1 := bindAt_stop (s := s) (L := r) (i := i) (k := k + 1) (by simpa using h) (fun j hj hji => hz (j + 1) (by simpa using hj) (by omega)) he
    unfold bindAt
    rw [if_pos h0, h1, show k + 1 + i = k + (i + 1) from by omega]
    rfl
theorem bindAt_end {s : Sc} : ∀ {L : List St} {k : Nat} (_ : ∀ j (hj : j < L.length), oneE s L[j] = 0), bindAt s k L = (0, 0)
  | [], k, _ => rfl
  | x :: r, k, hz => by
    have h0 : oneE s x = 0 := hz 0 (by simp)
    unfold bindAt
    rw [if_pos h0]
    exact bindAt_end (fun j hj => hz (j + 1) (by simpa using hj))
abbrev stmtA (x : St) (vv dv : Value) : Array Value := #[.int .i64 x.kind, .string x.tab, vv, .string x.set, .int .i64 x.nv.k, .int .i64 x.nv.n, .string x.nv.s, .string x.wh, .int .i64 x.be.k, .int .i64 x.be.n, .string x.be.s, .int .i64 x.dd.kind, .string x.dd.table, .string x.dd.name, .string x.dd.column, .string x.dd.parent, .bool x.dd.uq, .int .i64 x.dd.ty, .int .i64 x.dd.df.k, .int .i64 x.dd.df.n, .string x.dd.df.s, dv]
abbrev bdA (b : Bd) (bv : Value) : Array Value := #[.int .i64 b.kind, .int .i64 b.tab, bv, .int .i64 b.set, .int .i64 b.nv.k, .int .i64 b.nv.n, .string b.nv.s, .int .i64 b.wh, .int .i64 b.be.k, .int .i64 b.be.n, .string b.be.s]
theorem vlL_len (x : Vl) : (vlL x).length = 3 := rfl
def valsE (_ : World) (x : Vl) (cs : List Value) : Prop := cs = vlL x
theorem valsE_held : Held valsE := fun _ _ _ _ _ h => h
/-- A statement's cells: its values' slice, its change's columns' slice. -/
def stmtE (w : World) (x : St) (cs : List Value) : Prop := ∃ va vc da dc, cs = (stmtA x (.slice va x.vals.length vc) (.slice da x.dd.cols.length dc)).toList ∧ Lr valsE 3 w x.vals (.slice va x.vals.length vc)
theorem stmtE_held : Held stmtE := fun _ _ _ _ hb ⟨va, vc, da, dc, e, h⟩ => ⟨va, vc, da, dc, e, h.on valsE_held hb⟩
end Go.Proofs.Ytkfnphhoebknnaa
