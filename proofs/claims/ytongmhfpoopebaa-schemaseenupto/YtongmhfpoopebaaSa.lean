/- The walks of public, of three sorts; seenTable. -/
import Derived.Test.YtongmhfpoopebaaBm
namespace Go.Proofs.Ytongmhfpoopebaa
open Go.RowKit Go.Maps
def seC (l : List Col) : List Col := l.filter (fun x => decide (x.st = 3))
def seI (l : List Ix) : List Ix := l.filter (fun x => decide (x.st = 3))
def seK (l : List Fk) : List Fk := l.filter (fun x => decide (x.st = 3))
def seenP (t : Tb) : Tb := ⟨t.id, t.nm, seC t.cols, seI t.ixs, seK t.fks⟩
def seenS (s : Sc) : Sc := ⟨s.ver, s.last, s.tabs.map seenP⟩
section
variable {w : World}
theorem seC_next {L : List Col} {i : Nat} (h : i < L.length) : seC (L.take (i + 1)) = if L[i].st = 3 then seC (L.take i) ++ [L[i]] else seC (L.take i) := by
  unfold seC
  rw [List.take_succ_eq_append_getElem h, List.filter_append]
  by_cases q : L[i].st = 3
  · simp [q]
  · simp [q]
theorem pushBC {X : World} {B : Nat} {l : List Col} {v : Value} (ho : X.ownsRow B 56 7 v l.length (l.flatMap colL)) (hB : B ≤ X.heap.size) (x : Col) (hz : l.length ≤ 1000000) :
    ∃ ad cap w', (Builtin.append_ #[24, 24] 24 #[v, .slice (some ⟨X.heap.size, 0, none⟩) 1 1]).run Try.prog (X.alloc (.cells #[.int .i64 x.id, .string x.nm, .int .i64 x.kd, .int .i64 x.st, .int .i64 x.df.k, .int .i64 x.df.n, .string x.df.s] 56)) = .ok (.slice ad (l.length + 1) cap) w' ∧ w'.ownsRow B 56 7 (.slice ad (l.length + 1) cap) (l ++ [x]).length ((l ++ [x]).flatMap colL) ∧ Below B X w' := by
  have hal := bnew X (.cells #[.int .i64 x.id, .string x.nm, .int .i64 x.kd, .int .i64 x.st, .int .i64 x.df.k, .int .i64 x.df.n, .string x.df.s] 56)
  have hj := heap_alloc_new X (.cells #[.int .i64 x.id, .string x.nm, .int .i64 x.kd, .int .i64 x.st, .int .i64 x.df.k, .int .i64 x.df.n, .string x.df.s] 56)
  obtain ⟨ad, cap, w', h1, h2, h3, h4⟩ := run_col (m := 1) (c := 1) (news := colL x) (own_below ho hal) (Nat.le_trans hB hal.size) (.inr ⟨_, rfl, rfl, fun j u hu => by
    rw [add_at, Nat.zero_add, cell_blk hj]
    simpa using hu⟩) (fun u hu => by
      simp at hu
      rcases hu with rfl | rfl | rfl | rfl | rfl | rfl | rfl <;> rfl) (by omega)
  refine ⟨ad, cap, w', h1, by simpa using h2, (hal.mono hB).grown h3 (Nat.le_trans hB hal.size) (fun k hk => (own_ge ho k hk).1)⟩
set_option maxHeartbeats 4000000 in
set_option maxRecDepth 100000 in
theorem publC_any {L : List Col} {v : Value} (hL : Lr colE 7 w L v) (hz : L.length ≤ 1000000) : Calls Try.prog 32 #[v, .func (.func 33) #[] #[]] w fun e w' => ∃ ad cap, e = .returned (.slice ad (seC L).length cap) ∧ w'.ownsRow w.heap.size 56 7 (.slice ad (seC L).length cap) (seC L).length ((seC L).flatMap colL) ∧ Below w.heap.size w w' := by
  obtain ⟨ad, cap, rfl, _, z1, z2, hX⟩ := hL
  have hmx : (L.length : Int) ≤ 9223372036854775807 := by unfold maxLen at z2; omega
  have HX := Lib.hid hX
  have HZ := Lib.hid hz
  obtain ⟨n, hn⟩ : ∃ n, L.length = n := ⟨_, rfl⟩
  rw [hn] at hmx ⊢
  have HN := Lib.hid hn
  clear hX z1 z2 hz hn
  go_enter Try.func32, Try.ntmps32
  go_wp2
  go_loopw [5, 9] (fun ov iv wr => ∃ i : Nat, i ≤ n ∧ iv = .int .i64 (i : Int) ∧ wr.ownsRow w.heap.size 56 7 ov (seC (L.take i)).length ((seC (L.take i)).flatMap colL) ∧ Below w.heap.size w wr) (fun _ iv _ => n - (intOf iv).toNat)
  case atStart => exact ⟨0, Nat.zero_le _, rfl, World.ownsRow_nil _ _ 56 7, Below.refl _ _⟩
  case round =>
    obtain ⟨i, hi, rfl, ho, hb⟩ := hrel
    obtain ⟨V, rfl⟩ : ∃ V, V = wr := ⟨_, rfl⟩
    have HB := Lib.hid hb
    have HO := Lib.hid ho
    obtain ⟨nad, ncap, hsh⟩ := own_shape ho
    have hml : (seC (L.take i)).length ≤ 1000000 := by
      have q1 : (seC (L.take i)).length ≤ (L.take i).length := List.length_filter_le _ _
      have q2 : (L.take i).length ≤ L.length := by rw [List.length_take]; omega
      have q3 := HZ.out
      omega
    have HML := Lib.hid hml
    obtain ⟨m, hm⟩ : ∃ m, (seC (L.take i)).length = m := ⟨_, rfl⟩
    rw [hm] at hsh
    subst hsh
    have HM := Lib.hid hm
    clear ho hml hm
    by_cases hlt : i < n
    · have hiL : i < L.length := by rw [HN.out]; exact hlt
      have k0 : (0 : Int) ≤ i := by omega
      have k1 : (i : Int) < n := by omega
      obtain ⟨b, p, cs, rfl, hbl, hE, _, hcell⟩ := HX.out i hiL
      cases hE
      have hnx := seC_next hiL
      obtain ⟨x, hx⟩ : ∃ x, L[i] = x := ⟨_, rfl⟩
      rw [hx] at hcell hnx
      have HNX := Lib.hid hnx
      have hcall := ofC_any (w := V) (B := b) (q := p + i * 7) (x := x) ⟨_, rfl, fun j u hu => cell_on hb (hcell j u hu)⟩
      have hfd := field156_2
      have c0 : V.cell? ⟨b, p + i * 7, none⟩ = some (.int .i64 x.id) := cell_on hb (hcell 0 _ rfl)
      have c1 : V.cell? ⟨b, p + i * 7 + 1, none⟩ = some (.string x.nm) := cell_on hb (hcell 1 _ rfl)
      have c2 : V.cell? ⟨b, p + i * 7 + 2, none⟩ = some (.int .i64 x.kd) := cell_on hb (hcell 2 _ rfl)
      have c3 : V.cell? ⟨b, p + i * 7 + 3, none⟩ = some (.int .i64 x.st) := cell_on hb (hcell 3 _ rfl)
      have c4 : V.cell? ⟨b, p + i * 7 + 4, none⟩ = some (.int .i64 x.df.k) := cell_on hb (hcell 4 _ rfl)
      have c5 : V.cell? ⟨b, p + i * 7 + 5, none⟩ = some (.int .i64 x.df.n) := cell_on hb (hcell 5 _ rfl)
      have c6 : V.cell? ⟨b, p + i * 7 + 6, none⟩ = some (.string x.df.s) := cell_on hb (hcell 6 _ rfl)
      clear hx hnx hcell hbl hb
      go_wp2_with (go_at_call 33; refine hcall.mono ?_; rintro e w1 ⟨rfl, b1⟩; refine Hid.out ?_)
      refine Lib.hid ?_
      have y := cell_on b1 c3
      have B1 := Lib.hid b1
      have HBN := Lib.hid (bgo HB.out b1)
      obtain ⟨st, hst⟩ : ∃ st, x.st = st := ⟨_, rfl⟩
      rw [hst] at y HNX
      by_cases q : st = 3
      · subst q
        have HN3 : Hid (seC (L.take (i + 1)) = seC (L.take i) ++ [x]) := Lib.hid (by rw [HNX.out, if_pos rfl])
        obtain ⟨nad2, ncap2, w2, hrun, r1, r2⟩ := pushBC (X := w1) (own_below HO.out b1) (bgo HB.out b1).size x HML.out
        rw [← HN3.out] at r1
        rw [HM.out] at hrun r1
        have hl2 : (seC (L.take (i + 1))).length = m + 1 := by rw [HN3.out, List.length_append, HM.out]; rfl
        have R1 := Lib.hid r1
        have R2 := Lib.hid (HBN.out.trans r2)
        have u0 := cell_on b1 c0
        have u1 := cell_on b1 c1
        have u2 := cell_on b1 c2
        have u3 := cell_on b1 c3
        have u4 := cell_on b1 c4
        have u5 := cell_on b1 c5
        have u6 := cell_on b1 c6
        rw [hst] at u3
        have hrun' : (Builtin.append_ #[24, 24] 24 #[.slice nad m ncap, .slice (some ⟨w1.heap.size, 0, none⟩) 1 1]).run Try.prog (w1.alloc (.cells #[.int .i64 x.id, .string x.nm, .int .i64 x.kd, .int .i64 3, .int .i64 x.df.k, .int .i64 x.df.n, .string x.df.s] 56)) = .ok (.slice nad2 (m + 1) ncap2) w2 := by
          rw [← hst]
          exact hrun
        clear b1 c0 c1 c2 c3 c4 c5 c6 hcall hst r1 r2 hrun
        go_wp2_with (at_builtin; refine wpl_run2 _ _ rfl (by simp [Act.eval]) (by simp [Act.eval]) hrun' ?_)
        go_roundw
        case rel => exact ⟨i + 1, hlt, by go_num, R1.out, R2.out⟩
        case measure => simp [intOf]; omega
      · have HN3 : Hid (seC (L.take (i + 1)) = seC (L.take i)) := Lib.hid (by rw [HNX.out, if_neg q])
        have R1 : Hid (w1.ownsRow w.heap.size 56 7 (.slice nad m ncap) (seC (L.take (i + 1))).length ((seC (L.take (i + 1))).flatMap colL)) := by rw [HN3.out]; exact Lib.hid (own_below HO.out b1)
        clear b1 c0 c1 c2 c3 c4 c5 c6 hcall hst
        go_wp2
        go_roundw
        case rel => exact ⟨i + 1, hlt, by go_num, R1.out, HBN.out⟩
        case measure => simp [intOf]; omega
    · have k1 : ¬ (i : Int) < n := by omega
      have ei : L.take i = L := List.take_of_length_le (by rw [HN.out]; omega)
      have ho := HO.out
      rw [ei] at ho
      have hm := HM.out
      rw [ei] at hm
      have HO2 := Lib.hid ho
      have HM2 := Lib.hid hm
      clear ho hm hb ei
      go_wp2
      go_ret
      exact ⟨nad, ncap, by rw [HM2.out]; rfl, by
        have := HO2.out
        rw [HM2.out] at this ⊢
        exact this, HB.out⟩
theorem seI_next {L : List Ix} {i : Nat} (h : i < L.length) : seI (L.take (i + 1)) = if L[i].st = 3 then seI (L.take i) ++ [L[i]] else seI (L.take i) := by
  unfold seI
  rw [List.take_succ_eq_append_getElem h, List.filter_append]
  by_cases q : L[i].st = 3
  · simp [q]
  · simp [q]
theorem pushBI {X : World} {B : Nat} {l : List Ix} {v : Value} (ho : X.ownsRow B 58 5 v l.length (l.flatMap ixL)) (hB : B ≤ X.heap.size) (x : Ix) (hz : l.length ≤ 1000000) :
    ∃ ad cap w', (Builtin.append_ #[48, 48] 48 #[v, .slice (some ⟨X.heap.size, 0, none⟩) 1 1]).run Try.prog (X.alloc (.cells #[.int .i64 x.id, .string x.nm, .int .i64 x.col, .bool x.uq, .int .i64 x.st] 58)) = .ok (.slice ad (l.length + 1) cap) w' ∧ w'.ownsRow B 58 5 (.slice ad (l.length + 1) cap) (l ++ [x]).length ((l ++ [x]).flatMap ixL) ∧ Below B X w' := by
  have hal := bnew X (.cells #[.int .i64 x.id, .string x.nm, .int .i64 x.col, .bool x.uq, .int .i64 x.st] 58)
  have hj := heap_alloc_new X (.cells #[.int .i64 x.id, .string x.nm, .int .i64 x.col, .bool x.uq, .int .i64 x.st] 58)
  obtain ⟨ad, cap, w', h1, h2, h3, h4⟩ := run_ix (m := 1) (c := 1) (news := ixL x) (own_below ho hal) (Nat.le_trans hB hal.size) (.inr ⟨_, rfl, rfl, fun j u hu => by
    rw [add_at, Nat.zero_add, cell_blk hj]
    simpa using hu⟩) (fun u hu => by
      simp at hu
      rcases hu with rfl | rfl | rfl | rfl | rfl <;> rfl) (by omega)
  refine ⟨ad, cap, w', h1, by simpa using h2, (hal.mono hB).grown h3 (Nat.le_trans hB hal.size) (fun k hk => (own_ge ho k hk).1)⟩
set_option maxHeartbeats 4000000 in
set_option maxRecDepth 100000 in
theorem publI_any {L : List Ix} {v : Value} (hL : Lr ixE 5 w L v) (hz : L.length ≤ 1000000) : Calls Try.prog 34 #[v, .func (.func 35) #[] #[]] w fun e w' => ∃ ad cap, e = .returned (.slice ad (seI L).length cap) ∧ w'.ownsRow w.heap.size 58 5 (.slice ad (seI L).length cap) (seI L).length ((seI L).flatMap ixL) ∧ Below w.heap.size w w' := by
  obtain ⟨ad, cap, rfl, _, z1, z2, hX⟩ := hL
  have hmx : (L.length : Int) ≤ 9223372036854775807 := by unfold maxLen at z2; omega
  have HX := Lib.hid hX
  have HZ := Lib.hid hz
  obtain ⟨n, hn⟩ : ∃ n, L.length = n := ⟨_, rfl⟩
  rw [hn] at hmx ⊢
  have HN := Lib.hid hn
  clear hX z1 z2 hz hn
  go_enter Try.func34, Try.ntmps34
  go_wp2
  go_loopw [5, 9] (fun ov iv wr => ∃ i : Nat, i ≤ n ∧ iv = .int .i64 (i : Int) ∧ wr.ownsRow w.heap.size 58 5 ov (seI (L.take i)).length ((seI (L.take i)).flatMap ixL) ∧ Below w.heap.size w wr) (fun _ iv _ => n - (intOf iv).toNat)
  case atStart => exact ⟨0, Nat.zero_le _, rfl, World.ownsRow_nil _ _ 58 5, Below.refl _ _⟩
  case round =>
    obtain ⟨i, hi, rfl, ho, hb⟩ := hrel
    obtain ⟨V, rfl⟩ : ∃ V, V = wr := ⟨_, rfl⟩
    have HB := Lib.hid hb
    have HO := Lib.hid ho
    obtain ⟨nad, ncap, hsh⟩ := own_shape ho
    have hml : (seI (L.take i)).length ≤ 1000000 := by
      have q1 : (seI (L.take i)).length ≤ (L.take i).length := List.length_filter_le _ _
      have q2 : (L.take i).length ≤ L.length := by rw [List.length_take]; omega
      have q3 := HZ.out
      omega
    have HML := Lib.hid hml
    obtain ⟨m, hm⟩ : ∃ m, (seI (L.take i)).length = m := ⟨_, rfl⟩
    rw [hm] at hsh
    subst hsh
    have HM := Lib.hid hm
    clear ho hml hm
    by_cases hlt : i < n
    · have hiL : i < L.length := by rw [HN.out]; exact hlt
      have k0 : (0 : Int) ≤ i := by omega
      have k1 : (i : Int) < n := by omega
      obtain ⟨b, p, cs, rfl, hbl, hE, _, hcell⟩ := HX.out i hiL
      cases hE
      have hnx := seI_next hiL
      obtain ⟨x, hx⟩ : ∃ x, L[i] = x := ⟨_, rfl⟩
      rw [hx] at hcell hnx
      have HNX := Lib.hid hnx
      have hcall := ofI_any (w := V) (B := b) (q := p + i * 5) (x := x) ⟨_, rfl, fun j u hu => cell_on hb (hcell j u hu)⟩
      have hfd := field156_2
      have c0 : V.cell? ⟨b, p + i * 5, none⟩ = some (.int .i64 x.id) := cell_on hb (hcell 0 _ rfl)
      have c1 : V.cell? ⟨b, p + i * 5 + 1, none⟩ = some (.string x.nm) := cell_on hb (hcell 1 _ rfl)
      have c2 : V.cell? ⟨b, p + i * 5 + 2, none⟩ = some (.int .i64 x.col) := cell_on hb (hcell 2 _ rfl)
      have c3 : V.cell? ⟨b, p + i * 5 + 3, none⟩ = some (.bool x.uq) := cell_on hb (hcell 3 _ rfl)
      have c4 : V.cell? ⟨b, p + i * 5 + 4, none⟩ = some (.int .i64 x.st) := cell_on hb (hcell 4 _ rfl)
      clear hx hnx hcell hbl hb
      go_wp2_with (go_at_call 35; refine hcall.mono ?_; rintro e w1 ⟨rfl, b1⟩; refine Hid.out ?_)
      refine Lib.hid ?_
      have y := cell_on b1 c4
      have B1 := Lib.hid b1
      have HBN := Lib.hid (bgo HB.out b1)
      obtain ⟨st, hst⟩ : ∃ st, x.st = st := ⟨_, rfl⟩
      rw [hst] at y HNX
      by_cases q : st = 3
      · subst q
        have HN3 : Hid (seI (L.take (i + 1)) = seI (L.take i) ++ [x]) := Lib.hid (by rw [HNX.out, if_pos rfl])
        obtain ⟨nad2, ncap2, w2, hrun, r1, r2⟩ := pushBI (X := w1) (own_below HO.out b1) (bgo HB.out b1).size x HML.out
        rw [← HN3.out] at r1
        rw [HM.out] at hrun r1
        have hl2 : (seI (L.take (i + 1))).length = m + 1 := by rw [HN3.out, List.length_append, HM.out]; rfl
        have R1 := Lib.hid r1
        have R2 := Lib.hid (HBN.out.trans r2)
        have u0 := cell_on b1 c0
        have u1 := cell_on b1 c1
        have u2 := cell_on b1 c2
        have u3 := cell_on b1 c3
        have u4 := cell_on b1 c4
        rw [hst] at u4
        have hrun' : (Builtin.append_ #[48, 48] 48 #[.slice nad m ncap, .slice (some ⟨w1.heap.size, 0, none⟩) 1 1]).run Try.prog (w1.alloc (.cells #[.int .i64 x.id, .string x.nm, .int .i64 x.col, .bool x.uq, .int .i64 3] 58)) = .ok (.slice nad2 (m + 1) ncap2) w2 := by
          rw [← hst]
          exact hrun
        clear b1 c0 c1 c2 c3 c4 hcall hst r1 r2 hrun
        go_wp2_with (at_builtin; refine wpl_run2 _ _ rfl (by simp [Act.eval]) (by simp [Act.eval]) hrun' ?_)
        go_roundw
        case rel => exact ⟨i + 1, hlt, by go_num, R1.out, R2.out⟩
        case measure => simp [intOf]; omega
      · have HN3 : Hid (seI (L.take (i + 1)) = seI (L.take i)) := Lib.hid (by rw [HNX.out, if_neg q])
        have R1 : Hid (w1.ownsRow w.heap.size 58 5 (.slice nad m ncap) (seI (L.take (i + 1))).length ((seI (L.take (i + 1))).flatMap ixL)) := by rw [HN3.out]; exact Lib.hid (own_below HO.out b1)
        clear b1 c0 c1 c2 c3 c4 hcall hst
        go_wp2
        go_roundw
        case rel => exact ⟨i + 1, hlt, by go_num, R1.out, HBN.out⟩
        case measure => simp [intOf]; omega
    · have k1 : ¬ (i : Int) < n := by omega
      have ei : L.take i = L := List.take_of_length_le (by rw [HN.out]; omega)
      have ho := HO.out
      rw [ei] at ho
      have hm := HM.out
      rw [ei] at hm
      have HO2 := Lib.hid ho
      have HM2 := Lib.hid hm
      clear ho hm hb ei
      go_wp2
      go_ret
      exact ⟨nad, ncap, by rw [HM2.out]; rfl, by
        have := HO2.out
        rw [HM2.out] at this ⊢
        exact this, HB.out⟩
theorem seK_next {L : List Fk} {i : Nat} (h : i < L.length) : seK (L.take (i + 1)) = if L[i].st = 3 then seK (L.take i) ++ [L[i]] else seK (L.take i) := by
  unfold seK
  rw [List.take_succ_eq_append_getElem h, List.filter_append]
  by_cases q : L[i].st = 3
  · simp [q]
  · simp [q]
theorem pushBK {X : World} {B : Nat} {l : List Fk} {v : Value} (ho : X.ownsRow B 60 5 v l.length (l.flatMap fkL)) (hB : B ≤ X.heap.size) (x : Fk) (hz : l.length ≤ 1000000) :
    ∃ ad cap w', (Builtin.append_ #[49, 49] 49 #[v, .slice (some ⟨X.heap.size, 0, none⟩) 1 1]).run Try.prog (X.alloc (.cells #[.int .i64 x.id, .string x.nm, .int .i64 x.col, .int .i64 x.par, .int .i64 x.st] 60)) = .ok (.slice ad (l.length + 1) cap) w' ∧ w'.ownsRow B 60 5 (.slice ad (l.length + 1) cap) (l ++ [x]).length ((l ++ [x]).flatMap fkL) ∧ Below B X w' := by
  have hal := bnew X (.cells #[.int .i64 x.id, .string x.nm, .int .i64 x.col, .int .i64 x.par, .int .i64 x.st] 60)
  have hj := heap_alloc_new X (.cells #[.int .i64 x.id, .string x.nm, .int .i64 x.col, .int .i64 x.par, .int .i64 x.st] 60)
  obtain ⟨ad, cap, w', h1, h2, h3, h4⟩ := run_fk (m := 1) (c := 1) (news := fkL x) (own_below ho hal) (Nat.le_trans hB hal.size) (.inr ⟨_, rfl, rfl, fun j u hu => by
    rw [add_at, Nat.zero_add, cell_blk hj]
    simpa using hu⟩) (fun u hu => by
      simp at hu
      rcases hu with rfl | rfl | rfl | rfl | rfl <;> rfl) (by omega)
  refine ⟨ad, cap, w', h1, by simpa using h2, (hal.mono hB).grown h3 (Nat.le_trans hB hal.size) (fun k hk => (own_ge ho k hk).1)⟩
set_option maxHeartbeats 4000000 in
set_option maxRecDepth 100000 in
theorem publK_any {L : List Fk} {v : Value} (hL : Lr fkE 5 w L v) (hz : L.length ≤ 1000000) : Calls Try.prog 36 #[v, .func (.func 37) #[] #[]] w fun e w' => ∃ ad cap, e = .returned (.slice ad (seK L).length cap) ∧ w'.ownsRow w.heap.size 60 5 (.slice ad (seK L).length cap) (seK L).length ((seK L).flatMap fkL) ∧ Below w.heap.size w w' := by
  obtain ⟨ad, cap, rfl, _, z1, z2, hX⟩ := hL
  have hmx : (L.length : Int) ≤ 9223372036854775807 := by unfold maxLen at z2; omega
  have HX := Lib.hid hX
  have HZ := Lib.hid hz
  obtain ⟨n, hn⟩ : ∃ n, L.length = n := ⟨_, rfl⟩
  rw [hn] at hmx ⊢
  have HN := Lib.hid hn
  clear hX z1 z2 hz hn
  go_enter Try.func36, Try.ntmps36
  go_wp2
  go_loopw [5, 9] (fun ov iv wr => ∃ i : Nat, i ≤ n ∧ iv = .int .i64 (i : Int) ∧ wr.ownsRow w.heap.size 60 5 ov (seK (L.take i)).length ((seK (L.take i)).flatMap fkL) ∧ Below w.heap.size w wr) (fun _ iv _ => n - (intOf iv).toNat)
  case atStart => exact ⟨0, Nat.zero_le _, rfl, World.ownsRow_nil _ _ 60 5, Below.refl _ _⟩
  case round =>
    obtain ⟨i, hi, rfl, ho, hb⟩ := hrel
    obtain ⟨V, rfl⟩ : ∃ V, V = wr := ⟨_, rfl⟩
    have HB := Lib.hid hb
    have HO := Lib.hid ho
    obtain ⟨nad, ncap, hsh⟩ := own_shape ho
    have hml : (seK (L.take i)).length ≤ 1000000 := by
      have q1 : (seK (L.take i)).length ≤ (L.take i).length := List.length_filter_le _ _
      have q2 : (L.take i).length ≤ L.length := by rw [List.length_take]; omega
      have q3 := HZ.out
      omega
    have HML := Lib.hid hml
    obtain ⟨m, hm⟩ : ∃ m, (seK (L.take i)).length = m := ⟨_, rfl⟩
    rw [hm] at hsh
    subst hsh
    have HM := Lib.hid hm
    clear ho hml hm
    by_cases hlt : i < n
    · have hiL : i < L.length := by rw [HN.out]; exact hlt
      have k0 : (0 : Int) ≤ i := by omega
      have k1 : (i : Int) < n := by omega
      obtain ⟨b, p, cs, rfl, hbl, hE, _, hcell⟩ := HX.out i hiL
      cases hE
      have hnx := seK_next hiL
      obtain ⟨x, hx⟩ : ∃ x, L[i] = x := ⟨_, rfl⟩
      rw [hx] at hcell hnx
      have HNX := Lib.hid hnx
      have hcall := ofK_any (w := V) (B := b) (q := p + i * 5) (x := x) ⟨_, rfl, fun j u hu => cell_on hb (hcell j u hu)⟩
      have hfd := field156_2
      have c0 : V.cell? ⟨b, p + i * 5, none⟩ = some (.int .i64 x.id) := cell_on hb (hcell 0 _ rfl)
      have c1 : V.cell? ⟨b, p + i * 5 + 1, none⟩ = some (.string x.nm) := cell_on hb (hcell 1 _ rfl)
      have c2 : V.cell? ⟨b, p + i * 5 + 2, none⟩ = some (.int .i64 x.col) := cell_on hb (hcell 2 _ rfl)
      have c3 : V.cell? ⟨b, p + i * 5 + 3, none⟩ = some (.int .i64 x.par) := cell_on hb (hcell 3 _ rfl)
      have c4 : V.cell? ⟨b, p + i * 5 + 4, none⟩ = some (.int .i64 x.st) := cell_on hb (hcell 4 _ rfl)
      clear hx hnx hcell hbl hb
      go_wp2_with (go_at_call 37; refine hcall.mono ?_; rintro e w1 ⟨rfl, b1⟩; refine Hid.out ?_)
      refine Lib.hid ?_
      have y := cell_on b1 c4
      have B1 := Lib.hid b1
      have HBN := Lib.hid (bgo HB.out b1)
      obtain ⟨st, hst⟩ : ∃ st, x.st = st := ⟨_, rfl⟩
      rw [hst] at y HNX
      by_cases q : st = 3
      · subst q
        have HN3 : Hid (seK (L.take (i + 1)) = seK (L.take i) ++ [x]) := Lib.hid (by rw [HNX.out, if_pos rfl])
        obtain ⟨nad2, ncap2, w2, hrun, r1, r2⟩ := pushBK (X := w1) (own_below HO.out b1) (bgo HB.out b1).size x HML.out
        rw [← HN3.out] at r1
        rw [HM.out] at hrun r1
        have hl2 : (seK (L.take (i + 1))).length = m + 1 := by rw [HN3.out, List.length_append, HM.out]; rfl
        have R1 := Lib.hid r1
        have R2 := Lib.hid (HBN.out.trans r2)
        have u0 := cell_on b1 c0
        have u1 := cell_on b1 c1
        have u2 := cell_on b1 c2
        have u3 := cell_on b1 c3
        have u4 := cell_on b1 c4
        rw [hst] at u4
        have hrun' : (Builtin.append_ #[49, 49] 49 #[.slice nad m ncap, .slice (some ⟨w1.heap.size, 0, none⟩) 1 1]).run Try.prog (w1.alloc (.cells #[.int .i64 x.id, .string x.nm, .int .i64 x.col, .int .i64 x.par, .int .i64 3] 60)) = .ok (.slice nad2 (m + 1) ncap2) w2 := by
          rw [← hst]
          exact hrun
        clear b1 c0 c1 c2 c3 c4 hcall hst r1 r2 hrun
        go_wp2_with (at_builtin; refine wpl_run2 _ _ rfl (by simp [Act.eval]) (by simp [Act.eval]) hrun' ?_)
        go_roundw
        case rel => exact ⟨i + 1, hlt, by go_num, R1.out, R2.out⟩
        case measure => simp [intOf]; omega
      · have HN3 : Hid (seK (L.take (i + 1)) = seK (L.take i)) := Lib.hid (by rw [HNX.out, if_neg q])
        have R1 : Hid (w1.ownsRow w.heap.size 60 5 (.slice nad m ncap) (seK (L.take (i + 1))).length ((seK (L.take (i + 1))).flatMap fkL)) := by rw [HN3.out]; exact Lib.hid (own_below HO.out b1)
        clear b1 c0 c1 c2 c3 c4 hcall hst
        go_wp2
        go_roundw
        case rel => exact ⟨i + 1, hlt, by go_num, R1.out, HBN.out⟩
        case measure => simp [intOf]; omega
    · have k1 : ¬ (i : Int) < n := by omega
      have ei : L.take i = L := List.take_of_length_le (by rw [HN.out]; omega)
      have ho := HO.out
      rw [ei] at ho
      have hm := HM.out
      rw [ei] at hm
      have HO2 := Lib.hid ho
      have HM2 := Lib.hid hm
      clear ho hm hb ei
      go_wp2
      go_ret
      exact ⟨nad, ncap, by rw [HM2.out]; rfl, by
        have := HO2.out
        rw [HM2.out] at this ⊢
        exact this, HB.out⟩
end
end Go.Proofs.Ytongmhfpoopebaa
