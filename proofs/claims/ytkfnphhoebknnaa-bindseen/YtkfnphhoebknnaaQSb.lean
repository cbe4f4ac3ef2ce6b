import Derived.Test.YtkfnphhoebknnaaQBp
import Derived.Test.YtkfnphhoebknnaaQBk
namespace Go.Proofs.Ytkfnphhoebknnaa
open Go.RowKit Go.Maps
def seC (l : List Col) : List Col := l.filter (fun x => decide (x.st = 3))
def seI (l : List Ix) : List Ix := l.filter (fun x => decide (x.st = 3))
def seK (l : List Fk) : List Fk := l.filter (fun x => decide (x.st = 3))
def seenP (t : Tb) : Tb := ⟨t.id, t.nm, seC t.cols, seI t.ixs, seK t.fks⟩
def seenS (s : Sc) : Sc := ⟨s.ver, s.last, s.tabs.map seenP⟩
section
variable {w : World}
theorem seC_next {L : List Col} {i : Nat} (h : i < L.length) : seC (L.take (i + 1)) = if L[i].st = 3 then seC (L.take i) ++ [L[i]] else seC (L.take i) := by
  unfold seC
  rw [List.take_succ_eq_append_getElem h, List.filter_append]
  by_cases q : L[i].st = 3
  · simp [q]
  · simp [q]
theorem pushBC {X : World} {B : Nat} {l : List Col} {v : Value} (ho : X.ownsRow B 65 7 v l.length (l.flatMap colL)) (hB : B ≤ X.heap.size) (x : Col) (hz : l.length ≤ 1000000) :
    ∃ ad cap w', (Builtin.append_ #[42, 42] 42 #[v, .slice (some ⟨X.heap.size, 0, none⟩) 1 1]).run Try.prog (X.alloc (.cells #[.int .i64 x.id, .string x.nm, .int .i64 x.kd, .int .i64 x.st, .int .i64 x.df.k, .int .i64 x.df.n, .string x.df.s] 65)) = .ok (.slice ad (l.length + 1) cap) w' ∧ w'.ownsRow B 65 7 (.slice ad (l.length + 1) cap) (l ++ [x]).length ((l ++ [x]).flatMap colL) ∧ Below B X w' := by
  have hal := bnew X (.cells #[.int .i64 x.id, .string x.nm, .int .i64 x.kd, .int .i64 x.st, .int .i64 x.df.k, .int .i64 x.df.n, .string x.df.s] 65)
  have hj := heap_alloc_new X (.cells #[.int .i64 x.id, .string x.nm, .int .i64 x.kd, .int .i64 x.st, .int .i64 x.df.k, .int .i64 x.df.n, .string x.df.s] 65)
  obtain ⟨ad, cap, w', h1, h2, h3, h4⟩ := run_col (m := 1) (c := 1) (news := colL x) (own_below ho hal) (Nat.le_trans hB hal.size) (.inr ⟨_, rfl, rfl, fun j u hu => by
    rw [add_at, Nat.zero_add, cell_blk hj]
    simpa using hu⟩) (fun u hu => by
      simp at hu
      rcases hu with rfl | rfl | rfl | rfl | rfl | rfl | rfl <;> rfl) (by omega)
  refine ⟨ad, cap, w', h1, by simpa using h2, (hal.mono hB).grown h3 (Nat.le_trans hB hal.size) (fun k hk => (own_ge ho k hk).1)⟩
set_option maxHeartbeats 4000000 in
set_option maxRecDepth 100000 in
theorem publC_any {L : List Col} {v : Value} (hL : Lr colE 7 w L v) (hz : L.length ≤ 1000000) : Calls Try.prog 55 #[v, .func (.func 56) #[] #[]] w fun e w' => ∃ ad cap, e = .returned (.slice ad (seC L).length cap) ∧ w'.ownsRow w.heap.size 65 7 (.slice ad (seC L).length cap) (seC L).length ((seC L).flatMap colL) ∧ Below w.heap.size w w' := by
  obtain ⟨ad, cap, rfl, _, z1, z2, hX⟩ := hL
  have hmx : (L.length : Int) ≤ 9223372036854775807 := by unfold maxLen at z2; omega
  have HX := Lib.hid hX
  have HZ := Lib.hid hz
  obtain ⟨n, hn⟩ : ∃ n, L.length = n := ⟨_, rfl⟩
  rw [hn] at hmx ⊢
  have HN := Lib.hid hn
  clear hX z1 z2 hz hn
  go_enter Try.func55, Try.ntmps55
  go_wp2
  go_loopw [5, 9] (fun ov iv wr => ∃ i : Nat, i ≤ n ∧ iv = .int .i64 (i : Int) ∧ wr.ownsRow w.heap.size 65 7 ov (seC (L.take i)).length ((seC (L.take i)).flatMap colL) ∧ Below w.heap.size w wr) (fun _ iv _ => n - (intOf iv).toNat)
  case atStart => exact ⟨0, Nat.zero_le _, rfl, World.ownsRow_nil _ _ 65 7, Below.refl _ _⟩
  case round =>
    obtain ⟨i, hi, rfl, ho, hb⟩ := hrel
    obtain ⟨V, rfl⟩ : ∃ V, V = wr := ⟨_, rfl⟩
    have HB := Lib.hid hb
    have HO := Lib.hid ho
    obtain ⟨nad, ncap, hsh⟩ := own_shape ho
    have hml : (seC (L.take i)).length ≤ 1000000 := by
      have q1 : (seC (L.take i)).length ≤ (L.take i).length := List.length_filter_le _ _
      have q2 : (L.take i).length ≤ L.length := by rw [List.length_take]; omega
      have q3 := HZ.out
      omega
    have HML := Lib.hid hml
    obtain ⟨m, hm⟩ : ∃ m, (seC (L.take i)).length = m := ⟨_, rfl⟩
    rw [hm] at hsh
    subst hsh
    have HM := Lib.hid hm
    clear ho hml hm
    by_cases hlt : i < n
    · have hiL : i < L.length := by rw [HN.out]; exact hlt
      have k0 : (0 : Int) ≤ i := by omega
      have k1 : (i : Int) < n := by omega
      obtain ⟨b, p, cs, rfl, hbl, hE, _, hcell⟩ := HX.out i hiL
      cases hE
      have hnx := seC_next hiL
      obtain ⟨x, hx⟩ : ∃ x, L[i] = x := ⟨_, rfl⟩
      rw [hx] at hcell hnx
      have HNX := Lib.hid hnx
      have hcall := ofC_any (w := V) (B := b) (q := p + i * 7) (x := x) ⟨_, rfl, fun j u hu => cell_on hb (hcell j u hu)⟩
      have hfd := field156_2
      have c0 : V.cell? ⟨b, p + i * 7, none⟩ = some (.int .i64 x.id) := cell_on hb (hcell 0 _ rfl)
      have c1 : V.cell? ⟨b, p + i * 7 + 1, none⟩ = some (.string x.nm) := cell_on hb (hcell 1 _ rfl)
      have c2 : V.cell? ⟨b, p + i * 7 + 2, none⟩ = some (.int .i64 x.kd) := cell_on hb (hcell 2 _ rfl)
      have c3 : V.cell? ⟨b, p + i * 7 + 3, none⟩ = some (.int .i64 x.st) := cell_on hb (hcell 3 _ rfl)
      have c4 : V.cell? ⟨b, p + i * 7 + 4, none⟩ = some (.int .i64 x.df.k) := cell_on hb (hcell 4 _ rfl)
      have c5 : V.cell? ⟨b, p + i * 7 + 5, none⟩ = some (.int .i64 x.df.n) := cell_on hb (hcell 5 _ rfl)
      have c6 : V.cell? ⟨b, p + i * 7 + 6, none⟩ = some (.string x.df.s) := cell_on hb (hcell 6 _ rfl)
      clear hx hnx hcell hbl hb
      go_wp2_with (go_at_call 56; refine hcall.mono ?_; rintro e w1 ⟨rfl, b1⟩; refine Hid.out ?_)
      refine Lib.hid ?_
      have y := cell_on b1 c3
      have B1 := Lib.hid b1
      have HBN := Lib.hid (bgo HB.out b1)
      obtain ⟨st, hst⟩ : ∃ st, x.st = st := ⟨_, rfl⟩
      rw [hst] at y HNX
      by_cases q : st = 3
      · subst q
        have HN3 : Hid (seC (L.take (i + 1)) = seC (L.take i) ++ [x]) := Lib.hid (by rw [HNX.out, if_pos rfl])
        obtain ⟨nad2, ncap2, w2, hrun, r1, r2⟩ := pushBC (X := w1) (own_below HO.out b1) (bgo HB.out b1).size x HML.out
        rw [← HN3.out] at r1
        rw [HM.out] at hrun r1
        have hl2 : (seC (L.take (i + 1))).length = m + 1 := by rw [HN3.out, List.length_append, HM.out]; rfl
        have R1 := Lib.hid r1
        have R2 := Lib.hid (HBN.out.trans r2)
        have u0 := cell_on b1 c0
        have u1 := cell_on b1 c1
        have u2 := cell_on b1 c2
        have u3 := cell_on b1 c3
        have u4 := cell_on b1 c4
        have u5 := cell_on b1 c5
        have u6 := cell_on b1 c6
        rw [hst] at u3
        have hrun' : (Builtin.append_ #[42, 42] 42 #[.slice nad m ncap, .slice (some ⟨w1.heap.size, 0, none⟩) 1 1]).run Try.prog (w1.alloc (.cells #[.int .i64 x.id, .string x.nm, .int .i64 x.kd, .int .i64 3, .int .i64 x.df.k, .int .i64 x.df.n, .string x.df.s] 65)) = .ok (.slice nad2 (m + 1) ncap2) w2 := by
          rw [← hst]
          exact hrun
        clear b1 c0 c1 c2 c3 c4 c5 c6 hcall hst r1 r2 hrun
        go_wp2_with (at_builtin; refine wpl_run2 _ _ rfl (by simp [Act.eval]) (by simp [Act.eval]) hrun' ?_)
        go_roundw
        case rel => exact ⟨i + 1, hlt, by go_num, R1.out, R2.out⟩
        case measure => simp [intOf]; omega
      · have HN3 : Hid (seC (L.take (i + 1)) = seC (L.take i)) := Lib.hid (by rw [HNX.out, if_neg q])
        have R1 : Hid (w1.ownsRow w.heap.size 65 7 (.slice nad m ncap) (seC (L.take (i + 1))).length ((seC (L.take (i + 1))).flatMap colL)) := by rw [HN3.out]; exact Lib.hid (own_below HO.out b1)
        clear b1 c0 c1 c2 c3 c4 c5 c6 hcall hst
        go_wp2
        go_roundw
        case rel => exact ⟨i + 1, hlt, by go_num, R1.out, HBN.out⟩
        case measure => simp [intOf]; omega
    · have k1 : ¬ (i : Int) < n := by omega
      have ei : L.take i = L := List.take_of_length_le (by rw [HN.out]; omega)
      have ho := HO.out
      rw [ei] at ho
      have hm := HM.out
      rw [ei] at hm
      have HO2 := Lib.hid ho
      have HM2 := Lib.hid hm
      clear ho hm hb ei
      go_wp2
      go_ret
      exact ⟨nad, ncap, by rw [HM2.out]; rfl, by
        have := HO2.out
        rw [HM2.out] at this ⊢
        exact this, HB.out⟩
theorem seI_next {L : List Ix} {i : Nat} (h : i < L.length) : seI (L.take (i + 1)) = if L[i].st = 3 then seI (L.take i) ++ [L[i]] else seI (L.take i) := by
  unfold seI
  rw [List.take_succ_eq_append_getElem h, List.filter_append]
  by_cases q : L[i].st = 3
  · simp [q]
  · simp [q]
theorem pushBI {X : World} {B : Nat} {l : List Ix} {v : Value} (ho : X.ownsRow B 70 5 v l.length (l.flatMap ixL)) (hB : B ≤ X.heap.size) (x : Ix) (hz : l.length ≤ 1000000) :
    ∃ ad cap w', (Builtin.append_ #[51, 51] 51 #[v, .slice (some ⟨X.heap.size, 0, none⟩) 1 1]).run Try.prog (X.alloc (.cells #[.int .i64 x.id, .string x.nm, .int .i64 x.col, .bool x.uq, .int .i64 x.st] 70)) = .ok (.slice ad (l.length + 1) cap) w' ∧ w'.ownsRow B 70 5 (.slice ad (l.length + 1) cap) (l ++ [x]).length ((l ++ [x]).flatMap ixL) ∧ Below B X w' := by
  have hal := bnew X (.cells #[.int .i64 x.id, .string x.nm, .int .i64 x.col, .bool x.uq, .int .i64 x.st] 70)
  have hj := heap_alloc_new X (.cells #[.int .i64 x.id, .string x.nm, .int .i64 x.col, .bool x.uq, .int .i64 x.st] 70)
  obtain ⟨ad, cap, w', h1, h2, h3, h4⟩ := run_ix (m := 1) (c := 1) (news := ixL x) (own_below ho hal) (Nat.le_trans hB hal.size) (.inr ⟨_, rfl, rfl, fun j u hu => by
    rw [add_at, Nat.zero_add, cell_blk hj]
    simpa using hu⟩) (fun u hu => by
      simp at hu
      rcases hu with rfl | rfl | rfl | rfl | rfl <;> rfl) (by omega)
  refine ⟨ad, cap, w', h1, by simpa using h2, (hal.mono hB).grown h3 (Nat.le_trans hB hal.size) (fun k hk => (own_ge ho k hk).1)⟩
set_option maxHeartbeats 4000000 in
set_option maxRecDepth 100000 in
theorem publI_any {L : List Ix} {v : Value} (hL : Lr ixE 5 w L v) (hz : L.length ≤ 1000000) : Calls Try.prog 57 #[v, .func (.func 58) #[] #[]] w fun e w' => ∃ ad cap, e = .returned (.slice ad (seI L).length cap) ∧ w'.ownsRow w.heap.size 70 5 (.slice ad (seI L).length cap) (seI L).length ((seI L).flatMap ixL) ∧ Below w.heap.size w w' := by
  obtain ⟨ad, cap, rfl, _, z1, z2, hX⟩ := hL
  have hmx : (L.length : Int) ≤ 9223372036854775807 := by unfold maxLen at z2; omega
  have HX := Lib.hid hX
  have HZ := Lib.hid hz
  obtain ⟨n, hn⟩ : ∃ n, L.length = n := ⟨_, rfl⟩
  rw [hn] at hmx ⊢
  have HN := Lib.hid hn
  clear hX z1 z2 hz hn
  go_enter Try.func57, Try.ntmps57
  go_wp2
  go_loopw [5, 9] (fun ov iv wr => ∃ i : Nat, i ≤ n ∧ iv = .int .i64 (i : Int) ∧ wr.ownsRow w.heap.size 70 5 ov (seI (L.take i)).length ((seI (L.take i)).flatMap ixL) ∧ Below w.heap.size w wr) (fun _ iv _ => n - (intOf iv).toNat)
  case atStart => exact ⟨0, Nat.zero_le _, rfl, World.ownsRow_nil _ _ 70 5, Below.refl _ _⟩
  case round =>
    obtain ⟨i, hi, rfl, ho, hb⟩ := hrel
    obtain ⟨V, rfl⟩ : ∃ V, V = wr := ⟨_, rfl⟩
    have HB := Lib.hid hb
    have HO := Lib.hid ho
    obtain ⟨nad, ncap, hsh⟩ := own_shape ho
    have hml : (seI (L.take i)).length ≤ 1000000 := by
      have q1 : (seI (L.take i)).length ≤ (L.take i).length := List.length_filter_le _ _
      have q2 : (L.take i).length ≤ L.length := by rw [List.length_take]; omega
      have q3 := HZ.out
      omega
    have HML := Lib.hid hml
    obtain ⟨m, hm⟩ : ∃ m, (seI (L.take i)).length = m := ⟨_, rfl⟩
    rw [hm] at hsh
    subst hsh
    have HM := Lib.hid hm
    clear ho hml hm
    by_cases hlt : i < n
    · have hiL : i < L.length := by rw [HN.out]; exact hlt
      have k0 : (0 : Int) ≤ i := by omega
      have k1 : (i : Int) < n := by omega
      obtain ⟨b, p, cs, rfl, hbl, hE, _, hcell⟩ := HX.out i hiL
      cases hE
      have hnx := seI_next hiL
      obtain ⟨x, hx⟩ : ∃ x, L[i] = x := ⟨_, rfl⟩
      rw [hx] at hcell hnx
      have HNX := Lib.hid hnx
      have hcall := ofI_any (w := V) (B := b) (q := p + i * 5) (x := x) ⟨_, rfl, fun j u hu => cell_on hb (hcell j u hu)⟩
      have hfd := field156_2
      have c0 : V.cell? ⟨b, p + i * 5, none⟩ = some (.int .i64 x.id) := cell_on hb (hcell 0 _ rfl)
      have c1 : V.cell? ⟨b, p + i * 5 + 1, none⟩ = some (.string x.nm) := cell_on hb (hcell 1 _ rfl)
      have c2 : V.cell? ⟨b, p + i * 5 + 2, none⟩ = some (.int .i64 x.col) := cell_on hb (hcell 2 _ rfl)
      have c3 : V.cell? ⟨b, p + i * 5 + 3, none⟩ = some (.bool x.uq) := cell_on hb (hcell 3 _ rfl)
      have c4 : V.cell? ⟨b, p + i * 5 + 4, none⟩ = some (.int .i64 x.st) := cell_on hb (hcell 4 _ rfl)
      clear hx hnx hcell hbl hb
      go_wp2_with (go_at_call 58; refine hcall.mono ?_; rintro e w1 ⟨rfl, b1⟩; refine Hid.out ?_)
      refine Lib.hid ?_
      have y := cell_on b1 c4
      have B1 := Lib.hid b1
      have HBN := Lib.hid (bgo HB.out b1)
      obtain ⟨st, hst⟩ : ∃ st, x.st = st := ⟨_, rfl⟩
      rw [hst] at y HNX
      by_cases q : st = 3
      · subst q
        have HN3 : Hid (seI (L.take (i + 1)) = seI (L.take i) ++ [x]) := Lib.hid (by rw [HNX.out, if_pos rfl])
        obtain ⟨nad2, ncap2, w2, hrun, r1, r2⟩ := pushBI (X := w1) (own_below HO.out b1) (bgo HB.out b1).size x HML.out
        rw [← HN3.out] at r1
        rw [HM.out] at hrun r1
        have hl2 : (seI (L.take (i + 1))).length = m + 1 := by rw [HN3.out, List.length_append, HM.out]; rfl
        have R1 := Lib.hid r1
        have R2 := Lib.hid (HBN.out.trans r2)
        have u0 := cell_on b1 c0
        have u1 := cell_on b1 c1
        have u2 := cell_on b1 c2
        have u3 := cell_on b1 c3
        have u4 := cell_on b1 c4
        rw [hst] at u4
        have hrun' : (Builtin.append_ #[51, 51] 51 #[.slice nad m ncap, .slice (some ⟨w1.heap.size, 0, none⟩) 1 1]).run Try.prog (w1.alloc (.cells #[.int .i64 x.id, .string x.nm, .int .i64 x.col, .bool x.uq, .int .i64 3] 70)) = .ok (.slice nad2 (m + 1) ncap2) w2 := by
          rw [← hst]
          exact hrun
        clear b1 c0 c1 c2 c3 c4 hcall hst r1 r2 hrun
        go_wp2_with (at_builtin; refine wpl_run2 _ _ rfl (by simp [Act.eval]) (by simp [Act.eval]) hrun' ?_)
        go_roundw
        case rel => exact ⟨i + 1, hlt, by go_num, R1.out, R2.out⟩
        case measure => simp [intOf]; omega
      · have HN3 : Hid (seI (L.take (i + 1)) = seI (L.take i)) := Lib.hid (by rw [HNX.out, if_neg q])
        have R1 : Hid (w1.ownsRow w.heap.size 70 5 (.slice nad m ncap) (seI (L.take (i + 1))).length ((seI (L.take (i + 1))).flatMap ixL)) := by rw [HN3.out]; exact Lib.hid (own_below HO.out b1)
        clear b1 c0 c1 c2 c3 c4 hcall hst
        go_wp2
        go_roundw
        case rel => exact ⟨i + 1, hlt, by go_num, R1.out, HBN.out⟩
        case measure => simp [intOf]; omega
    · have k1 : ¬ (i : Int) < n := by omega
      have ei : L.take i = L := List.take_of_length_le (by rw [HN.out]; omega)
      have ho := HO.out
      rw [ei] at ho
      have hm := HM.out
      rw [ei] at hm
      have HO2 := Lib.hid ho
      have HM2 := Lib.hid hm
      clear ho hm hb ei
      go_wp2
      go_ret
      exact ⟨nad, ncap, by rw [HM2.out]; rfl, by
        have := HO2.out
        rw [HM2.out] at this ⊢
        exact this, HB.out⟩
theorem seK_next {L : List Fk} {i : Nat} (h : i < L.length) : seK (L.take (i + 1)) = if L[i].st = 3 then seK (L.take i) ++ [L[i]] else seK (L.take i) := by
  unfold seK
  rw [List.take_succ_eq_append_getElem h, List.filter_append]
  by_cases q : L[i].st = 3
  · simp [q]
  · simp [q]
theorem pushBK {X : World} {B : Nat} {l : List Fk} {v : Value} (ho : X.ownsRow B 73 5 v l.length (l.flatMap fkL)) (hB : B ≤ X.heap.size) (x : Fk) (hz : l.length ≤ 1000000) :
    ∃ ad cap w', (Builtin.append_ #[52, 52] 52 #[v, .slice (some ⟨X.heap.size, 0, none⟩) 1 1]).run Try.prog (X.alloc (.cells #[.int .i64 x.id, .string x.nm, .int .i64 x.col, .int .i64 x.par, .int .i64 x.st] 73)) = .ok (.slice ad (l.length + 1) cap) w' ∧ w'.ownsRow B 73 5 (.slice ad (l.length + 1) cap) (l ++ [x]).length ((l ++ [x]).flatMap fkL) ∧ Below B X w' := by
  have hal := bnew X (.cells #[.int .i64 x.id, .string x.nm, .int .i64 x.col, .int .i64 x.par, .int .i64 x.st] 73)
  have hj := heap_alloc_new X (.cells #[.int .i64 x.id, .string x.nm, .int .i64 x.col, .int .i64 x.par, .int .i64 x.st] 73)
  obtain ⟨ad, cap, w', h1, h2, h3, h4⟩ := run_fk (m := 1) (c := 1) (news := fkL x) (own_below ho hal) (Nat.le_trans hB hal.size) (.inr ⟨_, rfl, rfl, fun j u hu => by
    rw [add_at, Nat.zero_add, cell_blk hj]
    simpa using hu⟩) (fun u hu => by
      simp at hu
      rcases hu with rfl | rfl | rfl | rfl | rfl <;> rfl) (by omega)
  refine ⟨ad, cap, w', h1, by simpa using h2, (hal.mono hB).grown h3 (Nat.le_trans hB hal.size) (fun k hk => (own_ge ho k hk).1)⟩
set_option maxHeartbeats 4000000 in
set_option maxRecDepth 100000 in
theorem publK_any {L : List Fk} {v : Value} (hL : Lr fkE 5 w L v) (hz : L.length ≤ 1000000) : Calls Try.prog 59 #[v, .func (.func 60) #[] #[]] w fun e w' => ∃ ad cap, e = .returned (.slice ad (seK L).length cap) ∧ w'.ownsRow w.heap.size 73 5 (.slice ad (seK L).length cap) (seK L).length ((seK L).flatMap fkL) ∧ Below w.heap.size w w' := by
  obtain ⟨ad, cap, rfl, _, z1, z2, hX⟩ := hL
  have hmx : (L.length : Int) ≤ 9223372036854775807 := by unfold maxLen at z2; omega
  have HX := Lib.hid hX
  have HZ := Lib.hid hz
  obtain ⟨n, hn⟩ : ∃ n, L.length = n := ⟨_, rfl⟩
  rw [hn] at hmx ⊢
  have HN := Lib.hid hn
  clear hX z1 z2 hz hn
  go_enter Try.func59, Try.ntmps59
  go_wp2
  go_loopw [5, 9] (fun ov iv wr => ∃ i : Nat, i ≤ n ∧ iv = .int .i64 (i : Int) ∧ wr.ownsRow w.heap.size 73 5 ov (seK (L.take i)).length ((seK (L.take i)).flatMap fkL) ∧ Below w.heap.size w wr) (fun _ iv _ => n - (intOf iv).toNat)
  case atStart => exact ⟨0, Nat.zero_le _, rfl, World.ownsRow_nil _ _ 73 5, Below.refl _ _⟩
  case round =>
    obtain ⟨i, hi, rfl, ho, hb⟩ := hrel
    obtain ⟨V, rfl⟩ : ∃ V, V = wr := ⟨_, rfl⟩
    have HB := Lib.hid hb
    have HO := Lib.hid ho
    obtain ⟨nad, ncap, hsh⟩ := own_shape ho
    have hml : (seK (L.take i)).length ≤ 1000000 := by
      have q1 : (seK (L.take i)).length ≤ (L.take i).length := List.length_filter_le _ _
      have q2 : (L.take i).length ≤ L.length := by rw [List.length_take]; omega
      have q3 := HZ.out
      omega
    have HML := Lib.hid hml
    obtain ⟨m, hm⟩ : ∃ m, (seK (L.take i)).length = m := ⟨_, rfl⟩
    rw [hm] at hsh
    subst hsh
    have HM := Lib.hid hm
    clear ho hml hm
    by_cases hlt : i < n
    · have hiL : i < L.length := by rw [HN.out]; exact hlt
      have k0 : (0 : Int) ≤ i := by omega
      have k1 : (i : Int) < n := by omega
      obtain ⟨b, p, cs, rfl, hbl, hE, _, hcell⟩ := HX.out i hiL
      cases hE
      have hnx := seK_next hiL
      obtain ⟨x, hx⟩ : ∃ x, L[i] = x := ⟨_, rfl⟩
      rw [hx] at hcell hnx
      have HNX := Lib.hid hnx
      have hcall := ofK_any (w := V) (B := b) (q := p + i * 5) (x := x) ⟨_, rfl, fun j u hu => cell_on hb (hcell j u hu)⟩
      have hfd := field156_2
      have c0 : V.cell? ⟨b, p + i * 5, none⟩ = some (.int .i64 x.id) := cell_on hb (hcell 0 _ rfl)
      have c1 : V.cell? ⟨b, p + i * 5 + 1, none⟩ = some (.string x.nm) := cell_on hb (hcell 1 _ rfl)
      have c2 : V.cell? ⟨b, p + i * 5 + 2, none⟩ = some (.int .i64 x.col) := cell_on hb (hcell 2 _ rfl)
      have c3 : V.cell? ⟨b, p + i * 5 + 3, none⟩ = some (.int .i64 x.par) := cell_on hb (hcell 3 _ rfl)
      have c4 : V.cell? ⟨b, p + i * 5 + 4, none⟩ = some (.int .i64 x.st) := cell_on hb (hcell 4 _ rfl)
      clear hx hnx hcell hbl hb
      go_wp2_with (go_at_call 60; refine hcall.mono ?_; rintro e w1 ⟨rfl, b1⟩; refine Hid.out ?_)
      refine Lib.hid ?_
      have y := cell_on b1 c4
      have B1 := Lib.hid b1
      have HBN := Lib.hid (bgo HB.out b1)
      obtain ⟨st, hst⟩ : ∃ st, x.st = st := ⟨_, rfl⟩
      rw [hst] at y HNX
      by_cases q : st = 3
      · subst q
        have HN3 : Hid (seK (L.take (i + 1)) = seK (L.take i) ++ [x]) := Lib.hid (by rw [HNX.out, if_pos rfl])
        obtain ⟨nad2, ncap2, w2, hrun, r1, r2⟩ := pushBK (X := w1) (own_below HO.out b1) (bgo HB.out b1).size x HML.out
        rw [← HN3.out] at r1
        rw [HM.out] at hrun r1
        have hl2 : (seK (L.take (i + 1))).length = m + 1 := by rw [HN3.out, List.length_append, HM.out]; rfl
        have R1 := Lib.hid r1
        have R2 := Lib.hid (HBN.out.trans r2)
        have u0 := cell_on b1 c0
        have u1 := cell_on b1 c1
        have u2 := cell_on b1 c2
        have u3 := cell_on b1 c3
        have u4 := cell_on b1 c4
        rw [hst] at u4
        have hrun' : (Builtin.append_ #[52, 52] 52 #[.slice nad m ncap, .slice (some ⟨w1.heap.size, 0, none⟩) 1 1]).run Try.prog (w1.alloc (.cells #[.int .i64 x.id, .string x.nm, .int .i64 x.col, .int .i64 x.par, .int .i64 3] 73)) = .ok (.slice nad2 (m + 1) ncap2) w2 := by
          rw [← hst]
          exact hrun
        clear b1 c0 c1 c2 c3 c4 hcall hst r1 r2 hrun
        go_wp2_with (at_builtin; refine wpl_run2 _ _ rfl (by simp [Act.eval]) (by simp [Act.eval]) hrun' ?_)
        go_roundw
        case rel => exact ⟨i + 1, hlt, by go_num, R1.out, R2.out⟩
        case measure => simp [intOf]; omega
      · have HN3 : Hid (seK (L.take (i + 1)) = seK (L.take i)) := Lib.hid (by rw [HNX.out, if_neg q])
        have R1 : Hid (w1.ownsRow w.heap.size 73 5 (.slice nad m ncap) (seK (L.take (i + 1))).length ((seK (L.take (i + 1))).flatMap fkL)) := by rw [HN3.out]; exact Lib.hid (own_below HO.out b1)
        clear b1 c0 c1 c2 c3 c4 hcall hst
        go_wp2
        go_roundw
        case rel => exact ⟨i + 1, hlt, by go_num, R1.out, HBN.out⟩
        case measure => simp [intOf]; omega
    · have k1 : ¬ (i : Int) < n := by omega
      have ei : L.take i = L := List.take_of_length_le (by rw [HN.out]; omega)
      have ho := HO.out
      rw [ei] at ho
      have hm := HM.out
      rw [ei] at hm
      have HO2 := Lib.hid ho
      have HM2 := Lib.hid hm
      clear ho hm hb ei
      go_wp2
      go_ret
      exact ⟨nad, ncap, by rw [HM2.out]; rfl, by
        have := HO2.out
        rw [HM2.out] at this ⊢
        exact this, HB.out⟩
end
end Go.Proofs.Ytkfnphhoebknnaa
namespace Go.Proofs.Ytkfnphhoebknnaa
open Go.RowKit
section
variable {w : World}
set_option maxHeartbeats 2000000 in
set_option maxRecDepth 100000 in
theorem seenT_any {t : Tb} {cv iv kv : Value} (h : Three w t cv iv kv) (hz : t.few) : Calls Try.prog 37 #[tbV t cv iv kv] w fun e w' => ∃ cv' iv' kv', e = .returned (tbV (seenP t) cv' iv' kv') ∧ w'.ownsRow w.heap.size 65 7 cv' (seC t.cols).length ((seC t.cols).flatMap colL) ∧ w'.ownsRow w.heap.size 70 5 iv' (seI t.ixs).length ((seI t.ixs).flatMap ixL) ∧ w'.ownsRow w.heap.size 73 5 kv' (seK t.fks).length ((seK t.fks).flatMap fkL) ∧ Below w.heap.size w w' := by
  obtain ⟨hc, hi, hk⟩ := h
  obtain ⟨z1, z2, z3⟩ := hz
  obtain ⟨ca, cc, rfl, rc⟩ := hc
  obtain ⟨ia, ic, rfl, ri⟩ := hi
  obtain ⟨ka, kc, rfl, rk⟩ := hk
  have hc : Lr colE 7 w t.cols (.slice ca t.cols.length cc) := ⟨ca, cc, rfl, rc⟩
  have hi : Lr ixE 5 w t.ixs (.slice ia t.ixs.length ic) := ⟨ia, ic, rfl, ri⟩
  have hk : Lr fkE 5 w t.fks (.slice ka t.fks.length kc) := ⟨ka, kc, rfl, rk⟩
  obtain ⟨W, hW⟩ : ∃ W, W = (w.alloc (.cells #[.int .i64 t.id, .string t.nm, .slice ca t.cols.length cc, .slice ia t.ixs.length ic, .slice ka t.fks.length kc] 54)).alloc (.cells #[.int .i64 0, .string ⟨#[]⟩, .slice none 0 0, .slice none 0 0, .slice none 0 0] 54) := ⟨_, rfl⟩
  have hbW : Below w.heap.size w W := by rw [hW]; exact ((Below.refl _ w).alloc (Nat.le_refl _) _).alloc (by simp) _
  obtain ⟨Y0, hY0⟩ : ∃ Y0, w.heap.size = Y0 := ⟨_, rfl⟩
  obtain ⟨Y1, hY1⟩ : ∃ Y1, Y0 + 1 = Y1 := ⟨_, rfl⟩
  have jY0 : W.heap[Y0]? = some (.cells #[.int .i64 t.id, .string t.nm, .slice ca t.cols.length cc, .slice ia t.ixs.length ic, .slice ka t.fks.length kc] 54 (0, 0)) := by
    have := heap_alloc_new w (.cells #[.int .i64 t.id, .string t.nm, .slice ca t.cols.length cc, .slice ia t.ixs.length ic, .slice ka t.fks.length kc] 54)
    rw [hW, ← hY0]
    rw [Below.heap_alloc _ _ _ (by simp only [World.size_alloc]; omega)]
    exact this
  have jY1 : W.heap[Y1]? = some (.cells #[.int .i64 0, .string ⟨#[]⟩, .slice none 0 0, .slice none 0 0, .slice none 0 0] 54 (0, 0)) := by
    have := heap_alloc_new (w.alloc (.cells #[.int .i64 t.id, .string t.nm, .slice ca t.cols.length cc, .slice ia t.ixs.length ic, .slice ka t.fks.length kc] 54)) (.cells #[.int .i64 0, .string ⟨#[]⟩, .slice none 0 0, .slice none 0 0, .slice none 0 0] 54)
    simp only [World.size_alloc] at this
    rw [hW, ← hY1, ← hY0]
    exact this
  have hge0 : w.heap.size ≤ Y0 := by omega
  have hge1 : w.heap.size ≤ Y1 := by omega
  have hne : Y0 ≠ Y1 := by omega
  have h1 := publC_any (hc.on colE_held hbW) z1
  have HI := Lib.hid hi
  have HK := Lib.hid hk
  have d2 : W.cell? ⟨Y0, 2, none⟩ = some (.slice ca t.cols.length cc) := cell_blk jY0 2
  have J0 := Lib.hid jY0
  have J1 := Lib.hid jY1
  have GE := Lib.hid (And.intro hge0 (And.intro hge1 hne))
  have Z := Lib.hid (And.intro z2 z3)
  have HW := Lib.hid hW
  have HBW := Lib.hid hbW
  have HY0 := Lib.hid hY0
  have HY1 := Lib.hid hY1
  clear hW hbW hY0 hY1
  clear jY0 jY1 hc hi hk rc ri rk z1 z2 z3 hge0 hge1 hne
  go_enter Try.func37, Try.ntmps37
  go_upto_region 1 with fail
  rw [← HW.out, HY0.out, HY1.out]
  go_wp2_with fail
  refine h1.mono ?_
  rintro e w1 ⟨ca', cc', rfl, o1, b1⟩
  have j0 := (b1.block Y0 (blk_lt J0.out)).trans J0.out
  have j1 := (b1.block Y1 (blk_lt J1.out)).trans J1.out
  have e2 : w1.cell? ⟨Y0, 2, none⟩ = some (.slice ca t.cols.length cc) := cell_blk j0 2
  have f2 : w1.frozen? ⟨Y0, 2, none⟩ = false := frozen_blk j0 2
  obtain ⟨X1, hX1⟩ : ∃ X1, X1 = w1.setCell ⟨Y0, 2, none⟩ (.slice ca' (seC t.cols).length cc') := ⟨_, rfl⟩
  have BX1 : Below w.heap.size w X1 := by rw [hX1]; exact (bgo HBW.out b1).setCell GE.out.1 _
  have jX0 : X1.heap[Y0]? = some (.cells #[.int .i64 t.id, .string t.nm, .slice ca' (seC t.cols).length cc', .slice ia t.ixs.length ic, .slice ka t.fks.length kc] 54 (0, 0)) := by rw [hX1]; exact set_blk j0 _
  have jX1 : X1.heap[Y1]? = some (.cells #[.int .i64 0, .string ⟨#[]⟩, .slice none 0 0, .slice none 0 0, .slice none 0 0] 54 (0, 0)) := by rw [hX1, set_other _ (fun q => GE.out.2.2 q.symm)]; exact j1
  have oX1 : X1.ownsRow w.heap.size 65 7 (.slice ca' (seC t.cols).length cc') (seC t.cols).length ((seC t.cols).flatMap colL) := by
    have q := own_mono o1 HBW.out.size
    rw [hX1]
    refine own_like q (fun k hk => set_other _ ?_)
    intro z
    have z1 := (own_ge o1 k hk).1
    rw [z] at z1
    have := blk_lt J0.out
    simp only at z1
    omega
  have h2 := publI_any (HI.out.on ixE_held BX1) Z.out.1
  have d3 : X1.cell? ⟨Y0, 3, none⟩ = some (.slice ia t.ixs.length ic) := cell_blk jX0 3
  have O1 := Lib.hid oX1
  have BX := Lib.hid BX1
  have J0' := Lib.hid jX0
  have J1' := Lib.hid jX1
  have HX1 := Lib.hid hX1
  clear h1 b1 o1 j0 j1 hX1 BX1 jX0 jX1 oX1 d2
  go_upto_region 2 with fail
  rw [← HX1.out]
  go_wp2_with fail
  refine h2.mono ?_
  rintro e w2 ⟨ia', ic', rfl, o2, b2⟩
  have j0 := (b2.block Y0 (blk_lt J0'.out)).trans J0'.out
  have j1 := (b2.block Y1 (blk_lt J1'.out)).trans J1'.out
  have e3 : w2.cell? ⟨Y0, 3, none⟩ = some (.slice ia t.ixs.length ic) := cell_blk j0 3
  have f3 : w2.frozen? ⟨Y0, 3, none⟩ = false := frozen_blk j0 3
  obtain ⟨X2, hX2⟩ : ∃ X2, X2 = w2.setCell ⟨Y0, 3, none⟩ (.slice ia' (seI t.ixs).length ic') := ⟨_, rfl⟩
  have BX2 : Below w.heap.size w X2 := by rw [hX2]; exact (bgo BX.out b2).setCell GE.out.1 _
  have jX0 : X2.heap[Y0]? = some (.cells #[.int .i64 t.id, .string t.nm, .slice ca' (seC t.cols).length cc', .slice ia' (seI t.ixs).length ic', .slice ka t.fks.length kc] 54 (0, 0)) := by rw [hX2]; exact set_blk j0 _
  have jX1 : X2.heap[Y1]? = some (.cells #[.int .i64 0, .string ⟨#[]⟩, .slice none 0 0, .slice none 0 0, .slice none 0 0] 54 (0, 0)) := by rw [hX2, set_other _ (fun q => GE.out.2.2 q.symm)]; exact j1
  have oX1 : X2.ownsRow w.heap.size 65 7 (.slice ca' (seC t.cols).length cc') (seC t.cols).length ((seC t.cols).flatMap colL) := by
    rw [hX2]
    exact own_off (by decide) j0 (own_below O1.out b2)
  have oX2 : X2.ownsRow w.heap.size 70 5 (.slice ia' (seI t.ixs).length ic') (seI t.ixs).length ((seI t.ixs).flatMap ixL) := by
    rw [hX2]
    exact own_off (by decide) j0 (own_mono o2 BX.out.size)
  have h3 := publK_any (HK.out.on fkE_held BX2) Z.out.2
  have d4 : X2.cell? ⟨Y0, 4, none⟩ = some (.slice ka t.fks.length kc) := cell_blk jX0 4
  have P1 := Lib.hid oX1
  have P2 := Lib.hid oX2
  have CX := Lib.hid BX2
  have K0 := Lib.hid jX0
  have K1 := Lib.hid jX1
  have HX2 := Lib.hid hX2
  clear h2 b2 o2 j0 j1 hX2 BX2 jX0 jX1 oX1 oX2 d3 e2 f2
  go_upto_region 3 with fail
  rw [← HX2.out]
  clear e3 f3
  go_wp2_with fail
  refine h3.mono ?_
  rintro e w3 ⟨ka', kc', rfl, o3, b3⟩
  have j0 := (b3.block Y0 (blk_lt K0.out)).trans K0.out
  have j1 := (b3.block Y1 (blk_lt K1.out)).trans K1.out
  have e4 : w3.cell? ⟨Y0, 4, none⟩ = some (.slice ka t.fks.length kc) := cell_blk j0 4
  have f4 : w3.frozen? ⟨Y0, 4, none⟩ = false := frozen_blk j0 4
  obtain ⟨X3, hX3⟩ : ∃ X3, X3 = w3.setCell ⟨Y0, 4, none⟩ (.slice ka' (seK t.fks).length kc') := ⟨_, rfl⟩
  have BX3 : Below w.heap.size w X3 := by rw [hX3]; exact (bgo CX.out b3).setCell GE.out.1 _
  have jX0 : X3.heap[Y0]? = some (.cells (tbA (seenP t) (.slice ca' (seC t.cols).length cc') (.slice ia' (seI t.ixs).length ic') (.slice ka' (seK t.fks).length kc')) 54 (0, 0)) := by rw [hX3]; exact set_blk j0 _
  have jX1 : X3.heap[Y1]? = some (.cells #[.int .i64 0, .string ⟨#[]⟩, .slice none 0 0, .slice none 0 0, .slice none 0 0] 54 (0, 0)) := by rw [hX3, set_other _ (fun q => GE.out.2.2 q.symm)]; exact j1
  have oX1 : X3.ownsRow w.heap.size 65 7 (.slice ca' (seC t.cols).length cc') (seC t.cols).length ((seC t.cols).flatMap colL) := by
    rw [hX3]
    exact own_off (by decide) j0 (own_below P1.out b3)
  have oX2 : X3.ownsRow w.heap.size 70 5 (.slice ia' (seI t.ixs).length ic') (seI t.ixs).length ((seI t.ixs).flatMap ixL) := by
    rw [hX3]
    exact own_off (by decide) j0 (own_below P2.out b3)
  have oX3 : X3.ownsRow w.heap.size 73 5 (.slice ka' (seK t.fks).length kc') (seK t.fks).length ((seK t.fks).flatMap fkL) := by
    rw [hX3]
    exact own_off (by decide) j0 (own_mono o3 CX.out.size)
  have hld := load_row jX0 Try.underlying54 rfl size54
  obtain ⟨X4, e4', j4, f4'⟩ := sets_row jX1 (tbA (seenP t) (.slice ca' (seC t.cols).length cc') (.slice ia' (seI t.ixs).length ic') (.slice ka' (seK t.fks).length kc')) rfl
  have hst : (Instr.storeAt 54 (.pointer (some ⟨Y1, 0, none⟩)) (.agg (tbA (seenP t) (.slice ca' (seC t.cols).length cc') (.slice ia' (seI t.ixs).length ic') (.slice ka' (seK t.fks).length kc')))).run Try.prog X3 = .ok () X4 := by
    rw [e4']
    exact store_row jX1 rfl size54 (by simp [Value.oneCell'])
  have kp : ∀ {e : TypeId} {c n : Nat} {v : Value} {xs : List Value}, e ≠ 54 → X3.ownsRow w.heap.size e c v n xs → X4.ownsRow w.heap.size e c v n xs := fun he q => keep_rowB q f4' (fun k hk cs tg => by
    rw [hk, jX1] at tg
    simp only [Option.some.injEq, Obj.cells.injEq] at tg
    exact he tg.2.1.symm)
  have R1 := Lib.hid (kp (by decide) oX1)
  have R2 := Lib.hid (kp (by decide) oX2)
  have R3 := Lib.hid (kp (by decide) oX3)
  have BE : Hid (Below w.heap.size w X4) := BX3.trans (f4'.toBelow (fun k hk q => by rw [q] at hk; exact absurd GE.out.2.1 (by omega)) BX3.size)
  have J4 := Lib.hid j4
  have HX3 := Lib.hid hX3
  clear h3 b3 o3 j0 j1 hX3 BX3 jX0 jX1 oX1 oX2 oX3 d4 e4' f4' kp j4
  go_upto_region 4 with fail
  rw [← HX3.out]
  go_wp2_with (first | (refine wpl_load _ rfl (by simp [Act.eval]) hld ?_) | (refine wpl_store _ _ rfl (by simp [Act.eval, Act.put]) (by simp [Act.eval, Act.put]) hst ?_))
  refine bodyPost_ret (results_one rfl rfl (load_var J4.out Try.underlying54 rfl size54)) rfl ?_
  exact ⟨_, _, _, rfl, R1.out, R2.out, R3.out, BE.out⟩
set_option maxHeartbeats 4000000 in
set_option maxRecDepth 100000 in
theorem eachS_any {s : Sc} {tv : Value} (hL : Lr tbE 5 w s.tabs tv) (hz : Few s.tabs) : Calls Try.prog 36 #[scV s tv, .func (.func 37) #[] #[]] w fun e w' => ∃ G tv', e = .returned (scV s tv') ∧ G.map Prod.fst = s.tabs.map seenP ∧ Dr w' w.heap.size G tv' ∧ Below w.heap.size w w' := by
  obtain ⟨ta, tc, rfl, q0, q1, q2, hX⟩ := hL
  have hmx : (s.tabs.length : Int) ≤ 9223372036854775807 := by unfold maxLen at q2; omega
  obtain ⟨W, hW⟩ : ∃ W, W = (w.alloc (.cells #[.int .i64 s.ver, .int .i64 s.last, .slice ta s.tabs.length tc] 24)).alloc (.cells #[.int .i64 0, .int .i64 0, .slice none 0 0] 24) := ⟨_, rfl⟩
  have hbW : Below w.heap.size w W := by rw [hW]; exact ((Below.refl _ w).alloc (Nat.le_refl _) _).alloc (by simp) _
  obtain ⟨Y0, hY0⟩ : ∃ Y0, w.heap.size = Y0 := ⟨_, rfl⟩
  obtain ⟨Y1, hY1⟩ : ∃ Y1, Y0 + 1 = Y1 := ⟨_, rfl⟩
  have jY0 : W.heap[Y0]? = some (.cells #[.int .i64 s.ver, .int .i64 s.last, .slice ta s.tabs.length tc] 24 (0, 0)) := by
    have := heap_alloc_new w (.cells #[.int .i64 s.ver, .int .i64 s.last, .slice ta s.tabs.length tc] 24)
    rw [hW, ← hY0]
    rw [Below.heap_alloc _ _ _ (by simp only [World.size_alloc]; omega)]
    exact this
  have jY1 : W.heap[Y1]? = some (.cells #[.int .i64 0, .int .i64 0, .slice none 0 0] 24 (0, 0)) := by
    have := heap_alloc_new (w.alloc (.cells #[.int .i64 s.ver, .int .i64 s.last, .slice ta s.tabs.length tc] 24)) (.cells #[.int .i64 0, .int .i64 0, .slice none 0 0] 24)
    simp only [World.size_alloc] at this
    rw [hW, ← hY1, ← hY0]
    exact this
  have hge0 : w.heap.size ≤ Y0 := by omega
  have hge1 : w.heap.size ≤ Y1 := by omega
  have d2 : W.cell? ⟨Y0, 2, none⟩ = some (.slice ta s.tabs.length tc) := cell_blk jY0 2
  have J0 := Lib.hid jY0
  have J1 := Lib.hid jY1
  have HX := Lib.hid hX
  have HZ := Lib.hid hz
  have GE := Lib.hid (And.intro hge0 hge1)
  have HW := Lib.hid hW
  have HBW := Lib.hid hbW
  have HY0 := Lib.hid hY0
  have HY1 := Lib.hid hY1
  clear hW hbW hY0 hY1
  clear jY0 jY1 hX hz q0 q1 q2 hge0 hge1
  go_enter Try.func36, Try.ntmps36
  go_upto_region 1 with fail
  rw [← HW.out, HY0.out, HY1.out]
  go_wp2
  clear d2
  go_loopw [5, 11] (fun tv iv wr => ∃ (i : Nat) (G : List Gt), i ≤ s.tabs.length ∧ iv = .int .i64 (i : Int) ∧ G.map Prod.fst = (s.tabs.take i).map seenP ∧ Dr wr W.heap.size G tv ∧ Below W.heap.size W wr) (fun _ iv _ => s.tabs.length - (intOf iv).toNat)
  case atStart => exact ⟨0, [], Nat.zero_le _, rfl, rfl, Dr.nil _ _, Below.refl _ _⟩
  case round =>
    obtain ⟨i, G, hi, rfl, hG, hD, hb⟩ := hrel
    obtain ⟨V, rfl⟩ : ∃ V, V = wr := ⟨_, rfl⟩
    have hGl : G.length = i := by
      have := congrArg List.length hG
      rw [List.length_map, List.length_map, List.length_take] at this
      omega
    obtain ⟨tad, tcap, hsh⟩ := own_shape hD.row
    subst hsh
    have HB := Lib.hid hb
    have HD := Lib.hid hD
    have HG := Lib.hid hG
    have HL := Lib.hid hGl
    clear hG hD hGl
    by_cases hlt : i < s.tabs.length
    · have k0 : (0 : Int) ≤ i := by omega
      have k1 : (i : Int) < s.tabs.length := by omega
      obtain ⟨b, p, cs, rfl, hbl, hE, _, hcell⟩ := HX.out i hlt
      obtain ⟨cv, iv, kv, rfl, h3⟩ := hE
      obtain ⟨t, ht⟩ : ∃ t, s.tabs[i] = t := ⟨_, rfl⟩
      have htf : t.few := by rw [← ht]; exact HZ.out.2 _ (List.getElem_mem hlt)
      rw [ht] at hcell h3
      have HT := Lib.hid ht
      have hwV := bgo HBW.out HB.out
      have h3V := h3.on hwV
      obtain ⟨ca, cc, ec, _⟩ := h3.c
      obtain ⟨ia, ic, ei, _⟩ := h3.i
      obtain ⟨ka, kc, ek, _⟩ := h3.k
      subst ec ei ek
      have c0 := cell_on hwV (hcell 0 _ rfl)
      have c1 := cell_on hwV (hcell 1 _ rfl)
      have c2 := cell_on hwV (hcell 2 _ rfl)
      have c3 := cell_on hwV (hcell 3 _ rfl)
      have c4 := cell_on hwV (hcell 4 _ rfl)
      rw [Nat.add_zero] at c0
      obtain ⟨V1, hV1⟩ : ∃ V1, V1 = V.alloc (.cells (tbA t (.slice ca t.cols.length cc) (.slice ia t.ixs.length ic) (.slice ka t.fks.length kc)) 54) := ⟨_, rfl⟩
      obtain ⟨Q, hQ⟩ : ∃ Q, V.heap.size = Q := ⟨_, rfl⟩
      have jQ : V1.heap[Q]? = some (.cells (tbA t (.slice ca t.cols.length cc) (.slice ia t.ixs.length ic) (.slice ka t.fks.length kc)) 54 (0, 0)) := by rw [hV1, ← hQ]; exact heap_alloc_new V _
      have bV : Below V.heap.size V V1 := by rw [hV1]; exact bnew _ _
      have hcall := seenT_any (h3V.on bV) htf
      have g0 : V1.cell? ⟨Q, 0, none⟩ = some (.int .i64 t.id) := cell_blk jQ 0
      have g1 : V1.cell? ⟨Q, 1, none⟩ = some (.string t.nm) := cell_blk jQ 1
      have g2 : V1.cell? ⟨Q, 2, none⟩ = some (.slice ca t.cols.length cc) := cell_blk jQ 2
      have g3 : V1.cell? ⟨Q, 3, none⟩ = some (.slice ia t.ixs.length ic) := cell_blk jQ 3
      have g4 : V1.cell? ⟨Q, 4, none⟩ = some (.slice ka t.fks.length kc) := cell_blk jQ 4
      have BV := Lib.hid bV
      have HV1 := Lib.hid hV1
      have HQ := Lib.hid hQ
      clear hcell h3 h3V hwV ht hV1 hQ jQ bV hb htf hbl
      go_upto_region 5 with fail
      rw [← HV1.out, HQ.out]
      clear c0 c1 c2 c3 c4
      go_wp2_with fail
      refine hcall.mono ?_
      rintro e w1 ⟨cv', iv', kv', rfl, o1, o2, o3, b1⟩
      obtain ⟨ca', cc', rfl⟩ := own_shape o1
      obtain ⟨ia', ic', rfl⟩ := own_shape o2
      obtain ⟨ka', kc', rfl⟩ := own_shape o3
      have bV1 := bgo BV.out b1
      have hD1 := HD.out.below bV1
      obtain ⟨ad, cap, w', hrun, r1, r2, r3⟩ := pushT (own_mono hD1.row (Nat.zero_le _)) (seenP t) (ca := ca') (cn := (seC t.cols).length) (cc := cc') (ia := ia') (im := (seI t.ixs).length) (ic := ic') (ka := ka') (kn := (seK t.fks).length) (kc := kc') (by have := HZ.out.1; have := HL.out; omega)
      have hWV : W.heap.size ≤ V.heap.size := HB.out.size
      have hVw : V1.heap.size ≤ w1.heap.size := b1.size
      have hVV : V.heap.size ≤ V1.heap.size := BV.out.size
      have hnew : Dr w' W.heap.size (G ++ [(seenP t, .slice ca' (seC t.cols).length cc', .slice ia' (seI t.ixs).length ic', .slice ka' (seK t.fks).length kc')]) (.slice ad (G.length + 1) cap) := by
        have up : ∀ {e : TypeId} {c n : Nat} {v : Value} {xs : List Value}, e ≠ 54 → w1.ownsRow V1.heap.size e c v n xs → w'.ownsRow V.heap.size e c v n xs := fun he q => own_mono (keep_rowB q r2 (fun k hk cs tg => by
          obtain ⟨cs2, t2⟩ := own_tag hD1.row k hk
          rw [t2] at tg
          simp only [Option.some.injEq, Obj.cells.injEq] at tg
          exact he tg.2.1.symm)) hVV
        have hf : Fr V w' (fun k => (Value.slice tad G.length tcap).ownBlock = some k) := (Fr.ofBelow _ bV1).trans r2
        exact Dr.push HD.out hWV hf (fun k hk => .inr (.inl hk)) _ (by simpa using r1) (fun k hk => by
          rcases r3 k hk with z | z
          · exact .inl z
          · exact .inr (by omega)) (up (by decide) o1) (up (by decide) o2) (up (by decide) o3)
      have HN := Lib.hid hnew
      have HB2 : Hid (Below W.heap.size W w') := HB.out.trans ((bV1.mono hWV).trans (r2.toBelow (fun k hk q => by
        have := (own_ge hD1.row k q).1
        omega) (by omega)))
      have HG2 : Hid ((G ++ [((seenP t, .slice ca' (seC t.cols).length cc', .slice ia' (seI t.ixs).length ic', .slice ka' (seK t.fks).length kc') : Gt)]).map Prod.fst = (s.tabs.take (i + 1)).map seenP) := by
        rw [List.map_append, HG.out, List.take_add_one, List.getElem?_eq_getElem hlt, HT.out, List.map_append]
        exact Lib.hid rfl
      clear hcall o1 o2 o3 b1 bV1 hD1 r1 r2 r3 hWV hVw hVV hnew g0 g1 g2 g3 g4
      go_wp2_with (at_builtin; refine wpl_run2 _ _ rfl (by simp [Act.eval]) (by simp [Act.eval]) hrun ?_)
      go_roundw
      case rel => exact ⟨i + 1, _, hlt, by go_num, HG2.out, HN.out, HB2.out⟩
      case measure => simp [intOf]; omega
    · have k1 : ¬ (i : Int) < s.tabs.length := by omega
      have hin : i = s.tabs.length := by omega
      have HGE : Hid (G.map Prod.fst = s.tabs.map seenP) := by rw [HG.out, hin, List.take_length]; exact Lib.hid rfl
      have j0 := (hb.block Y0 (blk_lt J0.out)).trans J0.out
      have j1 := (hb.block Y1 (blk_lt J1.out)).trans J1.out
      have e2 : V.cell? ⟨Y0, 2, none⟩ = some (.slice ta s.tabs.length tc) := cell_blk j0 2
      have f2 : V.frozen? ⟨Y0, 2, none⟩ = false := frozen_blk j0 2
      obtain ⟨X1, hX1⟩ : ∃ X1, X1 = V.setCell ⟨Y0, 2, none⟩ (.slice tad G.length tcap) := ⟨_, rfl⟩
      have jX0 : X1.heap[Y0]? = some (.cells (scA s (.slice tad G.length tcap)) 24 (0, 0)) := by rw [hX1]; exact set_blk j0 _
      have hne : Y1 ≠ Y0 := by have := HY1.out; omega
      have jX1 : X1.heap[Y1]? = some (.cells #[.int .i64 0, .int .i64 0, .slice none 0 0] 24 (0, 0)) := by rw [hX1, set_other _ hne]; exact j1
      have hld := load_row jX0 Try.underlying24 rfl size24
      obtain ⟨X4, e4, j4, f4⟩ := sets_row jX1 (scA s (.slice tad G.length tcap)) rfl
      have hst : (Instr.storeAt 24 (.pointer (some ⟨Y1, 0, none⟩)) (.agg (scA s (.slice tad G.length tcap)))).run Try.prog X1 = .ok () X4 := by
        rw [e4]
        exact store_row jX1 rfl size24 (by simp [Value.oneCell'])
      have fV : Fr V X4 (fun k => k = Y0 ∨ k = Y1) := by
        refine Fr.trans ?_ (f4.mono (fun k hk => .inr hk))
        rw [hX1]
        exact Fr.set (S := fun k => k = Y0 ∨ k = Y1) (a := ⟨Y0, 2, none⟩) (Fr.refl _ _) (.inl (.inl rfl)) _
      have hWs : w.heap.size ≤ W.heap.size := HBW.out.size
      have HE : Hid (Dr X4 w.heap.size G (.slice tad G.length tcap) ∧ Below w.heap.size w X4) := by
        refine ⟨(HD.out.keep fV (fun k hk => ?_)).mono hWs, (bgo HBW.out HB.out).trans (fV.toBelow (fun k hk q => ?_) (bgo HBW.out HB.out).size)⟩
        · rcases hk with rfl | rfl
          · exact .inl (blk_lt J0.out)
          · exact .inl (blk_lt J1.out)
        · have := GE.out
          rcases q with q | q <;> omega
      have J4 := Lib.hid j4
      have HX1 := Lib.hid hX1
      clear j0 j1 hX1 jX0 jX1 e4 f4 fV hWs j4 hb hne hin
      go_upto_region 8 with fail
      rw [← HX1.out]
      go_wp2_with (first | (refine wpl_load _ rfl (by simp [Act.eval]) hld ?_) | (refine wpl_store _ _ rfl (by simp [Act.eval, Act.put]) (by simp [Act.eval, Act.put]) hst ?_))
      refine bodyPost_ret (results_one rfl rfl (load_var J4.out Try.underlying24 rfl size24)) rfl ?_
      exact ⟨G, _, rfl, HGE.out, HE.out.1, HE.out.2⟩
set_option maxHeartbeats 2000000 in
set_option maxRecDepth 100000 in
theorem seen_any {s : Sc} {tv : Value} (hL : Lr tbE 5 w s.tabs tv) (hz : Few s.tabs) : Calls Try.prog 17 #[scV s tv] w fun e w' => ∃ G tv', e = .returned (scV s tv') ∧ G.map Prod.fst = s.tabs.map seenP ∧ Dr w' w.heap.size G tv' ∧ Below w.heap.size w w' := by
  obtain ⟨ta, tc, rfl, hr⟩ := hL
  have hL : Lr tbE 5 w s.tabs (.slice ta s.tabs.length tc) := ⟨ta, tc, rfl, hr⟩
  obtain ⟨W, hW⟩ : ∃ W, W = (w.alloc (.cells #[.int .i64 s.ver, .int .i64 s.last, .slice ta s.tabs.length tc] 24)).alloc (.cells #[.int .i64 0, .int .i64 0, .slice none 0 0] 24) := ⟨_, rfl⟩
  have hbW : Below w.heap.size w W := by rw [hW]; exact ((Below.refl _ w).alloc (Nat.le_refl _) _).alloc (by simp) _
  obtain ⟨Y0, hY0⟩ : ∃ Y0, w.heap.size = Y0 := ⟨_, rfl⟩
  obtain ⟨Y1, hY1⟩ : ∃ Y1, Y0 + 1 = Y1 := ⟨_, rfl⟩
  have jY0 : W.heap[Y0]? = some (.cells #[.int .i64 s.ver, .int .i64 s.last, .slice ta s.tabs.length tc] 24 (0, 0)) := by
    have := heap_alloc_new w (.cells #[.int .i64 s.ver, .int .i64 s.last, .slice ta s.tabs.length tc] 24)
    rw [hW, ← hY0]
    rw [Below.heap_alloc _ _ _ (by simp only [World.size_alloc]; omega)]
    exact this
  have jY1 : W.heap[Y1]? = some (.cells #[.int .i64 0, .int .i64 0, .slice none 0 0] 24 (0, 0)) := by
    have := heap_alloc_new (w.alloc (.cells #[.int .i64 s.ver, .int .i64 s.last, .slice ta s.tabs.length tc] 24)) (.cells #[.int .i64 0, .int .i64 0, .slice none 0 0] 24)
    simp only [World.size_alloc] at this
    rw [hW, ← hY1, ← hY0]
    exact this
  have hge1 : w.heap.size ≤ Y1 := by omega
  have hcall := eachS_any (hL.on tbE_held hbW) hz
  have d0 : W.cell? ⟨Y0, 0, none⟩ = some (.int .i64 s.ver) := cell_blk jY0 0
  have d1 : W.cell? ⟨Y0, 1, none⟩ = some (.int .i64 s.last) := cell_blk jY0 1
  have d2 : W.cell? ⟨Y0, 2, none⟩ = some (.slice ta s.tabs.length tc) := cell_blk jY0 2
  have J1 := Lib.hid jY1
  have GE := Lib.hid hge1
  have HW := Lib.hid hW
  have HBW := Lib.hid hbW
  have HY0 := Lib.hid hY0
  have HY1 := Lib.hid hY1
  clear hW hbW hY0 hY1
  clear jY0 jY1 hL hr hge1
  go_enter Try.func17, Try.ntmps17
  go_upto_region 1 with fail
  rw [← HW.out, HY0.out, HY1.out]
  go_wp2_with fail
  refine hcall.mono ?_
  rintro e w1 ⟨G, tv', rfl, hG, hD, b1⟩
  have j1 := (b1.block Y1 (blk_lt J1.out)).trans J1.out
  obtain ⟨tad, tcap, hsh⟩ := own_shape hD.row
  subst hsh
  obtain ⟨X4, e4, j4, f4⟩ := sets_row j1 (scA s (.slice tad G.length tcap)) rfl
  have hst : (Instr.storeAt 24 (.pointer (some ⟨Y1, 0, none⟩)) (.agg (scA s (.slice tad G.length tcap)))).run Try.prog w1 = .ok () X4 := by
    rw [e4]
    exact store_row j1 rfl size24 (by simp [Value.oneCell'])
  have HE : Hid (G.map Prod.fst = s.tabs.map seenP ∧ Dr X4 w.heap.size G (.slice tad G.length tcap) ∧ Below w.heap.size w X4) := by
    refine ⟨hG, (hD.keep f4 (fun k hk => .inl (by rw [hk]; exact blk_lt J1.out))).mono HBW.out.size, (bgo HBW.out b1).trans (f4.toBelow (fun k hk q => ?_) (bgo HBW.out b1).size)⟩
    have := GE.out
    omega
  have J4 := Lib.hid j4
  clear hcall hG hD b1 j1 e4 f4 j4 d0 d1 d2
  go_wp2_with (refine wpl_store _ _ rfl (by simp [Act.eval]) (by simp [Act.eval]) hst ?_)
  refine bodyPost_ret (results_one rfl rfl (load_var J4.out Try.underlying24 rfl size24)) rfl ?_
  exact ⟨G, _, rfl, HE.out⟩
end
end Go.Proofs.Ytkfnphhoebknnaa
