/- What the document's clearing is told. -/
import Derived.Test.YtfokgalgdlajlaaRe
import Derived.Test.YtfokgalgdlajlaaCp
namespace Go.Proofs.Ytfokgalgdlajlaa
open Go.RowKit
def askP (sh kd : Int) (a : Ak) : Bool := decide (a.sh = sh) && decide (a.kd = kd)
def CS.ends (s : CS) (r : Rz) : CS := if r.er = 0 then ⟨3, 0, 132⟩ else if r.er = 132 then ⟨3, r.ts, 0⟩ else s
def CS.told (c : CW) (s : CS) (sh kd : Int) (r : Rz) : CS := if r.ts < 0 then s else if 1125899906842624 < r.ts then s else if (c.asks s).any (askP sh kd) then (if s.ph = 2 then s.ends r else { s with ph := 4 }) else s
/-- A clearing of the document, wherever it stands. -/
structure RS (w : World) (R b : Nat) (c : CW) (s : CS) : Prop where
  rx : Rx w R b c s (decide (s.ph = 4))
  ph : s.ph = 2 ∨ s.ph = 3 ∨ s.ph = 4
theorem RS.asks {w : World} {R b : Nat} {c : CW} {s : CS} (h : RS w R b c s) : Calls Try.prog 47 #[.pointer (some ⟨R, 0, none⟩)] w (RfAns w (c.asks s)) := rasks_any h.rx h.ph (fun q => decide_eq_false (by omega))
def RsAns (w : World) (R b : Nat) (c : CW) (s : CS) (e : Ending) (w' : World) : Prop := e = .returned (.tuple #[]) ∧ RS w' R b c s ∧ Fr w w' (fun k => k = R ∨ k = b)
theorem asks_len (c : CW) (s : CS) : (c.asks s).length ≤ 1 := by
  unfold CW.asks
  split
  · exact Nat.le_refl _
  · split
    · exact Nat.le_refl _
    · exact Nat.zero_le _
theorem cask_2 {c : CW} {s : CS} {sh kd : Int} (h : s.ph = 2) (ha : (c.asks s).any (askP sh kd) = true) : sh = c.home ∧ kd = 3 := by
  unfold CW.asks at ha
  rw [if_pos h] at ha
  simp [askP, Dl.cmd] at ha
  exact ⟨ha.1.symm, ha.2.symm⟩
theorem cask_3 {c : CW} {s : CS} {sh kd : Int} (h : s.ph = 3) (ha : (c.asks s).any (askP sh kd) = true) : sh = c.sh ∧ kd = 4 := by
  unfold CW.asks at ha
  rw [if_neg (by omega), if_pos h] at ha
  simp [askP, Dl.reso, Dl.cmd] at ha
  exact ⟨ha.1.symm, ha.2.symm⟩
theorem cask_4 {c : CW} {s : CS} {sh kd : Int} (h : s.ph = 4) (ha : (c.asks s).any (askP sh kd) = true) : False := by
  unfold CW.asks at ha
  rw [if_neg (by omega), if_neg (by omega)] at ha
  cases ha
theorem row_cell {X : World} {B g n cap c : Nat} {t : TypeId} {α : Type} {f : α → List Value} (hc : ∀ x, (f x).length = c) {Q : List α} (h : X.ownsRow B t c (.slice (some ⟨g, 0, none⟩) n cap) n (Q.flatMap f)) {i : Nat} (hi : i < Q.length) (hn : Q.length = n) {k : Nat} (hk : k < c) : X.cell? ⟨g, i * c + k, none⟩ = (f Q[i])[k]? := by
  rw [(own_mono h (Nat.zero_le _)).cellAt (i * c + k) (by
    have : (i + 1) * c ≤ n * c := Nat.mul_le_mul_right c (by omega)
    rw [Nat.succ_mul] at this
    omega), fl_get hc _ i hi k hk]
theorem some_row {X : World} {B c n cap : Nat} {a : Option Addr} {t : TypeId} {xs : List Value} (h : X.ownsRow B t c (.slice a n cap) n xs) (hn : 0 < n) : ∃ g, a = some ⟨g, 0, none⟩ := by
  rcases h.2 with ⟨_, q⟩ | ⟨g, _, _, q, _⟩
  · omega
  · injection q with q1
    exact ⟨g, q1⟩
theorem map_flat (L : List Ak) : (L.map fun a => Value.int .i64 a.sh) = L.flatMap fun a => [Value.int .i64 a.sh] := by
  induction L with
  | nil => rfl
  | cons x L ih => rw [List.map_cons, List.flatMap_cons, ih]; rfl
theorem RS.on {w w' : World} {R b : Nat} {c : CW} {s : CS} (h : RS w R b c s) (hb : Below w.heap.size w w') : RS w' R b c s := ⟨h.rx.on hb, h.ph⟩
section
variable {w : World} {R b : Nat} {c : CW} {s : CS}
set_option maxHeartbeats 8000000 in
set_option maxRecDepth 100000 in
theorem rlate_any (h : RS w R b c s) (n : Int) : Calls Try.prog 27 #[.pointer (some ⟨R, 0, none⟩), .int .i64 n] w fun e w' => e = .returned (.tuple #[]) ∧ w' = w := by
  have l9 : w.cell? ⟨R, 9, none⟩ = some (.int .i64 s.ph) := h.rx.cell 9
  have h1 : ¬ s.ph = 1 := by have := h.ph; omega
  clear h
  go_enter Try.func27, Try.ntmps27
  go_wp2
  first | refine bodyPost_end (results_none rfl _ _ _) rfl ?_ | refine bodyPost_ret (results_none rfl _ _ _) rfl ?_
  exact ⟨rfl, rfl⟩
set_option maxHeartbeats 8000000 in
set_option maxRecDepth 100000 in
theorem rtold_no (h : RS w R b c s) (sh kd : Int) (r : Rz) (ha : (c.asks s).any (askP sh kd) = false) : Calls Try.prog 26 #[.pointer (some ⟨R, 0, none⟩), .int .i64 sh, .int .i64 kd, .agg (rzA r)] w (RsAns w R b c s) := by
  obtain ⟨W, hW⟩ : ∃ W, W = w.alloc (.cells (rzA r) 48) := ⟨_, rfl⟩
  obtain ⟨Y, hY⟩ : ∃ Y, w.heap.size = Y := ⟨_, rfl⟩
  have hb : Below w.heap.size w W := by rw [hW]; exact bnew w _
  have jY : W.heap[Y]? = some (.cells (rzA r) 48 (0, 0)) := by rw [hW, ← hY]; exact heap_alloc_new w _
  have hrs : RS W R b c s := ⟨h.rx.on hb, h.ph⟩
  have has := hrs.asks
  have hll := asks_len c s
  have HPH := Lib.hid h.ph
  have HANY := Lib.hid ha
  obtain ⟨LL, hLL⟩ : ∃ LL, c.asks s = LL := ⟨_, rfl⟩
  rw [hLL] at has hll HANY
  obtain ⟨F, hF⟩ : ∃ F : Nat → Bool, ∀ i, F i = (LL.take i).any (askP sh kd) := ⟨_, fun _ => rfl⟩
  have HFF := Lib.hid hF
  have hF0 : F 0 = false := hF 0
  have HF0 := Lib.hid hF0
  have HAS := Lib.hid has
  have HLL := Lib.hid hll
  have HR := Lib.hid hrs
  have HW := Lib.hid hW
  have HY := Lib.hid hY
  have HB := Lib.hid hb
  have HJ := Lib.hid jY
  clear h hW hY hb jY hrs has hll hLL hF hF0 ha
  go_enter Try.func26, Try.ntmps26
  go_upto_region 1 with fail
  rw [← HW.out, HY.out]
  go_wp2_with fail
  refine HAS.out.mono ?_
  rintro e v1 ⟨aa, ac, oa, oc, rfl, o1, o2, b1⟩
  have HO := Lib.hid (And.intro o1 o2)
  have HB1 := Lib.hid b1
  have hmx : (LL.length : Int) ≤ 9223372036854775807 := by have := HLL.out; omega
  clear o1 o2 b1
  go_wp2
  go_loopw [10, 11] (fun av iv wr => ∃ i : Nat, i ≤ LL.length ∧ iv = .int .i64 (i : Int) ∧ av = .bool (F i) ∧ wr = v1) (fun _ iv _ => LL.length - (intOf iv).toNat)
  case atStart => exact ⟨0, Nat.zero_le _, rfl, by rw [HF0.out], rfl⟩
  case round =>
    obtain ⟨i, hi, rfl, rfl, hwr⟩ := hrel
    have hwr' := hwr.symm
    subst hwr'
    clear hwr
    by_cases hlt : i < LL.length
    · obtain ⟨ga, rfl⟩ := some_row HO.out.1 (by omega)
      obtain ⟨go, rfl⟩ := some_row HO.out.2 (by omega)
      have q1 := row_cell (f := fun a : Ak => [Value.int .i64 a.sh]) (fun _ => rfl) (by have h9 := HO.out.1; rw [map_flat] at h9; exact h9) hlt rfl (k := 0) (by decide)
      have q2 := row_cell (f := cmL) (fun _ => rfl) HO.out.2 hlt rfl (k := 0) (by decide)
      have hnx : F (i + 1) = (F i || askP sh kd LL[i]) := by
        rw [HFF.out, HFF.out, List.take_add_one, List.getElem?_eq_getElem hlt, List.any_append]
        simp
      have HNX := Lib.hid hnx
      clear hnx
      generalize F i = bi at *
      generalize LL[i] = a0 at *
      have q1' : v1.cell? ⟨ga, i, none⟩ = some (.int .i64 a0.sh) := by rw [Nat.mul_one, Nat.add_zero] at q1; exact q1
      have q2' : v1.cell? ⟨go, i * 30, none⟩ = some (.int .i64 a0.kd) := q2
      clear q1 q2
      have k0 : (0 : Int) ≤ i := by omega
      have k1 : (i : Int) < LL.length := by omega
      unfold askP at HNX
      cases bi with
      | true =>
        go_wp2
        go_roundw
        case rel => exact ⟨i + 1, hlt, by go_num, by rw [HNX.out]; simp, trivial⟩
        case measure => simp [intOf]; omega
      | false =>
        by_cases s1 : a0.sh = sh
        · by_cases s2 : a0.kd = kd
          · have HN2 : Hid (F (i + 1) = true) := Lib.hid (by rw [HNX.out, s1, s2]; simp)
            go_wp2
            go_roundw
            case rel => exact ⟨i + 1, hlt, by go_num, by rw [HN2.out], trivial⟩
            case measure => simp [intOf]; omega
          · have HN2 : Hid (F (i + 1) = false) := Lib.hid (by rw [HNX.out, decide_eq_false s2]; simp)
            go_wp2
            go_roundw
            case rel => exact ⟨i + 1, hlt, by go_num, by rw [HN2.out]; simp [s2], trivial⟩
            case measure => simp [intOf]; omega
        · have HN2 : Hid (F (i + 1) = false) := Lib.hid (by rw [HNX.out, decide_eq_false s1]; simp)
          go_wp2
          go_roundw
          case rel => exact ⟨i + 1, hlt, by go_num, by rw [HN2.out], trivial⟩
          case measure => simp [intOf]; omega
    · obtain rfl : i = LL.length := by omega
      have k1 : ¬ (LL.length : Int) < LL.length := by omega
      have hFL : F LL.length = LL.any (askP sh kd) := by rw [HFF.out, List.take_length]
      rw [hFL]
      clear hFL
      have c0 : v1.cell? ⟨Y, 0, none⟩ = some (.int .i64 r.er) := cell_on HB1.out (cell_blk HJ.out 0)
      have c1 : v1.cell? ⟨Y, 1, none⟩ = some (.int .i64 r.ts) := cell_on HB1.out (cell_blk HJ.out 1)
      have HRS := Lib.hid (HR.out.on HB1.out)
      rw [HANY.out]
      go_wp2
      first | refine bodyPost_end (results_none rfl _ _ _) rfl ?_ | refine bodyPost_ret (results_none rfl _ _ _) rfl ?_
      exact ⟨rfl, HRS.out, Fr.ofBelow _ (bgo HB.out HB1.out)⟩
set_option maxHeartbeats 8000000 in
set_option maxRecDepth 100000 in
theorem rtold_lo (h : RS w R b c s) (sh kd : Int) (r : Rz) (ha : (c.asks s).any (askP sh kd) = true) (h1 : r.ts < 0) : Calls Try.prog 26 #[.pointer (some ⟨R, 0, none⟩), .int .i64 sh, .int .i64 kd, .agg (rzA r)] w (RsAns w R b c s) := by
  obtain ⟨W, hW⟩ : ∃ W, W = w.alloc (.cells (rzA r) 48) := ⟨_, rfl⟩
  obtain ⟨Y, hY⟩ : ∃ Y, w.heap.size = Y := ⟨_, rfl⟩
  have hb : Below w.heap.size w W := by rw [hW]; exact bnew w _
  have jY : W.heap[Y]? = some (.cells (rzA r) 48 (0, 0)) := by rw [hW, ← hY]; exact heap_alloc_new w _
  have hrs : RS W R b c s := ⟨h.rx.on hb, h.ph⟩
  have has := hrs.asks
  have hll := asks_len c s
  have HPH := Lib.hid h.ph
  have HANY := Lib.hid ha
  obtain ⟨LL, hLL⟩ : ∃ LL, c.asks s = LL := ⟨_, rfl⟩
  rw [hLL] at has hll HANY
  obtain ⟨F, hF⟩ : ∃ F : Nat → Bool, ∀ i, F i = (LL.take i).any (askP sh kd) := ⟨_, fun _ => rfl⟩
  have HFF := Lib.hid hF
  have hF0 : F 0 = false := hF 0
  have HF0 := Lib.hid hF0
  have HAS := Lib.hid has
  have HLL := Lib.hid hll
  have HR := Lib.hid hrs
  have HW := Lib.hid hW
  have HY := Lib.hid hY
  have HB := Lib.hid hb
  have HJ := Lib.hid jY
  clear h hW hY hb jY hrs has hll hLL hF hF0 ha
  go_enter Try.func26, Try.ntmps26
  go_upto_region 1 with fail
  rw [← HW.out, HY.out]
  go_wp2_with fail
  refine HAS.out.mono ?_
  rintro e v1 ⟨aa, ac, oa, oc, rfl, o1, o2, b1⟩
  have HO := Lib.hid (And.intro o1 o2)
  have HB1 := Lib.hid b1
  have hmx : (LL.length : Int) ≤ 9223372036854775807 := by have := HLL.out; omega
  clear o1 o2 b1
  go_wp2
  go_loopw [10, 11] (fun av iv wr => ∃ i : Nat, i ≤ LL.length ∧ iv = .int .i64 (i : Int) ∧ av = .bool (F i) ∧ wr = v1) (fun _ iv _ => LL.length - (intOf iv).toNat)
  case atStart => exact ⟨0, Nat.zero_le _, rfl, by rw [HF0.out], rfl⟩
  case round =>
    obtain ⟨i, hi, rfl, rfl, hwr⟩ := hrel
    have hwr' := hwr.symm
    subst hwr'
    clear hwr
    by_cases hlt : i < LL.length
    · obtain ⟨ga, rfl⟩ := some_row HO.out.1 (by omega)
      obtain ⟨go, rfl⟩ := some_row HO.out.2 (by omega)
      have q1 := row_cell (f := fun a : Ak => [Value.int .i64 a.sh]) (fun _ => rfl) (by have h9 := HO.out.1; rw [map_flat] at h9; exact h9) hlt rfl (k := 0) (by decide)
      have q2 := row_cell (f := cmL) (fun _ => rfl) HO.out.2 hlt rfl (k := 0) (by decide)
      have hnx : F (i + 1) = (F i || askP sh kd LL[i]) := by
        rw [HFF.out, HFF.out, List.take_add_one, List.getElem?_eq_getElem hlt, List.any_append]
        simp
      have HNX := Lib.hid hnx
      clear hnx
      generalize F i = bi at *
      generalize LL[i] = a0 at *
      have q1' : v1.cell? ⟨ga, i, none⟩ = some (.int .i64 a0.sh) := by rw [Nat.mul_one, Nat.add_zero] at q1; exact q1
      have q2' : v1.cell? ⟨go, i * 30, none⟩ = some (.int .i64 a0.kd) := q2
      clear q1 q2
      have k0 : (0 : Int) ≤ i := by omega
      have k1 : (i : Int) < LL.length := by omega
      unfold askP at HNX
      cases bi with
      | true =>
        go_wp2
        go_roundw
        case rel => exact ⟨i + 1, hlt, by go_num, by rw [HNX.out]; simp, trivial⟩
        case measure => simp [intOf]; omega
      | false =>
        by_cases s1 : a0.sh = sh
        · by_cases s2 : a0.kd = kd
          · have HN2 : Hid (F (i + 1) = true) := Lib.hid (by rw [HNX.out, s1, s2]; simp)
            go_wp2
            go_roundw
            case rel => exact ⟨i + 1, hlt, by go_num, by rw [HN2.out], trivial⟩
            case measure => simp [intOf]; omega
          · have HN2 : Hid (F (i + 1) = false) := Lib.hid (by rw [HNX.out, decide_eq_false s2]; simp)
            go_wp2
            go_roundw
            case rel => exact ⟨i + 1, hlt, by go_num, by rw [HN2.out]; simp [s2], trivial⟩
            case measure => simp [intOf]; omega
        · have HN2 : Hid (F (i + 1) = false) := Lib.hid (by rw [HNX.out, decide_eq_false s1]; simp)
          go_wp2
          go_roundw
          case rel => exact ⟨i + 1, hlt, by go_num, by rw [HN2.out], trivial⟩
          case measure => simp [intOf]; omega
    · obtain rfl : i = LL.length := by omega
      have k1 : ¬ (LL.length : Int) < LL.length := by omega
      have hFL : F LL.length = LL.any (askP sh kd) := by rw [HFF.out, List.take_length]
      rw [hFL]
      clear hFL
      have c0 : v1.cell? ⟨Y, 0, none⟩ = some (.int .i64 r.er) := cell_on HB1.out (cell_blk HJ.out 0)
      have c1 : v1.cell? ⟨Y, 1, none⟩ = some (.int .i64 r.ts) := cell_on HB1.out (cell_blk HJ.out 1)
      have HRS := Lib.hid (HR.out.on HB1.out)
      rw [HANY.out]
      go_wp2
      first | refine bodyPost_end (results_none rfl _ _ _) rfl ?_ | refine bodyPost_ret (results_none rfl _ _ _) rfl ?_
      exact ⟨rfl, HRS.out, Fr.ofBelow _ (bgo HB.out HB1.out)⟩
set_option maxHeartbeats 8000000 in
set_option maxRecDepth 100000 in
theorem rtold_hi (h : RS w R b c s) (sh kd : Int) (r : Rz) (ha : (c.asks s).any (askP sh kd) = true) (h1 : ¬ r.ts < 0) (h2 : 1125899906842624 < r.ts) : Calls Try.prog 26 #[.pointer (some ⟨R, 0, none⟩), .int .i64 sh, .int .i64 kd, .agg (rzA r)] w (RsAns w R b c s) := by
  obtain ⟨W, hW⟩ : ∃ W, W = w.alloc (.cells (rzA r) 48) := ⟨_, rfl⟩
  obtain ⟨Y, hY⟩ : ∃ Y, w.heap.size = Y := ⟨_, rfl⟩
  have hb : Below w.heap.size w W := by rw [hW]; exact bnew w _
  have jY : W.heap[Y]? = some (.cells (rzA r) 48 (0, 0)) := by rw [hW, ← hY]; exact heap_alloc_new w _
  have hrs : RS W R b c s := ⟨h.rx.on hb, h.ph⟩
  have has := hrs.asks
  have hll := asks_len c s
  have HPH := Lib.hid h.ph
  have HANY := Lib.hid ha
  obtain ⟨LL, hLL⟩ : ∃ LL, c.asks s = LL := ⟨_, rfl⟩
  rw [hLL] at has hll HANY
  obtain ⟨F, hF⟩ : ∃ F : Nat → Bool, ∀ i, F i = (LL.take i).any (askP sh kd) := ⟨_, fun _ => rfl⟩
  have HFF := Lib.hid hF
  have hF0 : F 0 = false := hF 0
  have HF0 := Lib.hid hF0
  have HAS := Lib.hid has
  have HLL := Lib.hid hll
  have HR := Lib.hid hrs
  have HW := Lib.hid hW
  have HY := Lib.hid hY
  have HB := Lib.hid hb
  have HJ := Lib.hid jY
  clear h hW hY hb jY hrs has hll hLL hF hF0 ha
  go_enter Try.func26, Try.ntmps26
  go_upto_region 1 with fail
  rw [← HW.out, HY.out]
  go_wp2_with fail
  refine HAS.out.mono ?_
  rintro e v1 ⟨aa, ac, oa, oc, rfl, o1, o2, b1⟩
  have HO := Lib.hid (And.intro o1 o2)
  have HB1 := Lib.hid b1
  have hmx : (LL.length : Int) ≤ 9223372036854775807 := by have := HLL.out; omega
  clear o1 o2 b1
  go_wp2
  go_loopw [10, 11] (fun av iv wr => ∃ i : Nat, i ≤ LL.length ∧ iv = .int .i64 (i : Int) ∧ av = .bool (F i) ∧ wr = v1) (fun _ iv _ => LL.length - (intOf iv).toNat)
  case atStart => exact ⟨0, Nat.zero_le _, rfl, by rw [HF0.out], rfl⟩
  case round =>
    obtain ⟨i, hi, rfl, rfl, hwr⟩ := hrel
    have hwr' := hwr.symm
    subst hwr'
    clear hwr
    by_cases hlt : i < LL.length
    · obtain ⟨ga, rfl⟩ := some_row HO.out.1 (by omega)
      obtain ⟨go, rfl⟩ := some_row HO.out.2 (by omega)
      have q1 := row_cell (f := fun a : Ak => [Value.int .i64 a.sh]) (fun _ => rfl) (by have h9 := HO.out.1; rw [map_flat] at h9; exact h9) hlt rfl (k := 0) (by decide)
      have q2 := row_cell (f := cmL) (fun _ => rfl) HO.out.2 hlt rfl (k := 0) (by decide)
      have hnx : F (i + 1) = (F i || askP sh kd LL[i]) := by
        rw [HFF.out, HFF.out, List.take_add_one, List.getElem?_eq_getElem hlt, List.any_append]
        simp
      have HNX := Lib.hid hnx
      clear hnx
      generalize F i = bi at *
      generalize LL[i] = a0 at *
      have q1' : v1.cell? ⟨ga, i, none⟩ = some (.int .i64 a0.sh) := by rw [Nat.mul_one, Nat.add_zero] at q1; exact q1
      have q2' : v1.cell? ⟨go, i * 30, none⟩ = some (.int .i64 a0.kd) := q2
      clear q1 q2
      have k0 : (0 : Int) ≤ i := by omega
      have k1 : (i : Int) < LL.length := by omega
      unfold askP at HNX
      cases bi with
      | true =>
        go_wp2
        go_roundw
        case rel => exact ⟨i + 1, hlt, by go_num, by rw [HNX.out]; simp, trivial⟩
        case measure => simp [intOf]; omega
      | false =>
        by_cases s1 : a0.sh = sh
        · by_cases s2 : a0.kd = kd
          · have HN2 : Hid (F (i + 1) = true) := Lib.hid (by rw [HNX.out, s1, s2]; simp)
            go_wp2
            go_roundw
            case rel => exact ⟨i + 1, hlt, by go_num, by rw [HN2.out], trivial⟩
            case measure => simp [intOf]; omega
          · have HN2 : Hid (F (i + 1) = false) := Lib.hid (by rw [HNX.out, decide_eq_false s2]; simp)
            go_wp2
            go_roundw
            case rel => exact ⟨i + 1, hlt, by go_num, by rw [HN2.out]; simp [s2], trivial⟩
            case measure => simp [intOf]; omega
        · have HN2 : Hid (F (i + 1) = false) := Lib.hid (by rw [HNX.out, decide_eq_false s1]; simp)
          go_wp2
          go_roundw
          case rel => exact ⟨i + 1, hlt, by go_num, by rw [HN2.out], trivial⟩
          case measure => simp [intOf]; omega
    · obtain rfl : i = LL.length := by omega
      have k1 : ¬ (LL.length : Int) < LL.length := by omega
      have hFL : F LL.length = LL.any (askP sh kd) := by rw [HFF.out, List.take_length]
      rw [hFL]
      clear hFL
      have c0 : v1.cell? ⟨Y, 0, none⟩ = some (.int .i64 r.er) := cell_on HB1.out (cell_blk HJ.out 0)
      have c1 : v1.cell? ⟨Y, 1, none⟩ = some (.int .i64 r.ts) := cell_on HB1.out (cell_blk HJ.out 1)
      have HRS := Lib.hid (HR.out.on HB1.out)
      rw [HANY.out]
      go_wp2
      first | refine bodyPost_end (results_none rfl _ _ _) rfl ?_ | refine bodyPost_ret (results_none rfl _ _ _) rfl ?_
      exact ⟨rfl, HRS.out, Fr.ofBelow _ (bgo HB.out HB1.out)⟩
set_option maxHeartbeats 8000000 in
set_option maxRecDepth 100000 in
theorem rtold_20 (h : RS w R b c s) (sh kd : Int) (r : Rz) (hp : s.ph = 2) (ha : (c.asks s).any (askP sh kd) = true) (h1 : ¬ r.ts < 0) (h2 : ¬ 1125899906842624 < r.ts) (he : r.er = 0) : Calls Try.prog 26 #[.pointer (some ⟨R, 0, none⟩), .int .i64 sh, .int .i64 kd, .agg (rzA r)] w (RsAns w R b c ⟨3, 0, 132⟩) := by
  obtain ⟨W, hW⟩ : ∃ W, W = w.alloc (.cells (rzA r) 48) := ⟨_, rfl⟩
  obtain ⟨Y, hY⟩ : ∃ Y, w.heap.size = Y := ⟨_, rfl⟩
  have hb : Below w.heap.size w W := by rw [hW]; exact bnew w _
  have jY : W.heap[Y]? = some (.cells (rzA r) 48 (0, 0)) := by rw [hW, ← hY]; exact heap_alloc_new w _
  have hrs : RS W R b c s := ⟨h.rx.on hb, h.ph⟩
  have has := hrs.asks
  have hll := asks_len c s
  have HPH := Lib.hid h.ph
  obtain ⟨hs1, hs2⟩ := cask_2 hp ha
  have HANY := Lib.hid ha
  have HKD := Lib.hid hs2
  have HER := Lib.hid he
  obtain ⟨LL, hLL⟩ : ∃ LL, c.asks s = LL := ⟨_, rfl⟩
  rw [hLL] at has hll HANY
  obtain ⟨F, hF⟩ : ∃ F : Nat → Bool, ∀ i, F i = (LL.take i).any (askP sh kd) := ⟨_, fun _ => rfl⟩
  have HFF := Lib.hid hF
  have hF0 : F 0 = false := hF 0
  have HF0 := Lib.hid hF0
  have HAS := Lib.hid has
  have HLL := Lib.hid hll
  have HR := Lib.hid hrs
  have HW := Lib.hid hW
  have HY := Lib.hid hY
  have HB := Lib.hid hb
  have HJ := Lib.hid jY
  clear h hW hY hb jY hrs has hll hLL hF hF0 ha hp he hs1 hs2
  go_enter Try.func26, Try.ntmps26
  go_upto_region 1 with fail
  rw [← HW.out, HY.out]
  go_wp2_with fail
  refine HAS.out.mono ?_
  rintro e v1 ⟨aa, ac, oa, oc, rfl, o1, o2, b1⟩
  have HO := Lib.hid (And.intro o1 o2)
  have HB1 := Lib.hid b1
  have hmx : (LL.length : Int) ≤ 9223372036854775807 := by have := HLL.out; omega
  clear o1 o2 b1
  go_wp2
  go_loopw [10, 11] (fun av iv wr => ∃ i : Nat, i ≤ LL.length ∧ iv = .int .i64 (i : Int) ∧ av = .bool (F i) ∧ wr = v1) (fun _ iv _ => LL.length - (intOf iv).toNat)
  case atStart => exact ⟨0, Nat.zero_le _, rfl, by rw [HF0.out], rfl⟩
  case round =>
    obtain ⟨i, hi, rfl, rfl, hwr⟩ := hrel
    have hwr' := hwr.symm
    subst hwr'
    clear hwr
    by_cases hlt : i < LL.length
    · obtain ⟨ga, rfl⟩ := some_row HO.out.1 (by omega)
      obtain ⟨go, rfl⟩ := some_row HO.out.2 (by omega)
      have q1 := row_cell (f := fun a : Ak => [Value.int .i64 a.sh]) (fun _ => rfl) (by have h9 := HO.out.1; rw [map_flat] at h9; exact h9) hlt rfl (k := 0) (by decide)
      have q2 := row_cell (f := cmL) (fun _ => rfl) HO.out.2 hlt rfl (k := 0) (by decide)
      have hnx : F (i + 1) = (F i || askP sh kd LL[i]) := by
        rw [HFF.out, HFF.out, List.take_add_one, List.getElem?_eq_getElem hlt, List.any_append]
        simp
      have HNX := Lib.hid hnx
      clear hnx
      generalize F i = bi at *
      generalize LL[i] = a0 at *
      have q1' : v1.cell? ⟨ga, i, none⟩ = some (.int .i64 a0.sh) := by rw [Nat.mul_one, Nat.add_zero] at q1; exact q1
      have q2' : v1.cell? ⟨go, i * 30, none⟩ = some (.int .i64 a0.kd) := q2
      clear q1 q2
      have k0 : (0 : Int) ≤ i := by omega
      have k1 : (i : Int) < LL.length := by omega
      unfold askP at HNX
      cases bi with
      | true =>
        go_wp2
        go_roundw
        case rel => exact ⟨i + 1, hlt, by go_num, by rw [HNX.out]; simp, trivial⟩
        case measure => simp [intOf]; omega
      | false =>
        by_cases s1 : a0.sh = sh
        · by_cases s2 : a0.kd = kd
          · have HN2 : Hid (F (i + 1) = true) := Lib.hid (by rw [HNX.out, s1, s2]; simp)
            go_wp2
            go_roundw
            case rel => exact ⟨i + 1, hlt, by go_num, by rw [HN2.out], trivial⟩
            case measure => simp [intOf]; omega
          · have HN2 : Hid (F (i + 1) = false) := Lib.hid (by rw [HNX.out, decide_eq_false s2]; simp)
            go_wp2
            go_roundw
            case rel => exact ⟨i + 1, hlt, by go_num, by rw [HN2.out]; simp [s2], trivial⟩
            case measure => simp [intOf]; omega
        · have HN2 : Hid (F (i + 1) = false) := Lib.hid (by rw [HNX.out, decide_eq_false s1]; simp)
          go_wp2
          go_roundw
          case rel => exact ⟨i + 1, hlt, by go_num, by rw [HN2.out], trivial⟩
          case measure => simp [intOf]; omega
    · obtain rfl : i = LL.length := by omega
      have k1 : ¬ (LL.length : Int) < LL.length := by omega
      have hFL : F LL.length = LL.any (askP sh kd) := by rw [HFF.out, List.take_length]
      rw [hFL]
      clear hFL
      have c0 : v1.cell? ⟨Y, 0, none⟩ = some (.int .i64 r.er) := cell_on HB1.out (cell_blk HJ.out 0)
      have c1 : v1.cell? ⟨Y, 1, none⟩ = some (.int .i64 r.ts) := cell_on HB1.out (cell_blk HJ.out 1)
      have HRS := Lib.hid (HR.out.on HB1.out)
      rw [HANY.out]
      have hs2 := HKD.out
      subst hs2
      rw [HER.out] at c0
      have hnx := next_one HRS.out.rx 3 0 132
      have HNX := Lib.hid hnx
      clear hnx
      go_wp2_with fail
      refine HNX.out.mono ?_
      rintro e v2 ⟨rfl, h3, f3⟩
      have HE : Hid (RsAns w R b c ⟨3, 0, 132⟩ (.returned (.tuple #[])) v2) := Lib.hid ⟨rfl, ⟨h3, .inr (.inl rfl)⟩, (Fr.ofBelow _ (bgo HB.out HB1.out)).trans f3⟩
      clear h3 f3 c0 c1
      go_wp2
      first | refine bodyPost_end (results_none rfl _ _ _) rfl ?_ | refine bodyPost_ret (results_none rfl _ _ _) rfl ?_
      exact HE.out
set_option maxHeartbeats 8000000 in
set_option maxRecDepth 100000 in
theorem rtold_21 (h : RS w R b c s) (sh kd : Int) (r : Rz) (hp : s.ph = 2) (ha : (c.asks s).any (askP sh kd) = true) (h1 : ¬ r.ts < 0) (h2 : ¬ 1125899906842624 < r.ts) (he : r.er = 132) : Calls Try.prog 26 #[.pointer (some ⟨R, 0, none⟩), .int .i64 sh, .int .i64 kd, .agg (rzA r)] w (RsAns w R b c ⟨3, r.ts, 0⟩) := by
  obtain ⟨W, hW⟩ : ∃ W, W = w.alloc (.cells (rzA r) 48) := ⟨_, rfl⟩
  obtain ⟨Y, hY⟩ : ∃ Y, w.heap.size = Y := ⟨_, rfl⟩
  have hb : Below w.heap.size w W := by rw [hW]; exact bnew w _
  have jY : W.heap[Y]? = some (.cells (rzA r) 48 (0, 0)) := by rw [hW, ← hY]; exact heap_alloc_new w _
  have hrs : RS W R b c s := ⟨h.rx.on hb, h.ph⟩
  have has := hrs.asks
  have hll := asks_len c s
  have HPH := Lib.hid h.ph
  obtain ⟨hs1, hs2⟩ := cask_2 hp ha
  have HANY := Lib.hid ha
  have HKD := Lib.hid hs2
  have HER := Lib.hid he
  obtain ⟨LL, hLL⟩ : ∃ LL, c.asks s = LL := ⟨_, rfl⟩
  rw [hLL] at has hll HANY
  obtain ⟨F, hF⟩ : ∃ F : Nat → Bool, ∀ i, F i = (LL.take i).any (askP sh kd) := ⟨_, fun _ => rfl⟩
  have HFF := Lib.hid hF
  have hF0 : F 0 = false := hF 0
  have HF0 := Lib.hid hF0
  have HAS := Lib.hid has
  have HLL := Lib.hid hll
  have HR := Lib.hid hrs
  have HW := Lib.hid hW
  have HY := Lib.hid hY
  have HB := Lib.hid hb
  have HJ := Lib.hid jY
  clear h hW hY hb jY hrs has hll hLL hF hF0 ha hp he hs1 hs2
  go_enter Try.func26, Try.ntmps26
  go_upto_region 1 with fail
  rw [← HW.out, HY.out]
  go_wp2_with fail
  refine HAS.out.mono ?_
  rintro e v1 ⟨aa, ac, oa, oc, rfl, o1, o2, b1⟩
  have HO := Lib.hid (And.intro o1 o2)
  have HB1 := Lib.hid b1
  have hmx : (LL.length : Int) ≤ 9223372036854775807 := by have := HLL.out; omega
  clear o1 o2 b1
  go_wp2
  go_loopw [10, 11] (fun av iv wr => ∃ i : Nat, i ≤ LL.length ∧ iv = .int .i64 (i : Int) ∧ av = .bool (F i) ∧ wr = v1) (fun _ iv _ => LL.length - (intOf iv).toNat)
  case atStart => exact ⟨0, Nat.zero_le _, rfl, by rw [HF0.out], rfl⟩
  case round =>
    obtain ⟨i, hi, rfl, rfl, hwr⟩ := hrel
    have hwr' := hwr.symm
    subst hwr'
    clear hwr
    by_cases hlt : i < LL.length
    · obtain ⟨ga, rfl⟩ := some_row HO.out.1 (by omega)
      obtain ⟨go, rfl⟩ := some_row HO.out.2 (by omega)
      have q1 := row_cell (f := fun a : Ak => [Value.int .i64 a.sh]) (fun _ => rfl) (by have h9 := HO.out.1; rw [map_flat] at h9; exact h9) hlt rfl (k := 0) (by decide)
      have q2 := row_cell (f := cmL) (fun _ => rfl) HO.out.2 hlt rfl (k := 0) (by decide)
      have hnx : F (i + 1) = (F i || askP sh kd LL[i]) := by
        rw [HFF.out, HFF.out, List.take_add_one, List.getElem?_eq_getElem hlt, List.any_append]
        simp
      have HNX := Lib.hid hnx
      clear hnx
      generalize F i = bi at *
      generalize LL[i] = a0 at *
      have q1' : v1.cell? ⟨ga, i, none⟩ = some (.int .i64 a0.sh) := by rw [Nat.mul_one, Nat.add_zero] at q1; exact q1
      have q2' : v1.cell? ⟨go, i * 30, none⟩ = some (.int .i64 a0.kd) := q2
      clear q1 q2
      have k0 : (0 : Int) ≤ i := by omega
      have k1 : (i : Int) < LL.length := by omega
      unfold askP at HNX
      cases bi with
      | true =>
        go_wp2
        go_roundw
        case rel => exact ⟨i + 1, hlt, by go_num, by rw [HNX.out]; simp, trivial⟩
        case measure => simp [intOf]; omega
      | false =>
        by_cases s1 : a0.sh = sh
        · by_cases s2 : a0.kd = kd
          · have HN2 : Hid (F (i + 1) = true) := Lib.hid (by rw [HNX.out, s1, s2]; simp)
            go_wp2
            go_roundw
            case rel => exact ⟨i + 1, hlt, by go_num, by rw [HN2.out], trivial⟩
            case measure => simp [intOf]; omega
          · have HN2 : Hid (F (i + 1) = false) := Lib.hid (by rw [HNX.out, decide_eq_false s2]; simp)
            go_wp2
            go_roundw
            case rel => exact ⟨i + 1, hlt, by go_num, by rw [HN2.out]; simp [s2], trivial⟩
            case measure => simp [intOf]; omega
        · have HN2 : Hid (F (i + 1) = false) := Lib.hid (by rw [HNX.out, decide_eq_false s1]; simp)
          go_wp2
          go_roundw
          case rel => exact ⟨i + 1, hlt, by go_num, by rw [HN2.out], trivial⟩
          case measure => simp [intOf]; omega
    · obtain rfl : i = LL.length := by omega
      have k1 : ¬ (LL.length : Int) < LL.length := by omega
      have hFL : F LL.length = LL.any (askP sh kd) := by rw [HFF.out, List.take_length]
      rw [hFL]
      clear hFL
      have c0 : v1.cell? ⟨Y, 0, none⟩ = some (.int .i64 r.er) := cell_on HB1.out (cell_blk HJ.out 0)
      have c1 : v1.cell? ⟨Y, 1, none⟩ = some (.int .i64 r.ts) := cell_on HB1.out (cell_blk HJ.out 1)
      have HRS := Lib.hid (HR.out.on HB1.out)
      rw [HANY.out]
      have hs2 := HKD.out
      subst hs2
      rw [HER.out] at c0
      have hnx := next_one HRS.out.rx 3 r.ts 0
      have HNX := Lib.hid hnx
      clear hnx
      go_wp2_with fail
      refine HNX.out.mono ?_
      rintro e v2 ⟨rfl, h3, f3⟩
      have HE : Hid (RsAns w R b c ⟨3, r.ts, 0⟩ (.returned (.tuple #[])) v2) := Lib.hid ⟨rfl, ⟨h3, .inr (.inl rfl)⟩, (Fr.ofBelow _ (bgo HB.out HB1.out)).trans f3⟩
      clear h3 f3 c0 c1
      go_wp2
      first | refine bodyPost_end (results_none rfl _ _ _) rfl ?_ | refine bodyPost_ret (results_none rfl _ _ _) rfl ?_
      exact HE.out
set_option maxHeartbeats 8000000 in
set_option maxRecDepth 100000 in
theorem rtold_22 (h : RS w R b c s) (sh kd : Int) (r : Rz) (hp : s.ph = 2) (ha : (c.asks s).any (askP sh kd) = true) (h1 : ¬ r.ts < 0) (h2 : ¬ 1125899906842624 < r.ts) (he : ¬ r.er = 0) (he2 : ¬ r.er = 132) : Calls Try.prog 26 #[.pointer (some ⟨R, 0, none⟩), .int .i64 sh, .int .i64 kd, .agg (rzA r)] w (RsAns w R b c s) := by
  obtain ⟨W, hW⟩ : ∃ W, W = w.alloc (.cells (rzA r) 48) := ⟨_, rfl⟩
  obtain ⟨Y, hY⟩ : ∃ Y, w.heap.size = Y := ⟨_, rfl⟩
  have hb : Below w.heap.size w W := by rw [hW]; exact bnew w _
  have jY : W.heap[Y]? = some (.cells (rzA r) 48 (0, 0)) := by rw [hW, ← hY]; exact heap_alloc_new w _
  have hrs : RS W R b c s := ⟨h.rx.on hb, h.ph⟩
  have has := hrs.asks
  have hll := asks_len c s
  have HPH := Lib.hid h.ph
  obtain ⟨hs1, hs2⟩ := cask_2 hp ha
  have HANY := Lib.hid ha
  have HKD := Lib.hid hs2
  obtain ⟨LL, hLL⟩ : ∃ LL, c.asks s = LL := ⟨_, rfl⟩
  rw [hLL] at has hll HANY
  obtain ⟨F, hF⟩ : ∃ F : Nat → Bool, ∀ i, F i = (LL.take i).any (askP sh kd) := ⟨_, fun _ => rfl⟩
  have HFF := Lib.hid hF
  have hF0 : F 0 = false := hF 0
  have HF0 := Lib.hid hF0
  have HAS := Lib.hid has
  have HLL := Lib.hid hll
  have HR := Lib.hid hrs
  have HW := Lib.hid hW
  have HY := Lib.hid hY
  have HB := Lib.hid hb
  have HJ := Lib.hid jY
  clear h hW hY hb jY hrs has hll hLL hF hF0 ha hp hs1 hs2
  go_enter Try.func26, Try.ntmps26
  go_upto_region 1 with fail
  rw [← HW.out, HY.out]
  go_wp2_with fail
  refine HAS.out.mono ?_
  rintro e v1 ⟨aa, ac, oa, oc, rfl, o1, o2, b1⟩
  have HO := Lib.hid (And.intro o1 o2)
  have HB1 := Lib.hid b1
  have hmx : (LL.length : Int) ≤ 9223372036854775807 := by have := HLL.out; omega
  clear o1 o2 b1
  go_wp2
  go_loopw [10, 11] (fun av iv wr => ∃ i : Nat, i ≤ LL.length ∧ iv = .int .i64 (i : Int) ∧ av = .bool (F i) ∧ wr = v1) (fun _ iv _ => LL.length - (intOf iv).toNat)
  case atStart => exact ⟨0, Nat.zero_le _, rfl, by rw [HF0.out], rfl⟩
  case round =>
    obtain ⟨i, hi, rfl, rfl, hwr⟩ := hrel
    have hwr' := hwr.symm
    subst hwr'
    clear hwr
    by_cases hlt : i < LL.length
    · obtain ⟨ga, rfl⟩ := some_row HO.out.1 (by omega)
      obtain ⟨go, rfl⟩ := some_row HO.out.2 (by omega)
      have q1 := row_cell (f := fun a : Ak => [Value.int .i64 a.sh]) (fun _ => rfl) (by have h9 := HO.out.1; rw [map_flat] at h9; exact h9) hlt rfl (k := 0) (by decide)
      have q2 := row_cell (f := cmL) (fun _ => rfl) HO.out.2 hlt rfl (k := 0) (by decide)
      have hnx : F (i + 1) = (F i || askP sh kd LL[i]) := by
        rw [HFF.out, HFF.out, List.take_add_one, List.getElem?_eq_getElem hlt, List.any_append]
        simp
      have HNX := Lib.hid hnx
      clear hnx
      generalize F i = bi at *
      generalize LL[i] = a0 at *
      have q1' : v1.cell? ⟨ga, i, none⟩ = some (.int .i64 a0.sh) := by rw [Nat.mul_one, Nat.add_zero] at q1; exact q1
      have q2' : v1.cell? ⟨go, i * 30, none⟩ = some (.int .i64 a0.kd) := q2
      clear q1 q2
      have k0 : (0 : Int) ≤ i := by omega
      have k1 : (i : Int) < LL.length := by omega
      unfold askP at HNX
      cases bi with
      | true =>
        go_wp2
        go_roundw
        case rel => exact ⟨i + 1, hlt, by go_num, by rw [HNX.out]; simp, trivial⟩
        case measure => simp [intOf]; omega
      | false =>
        by_cases s1 : a0.sh = sh
        · by_cases s2 : a0.kd = kd
          · have HN2 : Hid (F (i + 1) = true) := Lib.hid (by rw [HNX.out, s1, s2]; simp)
            go_wp2
            go_roundw
            case rel => exact ⟨i + 1, hlt, by go_num, by rw [HN2.out], trivial⟩
            case measure => simp [intOf]; omega
          · have HN2 : Hid (F (i + 1) = false) := Lib.hid (by rw [HNX.out, decide_eq_false s2]; simp)
            go_wp2
            go_roundw
            case rel => exact ⟨i + 1, hlt, by go_num, by rw [HN2.out]; simp [s2], trivial⟩
            case measure => simp [intOf]; omega
        · have HN2 : Hid (F (i + 1) = false) := Lib.hid (by rw [HNX.out, decide_eq_false s1]; simp)
          go_wp2
          go_roundw
          case rel => exact ⟨i + 1, hlt, by go_num, by rw [HN2.out], trivial⟩
          case measure => simp [intOf]; omega
    · obtain rfl : i = LL.length := by omega
      have k1 : ¬ (LL.length : Int) < LL.length := by omega
      have hFL : F LL.length = LL.any (askP sh kd) := by rw [HFF.out, List.take_length]
      rw [hFL]
      clear hFL
      have c0 : v1.cell? ⟨Y, 0, none⟩ = some (.int .i64 r.er) := cell_on HB1.out (cell_blk HJ.out 0)
      have c1 : v1.cell? ⟨Y, 1, none⟩ = some (.int .i64 r.ts) := cell_on HB1.out (cell_blk HJ.out 1)
      have HRS := Lib.hid (HR.out.on HB1.out)
      rw [HANY.out]
      have hs2 := HKD.out
      subst hs2
      go_wp2
      first | refine bodyPost_end (results_none rfl _ _ _) rfl ?_ | refine bodyPost_ret (results_none rfl _ _ _) rfl ?_
      exact ⟨rfl, HRS.out, Fr.ofBelow _ (bgo HB.out HB1.out)⟩
set_option maxHeartbeats 8000000 in
set_option maxRecDepth 100000 in
theorem rtold_3 (h : RS w R b c s) (sh kd : Int) (r : Rz) (hp : s.ph = 3) (ha : (c.asks s).any (askP sh kd) = true) (h1 : ¬ r.ts < 0) (h2 : ¬ 1125899906842624 < r.ts) : Calls Try.prog 26 #[.pointer (some ⟨R, 0, none⟩), .int .i64 sh, .int .i64 kd, .agg (rzA r)] w (RsAns w R b c { s with ph := 4 }) := by
  obtain ⟨W, hW⟩ : ∃ W, W = w.alloc (.cells (rzA r) 48) := ⟨_, rfl⟩
  obtain ⟨Y, hY⟩ : ∃ Y, w.heap.size = Y := ⟨_, rfl⟩
  have hb : Below w.heap.size w W := by rw [hW]; exact bnew w _
  have jY : W.heap[Y]? = some (.cells (rzA r) 48 (0, 0)) := by rw [hW, ← hY]; exact heap_alloc_new w _
  have hrs : RS W R b c s := ⟨h.rx.on hb, h.ph⟩
  have has := hrs.asks
  have hll := asks_len c s
  have HPH := Lib.hid h.ph
  obtain ⟨hs1, hs2⟩ := cask_3 hp ha
  have HANY := Lib.hid ha
  have HKD := Lib.hid (And.intro hs1 hs2)
  obtain ⟨LL, hLL⟩ : ∃ LL, c.asks s = LL := ⟨_, rfl⟩
  rw [hLL] at has hll HANY
  obtain ⟨F, hF⟩ : ∃ F : Nat → Bool, ∀ i, F i = (LL.take i).any (askP sh kd) := ⟨_, fun _ => rfl⟩
  have HFF := Lib.hid hF
  have hF0 : F 0 = false := hF 0
  have HF0 := Lib.hid hF0
  have HAS := Lib.hid has
  have HLL := Lib.hid hll
  have HR := Lib.hid hrs
  have HW := Lib.hid hW
  have HY := Lib.hid hY
  have HB := Lib.hid hb
  have HJ := Lib.hid jY
  clear h hW hY hb jY hrs has hll hLL hF hF0 ha hp hs1 hs2
  go_enter Try.func26, Try.ntmps26
  go_upto_region 1 with fail
  rw [← HW.out, HY.out]
  go_wp2_with fail
  refine HAS.out.mono ?_
  rintro e v1 ⟨aa, ac, oa, oc, rfl, o1, o2, b1⟩
  have HO := Lib.hid (And.intro o1 o2)
  have HB1 := Lib.hid b1
  have hmx : (LL.length : Int) ≤ 9223372036854775807 := by have := HLL.out; omega
  clear o1 o2 b1
  go_wp2
  go_loopw [10, 11] (fun av iv wr => ∃ i : Nat, i ≤ LL.length ∧ iv = .int .i64 (i : Int) ∧ av = .bool (F i) ∧ wr = v1) (fun _ iv _ => LL.length - (intOf iv).toNat)
  case atStart => exact ⟨0, Nat.zero_le _, rfl, by rw [HF0.out], rfl⟩
  case round =>
    obtain ⟨i, hi, rfl, rfl, hwr⟩ := hrel
    have hwr' := hwr.symm
    subst hwr'
    clear hwr
    by_cases hlt : i < LL.length
    · obtain ⟨ga, rfl⟩ := some_row HO.out.1 (by omega)
      obtain ⟨go, rfl⟩ := some_row HO.out.2 (by omega)
      have q1 := row_cell (f := fun a : Ak => [Value.int .i64 a.sh]) (fun _ => rfl) (by have h9 := HO.out.1; rw [map_flat] at h9; exact h9) hlt rfl (k := 0) (by decide)
      have q2 := row_cell (f := cmL) (fun _ => rfl) HO.out.2 hlt rfl (k := 0) (by decide)
      have hnx : F (i + 1) = (F i || askP sh kd LL[i]) := by
        rw [HFF.out, HFF.out, List.take_add_one, List.getElem?_eq_getElem hlt, List.any_append]
        simp
      have HNX := Lib.hid hnx
      clear hnx
      generalize F i = bi at *
      generalize LL[i] = a0 at *
      have q1' : v1.cell? ⟨ga, i, none⟩ = some (.int .i64 a0.sh) := by rw [Nat.mul_one, Nat.add_zero] at q1; exact q1
      have q2' : v1.cell? ⟨go, i * 30, none⟩ = some (.int .i64 a0.kd) := q2
      clear q1 q2
      have k0 : (0 : Int) ≤ i := by omega
      have k1 : (i : Int) < LL.length := by omega
      unfold askP at HNX
      cases bi with
      | true =>
        go_wp2
        go_roundw
        case rel => exact ⟨i + 1, hlt, by go_num, by rw [HNX.out]; simp, trivial⟩
        case measure => simp [intOf]; omega
      | false =>
        by_cases s1 : a0.sh = sh
        · by_cases s2 : a0.kd = kd
          · have HN2 : Hid (F (i + 1) = true) := Lib.hid (by rw [HNX.out, s1, s2]; simp)
            go_wp2
            go_roundw
            case rel => exact ⟨i + 1, hlt, by go_num, by rw [HN2.out], trivial⟩
            case measure => simp [intOf]; omega
          · have HN2 : Hid (F (i + 1) = false) := Lib.hid (by rw [HNX.out, decide_eq_false s2]; simp)
            go_wp2
            go_roundw
            case rel => exact ⟨i + 1, hlt, by go_num, by rw [HN2.out]; simp [s2], trivial⟩
            case measure => simp [intOf]; omega
        · have HN2 : Hid (F (i + 1) = false) := Lib.hid (by rw [HNX.out, decide_eq_false s1]; simp)
          go_wp2
          go_roundw
          case rel => exact ⟨i + 1, hlt, by go_num, by rw [HN2.out], trivial⟩
          case measure => simp [intOf]; omega
    · obtain rfl : i = LL.length := by omega
      have k1 : ¬ (LL.length : Int) < LL.length := by omega
      have hFL : F LL.length = LL.any (askP sh kd) := by rw [HFF.out, List.take_length]
      rw [hFL]
      clear hFL
      have c0 : v1.cell? ⟨Y, 0, none⟩ = some (.int .i64 r.er) := cell_on HB1.out (cell_blk HJ.out 0)
      have c1 : v1.cell? ⟨Y, 1, none⟩ = some (.int .i64 r.ts) := cell_on HB1.out (cell_blk HJ.out 1)
      have HRS := Lib.hid (HR.out.on HB1.out)
      rw [HANY.out]
      obtain ⟨hs1, hs2⟩ := HKD.out
      subst hs1 hs2
      have hdn := done_one HRS.out.rx
      have HDN := Lib.hid hdn
      clear hdn
      go_wp2_with fail
      refine HDN.out.mono ?_
      rintro e v2 ⟨rfl, h3, f3⟩
      obtain ⟨v3, hv3⟩ : ∃ v3, v3 = v2.setCell ⟨R, 9, none⟩ (.int .i64 4) := ⟨_, rfl⟩
      have c9 : v2.cell? ⟨R, 9, none⟩ = some (.int .i64 s.ph) := h3.cell 9
      have z9 : v2.frozen? ⟨R, 9, none⟩ = false := frozen_blk h3.blk _
      have hst : (Instr.storeAt 3 (.pointer (some ⟨R, 9, none⟩)) (.int .i64 4)).run Try.prog v2 = .ok () v3 := by rw [hv3]; go_simp
      obtain ⟨h4, f4⟩ : Rx v3 R b c { s with ph := 4 } true ∧ Fr v2 v3 (fun k => k = R ∨ k = b) := by rw [hv3]; exact h3.set rfl
      have HST := Lib.hid hst
      have HE : Hid (RsAns w R b c { s with ph := 4 } (.returned (.tuple #[])) v3) := Lib.hid ⟨rfl, ⟨h4, .inr (.inr rfl)⟩, ((Fr.ofBelow _ (bgo HB.out HB1.out)).trans f3).trans f4⟩
      clear h3 f3 c0 c1 hv3 c9 z9 hst h4 f4
      go_wp2_with (refine wpl_store _ _ rfl (by first | rfl | simp [Act.eval]) (by first | rfl | simp [Act.eval]) HST.out ?_)
      first | refine bodyPost_end (results_none rfl _ _ _) rfl ?_ | refine bodyPost_ret (results_none rfl _ _ _) rfl ?_
      exact HE.out
theorem rtold_any (h : RS w R b c s) (sh kd : Int) (r : Rz) : Calls Try.prog 26 #[.pointer (some ⟨R, 0, none⟩), .int .i64 sh, .int .i64 kd, .agg (rzA r)] w (RsAns w R b c (CS.told c s sh kd r)) := by
  unfold CS.told
  cases ha : (c.asks s).any (askP sh kd) with
  | false =>
    have h9 := rtold_no h sh kd r ha
    simp only [Bool.false_eq_true, if_false, ite_self]
    exact h9
  | true =>
    by_cases h1 : r.ts < 0
    · rw [if_pos h1]
      exact rtold_lo h sh kd r ha h1
    · rw [if_neg h1]
      by_cases h2 : 1125899906842624 < r.ts
      · rw [if_pos h2]
        exact rtold_hi h sh kd r ha h1 h2
      · rw [if_neg h2, if_pos rfl]
        rcases h.ph with hp | hp | hp
        · rw [if_pos hp]
          unfold CS.ends
          by_cases he : r.er = 0
          · rw [if_pos he]
            exact rtold_20 h sh kd r hp ha h1 h2 he
          · rw [if_neg he]
            by_cases he2 : r.er = 132
            · rw [if_pos he2]
              exact rtold_21 h sh kd r hp ha h1 h2 he2
            · rw [if_neg he2]
              exact rtold_22 h sh kd r hp ha h1 h2 he he2
        · rw [if_neg (by omega)]
          exact rtold_3 h sh kd r hp ha h1 h2
        · exact (cask_4 hp ha).elim
end
end Go.Proofs.Ytfokgalgdlajlaa
