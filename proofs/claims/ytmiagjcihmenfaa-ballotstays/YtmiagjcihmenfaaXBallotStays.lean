/- The statement BallotStays: what is committed stays, call by call, and what a leader has; with no condition. -/
import Derived.Test.YtmiagjcihmenfaaXn
import Derived.Deep.DeepCutAuto
import Derived.Test.YtmiagjcihmenfaaRows
namespace Go.Proofs.Ytmiagjcihmenfaa
open Go.RowKit Go.Maps

abbrev stO (b : Bs) : Obj := .cells #[.int .i64 b.term, .int .i64 b.vote, .int .i64 b.role, .int .i64 b.lead, .int .i64 b.base, .int .i64 b.last, .int .i64 b.commit] 57
abbrev stB (b : Bs) : Obj := .cells #[.int .i64 b.term, .int .i64 b.vote, .int .i64 b.role, .int .i64 b.lead, .int .i64 b.base, .int .i64 b.last, .int .i64 b.commit] 57 (0, 0)
/-- What the outer loop keeps. -/
def SJ (L : List Oq) (w wr : World) (A B : Nat) (i : Value) : Prop := ∃ k b f n S, k ≤ L.length ∧ i = .int .i64 ((k : Nat) : Int) ∧ n ≤ 1000000 * k ∧ Bd b (2 * szL (L.take k)) ∧ St w wr A B b f n S
/-- What the inner loop keeps. -/
def SK (w wr : World) (A B Y N : Nat) (b : Bs) (S : Nat → Prop) (iv : Value) : Prop := ∃ (i : Int) (f : Int → Option En) (n : Nat), iv = .int .i64 i ∧ b.base < i ∧ i ≤ b.commit + 1 ∧ (n : Int) ≤ N + (i - b.base) ∧ wr.heap[Y]? = some (stB b) ∧ Y ≠ B ∧ St w wr A B b f n S
section
variable {w : World} {L : List Oq} {ad : Option Addr} {cap : Nat}
theorem szL_le (L : List Oq) (k : Nat) : szL (L.take k) ≤ szL L := by
  have e : szL L = szL (L.take k) + szL (L.drop k) := by
    unfold szL
    rw [← List.sum_append, ← List.map_append, List.take_append_drop]
  omega
set_option maxHeartbeats 8000000 in
set_option maxRecDepth 100000 in
theorem stays_no (hL : Lo w L ad) (hc : L.length ≤ cap) (hm : cap ≤ maxLen) (id size : Int) (hv : ¬ (1 ≤ size ∧ size ≤ 5 ∧ 0 ≤ id ∧ id < size)) :
    Calls Try.prog 7 #[.int .i64 id, .int .i64 size, .slice ad L.length cap] w fun e w' => e = .returned (.bool true) ∧ Below w.heap.size w w' := by
  have hnew := new_no w id size hv
  clear hv
  go_enter Try.func7, Try.ntmps7
  go_wp2_with fail
  refine hnew.mono ?_
  rintro e w1 ⟨rfl, rfl⟩
  clear hnew
  go_wp2_with fail
  refine (awake_p w1).mono ?_
  rintro e w2 ⟨rfl, hb2⟩
  go_wp2_with fail
  refine (great_p (hL.on hb2) hc hm).mono ?_
  rintro e w3 ⟨g, rfl, hgr, hb3⟩
  have hb23 := hb2.trans (hb3.mono hb2.size)
  cases g with
  | true =>
    go_wp2_with fail
    refine (awake_p w3).mono ?_
    rintro e w4 ⟨rfl, hb4⟩
    go_wp2
    go_ret
    exact ⟨rfl, hb23.trans (hb4.mono hb23.size)⟩
  | false =>
    go_wp2_with fail
    refine (awake_p w3).mono ?_
    rintro e w4 ⟨rfl, hb4⟩
    go_wp2
    go_ret
    exact ⟨rfl, hb23.trans (hb4.mono hb23.size)⟩
set_option maxHeartbeats 40000000 in
set_option maxRecDepth 100000 in
theorem stays_yes (hL : Lo w L ad) (hc : L.length ≤ cap) (hm : cap ≤ maxLen) (id size : Nat) (h1 : 1 ≤ size) (h2 : size ≤ 5) (h3 : id < size) :
    Calls Try.prog 7 #[.int .i64 id, .int .i64 size, .slice ad L.length cap] w fun e w' => e = .returned (.bool true) ∧ Below w.heap.size w w' := by
  have hnew := new_yes w id size h1 h2 h3
  have hok := new_ok id size h1 h2 h3
  have hmm := @run_makeMap Try.prog
  clear h1 h2 h3
  go_enter Try.func7, Try.ntmps7
  go_wp2_with fail
  refine hnew.mono ?_
  rintro e w1 ⟨rfl, hp1, hb1⟩
  clear hnew
  go_wp2_with fail
  refine (awake_p w1).mono ?_
  rintro e w2 ⟨rfl, hb2⟩
  have hb12 := hb1.trans (hb2.mono hb1.size)
  go_wp2_with fail
  refine (great_p (hL.on hb12) hc hm).mono ?_
  rintro e w3 ⟨g, rfl, hgr, hb3⟩
  have hb13 := hb12.trans (hb3.mono hb12.size)
  cases g with
  | true =>
    go_wp2_with fail
    refine (awake_p w3).mono ?_
    rintro e w4 ⟨rfl, hb4⟩
    go_wp2
    go_ret
    exact ⟨rfl, hb13.trans (hb4.mono hb13.size)⟩
  | false =>
    obtain ⟨hl2, hsz⟩ := hgr rfl
    have l1 : (L.length : Int) ≤ 200 := by omega
    obtain ⟨A, hA⟩ : ∃ A, w.heap.size = A := ⟨_, rfl⟩
    obtain ⟨B, hB⟩ : ∃ B, w3.heap.size = B := ⟨_, rfl⟩
    have hS0 : St w (w3.alloc (.map #[] 0)) A B (Bs.new id size) (fun _ => none) 0 (fun k => k = A) := by
      have hal : Below w3.heap.size w3 (w3.alloc (.map #[] 0)) := (Below.refl _ w3).alloc (Nat.le_refl _) _
      have hpA : Pb w1 A (fun k => k = A) (Bs.new id size) := by rw [← hA]; exact hp1
      have hs1 := hp1.lt _ rfl
      have s2 := hb2.size
      have s3 := hb3.size
      refine ⟨((hpA.on hb2).on hb3).on hal, hok, by rw [← hB]; exact Wm.made w3, fun q => ?_, fun k q => by rw [q]; omega, by have := hb13.size; omega, hb13.trans (hal.mono hb13.size), fun i e q => by cases q⟩
      have q : B = A := q
      omega
    rw [hA]
    have HA := Lib.hid hA
    have HSZ := Lib.hid hsz
    have HL2 := Lib.hid hl2
    clear hp1 hb1 hb2 hb3 hb12 hb13 hgr hok hA hsz hl2
    go_wp2
    clear hB
    go_loopw [43] (fun i wr => SJ L w wr A B i) (fun i _ => L.length - (intOf i).toNat)
    case atStart => exact ⟨0, _, _, 0, _, Nat.zero_le _, rfl, Nat.zero_le _, ⟨Nat.zero_le _, by show (0 : Int) + 0 ≤ _; omega, by show (0 : Int) ≤ _; omega⟩, hS0⟩
    case round =>
      clear hS0
      obtain ⟨k, b, f, n, S, hk, rfl, hn, hbd, hS⟩ := hrel
      by_cases hlt : k < L.length
      · have k0 : (0 : Int) ≤ k := by omega
        have k1 : (k : Int) < L.length := by omega
        obtain ⟨bb, o, rfl, hbl, c0, c1, c2, c3, c4, c5, c6, c7, c8, c9, c10, c11, c12, c13⟩ := (hL.on hS.bel).at' k hlt
        have hE := hL.es _ (List.getElem_mem hlt)
        have hks := szL_take L k hlt
        have hkl := szL_le L (k + 1)
        obtain ⟨⟨x, mad, mcap⟩, hx⟩ : ∃ x, L[k] = x := ⟨_, rfl⟩
        rw [hx] at c0 c1 c2 c3 c4 c5 c6 c7 c8 c9 c10 c11 c12 c13 hE hks
        simp only at c0 c1 c2 c3 c4 c5 c6 c7 c8 c9 c10 c11 c12 c13 hE
        have hso : szO (x, mad, mcap) = 1 + x.text.size + x.m.list.length + x.m.snap.size := rfl
        have hz0 := HSZ.out
        have hz2 := HL2.out
        have hlog := hbd.log
        have hlast := hbd.last
        have hterm := hbd.term
        have zz1 : b.log.length + x.m.list.length + 1 ≤ 900000 := by omega
        have zz2 : b.term ≤ 4611686018427387904 := by omega
        have zz3 : b.last ≤ 4398046511104 := by omega
        have hbd' := (hbd.did hS.ok.inv x).up (M := 2 * szL (L.take (k + 1))) (by omega)
        have hn2 : n ≤ 200000000 := by omega
        -- the call, boxed
        obtain ⟨W1, hW1⟩ : ∃ W1, W1 = wr.alloc (.cells #[.int .i64 x.kind, .int .i64 x.a, .int .i64 x.b, .string x.text, .int .i64 x.m.kind, .int .i64 x.m.fr, .int .i64 x.m.tgt, .int .i64 x.m.term, .int .i64 x.m.index, .int .i64 x.m.prev, .int .i64 x.m.commit, .bool x.m.good, .slice mad x.m.list.length mcap, .string x.m.snap] 36) := ⟨_, rfl⟩
        have bW1 : Below wr.heap.size wr W1 := by rw [hW1]; exact (Below.refl _ wr).alloc (Nat.le_refl _) _
        have jx1 : W1.heap[wr.heap.size]? = some (.cells #[.int .i64 x.kind, .int .i64 x.a, .int .i64 x.b, .string x.text, .int .i64 x.m.kind, .int .i64 x.m.fr, .int .i64 x.m.tgt, .int .i64 x.m.term, .int .i64 x.m.index, .int .i64 x.m.prev, .int .i64 x.m.commit, .bool x.m.good, .slice mad x.m.list.length mcap, .string x.m.snap] 36 (0, 0)) := by rw [hW1]; exact heap_alloc_new wr _
        have hS1 := hS.on bW1
        have hst1 := stand_any hS1.pb
        have hsx := hS.pb.lt
        obtain ⟨s1, s2, s3, s4, s5⟩ := hS.span
        have HW1 := Lib.hid hW1
        have HBD := Lib.hid hbd'
        have HN := Lib.hid hn
        obtain ⟨X, hX⟩ : ∃ X, wr.heap.size = X := ⟨_, rfl⟩
        clear hx hks hkl hso hz0 hz2 hlog hlast hterm hbd hbd' hW1 hk hn
        go_upto_region 8 with fail
        rw [← HW1.out]
        go_wp2_with fail
        refine hst1.mono ?_
        rintro e w2 ⟨rfl, hb2⟩
        clear hst1 c0 c1 c2 c3 c4 c5 c6 c7 c8 c9 c10 c11 c12 c13
        obtain ⟨W3, hW3⟩ : ∃ W3, W3 = w2.alloc (stO b) := ⟨_, rfl⟩
        have bW3 : Below w2.heap.size w2 W3 := by rw [hW3]; exact (Below.refl _ w2).alloc (Nat.le_refl _) _
        have jb3 : W3.heap[w2.heap.size]? = some (stB b) := by rw [hW3]; exact heap_alloc_new w2 _
        have hS3 := (hS1.on hb2).on bW3
        have d5 : W3.cell? ⟨w2.heap.size, 5, none⟩ = some (.int .i64 b.last) := cell_blk jb3 5
        have hen := entry_p hS3.pb b.last
        have HW3 := Lib.hid hW3
        clear hW3
        go_upto_region 9 with fail
        rw [← HW3.out]
        go_wp2_with fail
        refine hen.mono ?_
        rintro e w4 ⟨rfl, hb4⟩
        clear hen
        obtain ⟨el, hel⟩ : ∃ el, (b.at? b.last).getD en0 = el := ⟨_, rfl⟩
        rw [hel]
        obtain ⟨W5, hW5⟩ : ∃ W5, W5 = w4.alloc (.cells #[.int .i64 el.term, .int .i64 el.at', .int .i64 el.born, .string el.text] 49) := ⟨_, rfl⟩
        have bW5 : Below w4.heap.size w4 W5 := by rw [hW5]; exact (Below.refl _ w4).alloc (Nat.le_refl _) _
        have jl5 : W5.heap[w4.heap.size]? = some (.cells #[.int .i64 el.term, .int .i64 el.at', .int .i64 el.born, .string el.text] 49 (0, 0)) := by rw [hW5]; exact heap_alloc_new w4 _
        have hS5 := (hS3.on hb4).on bW5
        have b45 := hb4.trans (bW5.mono hb4.size)
        have jb5 := (b45.block _ (blk_lt jb3)).trans jb3
        have b15 := (hb2.trans (bW3.mono hb2.size)).trans (b45.mono (Nat.le_trans hb2.size bW3.size))
        have jx5 := (b15.block _ (blk_lt jx1)).trans jx1
        rw [hX] at jx5
        have o0 : W5.cell? ⟨X, 0, none⟩ = some (.int .i64 x.kind) := cell_blk jx5 0
        have o1 : W5.cell? ⟨X, 1, none⟩ = some (.int .i64 x.a) := cell_blk jx5 1
        have o2 : W5.cell? ⟨X, 2, none⟩ = some (.int .i64 x.b) := cell_blk jx5 2
        have o3 : W5.cell? ⟨X, 3, none⟩ = some (.string x.text) := cell_blk jx5 3
        have o4 : W5.cell? ⟨X, 4, none⟩ = some (.int .i64 x.m.kind) := cell_blk jx5 4
        have o5 : W5.cell? ⟨X, 5, none⟩ = some (.int .i64 x.m.fr) := cell_blk jx5 5
        have o6 : W5.cell? ⟨X, 6, none⟩ = some (.int .i64 x.m.tgt) := cell_blk jx5 6
        have o7 : W5.cell? ⟨X, 7, none⟩ = some (.int .i64 x.m.term) := cell_blk jx5 7
        have o8 : W5.cell? ⟨X, 8, none⟩ = some (.int .i64 x.m.index) := cell_blk jx5 8
        have o9 : W5.cell? ⟨X, 9, none⟩ = some (.int .i64 x.m.prev) := cell_blk jx5 9
        have o10 : W5.cell? ⟨X, 10, none⟩ = some (.int .i64 x.m.commit) := cell_blk jx5 10
        have o11 : W5.cell? ⟨X, 11, none⟩ = some (.bool x.m.good) := cell_blk jx5 11
        have o12 : W5.cell? ⟨X, 12, none⟩ = some (.slice mad x.m.list.length mcap) := cell_blk jx5 12
        have o13 : W5.cell? ⟨X, 13, none⟩ = some (.string x.m.snap) := cell_blk jx5 13
        have hE5 : Es W5 S x.m.list (.slice mad x.m.list.length mcap) := by
          have q := hE.stays (S' := S) (Fr.ofBelow (fun _ => False) hS5.bel) (fun k z => .inr ⟨hS.lo k z, hS5.pb.lt k z⟩)
          exact q
        have hdid := did_p hS5.pb hS5.ok x hE5 zz1 zz2 zz3
        have HW5 := Lib.hid hW5
        clear hW5 d5
        go_upto_region 10 with fail
        rw [← HW5.out]
        go_wp2_with fail
        refine hdid.mono ?_
        rintro e w6 ⟨ov, rfl, q6⟩
        obtain ⟨S6, hS6, hfr, hgr6⟩ := hS5.did x q6
        have hdst := did_stays hS5.ok.inv x
        obtain ⟨c, hcd⟩ : ∃ c, (didR b x).1 = c := ⟨_, rfl⟩
        have hbdc := HBD.out
        rw [hcd] at hS6 hdst hbdc
        have HBD2 := Lib.hid hbdc
        have z12 := hb2.size
        have z01 := bW1.size
        have z23 := bW3.size
        have z34 := hb4.size
        have jb6 := (hfr.block _ (blk_lt jb5) (fun q => by have := hsx _ q; omega)).trans jb5
        have jl6 := (hfr.block _ (blk_lt jl5) (fun q => by have := hsx _ q; omega)).trans jl5
        have hst6 := stand_any hS6.pb
        have hBlt := hS6.mp.lt
        obtain ⟨Y1, hY1⟩ : ∃ Y1, w2.heap.size = Y1 := ⟨_, rfl⟩
        obtain ⟨Y2, hY2⟩ : ∃ Y2, w4.heap.size = Y2 := ⟨_, rfl⟩
        rw [hY1] at jb6 ⊢
        rw [hY2] at jl6 ⊢
        clear hbdc HBD hdid q6 o0 o1 o2 o3 o4 o5 o6 o7 o8 o9 o10 o11 o12 o13 hE5 hE HW1 HW3 HW5 hS5 hS3 hS1 hS jx1 jx5 b15 b45 jb5 jb3 jl5 bW1 bW3 bW5 hb2 hb4 hfr hgr6 hsx z12 z01 z23 z34 hY1 hY2 hX hcd zz1 zz2 zz3
        go_wp2_with fail
        refine hst6.mono ?_
        rintro e w7 ⟨rfl, hb7⟩
        clear hst6
        obtain ⟨W8, hW8⟩ : ∃ W8, W8 = w7.alloc (stO c) := ⟨_, rfl⟩
        have bW8 : Below w7.heap.size w7 W8 := by rw [hW8]; exact (Below.refl _ w7).alloc (Nat.le_refl _) _
        have jc8 : W8.heap[w7.heap.size]? = some (stB c) := by rw [hW8]; exact heap_alloc_new w7 _
        have b68 := hb7.trans (bW8.mono hb7.size)
        have jb8 := (b68.block _ (blk_lt jb6)).trans jb6
        have jl8 := (b68.block _ (blk_lt jl6)).trans jl6
        have hS8 := hS6.on b68
        have hYB : w7.heap.size ≠ B := by have := hb7.size; omega
        obtain ⟨Y, hY⟩ : ∃ Y, w7.heap.size = Y := ⟨_, rfl⟩
        rw [hY] at jc8 hYB
        obtain ⟨t1, t2, t3, t4, t5⟩ := hS8.span
        have g1 : ¬ c.commit < b.commit := by have := hdst.commit; omega
        have g2 : ¬ c.base < b.base := by have := hdst.base; omega
        have g3 : ¬ c.commit < c.base := by omega
        have g4 : ¬ c.last < c.commit := by omega
        have x0 : W8.cell? ⟨Y, 0, none⟩ = some (.int .i64 c.term) := cell_blk jc8 0
        have x2 : W8.cell? ⟨Y, 2, none⟩ = some (.int .i64 c.role) := cell_blk jc8 2
        have x4 : W8.cell? ⟨Y, 4, none⟩ = some (.int .i64 c.base) := cell_blk jc8 4
        have x5 : W8.cell? ⟨Y, 5, none⟩ = some (.int .i64 c.last) := cell_blk jc8 5
        have x6 : W8.cell? ⟨Y, 6, none⟩ = some (.int .i64 c.commit) := cell_blk jc8 6
        have y0 : W8.cell? ⟨Y1, 0, none⟩ = some (.int .i64 b.term) := cell_blk jb8 0
        have y2 : W8.cell? ⟨Y1, 2, none⟩ = some (.int .i64 b.role) := cell_blk jb8 2
        have y4 : W8.cell? ⟨Y1, 4, none⟩ = some (.int .i64 b.base) := cell_blk jb8 4
        have y5 : W8.cell? ⟨Y1, 5, none⟩ = some (.int .i64 b.last) := cell_blk jb8 5
        have y6 : W8.cell? ⟨Y1, 6, none⟩ = some (.int .i64 b.commit) := cell_blk jb8 6
        have l0e : W8.cell? ⟨Y2, 0, none⟩ = some (.int .i64 el.term) := cell_blk jl8 0
        have l1e : W8.cell? ⟨Y2, 1, none⟩ = some (.int .i64 el.at') := cell_blk jl8 1
        have l2e : W8.cell? ⟨Y2, 2, none⟩ = some (.int .i64 el.born) := cell_blk jl8 2
        have l3e : W8.cell? ⟨Y2, 3, none⟩ = some (.string el.text) := cell_blk jl8 3
        have HST := Lib.hid hdst
        have HEL := Lib.hid hel
        have HW8 := Lib.hid hW8
        clear hW8 hb7 b68 jb6 jl6 hS6 hBlt hdst hel bW8
        go_upto_region 12 with fail
        rw [← HW8.out]
        go_upto_region 14 with fail
        go_cut [108] (fun v wx => v = .bool (decide (b.role = 2 ∧ c.role = 2 ∧ c.term = b.term ∧ c.base < b.last)) ∧ wx = W8)
        case first =>
          by_cases r1 : b.role = 2
          · by_cases r2 : c.role = 2
            · by_cases r3 : c.term = b.term
              · by_cases r4 : c.base < b.last
                · go_wp2_with fail
                  go_meet
                  exact ⟨by simp [r1, r2, r3, r4], rfl⟩
                · go_wp2_with fail
                  go_meet
                  exact ⟨by simp [r4], rfl⟩
              · go_wp2_with fail
                go_meet
                exact ⟨by simp [r3], rfl⟩
            · go_wp2_with fail
              go_meet
              exact ⟨by simp [r2], rfl⟩
          · go_wp2_with fail
            go_meet
            exact ⟨by simp [r1], rfl⟩
        case rest =>
          obtain ⟨hcv, hwc⟩ := hcut
          subst hwc
          by_cases hCC : b.role = 2 ∧ c.role = 2 ∧ c.term = b.term ∧ c.base < b.last
          · rw [decide_eq_true hCC] at hcv
            subst hcv
            have hst := HST.out
            have hat : c.at? b.last = some el := by
              obtain ⟨z, hz⟩ := at_some (b := c) hCC.2.2.2 (hst.len hCC.1 hCC.2.1 hCC.2.2.1)
              have q := HEL.out
              rw [← hst.lead hCC.1 hCC.2.1 hCC.2.2.1 b.last hCC.2.2.2 (Int.le_refl _), hz] at q
              rw [hz, ← q]
              rfl
            have hen := entry_p hS8.pb b.last
            rw [hat] at hen
            simp only [Option.getD_some, Option.isSome_some] at hen
            clear hst hat hCC
            go_wp2_with fail
            refine hen.mono ?_
            rintro e' w9 ⟨rfl, hb9⟩
            clear hen
            obtain ⟨W10, hW10⟩ : ∃ W10, W10 = w9.alloc (.cells #[.int .i64 el.term, .int .i64 el.at', .int .i64 el.born, .string el.text] 49) := ⟨_, rfl⟩
            have bW10 : Below w9.heap.size w9 W10 := by rw [hW10]; exact (Below.refl _ w9).alloc (Nat.le_refl _) _
            have jm10 : W10.heap[w9.heap.size]? = some (.cells #[.int .i64 el.term, .int .i64 el.at', .int .i64 el.born, .string el.text] 49 (0, 0)) := by rw [hW10]; exact heap_alloc_new w9 _
            have b90 := hb9.trans (bW10.mono hb9.size)
            have jl10 := (b90.block _ (blk_lt jl8)).trans jl8
            have jc10 := (b90.block _ (blk_lt jc8)).trans jc8
            have hS10 := hS8.on b90
            have m0 : W10.cell? ⟨w9.heap.size, 0, none⟩ = some (.int .i64 el.term) := cell_blk jm10 0
            have p0 : W10.cell? ⟨Y2, 0, none⟩ = some (.int .i64 el.term) := cell_blk jl10 0
            have m1 : W10.cell? ⟨w9.heap.size, 1, none⟩ = some (.int .i64 el.at') := cell_blk jm10 1
            have p1 : W10.cell? ⟨Y2, 1, none⟩ = some (.int .i64 el.at') := cell_blk jl10 1
            have m2 : W10.cell? ⟨w9.heap.size, 2, none⟩ = some (.int .i64 el.born) := cell_blk jm10 2
            have p2 : W10.cell? ⟨Y2, 2, none⟩ = some (.int .i64 el.born) := cell_blk jl10 2
            have m3 : W10.cell? ⟨w9.heap.size, 3, none⟩ = some (.string el.text) := cell_blk jm10 3
            have p3 : W10.cell? ⟨Y2, 3, none⟩ = some (.string el.text) := cell_blk jl10 3
            have e1 := str_self el.text
            have HW10 := Lib.hid hW10
            clear hW10 hb9 bW10 b90 jl8 jc8 jb8 hS8 jm10 jl10 x0 x2 x4 x5 x6 y0 y2 y4 y5 y6 l0e l1e l2e l3e HW8
            go_upto_region 16 with fail
            rw [← HW10.out]
            have x4v : W10.cell? ⟨Y, 4, none⟩ = some (.int .i64 c.base) := cell_blk jc10 4
            go_wp2
            go_loopw [18] (fun iv wz => SK w wz A B Y n c S6 iv) (fun iv _ => (c.commit + 1 - intOf iv).toNat)
            case atStart => exact ⟨c.base + 1, f, n, by first | rfl | go_num, by omega, by omega, by omega, jc10, hYB, hS10⟩
            case round =>
              clear jc10 hS10 x4v
              obtain ⟨i, f1, n1, rfl, i1, i2, hn1, jY, hYB1, hT⟩ := hrel
              have i0 : (0 : Int) ≤ i := by omega
              have i9 : i ≤ 4398047411200 := by omega
              have yc : wr.cell? ⟨Y, 6, none⟩ = some (.int .i64 c.commit) := cell_blk jY 6
              by_cases hi : i ≤ c.commit
              · obtain ⟨en, hen0⟩ := at_some (b := c) i1 (by omega)
                have hen := entry_p hT.pb i
                rw [hen0] at hen
                simp only [Option.getD_some, Option.isSome_some] at hen
                go_wp2_with fail
                refine hen.mono ?_
                rintro e' w9 ⟨rfl, hb9⟩
                clear hen
                obtain ⟨V1, hV1⟩ : ∃ V1, V1 = w9.alloc (.cells #[.int .i64 en.term, .int .i64 en.at', .int .i64 en.born, .string en.text] 49) := ⟨_, rfl⟩
                have bV1 : Below w9.heap.size w9 V1 := by rw [hV1]; exact (Below.refl _ w9).alloc (Nat.le_refl _) _
                have jn1 : V1.heap[w9.heap.size]? = some (.cells #[.int .i64 en.term, .int .i64 en.at', .int .i64 en.born, .string en.text] 49 (0, 0)) := by rw [hV1]; exact heap_alloc_new w9 _
                have b91 := hb9.trans (bV1.mono hb9.size)
                have hT1 := hT.on b91
                have jY1 := (b91.block _ (blk_lt jY)).trans jY
                have hlk := hT1.mp.look (i := i) ⟨by omega, by omega⟩
                have hf1 : f1 i = none ∨ f1 i = some en := by
                  cases hq : f1 i with
                  | none => exact .inl rfl
                  | some e2 =>
                    have q := (hT1.is i e2 hq).2 i1
                    rw [hen0] at q
                    cases q
                    exact .inr rfl
                have HV1 := Lib.hid hV1
                clear hV1
                rcases hf1 with hq | hq
                · rw [hq] at hlk
                  have hlk : (Instr.lookup 66 (.map (some B)) (.int .i64 i) true).run Try.prog V1 = .ok (.tuple #[.agg #[.int .i64 0, .int .i64 0, .int .i64 0, .string noT], .bool false]) V1 := hlk
                  obtain ⟨V2, hV2⟩ : ∃ V2, V2 = V1.alloc (.cells #[.int .i64 0, .int .i64 0, .int .i64 0, .string noT] 49) := ⟨_, rfl⟩
                  have bV2 : Below V1.heap.size V1 V2 := by rw [hV2]; exact (Below.refl _ V1).alloc (Nat.le_refl _) _
                  have jn2 := (bV2.block _ (blk_lt jn1)).trans jn1
                  have jY2 := (bV2.block _ (blk_lt jY1)).trans jY1
                  have nn0 : V2.cell? ⟨w9.heap.size, 0, none⟩ = some (.int .i64 en.term) := cell_blk jn2 0
                  have nn1 : V2.cell? ⟨w9.heap.size, 1, none⟩ = some (.int .i64 en.at') := cell_blk jn2 1
                  have nn2 : V2.cell? ⟨w9.heap.size, 2, none⟩ = some (.int .i64 en.born) := cell_blk jn2 2
                  have nn3 : V2.cell? ⟨w9.heap.size, 3, none⟩ = some (.string en.text) := cell_blk jn2 3
                  have hT2 := hT1.on bV2
                  obtain ⟨w12, hrun, hT12, hgr12⟩ := hT2.put hi i1 hen0 (by omega)
                  have HT12 := Lib.hid hT12
                  have HY12 : Hid (w12.heap[Y]? = some (stB c)) := (hgr12.block _ (blk_lt jY2) (fun q => hYB1 (by injection q))).trans jY2
                  have e1 := str_self en.text
                  have HV2 := Lib.hid hV2
                  clear hV2 hT2 hT12 hgr12 jn2 jY2 jY1 jn1 hT1 b91 bV1 bV2 hb9 hen0 hq hT jY
                  go_upto_region 22 with fail
                  rw [← HV1.out]
                  go_upto_region 25 with fail
                  rw [← HV2.out]
                  go_wp2_with (at_mapUpdate; refine wpl_put _ _ _ rfl rfl rfl hrun ?_)
                  go_roundw
                  case rel => exact ⟨i + 1, _, n1 + 1, by go_num, by omega, by omega, by omega, HY12.out, hYB1, HT12.out⟩
                  case measure => simp [intOf]; omega
                · rw [hq] at hlk
                  have hlk : (Instr.lookup 66 (.map (some B)) (.int .i64 i) true).run Try.prog V1 = .ok (.tuple #[.agg #[.int .i64 en.term, .int .i64 en.at', .int .i64 en.born, .string en.text], .bool true]) V1 := hlk
                  obtain ⟨V2, hV2⟩ : ∃ V2, V2 = V1.alloc (.cells #[.int .i64 en.term, .int .i64 en.at', .int .i64 en.born, .string en.text] 49) := ⟨_, rfl⟩
                  have bV2 : Below V1.heap.size V1 V2 := by rw [hV2]; exact (Below.refl _ V1).alloc (Nat.le_refl _) _
                  have jn2 := (bV2.block _ (blk_lt jn1)).trans jn1
                  have jY2 := (bV2.block _ (blk_lt jY1)).trans jY1
                  have jm2 : V2.heap[V1.heap.size]? = some (.cells #[.int .i64 en.term, .int .i64 en.at', .int .i64 en.born, .string en.text] 49 (0, 0)) := by rw [hV2]; exact heap_alloc_new V1 _
                  have m0 : V2.cell? ⟨V1.heap.size, 0, none⟩ = some (.int .i64 en.term) := cell_blk jm2 0
                  have m1 : V2.cell? ⟨V1.heap.size, 1, none⟩ = some (.int .i64 en.at') := cell_blk jm2 1
                  have m2 : V2.cell? ⟨V1.heap.size, 2, none⟩ = some (.int .i64 en.born) := cell_blk jm2 2
                  have m3 : V2.cell? ⟨V1.heap.size, 3, none⟩ = some (.string en.text) := cell_blk jm2 3
                  have nn0 : V2.cell? ⟨w9.heap.size, 0, none⟩ = some (.int .i64 en.term) := cell_blk jn2 0
                  have nn1 : V2.cell? ⟨w9.heap.size, 1, none⟩ = some (.int .i64 en.at') := cell_blk jn2 1
                  have nn2 : V2.cell? ⟨w9.heap.size, 2, none⟩ = some (.int .i64 en.born) := cell_blk jn2 2
                  have nn3 : V2.cell? ⟨w9.heap.size, 3, none⟩ = some (.string en.text) := cell_blk jn2 3
                  have hT2 := hT1.on bV2
                  obtain ⟨w12, hrun, hT12, hgr12⟩ := hT2.put hi i1 hen0 (by omega)
                  have HT12 := Lib.hid hT12
                  have HY12 : Hid (w12.heap[Y]? = some (stB c)) := (hgr12.block _ (blk_lt jY2) (fun q => hYB1 (by injection q))).trans jY2
                  have e1 := str_self en.text
                  have HV2 := Lib.hid hV2
                  clear hV2 hT2 hT12 hgr12 jn2 jY2 jY1 jn1 hT1 b91 bV1 bV2 hb9 hen0 hq hT jY jm2
                  go_upto_region 22 with fail
                  rw [← HV1.out]
                  go_upto_region 25 with fail
                  rw [← HV2.out]
                  go_wp2_with (at_mapUpdate; refine wpl_put _ _ _ rfl rfl rfl hrun ?_)
                  go_roundw
                  case rel => exact ⟨i + 1, _, n1 + 1, by go_num, by omega, by omega, by omega, HY12.out, hYB1, HT12.out⟩
                  case measure => simp [intOf]; omega
              · have HI : Hid (n1 ≤ 1000000 * (k + 1)) := by
                  show _ ≤ _
                  have := HN.out
                  omega
                have HT := Lib.hid hT
                clear hT
                go_wp2
                go_roundw
                case rel => exact ⟨k + 1, c, f1, n1, S6, hlt, by go_num, HI.out, HBD2.out, HT.out⟩
                case measure => simp [intOf]; omega
          · rw [decide_eq_false hCC] at hcv
            subst hcv
            clear hCC jb8 jl8 x0 x2 x5 x6 y0 y2 y4 y5 y6 l0e l1e l2e l3e HW8
            have x4v : wc.cell? ⟨Y, 4, none⟩ = some (.int .i64 c.base) := cell_blk jc8 4
            go_wp2
            go_loopw [18] (fun iv wz => SK w wz A B Y n c S6 iv) (fun iv _ => (c.commit + 1 - intOf iv).toNat)
            case atStart => exact ⟨c.base + 1, f, n, by first | rfl | go_num, by omega, by omega, by omega, jc8, hYB, hS8⟩
            case round =>
              clear jc8 hS8 x4v
              obtain ⟨i, f1, n1, rfl, i1, i2, hn1, jY, hYB1, hT⟩ := hrel
              have i0 : (0 : Int) ≤ i := by omega
              have i9 : i ≤ 4398047411200 := by omega
              have yc : wr.cell? ⟨Y, 6, none⟩ = some (.int .i64 c.commit) := cell_blk jY 6
              by_cases hi : i ≤ c.commit
              · obtain ⟨en, hen0⟩ := at_some (b := c) i1 (by omega)
                have hen := entry_p hT.pb i
                rw [hen0] at hen
                simp only [Option.getD_some, Option.isSome_some] at hen
                go_wp2_with fail
                refine hen.mono ?_
                rintro e' w9 ⟨rfl, hb9⟩
                clear hen
                obtain ⟨V1, hV1⟩ : ∃ V1, V1 = w9.alloc (.cells #[.int .i64 en.term, .int .i64 en.at', .int .i64 en.born, .string en.text] 49) := ⟨_, rfl⟩
                have bV1 : Below w9.heap.size w9 V1 := by rw [hV1]; exact (Below.refl _ w9).alloc (Nat.le_refl _) _
                have jn1 : V1.heap[w9.heap.size]? = some (.cells #[.int .i64 en.term, .int .i64 en.at', .int .i64 en.born, .string en.text] 49 (0, 0)) := by rw [hV1]; exact heap_alloc_new w9 _
                have b91 := hb9.trans (bV1.mono hb9.size)
                have hT1 := hT.on b91
                have jY1 := (b91.block _ (blk_lt jY)).trans jY
                have hlk := hT1.mp.look (i := i) ⟨by omega, by omega⟩
                have hf1 : f1 i = none ∨ f1 i = some en := by
                  cases hq : f1 i with
                  | none => exact .inl rfl
                  | some e2 =>
                    have q := (hT1.is i e2 hq).2 i1
                    rw [hen0] at q
                    cases q
                    exact .inr rfl
                have HV1 := Lib.hid hV1
                clear hV1
                rcases hf1 with hq | hq
                · rw [hq] at hlk
                  have hlk : (Instr.lookup 66 (.map (some B)) (.int .i64 i) true).run Try.prog V1 = .ok (.tuple #[.agg #[.int .i64 0, .int .i64 0, .int .i64 0, .string noT], .bool false]) V1 := hlk
                  obtain ⟨V2, hV2⟩ : ∃ V2, V2 = V1.alloc (.cells #[.int .i64 0, .int .i64 0, .int .i64 0, .string noT] 49) := ⟨_, rfl⟩
                  have bV2 : Below V1.heap.size V1 V2 := by rw [hV2]; exact (Below.refl _ V1).alloc (Nat.le_refl _) _
                  have jn2 := (bV2.block _ (blk_lt jn1)).trans jn1
                  have jY2 := (bV2.block _ (blk_lt jY1)).trans jY1
                  have nn0 : V2.cell? ⟨w9.heap.size, 0, none⟩ = some (.int .i64 en.term) := cell_blk jn2 0
                  have nn1 : V2.cell? ⟨w9.heap.size, 1, none⟩ = some (.int .i64 en.at') := cell_blk jn2 1
                  have nn2 : V2.cell? ⟨w9.heap.size, 2, none⟩ = some (.int .i64 en.born) := cell_blk jn2 2
                  have nn3 : V2.cell? ⟨w9.heap.size, 3, none⟩ = some (.string en.text) := cell_blk jn2 3
                  have hT2 := hT1.on bV2
                  obtain ⟨w12, hrun, hT12, hgr12⟩ := hT2.put hi i1 hen0 (by omega)
                  have HT12 := Lib.hid hT12
                  have HY12 : Hid (w12.heap[Y]? = some (stB c)) := (hgr12.block _ (blk_lt jY2) (fun q => hYB1 (by injection q))).trans jY2
                  have e1 := str_self en.text
                  have HV2 := Lib.hid hV2
                  clear hV2 hT2 hT12 hgr12 jn2 jY2 jY1 jn1 hT1 b91 bV1 bV2 hb9 hen0 hq hT jY
                  go_upto_region 22 with fail
                  rw [← HV1.out]
                  go_upto_region 25 with fail
                  rw [← HV2.out]
                  go_wp2_with (at_mapUpdate; refine wpl_put _ _ _ rfl rfl rfl hrun ?_)
                  go_roundw
                  case rel => exact ⟨i + 1, _, n1 + 1, by go_num, by omega, by omega, by omega, HY12.out, hYB1, HT12.out⟩
                  case measure => simp [intOf]; omega
                · rw [hq] at hlk
                  have hlk : (Instr.lookup 66 (.map (some B)) (.int .i64 i) true).run Try.prog V1 = .ok (.tuple #[.agg #[.int .i64 en.term, .int .i64 en.at', .int .i64 en.born, .string en.text], .bool true]) V1 := hlk
                  obtain ⟨V2, hV2⟩ : ∃ V2, V2 = V1.alloc (.cells #[.int .i64 en.term, .int .i64 en.at', .int .i64 en.born, .string en.text] 49) := ⟨_, rfl⟩
                  have bV2 : Below V1.heap.size V1 V2 := by rw [hV2]; exact (Below.refl _ V1).alloc (Nat.le_refl _) _
                  have jn2 := (bV2.block _ (blk_lt jn1)).trans jn1
                  have jY2 := (bV2.block _ (blk_lt jY1)).trans jY1
                  have jm2 : V2.heap[V1.heap.size]? = some (.cells #[.int .i64 en.term, .int .i64 en.at', .int .i64 en.born, .string en.text] 49 (0, 0)) := by rw [hV2]; exact heap_alloc_new V1 _
                  have m0 : V2.cell? ⟨V1.heap.size, 0, none⟩ = some (.int .i64 en.term) := cell_blk jm2 0
                  have m1 : V2.cell? ⟨V1.heap.size, 1, none⟩ = some (.int .i64 en.at') := cell_blk jm2 1
                  have m2 : V2.cell? ⟨V1.heap.size, 2, none⟩ = some (.int .i64 en.born) := cell_blk jm2 2
                  have m3 : V2.cell? ⟨V1.heap.size, 3, none⟩ = some (.string en.text) := cell_blk jm2 3
                  have nn0 : V2.cell? ⟨w9.heap.size, 0, none⟩ = some (.int .i64 en.term) := cell_blk jn2 0
                  have nn1 : V2.cell? ⟨w9.heap.size, 1, none⟩ = some (.int .i64 en.at') := cell_blk jn2 1
                  have nn2 : V2.cell? ⟨w9.heap.size, 2, none⟩ = some (.int .i64 en.born) := cell_blk jn2 2
                  have nn3 : V2.cell? ⟨w9.heap.size, 3, none⟩ = some (.string en.text) := cell_blk jn2 3
                  have hT2 := hT1.on bV2
                  obtain ⟨w12, hrun, hT12, hgr12⟩ := hT2.put hi i1 hen0 (by omega)
                  have HT12 := Lib.hid hT12
                  have HY12 : Hid (w12.heap[Y]? = some (stB c)) := (hgr12.block _ (blk_lt jY2) (fun q => hYB1 (by injection q))).trans jY2
                  have e1 := str_self en.text
                  have HV2 := Lib.hid hV2
                  clear hV2 hT2 hT12 hgr12 jn2 jY2 jY1 jn1 hT1 b91 bV1 bV2 hb9 hen0 hq hT jY jm2
                  go_upto_region 22 with fail
                  rw [← HV1.out]
                  go_upto_region 25 with fail
                  rw [← HV2.out]
                  go_wp2_with (at_mapUpdate; refine wpl_put _ _ _ rfl rfl rfl hrun ?_)
                  go_roundw
                  case rel => exact ⟨i + 1, _, n1 + 1, by go_num, by omega, by omega, by omega, HY12.out, hYB1, HT12.out⟩
                  case measure => simp [intOf]; omega
              · have HI : Hid (n1 ≤ 1000000 * (k + 1)) := by
                  show _ ≤ _
                  have := HN.out
                  omega
                have HT := Lib.hid hT
                clear hT
                go_wp2
                go_roundw
                case rel => exact ⟨k + 1, c, f1, n1, S6, hlt, by go_num, HI.out, HBD2.out, HT.out⟩
                case measure => simp [intOf]; omega
      · have k1 : ¬ ((k : Int) < L.length) := by omega
        go_wp2
        go_ret
        exact ⟨rfl, hS.bel⟩
end
open Go.ChangeShapes Go.WideShapes Go.ChangeAt Go.WideMaps Go.WideElems
open Go.ChangeMaps (open_string)

theorem stays_law {w : World} {L : List Oq} {ad : Option Addr} {cap : Nat} (hL : Lo w L ad) (hc : L.length ≤ cap) (hm : cap ≤ maxLen) (id size : Int) :
    Calls Try.prog 7 #[.int .i64 id, .int .i64 size, .slice ad L.length cap] w fun e w' => e = .returned (.bool true) ∧ Below w.heap.size w w' := by
  by_cases hv : 1 ≤ size ∧ size ≤ 5 ∧ 0 ≤ id ∧ id < size
  · obtain ⟨h1, h2, h3, h4⟩ := hv
    obtain ⟨a, rfl⟩ := Int.eq_ofNat_of_zero_le h3
    obtain ⟨s, rfl⟩ := Int.eq_ofNat_of_zero_le (show (0 : Int) ≤ size by omega)
    exact stays_yes hL hc hm a s (by omega) (by omega) (by omega)
  · exact stays_no hL hc hm id size hv

set_option maxRecDepth 100000 in
theorem ballotStays_lifted (os : Os) (started : os.Started) (H : Type) (enc : TypeId × Value → H) :
    ReturnsInHanded {} Try.checked os 7 .any (Rows.ballotStaysSpec.pre6 enc Try.prog Try.f7 Rows.ballotStaysRow.domain false) (Rows.ballotStaysSpec.post enc Try.prog Try.f7 false true false false) := by
  refine returnsInHanded_of_change_sized (C := Try.checked) own started (by kernel_rfl) Try.func7
    (ChangeSpec.witness6 (enc := enc) (C := Try.checked) false ⟨#[], #[.int .i64 0, .int .i64 0, .slice none 0 0], []⟩ 8 (by kernel_rfl) (by kernel_rfl) (by kernel_rfl) (by kernel_rfl)) ?_
  intro W base args ds gs before hval0 hW _ hsz0 _
  have hsz : (DataW.weightsEach Try.prog (Try.f7.params.toList ++ Rows.ballotStaysSpec.plain.varTypes Try.prog) (ds ++ gs)).all (· ≤ reachBytes) = true := hsz0
  clear hsz0
  have hval : ∀ (j : Nat) t v, Try.f7.params[j]? = some t → args[j]? = some v → Value.okWide Try.prog W .any base t v := hval0
  have hW' := hW
  obtain ⟨p, q, hA0, hV, rfl, _, _⟩ := hW
  have hA : DataW.TrodAll enc Try.prog W 0 (fun _ => true) true Try.f7.params.toList args.toList ds p := hA0
  rw [Try.params7] at hA hval hsz
  obtain ⟨v0, v1, v2, d0, d1, d2, p0, p1, p2, rfl, rfl, rfl, h0, h1, h2⟩ := trodAll_three hA
  obtain ⟨rfl, rfl⟩ := trodVars_none hV
  have h0k := h0
  obtain ⟨n0, rfl⟩ : ∃ n : Int, v0 = .int .i64 n := by obtain ⟨n, e, _⟩ := open_int Try.underlying3 (hval 0 3 v0 rfl rfl) h0; exact ⟨n, e⟩
  have h1k := h1
  obtain ⟨n1, rfl⟩ : ∃ n : Int, v1 = .int .i64 n := by obtain ⟨n, e, _⟩ := open_int Try.underlying3 (hval 1 3 v1 rfl rfl) h1; exact ⟨n, e⟩
  have h2k := h2
  have hz : ∀ n ∈ DataW.weights Try.prog 22 d2, n ≤ reachBytes := fun n hn => by
    have := List.all_eq_true.1 hsz _ (DataW.weights_mem_each (j := 2) (t := 22) rfl rfl n hn)
    simpa using this
  obtain ⟨L, ad, cap, rfl, hL, hc, hm⟩ := open_ops (hval 2 22 v2 rfl rfl) h2 hz
  clear hA0 hval0
  simp only [List.append_nil] at hW'
  have hlt0 : ∀ x ∈ p0, x.block < W.heap.size := fun x hx => hW'.lt x (by simp [hx])
  have hlt1 : ∀ x ∈ p1, x.block < W.heap.size := fun x hx => hW'.lt x (by simp [hx])
  have hlt2 : ∀ x ∈ p2, x.block < W.heap.size := fun x hx => hW'.lt x (by simp [hx])
  clear hsz
  refine (stays_law hL hc hm n0 n1).mono fun e W' ⟨he, hb⟩ => ?_
  subst he
  refine ⟨_, rfl, _, _, _, [], _, [], hW', ?_, trodAll_mk3 (again_int h0k hb (hlt0)) (again_int h1k hb (hlt1)) (again_ops h2k hb (hlt2)), rfl, hb.frame _, fun h => by cases h⟩
  exact trodAll_mk1 (shut_bool Try.underlying4 true)

theorem ballotStays_holds : Rows.BallotStaysSaid :=
  OpenClaim.holds_of_wide 7 Try.f7 rfl rfl rfl rfl rfl rfl rfl ⟨rfl, rfl, rfl, rfl, rfl⟩ rfl rfl rfl rfl rfl (by kernel_rfl) Try.func7 (by kernel_rfl)
    (of_decide_eq_true (by kernel_rfl)) (by unfold Func.isWrapper; rw [if_neg (of_decide_eq_false (by kernel_rfl))]; exact ⟨rfl, rfl⟩)
    (fun os started H enc _ => ballotStays_lifted os started H enc)
#print axioms ballotStays_holds
end Go.Proofs.Ytmiagjcihmenfaa
