import Derived.Test.YtkfnphhoebknnaaQRb
import Derived.Test.YtkfnphhoebknnaaQCi
import Derived.Test.YtkfnphhoebknnaaQCk
import Derived.Test.YtkfnphhoebknnaaQNb
namespace Go.Proofs.Ytkfnphhoebknnaa
open Go.RowKit
section
variable {ρ : Operand → Value} {X : World} {d : Option Tmp} {ty : TypeId} {ps : String} {af : Array Edge} {g : Option (Nat × Bool)}
theorem op_b50p {x y z : Operand} {a c : Int} {b : ByteArray} (hc : ∀ x, ρ (.const x) = x) (e0 : ρ x = .int .i64 a) (e1 : ρ y = .string b) (e2 : ρ z = .int .i64 c) : (execOp ρ ⟨d, .build 65 #[(0, x), (1, y), (2, z), (3, .const (.int .i64 3))], ty, ps, af, g⟩).run Try.prog X = .ok (.value (.agg #[.int .i64 a, .string b, .int .i64 c, .int .i64 3, .int .i64 0, .int .i64 0, .string ⟨#[]⟩])) X := op_b65_pub hc e0 e1 e2
end
theorem any_fidx {α : Type} {p : α → Bool} {l : List α} : (fidx p l = -1 → l.any p = false) ∧ (0 ≤ fidx p l → l.any p = true) := by
  have h := fidx_any p l
  constructor
  · intro q
    rw [← h, q]
    rfl
  · intro q
    rw [← h]
    exact decide_eq_true q
section
variable {w : World}
set_option maxHeartbeats 16000000 in
set_option maxRecDepth 100000 in
theorem create_ref {B : Nat} {s : Sc} {G : List Gt} {tv : Value} {d : Dd} {kd st : Int} {da : Option Addr} {dc : Nat} (hD : Dr w B G tv) (hB : B ≤ w.heap.size) (hG : G.map Prod.fst = s.tabs) (hn6 : s.tabs.length ≤ 6) (hl : farB s.last = true) (hd : Lr colE 7 w d.cols (.slice da d.cols.length dc)) (hz : d.cols.length ≤ 1000000) : Calls Try.prog 31 #[.agg #[.int .i64 (s.ver + 1), .int .i64 s.last, tv], .agg #[.int .i64 kd, .string d.table, .string d.name, .string d.column, .string d.parent, .bool d.uq, .int .i64 d.ty, .int .i64 d.df.k, .int .i64 d.df.n, .string d.df.s, .slice da d.cols.length dc], .int .i64 st] w (CrAns B w s tv (createS s d st)) := by
  have hlen : G.length = s.tabs.length := by rw [← hG, List.length_map]
  obtain ⟨tad, tcap, hsh0⟩ := own_shape hD.row
  subst hsh0
  have HLN := Lib.hid hlen
  obtain ⟨W, hW⟩ : ∃ W, W = ((w.alloc (.cells #[.int .i64 (s.ver + 1), .int .i64 s.last, .slice tad G.length tcap] 24)).alloc (.cells #[.int .i64 kd, .string d.table, .string d.name, .string d.column, .string d.parent, .bool d.uq, .int .i64 d.ty, .int .i64 d.df.k, .int .i64 d.df.n, .string d.df.s, .slice da d.cols.length dc] 44)).alloc (.cells #[.int .i64 0, .int .i64 0, .slice none 0 0] 24) := ⟨_, rfl⟩
  have hbW : Below w.heap.size w W := by rw [hW]; exact (((Below.refl _ w).alloc (Nat.le_refl _) _).alloc (by simp) _).alloc (by simp only [World.size_alloc]; omega) _
  obtain ⟨Y0, hY0⟩ : ∃ Y0, w.heap.size = Y0 := ⟨_, rfl⟩
  obtain ⟨Y1, hY1⟩ : ∃ Y1, Y0 + 1 = Y1 := ⟨_, rfl⟩
  obtain ⟨Y2, hY2⟩ : ∃ Y2, Y1 + 1 = Y2 := ⟨_, rfl⟩
  have j0 : W.heap[Y0]? = some (.cells #[.int .i64 (s.ver + 1), .int .i64 s.last, .slice tad G.length tcap] 24 (0, 0)) := by
    have := heap_alloc_new w (.cells #[.int .i64 (s.ver + 1), .int .i64 s.last, .slice tad G.length tcap] 24)
    rw [hW, ← hY0, Below.heap_alloc _ _ _ (by simp only [World.size_alloc]; omega), Below.heap_alloc _ _ _ (by simp only [World.size_alloc]; omega)]
    exact this
  have j1 : W.heap[Y1]? = some (.cells #[.int .i64 kd, .string d.table, .string d.name, .string d.column, .string d.parent, .bool d.uq, .int .i64 d.ty, .int .i64 d.df.k, .int .i64 d.df.n, .string d.df.s, .slice da d.cols.length dc] 44 (0, 0)) := by
    have := heap_alloc_new (w.alloc (.cells #[.int .i64 (s.ver + 1), .int .i64 s.last, .slice tad G.length tcap] 24)) (.cells #[.int .i64 kd, .string d.table, .string d.name, .string d.column, .string d.parent, .bool d.uq, .int .i64 d.ty, .int .i64 d.df.k, .int .i64 d.df.n, .string d.df.s, .slice da d.cols.length dc] 44)
    simp only [World.size_alloc] at this
    rw [hW, ← hY1, ← hY0, Below.heap_alloc _ _ _ (by simp only [World.size_alloc]; omega)]
    exact this
  have j2 : W.heap[Y2]? = some (.cells #[.int .i64 0, .int .i64 0, .slice none 0 0] 24 (0, 0)) := by
    have := heap_alloc_new ((w.alloc (.cells #[.int .i64 (s.ver + 1), .int .i64 s.last, .slice tad G.length tcap] 24)).alloc (.cells #[.int .i64 kd, .string d.table, .string d.name, .string d.column, .string d.parent, .bool d.uq, .int .i64 d.ty, .int .i64 d.df.k, .int .i64 d.df.n, .string d.df.s, .slice da d.cols.length dc] 44)) (.cells #[.int .i64 0, .int .i64 0, .slice none 0 0] 24)
    simp only [World.size_alloc] at this
    rw [hW, ← hY2, ← hY1, ← hY0]
    exact this
  have GE : Hid (w.heap.size ≤ Y0 ∧ w.heap.size ≤ Y2 ∧ Y0 ≠ Y2 ∧ Y0 ≠ Y1 ∧ Y1 ≠ Y2 ∧ Y0 < W.heap.size ∧ Y1 < W.heap.size ∧ Y2 < W.heap.size) := Lib.hid ⟨by omega, by omega, by omega, by omega, by omega, blk_lt j0, blk_lt j1, blk_lt j2⟩
  have HB := Lib.hid hbW
  have HD := Lib.hid (hD.below hbW)
  have HC := Lib.hid (hd.on colE_held hbW)
  have HW := Lib.hid hW
  have J0 := Lib.hid j0
  have J1 := Lib.hid j1
  have J2 := Lib.hid j2
  have HY0 := Lib.hid hY0
  have HY1 := Lib.hid hY1
  have HY2 := Lib.hid hY2
  have HBB := Lib.hid hB
  have HG := Lib.hid hG
  have HN6 := Lib.hid hn6
  have HFL := Lib.hid (far_in hl)
  have HZ := Lib.hid hz
  have hnm := named_ref (w := W) d.table
  obtain ⟨nb, hnb⟩ : ∃ nb, nameB d.table = nb := ⟨_, rfl⟩
  rw [hnb] at hnm
  have HNB := Lib.hid hnb
  have e1 : W.cell? ⟨Y1, 1, none⟩ = some (.string d.table) := cell_blk j1 1
  clear hW hbW hY0 hY1 hY2 j0 j1 j2 hB hG hn6 hl hd hz hD hlen hnb
  go_enter Try.func31, Try.ntmps31
  go_upto_region 1 with fail
  rw [← HW.out, HY0.out, HY1.out, HY2.out]
  go_wp2_with (go_at_call 21; refine hnm.mono ?_; rintro e w1 ⟨rfl, h9⟩; refine Hid.out ?_)
  refine Lib.hid ?_
  subst h9
  clear hnm e1
  obtain ⟨V0, hV0⟩ : ∃ V0, V0 = w1 := ⟨_, rfl⟩
  subst hV0
  cases nb with
  | false =>
    have HR : Hid (createS s d st = .error 100) := Lib.hid (by
      unfold createS
      rw [if_pos (.inl HNB.out)])
    have HBX := Lib.hid (HB.out)
    have i0 : V0.heap[Y0]? = some (.cells #[.int .i64 (s.ver + 1), .int .i64 s.last, .slice tad G.length tcap] 24 (0, 0)) := J0.out
    have i2 : V0.heap[Y2]? = some (.cells #[.int .i64 0, .int .i64 0, .slice none 0 0] 24 (0, 0)) := J2.out
    have hld := load_row i0 Try.underlying24 rfl size24
    obtain ⟨X4, e44, j4, f4⟩ := sets_row i2 (#[.int .i64 (s.ver + 1), .int .i64 s.last, .slice tad G.length tcap]) rfl
    have hst : (Instr.storeAt 24 (.pointer (some ⟨Y2, 0, none⟩)) (.agg #[.int .i64 (s.ver + 1), .int .i64 s.last, .slice tad G.length tcap])).run Try.prog V0 = .ok () X4 := by
      rw [e44]
      exact store_row i2 rfl size24 (by simp [Value.oneCell'])
    have J4 := Lib.hid j4
    have HE : Hid (Below w.heap.size w X4) := Lib.hid (HBX.out.trans (f4.toBelow (fun k9 hk9 q9 => by have := GE.out; omega) HBX.out.size))
    clear e44 j4 f4 i0 i2
    go_upto_region 2 with fail
    go_wp2_with (first | (refine wpl_load _ rfl (by first | rfl | (simp [Act.eval]; done)) hld ?_) | (refine wpl_store _ _ rfl (by first | rfl | (simp [Act.eval]; done)) (by first | rfl | (simp [Act.eval]; done)) hst ?_))
    refine bodyPost_ret (results_two rfl rfl rfl (load_var J4.out Try.underlying24 rfl size24)) rfl ?_
    exact CrAns.err HR.out (by decide) HBB.out HE.out
  | true =>
    obtain ⟨n, hn⟩ : ∃ n, d.cols.length = n := ⟨_, rfl⟩
    have hmx : (n : Int) ≤ 9223372036854775807 := by have := HZ.out; omega
    have HN := Lib.hid (And.intro hn (show n ≤ 1000000 by have := HZ.out; omega))
    have HJ1 : Hid (V0.heap[Y1]? = some (.cells (#[.int .i64 kd, .string d.table, .string d.name, .string d.column, .string d.parent, .bool d.uq, .int .i64 d.ty, .int .i64 d.df.k, .int .i64 d.df.n, .string d.df.s, .slice da n dc]) 44 (0, 0))) := Lib.hid (by rw [← hn]; exact J1.out)
    clear hn
    have e8 : V0.cell? ⟨Y1, 10, none⟩ = some (.slice da n dc) := cell_blk HJ1.out 10
    have HXC : Hid (∀ j (hj : j < d.cols.length), ∃ (b o : Nat), da = some (⟨b, o, none⟩ : Addr) ∧ ∀ q u, (colL d.cols[j])[q]? = some u → V0.cell? ⟨b, o + j * 7 + q, none⟩ = some u) := Lib.hid (fun j hj => by
      obtain ⟨_, _, ee, _, _, _, hcs9⟩ := HC.out
      cases ee
      obtain ⟨b, o, cs, e9, _, h9, _, hh⟩ := hcs9 j hj
      cases h9
      exact ⟨b, o, e9, hh⟩)
    go_wp2
    go_loopw [8] (fun iv wr => ∃ i : Nat, i ≤ n ∧ iv = .int .i64 (i : Int) ∧ Hid (∀ j (hj : j < d.cols.length), j < i → nameB d.cols[j].nm = true) ∧ wr = V0) (fun iv _ => n - (intOf iv).toNat)
    case atStart => exact ⟨0, Nat.zero_le _, rfl, Lib.hid (fun j _ hj => by omega), rfl⟩
    case round =>
      obtain ⟨i, hi, rfl, hall, hwr⟩ := hrel
      subst hwr
      obtain ⟨V0, hV0⟩ : ∃ V0, V0 = wr := ⟨_, rfl⟩
      subst hV0
      have HI := Lib.hid hi
      clear hi
      by_cases hlt : i < n
      · skip
        have hiL : i < d.cols.length := by rw [HN.out.1]; exact hlt
        have k0 : (0 : Int) ≤ (i : Int) := by omega
        have k1 : (i : Int) < (n : Int) := by omega
        obtain ⟨b, o, hda, hcc⟩ := HXC.out i hiL
        subst hda
        obtain ⟨x, hx⟩ : ∃ x, d.cols[i] = x := ⟨_, rfl⟩
        have c1 : V0.cell? ⟨b, o + i * 7 + 1, none⟩ = some (.string x.nm) := by subst hx; exact hcc 1 _ rfl
        have hnm := named_ref (w := V0) x.nm
        obtain ⟨nb, hnb⟩ : ∃ nb, nameB x.nm = nb := ⟨_, rfl⟩
        rw [hnb] at hnm
        have HNX : Hid (nameB (d.cols[i]'hiL).nm = nb) := Lib.hid (by subst hx; exact hnb)
        clear hnb hx hcc
        go_wp2_with (go_at_call 21; refine hnm.mono ?_; rintro e w1 ⟨rfl, h9⟩; refine Hid.out ?_)
        refine Lib.hid ?_
        subst h9
        obtain ⟨V0, hV0⟩ : ∃ V0, V0 = w1 := ⟨_, rfl⟩
        subst hV0
        clear hnm c1
        cases nb with
        | false =>
          have HR : Hid (createS s d st = .error 100) := Lib.hid (by
            unfold createS
            rw [if_pos (.inr (List.all_eq_false.2 ⟨_, List.getElem_mem hiL, by rw [HNX.out]; simp⟩))])
          have HBX := Lib.hid (HB.out)
          have i0 : V0.heap[Y0]? = some (.cells #[.int .i64 (s.ver + 1), .int .i64 s.last, .slice tad G.length tcap] 24 (0, 0)) := J0.out
          have i2 : V0.heap[Y2]? = some (.cells #[.int .i64 0, .int .i64 0, .slice none 0 0] 24 (0, 0)) := J2.out
          have hld := load_row i0 Try.underlying24 rfl size24
          obtain ⟨X4, e44, j4, f4⟩ := sets_row i2 (#[.int .i64 (s.ver + 1), .int .i64 s.last, .slice tad G.length tcap]) rfl
          have hst : (Instr.storeAt 24 (.pointer (some ⟨Y2, 0, none⟩)) (.agg #[.int .i64 (s.ver + 1), .int .i64 s.last, .slice tad G.length tcap])).run Try.prog V0 = .ok () X4 := by
            rw [e44]
            exact store_row i2 rfl size24 (by simp [Value.oneCell'])
          have J4 := Lib.hid j4
          have HE : Hid (Below w.heap.size w X4) := Lib.hid (HBX.out.trans (f4.toBelow (fun k9 hk9 q9 => by have := GE.out; omega) HBX.out.size))
          clear e44 j4 f4 i0 i2
          go_upto_region 7 with fail
          go_wp2_with (first | (refine wpl_load _ rfl (by first | rfl | (simp [Act.eval]; done)) hld ?_) | (refine wpl_store _ _ rfl (by first | rfl | (simp [Act.eval]; done)) (by first | rfl | (simp [Act.eval]; done)) hst ?_))
          refine bodyPost_ret (results_two rfl rfl rfl (load_var J4.out Try.underlying24 rfl size24)) rfl ?_
          exact CrAns.err HR.out (by decide) HBB.out HE.out
        | true =>
          have HAL : Hid (∀ j (hj : j < d.cols.length), j < i + 1 → nameB d.cols[j].nm = true) := Lib.hid (fun j hj hji => by
            rcases Nat.lt_or_ge j i with r | r
            · exact hall.out j hj r
            · obtain rfl : j = i := by omega
              exact HNX.out)
          clear hall
          go_wp2
          go_roundw
          case rel => exact ⟨i + 1, hlt, by go_num, HAL.out, by first | rfl | trivial⟩
          case measure => simp [intOf]; omega
      · skip
        have k1 : ¬ (i : Int) < (n : Int) := by omega
        have HALL : Hid (d.cols.all (fun c => nameB c.nm) = true) := Lib.hid (List.all_eq_true.2 (fun c hc => by
          obtain ⟨j, hj, rfl⟩ := List.getElem_of_mem hc
          exact hall.out j hj (by have := HN.out.1; omega)))
        clear hall
        go_upto_region 8 with fail
        clear k1
        have hat := tabAt_any (w := V0) (s := ⟨s.ver + 1, s.last, s.tabs⟩) (tv := .slice tad G.length tcap) (by have := HD.out.reads; rw [HG.out] at this; exact this) d.table
        change Calls Try.prog 22 #[.agg #[.int .i64 (s.ver + 1), .int .i64 s.last, .slice tad G.length tcap], .string d.table] V0 (fun e w' => e = .returned (.int .i64 (fidx (fun x => decide (x.nm = d.table)) s.tabs)) ∧ Below V0.heap.size V0 w') at hat
        obtain ⟨fx, hfx⟩ : ∃ fx, fidx (fun x => decide (x.nm = d.table)) s.tabs = fx := ⟨_, rfl⟩
        rw [hfx] at hat
        have HFX := Lib.hid hfx
        clear hfx
        have x0 : V0.cell? ⟨Y0, 0, none⟩ = some (.int .i64 (s.ver + 1)) := cell_blk J0.out 0
        have x1 : V0.cell? ⟨Y0, 1, none⟩ = some (.int .i64 s.last) := cell_blk J0.out 1
        have x2 : V0.cell? ⟨Y0, 2, none⟩ = some (.slice tad G.length tcap) := cell_blk J0.out 2
        have e1 : V0.cell? ⟨Y1, 1, none⟩ = some (.string d.table) := cell_blk HJ1.out 1
        go_wp2_with (go_at_call 22; refine hat.mono ?_; rintro e w1 ⟨rfl, b1⟩; refine Hid.out ?_)
        refine Lib.hid ?_
        clear hat x0 x1 x2 e1 e8
        have B1 := Lib.hid b1
        clear b1
        by_cases hf : 0 ≤ fx
        · have g1 : decide (0 ≤ fx) = true := decide_eq_true hf
          have HAN : Hid (s.tabs.any (fun t => decide (t.nm = d.table)) = true) := Lib.hid (any_fidx.2 (by rw [HFX.out]; exact hf))
          have HR : Hid (createS s d st = .error 152) := Lib.hid (by
            unfold createS
            rw [if_neg (by rw [HNB.out, HALL.out]; simp), if_pos (.inl HAN.out)])
          have HBX := Lib.hid (bgo HB.out B1.out)
          have i0 : w1.heap[Y0]? = some (.cells #[.int .i64 (s.ver + 1), .int .i64 s.last, .slice tad G.length tcap] 24 (0, 0)) := (B1.out.block Y0 (blk_lt J0.out)).trans J0.out
          have i2 : w1.heap[Y2]? = some (.cells #[.int .i64 0, .int .i64 0, .slice none 0 0] 24 (0, 0)) := (B1.out.block Y2 (blk_lt J2.out)).trans J2.out
          have hld := load_row i0 Try.underlying24 rfl size24
          obtain ⟨X4, e44, j4, f4⟩ := sets_row i2 (#[.int .i64 (s.ver + 1), .int .i64 s.last, .slice tad G.length tcap]) rfl
          have hst : (Instr.storeAt 24 (.pointer (some ⟨Y2, 0, none⟩)) (.agg #[.int .i64 (s.ver + 1), .int .i64 s.last, .slice tad G.length tcap])).run Try.prog w1 = .ok () X4 := by
            rw [e44]
            exact store_row i2 rfl size24 (by simp [Value.oneCell'])
          have J4 := Lib.hid j4
          have HE : Hid (Below w.heap.size w X4) := Lib.hid (HBX.out.trans (f4.toBelow (fun k9 hk9 q9 => by have := GE.out; omega) HBX.out.size))
          clear e44 j4 f4 i0 i2
          go_upto_region 9 with fail
          go_wp2_with (first | (refine wpl_load _ rfl (by first | rfl | (simp [Act.eval]; done)) hld ?_) | (refine wpl_store _ _ rfl (by first | rfl | (simp [Act.eval]; done)) (by first | rfl | (simp [Act.eval]; done)) hst ?_))
          refine bodyPost_ret (results_two rfl rfl rfl (load_var J4.out Try.underlying24 rfl size24)) rfl ?_
          exact CrAns.err HR.out (by decide) HBB.out HE.out
        have g1 : decide (0 ≤ fx) = false := decide_eq_false hf
        have hf1 : fx = -1 := by
          rcases fidx_cases (fun x => decide (x.nm = d.table)) s.tabs with ⟨q, _⟩ | ⟨j, _, q, _⟩
          · rw [← HFX.out, q]
          · exfalso
            rw [HFX.out] at q
            omega
        have HAN : Hid (s.tabs.any (fun t => decide (t.nm = d.table)) = false) := Lib.hid (any_fidx.1 (by rw [HFX.out]; exact hf1))
        have HCC : Hid (∀ j (hj : j < d.cols.length), ∃ (b o : Nat), da = some (⟨b, o, none⟩ : Addr) ∧ ∀ q u, (colL d.cols[j])[q]? = some u → w1.cell? ⟨b, o + j * 7 + q, none⟩ = some u) := Lib.hid (fun j hj => by
          obtain ⟨b, o, e, h⟩ := HXC.out j hj
          exact ⟨b, o, e, fun q u hu => cell_on B1.out (h q u hu)⟩)
        have I0 := Lib.hid ((B1.out.block Y0 (blk_lt J0.out)).trans J0.out)
        have I1 := Lib.hid ((B1.out.block Y1 (blk_lt HJ1.out)).trans HJ1.out)
        have I2 := Lib.hid ((B1.out.block Y2 (blk_lt J2.out)).trans J2.out)
        have HC1 := Lib.hid (HC.out.on colE_held B1.out)
        have HD1 := Lib.hid (HD.out.below B1.out)
        have HB1 := Lib.hid (bgo HB.out B1.out)
        obtain ⟨V2, hV2⟩ : ∃ V2, V2 = w1.alloc (.cells #[.int .i64 (s.last + 1), .string d.table, .slice da n dc, .slice none 0 0, .slice none 0 0] 54) := ⟨_, rfl⟩
        obtain ⟨Q, hQ⟩ : ∃ Q, w1.heap.size = Q := ⟨_, rfl⟩
        have jQ : V2.heap[Q]? = some (.cells #[.int .i64 (s.last + 1), .string d.table, .slice da n dc, .slice none 0 0, .slice none 0 0] 54 (0, 0)) := by rw [hV2, ← hQ]; exact heap_alloc_new w1 _
        have bV : Below w1.heap.size w1 V2 := by rw [hV2]; exact bnew _ _
        have HV2 := Lib.hid hV2
        have HQ := Lib.hid hQ
        have JQ := Lib.hid jQ
        have BV := Lib.hid bV
        have HQG : Hid (Y0 < Q ∧ Y1 < Q ∧ Y2 < Q ∧ w1.heap.size = Q) := Lib.hid ⟨by have := blk_lt I0.out; omega, by have := blk_lt I1.out; omega, by have := blk_lt I2.out; omega, hQ⟩
        have K0 := Lib.hid ((bV.block Y0 (blk_lt I0.out)).trans I0.out)
        have K1 := Lib.hid ((bV.block Y1 (blk_lt I1.out)).trans I1.out)
        have K2 := Lib.hid ((bV.block Y2 (blk_lt I2.out)).trans I2.out)
        have HC2 := Lib.hid (HC1.out.on colE_held bV)
        have HD2 := Lib.hid (HD1.out.below bV)
        have HB2 := Lib.hid (bgo HB1.out bV)
        have HCE : Hid (∀ j (hj : j < d.cols.length), ∃ (b o : Nat), da = some (⟨b, o, none⟩ : Addr) ∧ ∀ q u, (colL d.cols[j])[q]? = some u → V2.cell? ⟨b, o + j * 7 + q, none⟩ = some u) := Lib.hid (fun j hj => by
          obtain ⟨b, o, e, h⟩ := HCC.out j hj
          exact ⟨b, o, e, fun q u hu => cell_on bV (h q u hu)⟩)
        have x1 : w1.cell? ⟨Y0, 1, none⟩ = some (.int .i64 s.last) := cell_blk I0.out 1
        have e1 : w1.cell? ⟨Y1, 1, none⟩ = some (.string d.table) := cell_blk I1.out 1
        have e8 : w1.cell? ⟨Y1, 10, none⟩ = some (.slice da n dc) := cell_blk I1.out 10
        have z1 : -9223372036854775808 ≤ s.last + 1 := by have := HFL.out; omega
        have z2 : s.last + 1 ≤ 9223372036854775807 := by have := HFL.out; omega
        clear hf hf1 jQ bV hV2 hQ
        go_upto_region 11 with fail
        rw [← HV2.out, HQ.out]
        clear x1 e1 e8 z1 z2 g1
        go_wp2
        go_loopw [10] (fun iv wr => ∃ i : Nat, i ≤ n ∧ iv = .int .i64 (i : Int) ∧ Hid (∀ j (hj : j < d.cols.length), j < i → fidx (fun c => decide (c.nm = d.cols[j].nm)) d.cols = (j : Int)) ∧ Below V2.heap.size V2 wr) (fun iv _ => n - (intOf iv).toNat)
        case atStart => exact ⟨0, Nat.zero_le _, rfl, Lib.hid (fun j _ hj => by omega), Below.refl _ _⟩
        case round =>
          obtain ⟨i, hi, rfl, hdis, hb⟩ := hrel
          obtain ⟨V, rfl⟩ : ∃ V, V = wr := ⟨_, rfl⟩
          have HI := Lib.hid hi
          have HBV := Lib.hid hb
          have G1 := Lib.hid ((hb.block Y1 (blk_lt K1.out)).trans K1.out)
          have GQ := Lib.hid ((hb.block Q (blk_lt JQ.out)).trans JQ.out)
          have e8 : V.cell? ⟨Y1, 10, none⟩ = some (.slice da n dc) := cell_blk G1.out 10
          clear hi hb
          by_cases hlt : i < n
          · skip
            have hiL : i < d.cols.length := by rw [HN.out.1]; exact hlt
            have k0 : (0 : Int) ≤ (i : Int) := by omega
            have k1 : (i : Int) < (n : Int) := by omega
            obtain ⟨b, o, hda, hcc⟩ := HCE.out i hiL
            obtain ⟨x, hx⟩ : ∃ x, d.cols[i] = x := ⟨_, rfl⟩
            have HXX := Lib.hid hx
            have c1 : V.cell? ⟨b, o + i * 7 + 1, none⟩ = some (.string x.nm) := by subst hx; exact cell_on HBV.out (hcc 1 _ rfl)
            obtain ⟨fx, hfx⟩ : ∃ fx, fidx (fun c => decide (c.nm = x.nm)) d.cols = fx := ⟨_, rfl⟩
            have HFI := Lib.hid hfx
            have HCA : Hid (∀ X, Below V.heap.size V X → Calls Try.prog 23 #[.agg #[.int .i64 (s.last + 1), .string d.table, .slice da n dc, .slice none 0 0, .slice none 0 0], .string x.nm] X fun e w' => e = .returned (.int .i64 fx) ∧ Below X.heap.size X w') := Lib.hid (fun X hX => by
              have q := colAt_any (w := X) (t := ⟨s.last + 1, d.table, d.cols, [], []⟩) (cv := .slice da d.cols.length dc) (iv := .slice none 0 0) (kv := .slice none 0 0) ⟨HC2.out.on colE_held (bgo HBV.out hX), ⟨none, 0, rfl, fun _ => rfl, Nat.le_refl _, Nat.zero_le _, fun j hj => absurd hj (by simp)⟩, ⟨none, 0, rfl, fun _ => rfl, Nat.le_refl _, Nat.zero_le _, fun j hj => absurd hj (by simp)⟩⟩ x.nm
              change Calls Try.prog 23 #[.agg #[.int .i64 (s.last + 1), .string d.table, .slice da d.cols.length dc, .slice none 0 0, .slice none 0 0], .string x.nm] X (fun e w' => e = .returned (.int .i64 (fidx (fun c => decide (c.nm = x.nm)) d.cols)) ∧ Below X.heap.size X w') at q
              rw [HN.out.1, HFI.out] at q
              exact q)
            have HC1' := Lib.hid c1
            have HLT := Lib.hid hlt
            obtain ⟨nb, hnb⟩ : ∃ nb, (!decide (fx = (i : Int))) = nb := ⟨_, rfl⟩
            have HNB2 := Lib.hid hnb
            have HDA := Lib.hid hda
            clear hcc c1 hfx hx hnb
            go_upto_region 14 with fail
            rw [HDA.out] at e8
            have HE8 := Lib.hid e8
            clear e8
            refine wp_region_fb (fun _ X9 => Below V.heap.size V X9) (fun X9 X' => Below X9.heap.size X9 X') [
              fun v9 _ => v9 = .agg #[.int .i64 (s.last + 1), .string d.table, .slice da n dc, .slice none 0 0, .slice none 0 0],
              fun v9 _ => v9 = .pointer (some ⟨Y1, 10, none⟩),
              fun v9 _ => v9 = .slice (some ⟨b, o, none⟩) n dc,
              fun v9 _ => v9 = .int .i64 (i : Int),
              fun v9 _ => v9 = .pointer (some ⟨b, o + i * 7, none⟩),
              fun v9 _ => v9 = .pointer (some ⟨b, o + i * 7 + 1, none⟩),
              fun v9 _ => v9 = .string x.nm,
              fun v9 _ => v9 = .int .i64 fx,
              fun v9 _ => v9 = .int .i64 (i : Int),
              fun v9 _ => v9 = .bool nb]
              (by kernel_rfl) (by kernel_rfl) (by kernel_rfl) ?st ?g0 ?os ?en
            case st => exact ⟨fun _ _ _ _ h => h, fun _ _ _ _ h => h, fun _ _ _ _ h => h, fun _ _ _ _ h => h, fun _ _ _ _ h => h, fun _ _ _ _ h => h, fun _ _ _ _ h => h, fun _ _ _ _ h => h, fun _ _ _ _ h => h, fun _ _ _ _ h => h, trivial⟩
            case g0 => exact ⟨rfl, rfl, rfl, Nat.le_refl _, fun _ _ => rfl⟩
            case os =>
              refine ⟨?_, ?_, ?_, ?_, ?_, ?_, ?_, ?_, ?_, ?_, trivial⟩
              · exact fun ρ X9 fl hg hn hl hp ho hc hf hr => .inl ⟨rfl, Runs.val _ (op_loadAt (show ρ (.tmp 9) = .pointer (some ⟨Q, 0, none⟩) from ho 9 rfl) (load_row ((hg.block Q (blk_lt GQ.out)).trans GQ.out) Try.underlying54 rfl size54)) ⟨hg, Below.refl _ _, rfl⟩⟩
              · exact fun ρ X9 fl hg hn hl hp ho hc hf hr => .inl ⟨rfl, Runs.val _ (op_f44_8 (show ρ (.tmp 4) = .pointer (some ⟨Y1, 0, none⟩) from ho 4 rfl)) ⟨hg, Below.refl _ _, rfl⟩⟩
              · exact fun ρ X9 fl hg hn hl hp ho hc hf hr => .inl ⟨rfl, Runs.val _ (op_load42 (show ρ (.tmp 55) = .pointer (some ⟨Y1, 10, none⟩) from hr 1 55 rfl rfl) (cell_on hg HE8.out)) ⟨hg, Below.refl _ _, rfl⟩⟩
              · exact fun ρ X9 fl hg hn hl hp ho hc hf hr => .inl ⟨rfl, Runs.val _ (op_move (show ρ (.tmp 10) = .int .i64 (i : Int) from ho 10 rfl)) ⟨hg, Below.refl _ _, rfl⟩⟩
              · exact fun ρ X9 fl hg hn hl hp ho hc hf hr => .inl ⟨rfl, Runs.val _ (op_i42 (show ρ (.tmp 56) = .slice (some ⟨b, o, none⟩) n dc from hr 2 56 rfl rfl) (show ρ (.tmp 57) = .int .i64 (i : Int) from hr 3 57 rfl rfl) HLT.out) ⟨hg, Below.refl _ _, rfl⟩⟩
              · exact fun ρ X9 fl hg hn hl hp ho hc hf hr => .inl ⟨rfl, Runs.val _ (op_f65_1 (show ρ (.tmp 58) = .pointer (some ⟨b, o + i * 7, none⟩) from hr 4 58 rfl rfl)) ⟨hg, Below.refl _ _, rfl⟩⟩
              · exact fun ρ X9 fl hg hn hl hp ho hc hf hr => .inl ⟨rfl, Runs.val _ (op_load9 (show ρ (.tmp 59) = .pointer (some ⟨b, o + i * 7 + 1, none⟩) from hr 5 59 rfl rfl) (cell_on hg HC1'.out)) ⟨hg, Below.refl _ _, rfl⟩⟩
              · refine fun ρ X9 fl hg hn hl hp ho hc hf hr => .inl ⟨rfl, ?_⟩
                refine Runs.goes 23 #[.agg #[.int .i64 (s.last + 1), .string d.table, .slice da n dc, .slice none 0 0, .slice none 0 0], .string x.nm] (op_call2 hf (by go_simp) (show ρ (.tmp 54) = .agg #[.int .i64 (s.last + 1), .string d.table, .slice da n dc, .slice none 0 0, .slice none 0 0] from hr 0 54 rfl rfl) (show ρ (.tmp 60) = .string x.nm from hr 6 60 rfl rfl)) ((HCA.out X9 hg).mono ?_)
                rintro e7 w7 ⟨rfl, b7⟩
                exact ⟨_, rfl, bgo hg b7, b7, rfl⟩
              · exact fun ρ X9 fl hg hn hl hp ho hc hf hr => .inl ⟨rfl, Runs.val _ (op_move (show ρ (.tmp 10) = .int .i64 (i : Int) from ho 10 rfl)) ⟨hg, Below.refl _ _, rfl⟩⟩
              · exact fun ρ X9 fl hg hn hl hp ho hc hf hr => .inl ⟨rfl, Runs.val _ (op_neq3 (show ρ (.tmp 61) = .int .i64 fx from hr 7 61 rfl rfl) (show ρ (.tmp 62) = .int .i64 (i : Int) from hr 8 62 rfl rfl) HNB2.out) ⟨hg, Below.refl _ _, rfl⟩⟩
            case en =>
              intro a9 N9 fl hfl b9 hs9 hd9 ho9 hr9
              obtain ⟨x9, hx9, hxt⟩ := act_put hs9 hd9 ho9
              have p63 : x9 63 = .bool nb := (hxt 63).symm.trans (hr9 9 63 rfl)
              change a9 = putAll _ x9 [54, 55, 56, 57, 58, 59, 60, 61, 62, 63] at hx9
              simp only [putAll, Act.put, List.setIfInBounds_toArray, List.set_cons_zero, List.set_cons_succ, p63] at hx9
              clear hs9 hd9 ho9 hr9 hxt hfl p63
              subst hx9
              generalize x9 54 = z54, x9 55 = z55, x9 56 = z56, x9 57 = z57, x9 58 = z58, x9 59 = z59, x9 60 = z60, x9 61 = z61, x9 62 = z62
              have HB9 := Lib.hid (bgo HBV.out b9)
              clear b9
              cases nb with
              | true =>
                have HND : Hid (¬ (d.cols.map Col.nm).Nodup) := Lib.hid (fun q => by
                  have h1 := first_nodup.2 q i hiL
                  have h2 := HNB2.out
                  have h3 := HFI.out
                  have h4 : d.cols[i]'hiL = x := HXX.out
                  rw [h4] at h1
                  rw [h1] at h3
                  rw [← h3] at h2
                  simp at h2)
                have HR : Hid (createS s d st = .error 152) := Lib.hid (by
                  unfold createS
                  rw [if_neg (by rw [HNB.out, HALL.out]; simp), if_pos (.inr HND.out)])
                have HBX := Lib.hid (bgo HB2.out HB9.out)
                have i0 : N9.heap[Y0]? = some (.cells #[.int .i64 (s.ver + 1), .int .i64 s.last, .slice tad G.length tcap] 24 (0, 0)) := (HB9.out.block Y0 (blk_lt K0.out)).trans K0.out
                have i2 : N9.heap[Y2]? = some (.cells #[.int .i64 0, .int .i64 0, .slice none 0 0] 24 (0, 0)) := (HB9.out.block Y2 (blk_lt K2.out)).trans K2.out
                have hld := load_row i0 Try.underlying24 rfl size24
                obtain ⟨X4, e44, j4, f4⟩ := sets_row i2 (#[.int .i64 (s.ver + 1), .int .i64 s.last, .slice tad G.length tcap]) rfl
                have hst : (Instr.storeAt 24 (.pointer (some ⟨Y2, 0, none⟩)) (.agg #[.int .i64 (s.ver + 1), .int .i64 s.last, .slice tad G.length tcap])).run Try.prog N9 = .ok () X4 := by
                  rw [e44]
                  exact store_row i2 rfl size24 (by simp [Value.oneCell'])
                have J4 := Lib.hid j4
                have HE : Hid (Below w.heap.size w X4) := Lib.hid (HBX.out.trans (f4.toBelow (fun k9 hk9 q9 => by have := GE.out; omega) HBX.out.size))
                clear e44 j4 f4 i0 i2
                go_upto_region 15 with fail
                go_wp2_with (first | (refine wpl_load _ rfl (by first | rfl | (simp [Act.eval]; done)) hld ?_) | (refine wpl_store _ _ rfl (by first | rfl | (simp [Act.eval]; done)) (by first | rfl | (simp [Act.eval]; done)) hst ?_))
                refine bodyPost_ret (results_two rfl rfl rfl (load_var J4.out Try.underlying24 rfl size24)) rfl ?_
                exact CrAns.err HR.out (by decide) HBB.out HE.out
              | false =>
                have HDD : Hid (∀ j (hj : j < d.cols.length), j < i + 1 → fidx (fun c => decide (c.nm = d.cols[j].nm)) d.cols = (j : Int)) := Lib.hid (fun j hj hji => by
                  rcases Nat.lt_or_ge j i with r | r
                  · exact hdis.out j hj r
                  · obtain rfl : j = i := by omega
                    have h2 := HNB2.out
                    have h3 := HFI.out
                    have h4 : d.cols[j]'hiL = x := HXX.out
                    rw [← h4] at h3
                    rw [h3]
                    simpa using h2)
                clear hdis
                go_wp2
                go_roundw
                case rel => exact ⟨i + 1, hlt, by go_num, HDD.out, HB9.out⟩
                case measure => simp [intOf]; omega
          · skip
            have k1 : ¬ (i : Int) < (n : Int) := by omega
            have HND : Hid ((d.cols.map Col.nm).Nodup) := Lib.hid (first_nodup.1 (fun j hj => hdis.out j hj (by have := HN.out.1; omega)))
            clear hdis hlt
            have G0 := Lib.hid ((HBV.out.block Y0 (blk_lt K0.out)).trans K0.out)
            have G2 := Lib.hid ((HBV.out.block Y2 (blk_lt K2.out)).trans K2.out)
            have HBW := Lib.hid (bgo HB2.out HBV.out)
            have HDV := Lib.hid (HD2.out.below HBV.out)
            have x2 : V.cell? ⟨Y0, 2, none⟩ = some (.slice tad G.length tcap) := cell_blk G0.out 2
            have gm : (G.length : Int) ≤ 9223372036854775807 := by have := HLN.out; have := HN6.out; omega
            by_cases hm : 6 ≤ G.length ∨ n = 0 ∨ 8 < n
            · skip
              have HMM : Hid (s.tabs.length = 6 ∨ d.cols.length < 1 ∨ 8 < d.cols.length) := Lib.hid (by
                have h1 := HN.out.1
                have h2 := HLN.out
                have h3 := HN6.out
                omega)
              by_cases m1 : 6 ≤ G.length
              · have g1 : (6 : Int) ≤ (G.length : Int) := by omega
                have HR : Hid (createS s d st = .error 156) := Lib.hid (by
                  unfold createS
                  rw [if_neg (by rw [HNB.out, HALL.out]; simp), if_neg (by rw [HAN.out]; simp [HND.out]), if_pos HMM.out])
                have HBX := Lib.hid (HBW.out)
                have i0 : V.heap[Y0]? = some (.cells #[.int .i64 (s.ver + 1), .int .i64 s.last, .slice tad G.length tcap] 24 (0, 0)) := G0.out
                have i2 : V.heap[Y2]? = some (.cells #[.int .i64 0, .int .i64 0, .slice none 0 0] 24 (0, 0)) := G2.out
                have hld := load_row i0 Try.underlying24 rfl size24
                obtain ⟨X4, e44, j4, f4⟩ := sets_row i2 (#[.int .i64 (s.ver + 1), .int .i64 s.last, .slice tad G.length tcap]) rfl
                have hst : (Instr.storeAt 24 (.pointer (some ⟨Y2, 0, none⟩)) (.agg #[.int .i64 (s.ver + 1), .int .i64 s.last, .slice tad G.length tcap])).run Try.prog V = .ok () X4 := by
                  rw [e44]
                  exact store_row i2 rfl size24 (by simp [Value.oneCell'])
                have J4 := Lib.hid j4
                have HE : Hid (Below w.heap.size w X4) := Lib.hid (HBX.out.trans (f4.toBelow (fun k9 hk9 q9 => by have := GE.out; omega) HBX.out.size))
                clear e44 j4 f4 i0 i2
                go_upto_region 17 with fail
                go_wp2_with (first | (refine wpl_load _ rfl (by first | rfl | (simp [Act.eval]; done)) hld ?_) | (refine wpl_store _ _ rfl (by first | rfl | (simp [Act.eval]; done)) (by first | rfl | (simp [Act.eval]; done)) hst ?_))
                refine bodyPost_ret (results_two rfl rfl rfl (load_var J4.out Try.underlying24 rfl size24)) rfl ?_
                exact CrAns.err HR.out (by decide) HBB.out HE.out
              have g1 : ¬ (6 : Int) ≤ (G.length : Int) := by omega
              by_cases m2 : n = 0
              · subst m2
                have g2 : ((0 : Nat) : Int) = 0 := rfl
                have HR : Hid (createS s d st = .error 156) := Lib.hid (by
                  unfold createS
                  rw [if_neg (by rw [HNB.out, HALL.out]; simp), if_neg (by rw [HAN.out]; simp [HND.out]), if_pos HMM.out])
                have HBX := Lib.hid (HBW.out)
                have i0 : V.heap[Y0]? = some (.cells #[.int .i64 (s.ver + 1), .int .i64 s.last, .slice tad G.length tcap] 24 (0, 0)) := G0.out
                have i2 : V.heap[Y2]? = some (.cells #[.int .i64 0, .int .i64 0, .slice none 0 0] 24 (0, 0)) := G2.out
                have hld := load_row i0 Try.underlying24 rfl size24
                obtain ⟨X4, e44, j4, f4⟩ := sets_row i2 (#[.int .i64 (s.ver + 1), .int .i64 s.last, .slice tad G.length tcap]) rfl
                have hst : (Instr.storeAt 24 (.pointer (some ⟨Y2, 0, none⟩)) (.agg #[.int .i64 (s.ver + 1), .int .i64 s.last, .slice tad G.length tcap])).run Try.prog V = .ok () X4 := by
                  rw [e44]
                  exact store_row i2 rfl size24 (by simp [Value.oneCell'])
                have J4 := Lib.hid j4
                have HE : Hid (Below w.heap.size w X4) := Lib.hid (HBX.out.trans (f4.toBelow (fun k9 hk9 q9 => by have := GE.out; omega) HBX.out.size))
                clear e44 j4 f4 i0 i2
                go_upto_region 17 with fail
                go_wp2_with (first | (refine wpl_load _ rfl (by first | rfl | (simp [Act.eval]; done)) hld ?_) | (refine wpl_store _ _ rfl (by first | rfl | (simp [Act.eval]; done)) (by first | rfl | (simp [Act.eval]; done)) hst ?_))
                refine bodyPost_ret (results_two rfl rfl rfl (load_var J4.out Try.underlying24 rfl size24)) rfl ?_
                exact CrAns.err HR.out (by decide) HBB.out HE.out
              have g2 : ((n : Int) == 0) = false := by simp; omega
              have g3 : (8 : Int) < (n : Int) := by omega
              have HR : Hid (createS s d st = .error 156) := Lib.hid (by
                unfold createS
                rw [if_neg (by rw [HNB.out, HALL.out]; simp), if_neg (by rw [HAN.out]; simp [HND.out]), if_pos HMM.out])
              have HBX := Lib.hid (HBW.out)
              have i0 : V.heap[Y0]? = some (.cells #[.int .i64 (s.ver + 1), .int .i64 s.last, .slice tad G.length tcap] 24 (0, 0)) := G0.out
              have i2 : V.heap[Y2]? = some (.cells #[.int .i64 0, .int .i64 0, .slice none 0 0] 24 (0, 0)) := G2.out
              have hld := load_row i0 Try.underlying24 rfl size24
              obtain ⟨X4, e44, j4, f4⟩ := sets_row i2 (#[.int .i64 (s.ver + 1), .int .i64 s.last, .slice tad G.length tcap]) rfl
              have hst : (Instr.storeAt 24 (.pointer (some ⟨Y2, 0, none⟩)) (.agg #[.int .i64 (s.ver + 1), .int .i64 s.last, .slice tad G.length tcap])).run Try.prog V = .ok () X4 := by
                rw [e44]
                exact store_row i2 rfl size24 (by simp [Value.oneCell'])
              have J4 := Lib.hid j4
              have HE : Hid (Below w.heap.size w X4) := Lib.hid (HBX.out.trans (f4.toBelow (fun k9 hk9 q9 => by have := GE.out; omega) HBX.out.size))
              clear e44 j4 f4 i0 i2
              go_upto_region 17 with fail
              go_wp2_with (first | (refine wpl_load _ rfl (by first | rfl | (simp [Act.eval]; done)) hld ?_) | (refine wpl_store _ _ rfl (by first | rfl | (simp [Act.eval]; done)) (by first | rfl | (simp [Act.eval]; done)) hst ?_))
              refine bodyPost_ret (results_two rfl rfl rfl (load_var J4.out Try.underlying24 rfl size24)) rfl ?_
              exact CrAns.err HR.out (by decide) HBB.out HE.out
            have g1 : ¬ (6 : Int) ≤ (G.length : Int) := by omega
            have g2 : ((n : Int) == 0) = false := by simp; omega
            have g3 : ¬ (8 : Int) < (n : Int) := by omega
            have HM : Hid (¬ (s.tabs.length = 6 ∨ d.cols.length < 1 ∨ 8 < d.cols.length) ∧ n ≤ 8) := Lib.hid (by
              have h1 := HN.out.1
              have h2 := HLN.out
              omega)
            have y2 : V.cell? ⟨Q, 2, none⟩ = some (.slice da n dc) := cell_blk GQ.out 2
            have f2 : V.frozen? ⟨Q, 2, none⟩ = false := frozen_blk GQ.out 2
            obtain ⟨U, hU⟩ : ∃ U, U = V.setCell ⟨Q, 2, none⟩ (.slice none 0 0) := ⟨_, rfl⟩
            have uQ : U.heap[Q]? = some (.cells #[.int .i64 (s.last + 1), .string d.table, .slice none 0 0, .slice none 0 0, .slice none 0 0] 54 (0, 0)) := by rw [hU]; exact set_blk GQ.out _
            have fU : Fr V U (fun k9 => k9 = Q) := by rw [hU]; exact Fr.set (S := fun k9 => k9 = Q) (a := ⟨Q, 2, none⟩) (Fr.refl _ _) (.inl rfl) _
            have HQV : Hid (w.heap.size ≤ Q ∧ Q < V.heap.size) := Lib.hid ⟨by have := HQG.out; have := HB1.out.size; omega, blk_lt GQ.out⟩
            have U0 := Lib.hid ((fU.block Y0 (blk_lt G0.out) (fun q => by have := HQG.out; omega)).trans G0.out)
            have U1 := Lib.hid ((fU.block Y1 (blk_lt G1.out) (fun q => by have := HQG.out; omega)).trans G1.out)
            have U2 := Lib.hid ((fU.block Y2 (blk_lt G2.out) (fun q => by have := HQG.out; omega)).trans G2.out)
            have HUB := Lib.hid (HBW.out.trans (fU.toBelow (fun k9 hk9 q9 => by have := HQV.out; omega) HBW.out.size))
            have HVW := Lib.hid (bgo BV.out HBV.out)
            have HUC : Hid (∀ j (hj : j < d.cols.length), ∃ (b o : Nat), da = some (⟨b, o, none⟩ : Addr) ∧ b < w1.heap.size ∧ ∀ q u, (colL d.cols[j])[q]? = some u → U.cell? ⟨b, o + j * 7 + q, none⟩ = some u) := Lib.hid (fun j hj => by
              obtain ⟨_, _, ee, _, _, _, hcs9⟩ := HC1.out
              cases ee
              obtain ⟨b, o, cs, e9, hb9, h9, _, hh⟩ := hcs9 j hj
              cases h9
              refine ⟨b, o, e9, hb9, fun q u hu => ?_⟩
              have h1 := cell_on (bgo BV.out HBV.out) (hh q u hu)
              rw [← h1]
              unfold World.cell?
              rw [fU.block b (by have := (bgo BV.out HBV.out).size; omega) (fun z => by have := HQG.out; omega)])
            have HUW : Hid (Below w1.heap.size w1 U) := Lib.hid (HVW.out.trans (fU.toBelow (fun k9 hk9 q9 => by have := HQG.out; omega) HVW.out.size))
            have HU := Lib.hid hU
            have UQ := Lib.hid uQ
            clear uQ hU
            go_upto_region 19 with fail
            rw [← HU.out]
            clear y2 f2 x2 g1 g2 g3 k1 e8 gm
            have HUS : Hid (Q < U.heap.size ∧ w1.heap.size ≤ U.heap.size) := Lib.hid ⟨blk_lt UQ.out, HUW.out.size⟩
            clear fU
            have HI9 := HI
            clear HI
            go_wp2
            go_loopw [11] (fun iv wr => ∃ (i : Nat) (la : Option Addr) (lc : Nat), i ≤ n ∧ iv = .int .i64 (i : Int) ∧ Hid (∀ j (hj : j < d.cols.length), j < i → kindB d.cols[j].kd = true) ∧ wr.heap[Q]? = some (.cells #[.int .i64 (s.last + 1), .string d.table, .slice la i lc, .slice none 0 0, .slice none 0 0] 54 (0, 0)) ∧ wr.ownsRow U.heap.size 65 7 (.slice la i lc) (freshC (s.last + 2) (d.cols.take i)).length ((freshC (s.last + 2) (d.cols.take i)).flatMap colL) ∧ Below w1.heap.size w1 wr ∧ U.heap.size ≤ wr.heap.size) (fun iv _ => n - (intOf iv).toNat)
            case atStart => exact ⟨0, none, 0, Nat.zero_le _, rfl, Lib.hid (fun j _ hj => by omega), UQ.out, World.ownsRow_nil _ _ 65 7, HUW.out, Nat.le_refl _⟩
            case round =>
              obtain ⟨i, la, lc, hi, rfl, hkd, hq, hrow, hb, hsz⟩ := hrel
              obtain ⟨V9, rfl⟩ : ∃ V9, V9 = wr := ⟨_, rfl⟩
              have HI := Lib.hid hi
              have HKD := hkd
              clear hkd
              have HROW := Lib.hid hrow
              have HBL := Lib.hid hb
              have HSZ := Lib.hid hsz
              have MQ := Lib.hid hq
              have M0 := Lib.hid ((hb.block Y0 (blk_lt I0.out)).trans I0.out)
              have M1 := Lib.hid ((hb.block Y1 (blk_lt I1.out)).trans I1.out)
              have M2 := Lib.hid ((hb.block Y2 (blk_lt I2.out)).trans I2.out)
              have e8 : V9.cell? ⟨Y1, 10, none⟩ = some (.slice da n dc) := cell_blk M1.out 10
              have HBW9 := Lib.hid (bgo HB1.out hb)
              clear hi hq hrow hb hsz
              by_cases hlt : i < n
              · skip
                have hiL : i < d.cols.length := by rw [HN.out.1]; exact hlt
                have k0 : (0 : Int) ≤ (i : Int) := by omega
                have k1 : (i : Int) < (n : Int) := by omega
                obtain ⟨b, o, hda, hbl, hcc⟩ : ∃ (b o : Nat), da = some (⟨b, o, none⟩ : Addr) ∧ b < w1.heap.size ∧ ∀ q u, (colL (d.cols[i]'hiL))[q]? = some u → V9.cell? ⟨b, o + i * 7 + q, none⟩ = some u := by
                  obtain ⟨b, o, e9, hb9, _⟩ := HUC.out i hiL
                  obtain ⟨b2, o2, e2, h2⟩ := HCC.out i hiL
                  rw [e9] at e2
                  cases e2
                  exact ⟨b, o, e9, hb9, fun q u hu => cell_on HBL.out (h2 q u hu)⟩
                obtain ⟨x, hx⟩ : ∃ x, d.cols[i]'hiL = x := ⟨_, rfl⟩
                have HXX := Lib.hid hx
                have c1 : V9.cell? ⟨b, o + i * 7 + 1, none⟩ = some (.string x.nm) := by subst hx; exact hcc 1 _ rfl
                have c2 : V9.cell? ⟨b, o + i * 7 + 2, none⟩ = some (.int .i64 x.kd) := by subst hx; exact hcc 2 _ rfl
                have HLT := Lib.hid (And.intro hlt hbl)
                subst hda
                have HC1' := Lib.hid c1
                have HC2' := Lib.hid c2
                clear hcc hx hbl hlt c1
                have hat := kind_ref (w := V9) x.kd
                obtain ⟨kb, hkb⟩ : ∃ kb, kindB x.kd = kb := ⟨_, rfl⟩
                rw [hkb] at hat
                have HKB := Lib.hid hkb
                clear hkb
                go_upto_region 22 with fail
                go_wp2_with (go_at_call 24; refine hat.mono ?_; rintro e w8 ⟨rfl, h9⟩; refine Hid.out ?_)
                refine Lib.hid ?_
                subst h9
                obtain ⟨V9, hV9⟩ : ∃ V9, V9 = w8 := ⟨_, rfl⟩
                subst hV9
                clear hat c2
                cases kb with
                | false =>
                  have HR : Hid (createS s d st = .error 154) := Lib.hid (by
                    unfold createS
                    rw [if_neg (by rw [HNB.out, HALL.out]; simp), if_neg (by rw [HAN.out]; simp [HND.out]), if_neg HM.out.1, if_pos (List.all_eq_false.2 ⟨_, List.getElem_mem hiL, by rw [show d.cols[i] = x from HXX.out, HKB.out]; simp⟩)])
                  have HBX := Lib.hid (HBW9.out)
                  have i0 : V9.heap[Y0]? = some (.cells #[.int .i64 (s.ver + 1), .int .i64 s.last, .slice tad G.length tcap] 24 (0, 0)) := M0.out
                  have i2 : V9.heap[Y2]? = some (.cells #[.int .i64 0, .int .i64 0, .slice none 0 0] 24 (0, 0)) := M2.out
                  have hld := load_row i0 Try.underlying24 rfl size24
                  obtain ⟨X4, e44, j4, f4⟩ := sets_row i2 (#[.int .i64 (s.ver + 1), .int .i64 s.last, .slice tad G.length tcap]) rfl
                  have hst : (Instr.storeAt 24 (.pointer (some ⟨Y2, 0, none⟩)) (.agg #[.int .i64 (s.ver + 1), .int .i64 s.last, .slice tad G.length tcap])).run Try.prog V9 = .ok () X4 := by
                    rw [e44]
                    exact store_row i2 rfl size24 (by simp [Value.oneCell'])
                  have J4 := Lib.hid j4
                  have HE : Hid (Below w.heap.size w X4) := Lib.hid (HBX.out.trans (f4.toBelow (fun k9 hk9 q9 => by have := GE.out; omega) HBX.out.size))
                  clear e44 j4 f4 i0 i2
                  go_upto_region 23 with fail
                  go_wp2_with (first | (refine wpl_load _ rfl (by first | rfl | (simp [Act.eval]; done)) hld ?_) | (refine wpl_store _ _ rfl (by first | rfl | (simp [Act.eval]; done)) (by first | rfl | (simp [Act.eval]; done)) hst ?_))
                  refine bodyPost_ret (results_two rfl rfl rfl (load_var J4.out Try.underlying24 rfl size24)) rfl ?_
                  exact CrAns.err HR.out (by decide) HBB.out HE.out
                | true =>
                  have HLC : Hid ((freshC (s.last + 2) (d.cols.take i)).length = i) := Lib.hid (by rw [freshC_len, List.length_take]; omega)
                  have HFS : Hid (freshC (s.last + 2) (d.cols.take (i + 1)) = freshC (s.last + 2) (d.cols.take i) ++ [⟨s.last + 2 + (i : Int), x.nm, x.kd, 3, ⟨0, 0, ⟨#[]⟩⟩⟩]) := Lib.hid (by
                    rw [List.take_succ_eq_append_getElem hiL, freshC_snoc, List.length_take, Nat.min_eq_left (Nat.le_of_lt hiL), show d.cols[i] = x from HXX.out])
                  obtain ⟨R, hR⟩ : ∃ R, freshC (s.last + 2) (d.cols.take i) = R := ⟨_, rfl⟩
                  rw [hR] at HROW HLC HFS
                  have HRR := Lib.hid hR
                  clear hR e8
                  go_upto_region 24 with fail
                  obtain ⟨X0, hX0⟩ : ∃ X0, X0 = V9.drew := ⟨_, rfl⟩
                  have bX0 : Below V9.heap.size V9 X0 := by rw [hX0]; exact ⟨rfl, rfl, rfl, Nat.le_refl _, fun _ _ => rfl⟩
                  obtain ⟨nx, hnx⟩ : ∃ nx : Col, nx = ⟨s.last + 2 + (i : Int), x.nm, x.kd, 3, ⟨0, 0, ⟨#[]⟩⟩⟩ := ⟨_, rfl⟩
                  have own0 : X0.ownsRow U.heap.size 65 7 (.slice la R.length lc) R.length (R.flatMap colL) := by have := own_below HROW.out bX0; rw [HLC.out] at this ⊢; exact this
                  obtain ⟨ad, cap, X2, r1, o2, fr2, ob2⟩ := pushC (own_mono own0 (Nat.zero_le _)) nx (by have := HLC.out; have := HN.out; have := HLT.out; omega)
                  obtain ⟨X1, hX1⟩ : ∃ X1, X1 = X0.alloc (.cells (colA nx) 65) := ⟨_, rfl⟩
                  rw [← hX1] at r1
                  have b1 : Below X0.heap.size X0 X1 := by rw [hX1]; exact bnew _ _
                  have keep2 : ∀ k9, k9 < U.heap.size → X2.heap[k9]? = X0.heap[k9]? := fun k9 hk => fr2.block k9 (by have := HSZ.out; have := bX0.size; omega) (fun q => by have := (own_ge own0 k9 q).1; omega)
                  have aQ := (bX0.block Q (blk_lt MQ.out)).trans MQ.out
                  have a0 := (bX0.block Y0 (blk_lt M0.out)).trans M0.out
                  have a1 := (bX0.block Y1 (blk_lt M1.out)).trans M1.out
                  have a2 := (bX0.block Y2 (blk_lt M2.out)).trans M2.out
                  have h2Q := (keep2 Q HUS.out.1).trans aQ
                  rw [← HLC.out] at aQ h2Q
                  obtain ⟨X3, hX3⟩ : ∃ X3, X3 = X2.setCell ⟨Q, 2, none⟩ (.slice ad (R.length + 1) cap) := ⟨_, rfl⟩
                  have x3Q : X3.heap[Q]? = some (.cells #[.int .i64 (s.last + 1), .string d.table, .slice ad (R.length + 1) cap, .slice none 0 0, .slice none 0 0] 54 (0, 0)) := by rw [hX3]; exact set_blk h2Q _
                  have fX3 : Fr X2 X3 (fun k9 => k9 = Q) := by rw [hX3]; exact Fr.set (S := fun k9 => k9 = Q) (a := ⟨Q, 2, none⟩) (Fr.refl _ _) (.inl rfl) _
                  have c03 : X3.ownsRow 0 65 7 (.slice ad (R.length + 1) cap) (R ++ [nx]).length ((R ++ [nx]).flatMap colL) := keep_rowB o2 fX3 (fun k9 hk9 cs9 tg => by
                    rw [hk9, h2Q] at tg
                    simp only [Option.some.injEq, Obj.cells.injEq] at tg
                    exact absurd tg.2.1 (by decide))
                  have HROW3 : Hid (X3.ownsRow U.heap.size 65 7 (.slice ad (R.length + 1) cap) (R ++ [nx]).length ((R ++ [nx]).flatMap colL)) := Lib.hid (own_base c03 (fun k9 hk9 => by
                    rcases ob2 k9 hk9 with z | z
                    · exact (own_ge own0 k9 z).1
                    · have := HSZ.out
                      have := bX0.size
                      omega))
                  have HB3 : Hid (Below w1.heap.size w1 X3 ∧ U.heap.size ≤ X3.heap.size) := Lib.hid (by
                    have h1 := bgo HBL.out bX0
                    have h2 := h1.trans (fr2.toBelow (fun k9 hk9 z => by have := (own_ge own0 k9 z).1; have := HUS.out; omega) h1.size)
                    refine ⟨h2.trans (fX3.toBelow (fun k9 hk9 z => by have := HQG.out; omega) h2.size), ?_⟩
                    have := fX3.size
                    have := fr2.size
                    have := bX0.size
                    have := HSZ.out
                    omega)
                  have HT2 := Lib.hid h2Q
                  have X3Q := Lib.hid x3Q
                  have CQ : ∀ b9 o9, b9 < U.heap.size → ∀ X9 a9 b9', GW3 X0 X1 X2 X3 a9 b9' false X9 → X9.cell? ⟨b9, o9, none⟩ = X0.cell? ⟨b9, o9, none⟩ := fun b9 o9 h X9 p9 q9 hg => by
                    have hh : X9.heap[b9]? = X0.heap[b9]? := by
                      cases p9 <;> cases q9
                      · rw [show X9 = X0 from hg]
                      · rw [show X9 = X2 from hg]; exact keep2 b9 h
                      · rw [show X9 = X1 from hg]; exact b1.block _ (by have := HSZ.out; have := bX0.size; omega)
                      · rw [show X9 = X2 from hg]; exact keep2 b9 h
                    unfold World.cell?
                    rw [hh]
                  have HCQ := Lib.hid CQ
                  have hy0 : Y0 < U.heap.size ∧ Y1 < U.heap.size ∧ b < U.heap.size := by have := HQG.out; have := HUS.out; have := HLT.out; omega
                  have HYL := Lib.hid hy0
                  have S2' := Lib.hid (And.intro (cell_blk aQ 2) (And.intro (cell_blk a0 1) (And.intro (cell_blk a1 10) (And.intro (cell_on bX0 HC1'.out) (cell_on bX0 HC2'.out)))))
                  have HX0 := Lib.hid hX0
                  have HX1 := Lib.hid hX1
                  have HX3 := Lib.hid hX3
                  have RUN := Lib.hid r1
                  have HNX := Lib.hid hnx
                  have HII : Hid (s.last + 2 + (i : Int) ≤ 9223372036854775807 ∧ 0 ≤ s.last) := Lib.hid (by have := HFL.out; have := HN.out; have := HLT.out; omega)
                  clear bX0 own0 r1 o2 fr2 ob2 b1 keep2 aQ a0 a1 a2 h2Q x3Q fX3 c03 hX0 hX1 hX3 CQ hnx hy0
                  refine wp_region_fs (fun fl X9 => GW3 X0 X1 X2 X3 (fl 20) (fl 21) (fl 23) X9) [
                    fun v9 _ => v9 = .pointer (some ⟨Q, 2, none⟩),
                    fun v9 _ => v9 = .slice la R.length lc,
                    fun v9 _ => v9 = .pointer (some ⟨Y0, 1, none⟩),
                    fun v9 _ => v9 = .int .i64 s.last,
                    fun v9 _ => v9 = .int .i64 (s.last + 2),
                    fun v9 _ => v9 = .int .i64 (i : Int),
                    fun v9 _ => v9 = .int .i64 (s.last + 2 + (i : Int)),
                    fun v9 _ => v9 = .pointer (some ⟨Y1, 10, none⟩),
                    fun v9 _ => v9 = .slice (some ⟨b, o, none⟩) n dc,
                    fun v9 _ => v9 = .int .i64 (i : Int),
                    fun v9 _ => v9 = .pointer (some ⟨b, o + i * 7, none⟩),
                    fun v9 _ => v9 = .pointer (some ⟨b, o + i * 7 + 1, none⟩),
                    fun v9 _ => v9 = .string x.nm,
                    fun v9 _ => v9 = .pointer (some ⟨Y1, 10, none⟩),
                    fun v9 _ => v9 = .slice (some ⟨b, o, none⟩) n dc,
                    fun v9 _ => v9 = .int .i64 (i : Int),
                    fun v9 _ => v9 = .pointer (some ⟨b, o + i * 7, none⟩),
                    fun v9 _ => v9 = .pointer (some ⟨b, o + i * 7 + 2, none⟩),
                    fun v9 _ => v9 = .int .i64 x.kd,
                    fun v9 _ => v9 = .agg (colA nx),
                    fun v9 _ => v9 = .slice (some ⟨X0.heap.size, 0, none⟩) 1 1,
                    fun v9 _ => v9 = .slice ad (R.length + 1) cap,
                    fun v9 _ => v9 = .pointer (some ⟨Q, 2, none⟩),
                    fun _ _ => True]
                    (by kernel_rfl) (by kernel_rfl) (by kernel_rfl) ?g0e ?ose ?end5
                  case g0e => exact HX0.out.symm
                  case ose =>
                    refine ⟨?_, ?_, ?_, ?_, ?_, ?_, ?_, ?_, ?_, ?_, ?_, ?_, ?_, ?_, ?_, ?_, ?_, ?_, ?_, ?_, ?_, ?_, ?_, ?_, trivial⟩
                    · exact fun ρ X9 fl hg hn hl hp ho hc hf hr => ⟨rfl, Runs.val _ (op_f54_2 (show ρ (.tmp 9) = .pointer (some ⟨Q, 0, none⟩) from ho 9 rfl)) ⟨hg, fun _ _ _ q => q, rfl⟩⟩
                    · intro ρ X9 fl hg hn hl hp ho hc hf hr
                      have hgx : GW3 X0 X1 X2 X3 (fl 20) (fl 21) (fl 23) X9 := hg
                      have h23f : fl 23 = false := (show fl 23 = false from by cases q9 : fl 23 with | false => rfl | true => exact absurd (hl 21 _ 1 rfl (by kernel_rfl) (hl 23 _ 21 rfl (by kernel_rfl) q9)) (by rw [hn]; decide))
                      rw [h23f] at hgx
                      have hcell := (HCQ.out Q 2 HUS.out.1 X9 _ _ hgx).trans S2'.out.1
                      exact ⟨rfl, Runs.val _ (op_load42 (show ρ (.tmp 99) = .pointer (some ⟨Q, 2, none⟩) from hr 0 99 rfl rfl) hcell) ⟨hg, fun _ _ _ q => q, rfl⟩⟩
                    · exact fun ρ X9 fl hg hn hl hp ho hc hf hr => ⟨rfl, Runs.val _ (op_f24_1 (show ρ (.tmp 3) = .pointer (some ⟨Y0, 0, none⟩) from ho 3 rfl)) ⟨hg, fun _ _ _ q => q, rfl⟩⟩
                    · intro ρ X9 fl hg hn hl hp ho hc hf hr
                      have hgx : GW3 X0 X1 X2 X3 (fl 20) (fl 21) (fl 23) X9 := hg
                      have h23f : fl 23 = false := (show fl 23 = false from by cases q9 : fl 23 with | false => rfl | true => exact absurd (hl 4 _ 3 rfl (by kernel_rfl) (hl 6 _ 4 rfl (by kernel_rfl) (hl 19 _ 6 rfl (by kernel_rfl) (hl 20 _ 19 rfl (by kernel_rfl) (hl 21 _ 20 rfl (by kernel_rfl) (hl 23 _ 21 rfl (by kernel_rfl) q9)))))) (by rw [hn]; decide))
                      rw [h23f] at hgx
                      have hcell := (HCQ.out Y0 1 HYL.out.1 X9 _ _ hgx).trans S2'.out.2.1
                      exact ⟨rfl, Runs.val _ (op_load3 (show ρ (.tmp 101) = .pointer (some ⟨Y0, 1, none⟩) from hr 2 101 rfl rfl) hcell) ⟨hg, fun _ _ _ q => q, rfl⟩⟩
                    · exact fun ρ X9 fl hg hn hl hp ho hc hf hr => ⟨rfl, Runs.val _ (op_add3m (show ρ (.tmp 102) = .int .i64 s.last from hr 3 102 rfl rfl) (hc _) rfl (by have := HII.out; omega) (by have := HII.out; omega)) ⟨hg, fun _ _ _ q => q, rfl⟩⟩
                    · exact fun ρ X9 fl hg hn hl hp ho hc hf hr => ⟨rfl, Runs.val _ (op_move (show ρ (.tmp 11) = .int .i64 (i : Int) from ho 11 rfl)) ⟨hg, fun _ _ _ q => q, rfl⟩⟩
                    · exact fun ρ X9 fl hg hn hl hp ho hc hf hr => ⟨rfl, Runs.val _ (op_add3m (show ρ (.tmp 103) = .int .i64 (s.last + 2) from hr 4 103 rfl rfl) (show ρ (.tmp 104) = .int .i64 (i : Int) from hr 5 104 rfl rfl) rfl (by have := HII.out; omega) HII.out.1) ⟨hg, fun _ _ _ q => q, rfl⟩⟩
                    · exact fun ρ X9 fl hg hn hl hp ho hc hf hr => ⟨rfl, Runs.val _ (op_f44_8 (show ρ (.tmp 4) = .pointer (some ⟨Y1, 0, none⟩) from ho 4 rfl)) ⟨hg, fun _ _ _ q => q, rfl⟩⟩
                    · intro ρ X9 fl hg hn hl hp ho hc hf hr
                      have hgx : GW3 X0 X1 X2 X3 (fl 20) (fl 21) (fl 23) X9 := hg
                      have h23f : fl 23 = false := (show fl 23 = false from by cases q9 : fl 23 with | false => rfl | true => exact absurd (hl 10 _ 8 rfl (by kernel_rfl) (hl 11 _ 10 rfl (by kernel_rfl) (hl 12 _ 11 rfl (by kernel_rfl) (hl 19 _ 12 rfl (by kernel_rfl) (hl 20 _ 19 rfl (by kernel_rfl) (hl 21 _ 20 rfl (by kernel_rfl) (hl 23 _ 21 rfl (by kernel_rfl) q9))))))) (by rw [hn]; decide))
                      rw [h23f] at hgx
                      have hcell := (HCQ.out Y1 10 HYL.out.2.1 X9 _ _ hgx).trans S2'.out.2.2.1
                      exact ⟨rfl, Runs.val _ (op_load42 (show ρ (.tmp 106) = .pointer (some ⟨Y1, 10, none⟩) from hr 7 106 rfl rfl) hcell) ⟨hg, fun _ _ _ q => q, rfl⟩⟩
                    · exact fun ρ X9 fl hg hn hl hp ho hc hf hr => ⟨rfl, Runs.val _ (op_move (show ρ (.tmp 11) = .int .i64 (i : Int) from ho 11 rfl)) ⟨hg, fun _ _ _ q => q, rfl⟩⟩
                    · exact fun ρ X9 fl hg hn hl hp ho hc hf hr => ⟨rfl, Runs.val _ (op_i42 (show ρ (.tmp 107) = .slice (some ⟨b, o, none⟩) n dc from hr 8 107 rfl rfl) (show ρ (.tmp 108) = .int .i64 (i : Int) from hr 9 108 rfl rfl) HLT.out.1) ⟨hg, fun _ _ _ q => q, rfl⟩⟩
                    · exact fun ρ X9 fl hg hn hl hp ho hc hf hr => ⟨rfl, Runs.val _ (op_f65_1 (show ρ (.tmp 109) = .pointer (some ⟨b, o + i * 7, none⟩) from hr 10 109 rfl rfl)) ⟨hg, fun _ _ _ q => q, rfl⟩⟩
                    · intro ρ X9 fl hg hn hl hp ho hc hf hr
                      have hgx : GW3 X0 X1 X2 X3 (fl 20) (fl 21) (fl 23) X9 := hg
                      have h23f : fl 23 = false := (show fl 23 = false from by cases q9 : fl 23 with | false => rfl | true => exact absurd (hl 19 _ 12 rfl (by kernel_rfl) (hl 20 _ 19 rfl (by kernel_rfl) (hl 21 _ 20 rfl (by kernel_rfl) (hl 23 _ 21 rfl (by kernel_rfl) q9)))) (by rw [hn]; decide))
                      rw [h23f] at hgx
                      have hcell := (HCQ.out b (o + i * 7 + 1) HYL.out.2.2 X9 _ _ hgx).trans S2'.out.2.2.2.1
                      exact ⟨rfl, Runs.val _ (op_load9 (show ρ (.tmp 110) = .pointer (some ⟨b, o + i * 7 + 1, none⟩) from hr 11 110 rfl rfl) hcell) ⟨hg, fun _ _ _ q => q, rfl⟩⟩
                    · exact fun ρ X9 fl hg hn hl hp ho hc hf hr => ⟨rfl, Runs.val _ (op_f44_8 (show ρ (.tmp 4) = .pointer (some ⟨Y1, 0, none⟩) from ho 4 rfl)) ⟨hg, fun _ _ _ q => q, rfl⟩⟩
                    · intro ρ X9 fl hg hn hl hp ho hc hf hr
                      have hgx : GW3 X0 X1 X2 X3 (fl 20) (fl 21) (fl 23) X9 := hg
                      have h23f : fl 23 = false := (show fl 23 = false from by cases q9 : fl 23 with | false => rfl | true => exact absurd (hl 16 _ 14 rfl (by kernel_rfl) (hl 17 _ 16 rfl (by kernel_rfl) (hl 18 _ 17 rfl (by kernel_rfl) (hl 19 _ 18 rfl (by kernel_rfl) (hl 20 _ 19 rfl (by kernel_rfl) (hl 21 _ 20 rfl (by kernel_rfl) (hl 23 _ 21 rfl (by kernel_rfl) q9))))))) (by rw [hn]; decide))
                      rw [h23f] at hgx
                      have hcell := (HCQ.out Y1 10 HYL.out.2.1 X9 _ _ hgx).trans S2'.out.2.2.1
                      exact ⟨rfl, Runs.val _ (op_load42 (show ρ (.tmp 112) = .pointer (some ⟨Y1, 10, none⟩) from hr 13 112 rfl rfl) hcell) ⟨hg, fun _ _ _ q => q, rfl⟩⟩
                    · exact fun ρ X9 fl hg hn hl hp ho hc hf hr => ⟨rfl, Runs.val _ (op_move (show ρ (.tmp 11) = .int .i64 (i : Int) from ho 11 rfl)) ⟨hg, fun _ _ _ q => q, rfl⟩⟩
                    · exact fun ρ X9 fl hg hn hl hp ho hc hf hr => ⟨rfl, Runs.val _ (op_i42 (show ρ (.tmp 113) = .slice (some ⟨b, o, none⟩) n dc from hr 14 113 rfl rfl) (show ρ (.tmp 114) = .int .i64 (i : Int) from hr 15 114 rfl rfl) HLT.out.1) ⟨hg, fun _ _ _ q => q, rfl⟩⟩
                    · exact fun ρ X9 fl hg hn hl hp ho hc hf hr => ⟨rfl, Runs.val _ (op_f65_2 (show ρ (.tmp 115) = .pointer (some ⟨b, o + i * 7, none⟩) from hr 16 115 rfl rfl)) ⟨hg, fun _ _ _ q => q, rfl⟩⟩
                    · intro ρ X9 fl hg hn hl hp ho hc hf hr
                      have hgx : GW3 X0 X1 X2 X3 (fl 20) (fl 21) (fl 23) X9 := hg
                      have h23f : fl 23 = false := (show fl 23 = false from by cases q9 : fl 23 with | false => rfl | true => exact absurd (hl 19 _ 18 rfl (by kernel_rfl) (hl 20 _ 19 rfl (by kernel_rfl) (hl 21 _ 20 rfl (by kernel_rfl) (hl 23 _ 21 rfl (by kernel_rfl) q9)))) (by rw [hn]; decide))
                      rw [h23f] at hgx
                      have hcell := (HCQ.out b (o + i * 7 + 2) HYL.out.2.2 X9 _ _ hgx).trans S2'.out.2.2.2.2
                      exact ⟨rfl, Runs.val _ (op_load3 (show ρ (.tmp 116) = .pointer (some ⟨b, o + i * 7 + 2, none⟩) from hr 17 116 rfl rfl) hcell) ⟨hg, fun _ _ _ q => q, rfl⟩⟩
                    · intro ρ X9 fl hg hn hl hp ho hc hf hr
                      rw [HNX.out]
                      exact ⟨rfl, Runs.val _ (op_b50p hc (show ρ (.tmp 105) = .int .i64 (s.last + 2 + (i : Int)) from hr 6 105 rfl rfl) (show ρ (.tmp 111) = .string x.nm from hr 12 111 rfl rfl) (show ρ (.tmp 117) = .int .i64 x.kd from hr 18 117 rfl rfl)) ⟨hg, fun _ _ _ q => q, rfl⟩⟩
                    · intro ρ X9 fl hg hn hl hp ho hc hf hr
                      have hgx : GW3 X0 X1 X2 X3 (fl 20) (fl 21) (fl 23) X9 := hg
                      have h21f : fl 21 = false := (show fl 21 = false from by cases q9 : fl 21 with | false => rfl | true => exact absurd (hl 21 _ 20 rfl (by kernel_rfl) q9) (by rw [hn]; decide))
                      have h23f : fl 23 = false := (show fl 23 = false from by cases q9 : fl 23 with | false => rfl | true => exact absurd (hl 21 _ 20 rfl (by kernel_rfl) (hl 23 _ 21 rfl (by kernel_rfl) q9)) (by rw [hn]; decide))
                      rw [hn, h21f, h23f] at hgx
                      have hX : X9 = X0 := hgx
                      refine ⟨rfl, Runs.val _ (op_s42 (show ρ (.tmp 118) = .agg (colA nx) from hr 19 118 rfl rfl)) ⟨?_, ?_, (show Value.slice (some ⟨X9.heap.size, 0, none⟩) 1 1 = Value.slice (some ⟨X0.heap.size, 0, none⟩) 1 1 from by rw [hX])⟩⟩
                      · show GW3 X0 X1 X2 X3 true (fl 21) (fl 23) (X9.alloc _)
                        rw [h21f, h23f, hX]
                        exact HX1.out.symm
                      · intro j hj u q9
                        match j, hj, q9 with
                          | 0, hj, q9 => exact q9
                          | 1, hj, q9 => exact q9
                          | 2, hj, q9 => exact q9
                          | 3, hj, q9 => exact q9
                          | 4, hj, q9 => exact q9
                          | 5, hj, q9 => exact q9
                          | 6, hj, q9 => exact q9
                          | 7, hj, q9 => exact q9
                          | 8, hj, q9 => exact q9
                          | 9, hj, q9 => exact q9
                          | 10, hj, q9 => exact q9
                          | 11, hj, q9 => exact q9
                          | 12, hj, q9 => exact q9
                          | 13, hj, q9 => exact q9
                          | 14, hj, q9 => exact q9
                          | 15, hj, q9 => exact q9
                          | 16, hj, q9 => exact q9
                          | 17, hj, q9 => exact q9
                          | 18, hj, q9 => exact q9
                          | 19, hj, q9 => exact q9
                          | 20, hj, q9 => exact q9
                          | 21, hj, q9 => exact q9
                          | 22, hj, q9 => exact q9
                          | 23, hj, q9 => exact q9
                          | m + 24, _, q9 => exact q9
                    · intro ρ X9 fl hg hn hl hp ho hc hf hr
                      have hgx : GW3 X0 X1 X2 X3 (fl 20) (fl 21) (fl 23) X9 := hg
                      have hBt : fl 20 = true := hp 20 (by kernel_rfl)
                      have h23f : fl 23 = false := (show fl 23 = false from by cases q9 : fl 23 with | false => rfl | true => exact absurd (hl 23 _ 21 rfl (by kernel_rfl) q9) (by rw [hn]; decide))
                      rw [hn, hBt, h23f] at hgx
                      have hX : X9 = X1 := hgx
                      have hrun9 := RUN.out
                      rw [← hX] at hrun9
                      refine ⟨rfl, Runs.val _ (op_append42 (show ρ (.tmp 100) = .slice la R.length lc from hr 1 100 rfl rfl) (show ρ (.tmp 119) = .slice (some ⟨X0.heap.size, 0, none⟩) 1 1 from hr 20 119 rfl rfl) hrun9) ⟨?_, ?_, rfl⟩⟩
                      · show GW3 X0 X1 X2 X3 (fl 20) true (fl 23) X2
                        rw [h23f]
                        exact (rfl : X2 = X2)
                      · intro j hj u q9
                        match j, hj, q9 with
                          | 0, hj, q9 => exact q9
                          | 1, hj, q9 => exact q9
                          | 2, hj, q9 => exact q9
                          | 3, hj, q9 => exact q9
                          | 4, hj, q9 => exact q9
                          | 5, hj, q9 => exact q9
                          | 6, hj, q9 => exact q9
                          | 7, hj, q9 => exact q9
                          | 8, hj, q9 => exact q9
                          | 9, hj, q9 => exact q9
                          | 10, hj, q9 => exact q9
                          | 11, hj, q9 => exact q9
                          | 12, hj, q9 => exact q9
                          | 13, hj, q9 => exact q9
                          | 14, hj, q9 => exact q9
                          | 15, hj, q9 => exact q9
                          | 16, hj, q9 => exact q9
                          | 17, hj, q9 => exact q9
                          | 18, hj, q9 => exact q9
                          | 19, hj, q9 => exact q9
                          | 20, hj, q9 => exact q9
                          | 21, hj, q9 => exact q9
                          | 22, hj, q9 => exact q9
                          | 23, hj, q9 => exact q9
                          | m + 24, _, q9 => exact q9
                    · exact fun ρ X9 fl hg hn hl hp ho hc hf hr => ⟨rfl, Runs.val _ (op_f54_2 (show ρ (.tmp 9) = .pointer (some ⟨Q, 0, none⟩) from ho 9 rfl)) ⟨hg, fun _ _ _ q => q, rfl⟩⟩
                    · intro ρ X9 fl hg hn hl hp ho hc hf hr
                      have hgx : GW3 X0 X1 X2 X3 (fl 20) (fl 21) (fl 23) X9 := hg
                      have hAt : fl 21 = true := hp 21 (by kernel_rfl)
                      rw [hn, hAt] at hgx
                      have hX : X9 = X2 := hgx
                      have hA9 := HT2.out
                      rw [← hX] at hA9
                      refine ⟨rfl, Runs.skips (op_store42 (show ρ (.tmp 121) = .pointer (some ⟨Q, 2, none⟩) from hr 22 121 rfl rfl) (show ρ (.tmp 120) = .slice ad (R.length + 1) cap from hr 21 120 rfl rfl) (cell_blk hA9 2) (frozen_blk hA9 2)) ⟨?_, ?_, trivial⟩⟩
                      · show GW3 X0 X1 X2 X3 (fl 20) (fl 21) true (X9.setCell ⟨Q, 2, none⟩ (.slice ad (R.length + 1) cap))
                        rw [hX]
                        exact HX3.out.symm
                      · intro j hj u q9
                        match j, hj, q9 with
                          | 0, hj, q9 => exact q9
                          | 1, hj, q9 => exact q9
                          | 2, hj, q9 => exact q9
                          | 3, hj, q9 => exact q9
                          | 4, hj, q9 => exact q9
                          | 5, hj, q9 => exact q9
                          | 6, hj, q9 => exact q9
                          | 7, hj, q9 => exact q9
                          | 8, hj, q9 => exact q9
                          | 9, hj, q9 => exact q9
                          | 10, hj, q9 => exact q9
                          | 11, hj, q9 => exact q9
                          | 12, hj, q9 => exact q9
                          | 13, hj, q9 => exact q9
                          | 14, hj, q9 => exact q9
                          | 15, hj, q9 => exact q9
                          | 16, hj, q9 => exact q9
                          | 17, hj, q9 => exact q9
                          | 18, hj, q9 => exact q9
                          | 19, hj, q9 => exact q9
                          | 20, hj, q9 => exact q9
                          | 21, hj, q9 => exact q9
                          | 22, hj, q9 => exact q9
                          | 23, hj, q9 => exact q9
                          | m + 24, _, q9 => exact q9
                  case end5 =>
                    intro a9 X9 fl hfl hG9 hs9 hd9 ho9 hr9
                    rw [hfl 23 (by decide)] at hG9
                    have hX9 : X9 = X3 := hG9
                    obtain ⟨x', hx', hxt⟩ := act_put hs9 hd9 ho9
                    change a9 = putAll _ x' [99, 100, 101, 102, 103, 104, 105, 106, 107, 108, 109, 110, 111, 112, 113, 114, 115, 116, 117, 118, 119, 120, 121] at hx'
                    simp only [putAll, Act.put, List.setIfInBounds_toArray, List.set_cons_zero, List.set_cons_succ] at hx'
                    clear hG9 hs9 hd9 ho9 hr9 hxt hfl
                    subst hx'
                    rw [hX9]
                    clear hX9
                    generalize x' 99 = z99, x' 100 = z100, x' 101 = z101, x' 102 = z102, x' 103 = z103, x' 104 = z104, x' 105 = z105, x' 106 = z106, x' 107 = z107, x' 108 = z108, x' 109 = z109, x' 110 = z110, x' 111 = z111, x' 112 = z112, x' 113 = z113, x' 114 = z114, x' 115 = z115, x' 116 = z116, x' 117 = z117, x' 118 = z118, x' 119 = z119, x' 120 = z120, x' 121 = z121
                    have HKN : Hid (∀ j (hj : j < d.cols.length), j < i + 1 → kindB d.cols[j].kd = true) := Lib.hid (fun j hj hji => by
                      rcases Nat.lt_or_ge j i with r | r
                      · exact HKD.out j hj r
                      · obtain rfl : j = i := by omega
                        rw [show d.cols[j] = x from HXX.out]
                        exact HKB.out)
                    have HQ3 : Hid (X3.heap[Q]? = some (.cells #[.int .i64 (s.last + 1), .string d.table, .slice ad (i + 1) cap, .slice none 0 0, .slice none 0 0] 54 (0, 0))) := Lib.hid (by have := X3Q.out; rw [HLC.out] at this; exact this)
                    have HR3 : Hid (X3.ownsRow U.heap.size 65 7 (.slice ad (i + 1) cap) (freshC (s.last + 2) (d.cols.take (i + 1))).length ((freshC (s.last + 2) (d.cols.take (i + 1))).flatMap colL)) := Lib.hid (by have := HROW3.out; rw [HFS.out, ← HNX.out]; rw [HLC.out] at this; exact this)
                    clear HKD
                    go_wp2
                    go_roundw
                    case rel => exact ⟨i + 1, ad, cap, HLT.out.1, by go_num, HKN.out, HQ3.out, HR3.out, HB3.out.1, HB3.out.2⟩
                    case measure => have := HLT.out; simp [intOf]; omega
              · skip
                have k1 : ¬ (i : Int) < (n : Int) := by omega
                have hin : i = n := by have := HI.out; omega
                subst hin
                have HKA : Hid (d.cols.all (fun c => kindB c.kd) = true) := Lib.hid (List.all_eq_true.2 (fun c hc => by
                  obtain ⟨j, hj, rfl⟩ := List.getElem_of_mem hc
                  exact HKD.out j hj (by have := HN.out.1; omega)))
                have HTK : Hid (d.cols.take i = d.cols) := Lib.hid (List.take_of_length_le (by rw [HN.out.1]; exact Nat.le_refl _))
                rw [HTK.out] at HROW
                clear HKD hlt
                by_cases s3 : st = 3
                · skip
                  have g1 : (st == 3) = true := by simpa using s3
                  have g2 : (st != 3) = false := by simp [s3]
                  have HR : Hid (createS s d st = .ok ⟨s.ver + 1, s.last + 1 + d.cols.length, s.tabs ++ [⟨s.last + 1, d.table, freshC (s.last + 2) d.cols, [], []⟩]⟩) := Lib.hid (by
                    unfold createS
                    rw [if_neg (by rw [HNB.out, HALL.out]; simp), if_neg (by rw [HAN.out]; simp [HND.out]), if_neg HM.out.1, if_neg (by rw [HKA.out]; simp), if_neg (by simpa using s3)])
                  have HS3 := Lib.hid s3
                  clear s3
                  have z1 : -9223372036854775808 ≤ s.last + 1 := by have := HFL.out; omega
                  have z2 : s.last + 1 ≤ 9223372036854775807 := by have := HFL.out; omega
                  have z3 : -9223372036854775808 ≤ s.last + 1 + (i : Int) := by have := HFL.out; omega
                  have z4 : s.last + 1 + (i : Int) ≤ 9223372036854775807 := by have := HFL.out; have := HN.out; omega
                  have x1 : V9.cell? ⟨Y0, 1, none⟩ = some (.int .i64 s.last) := cell_blk M0.out 1
                  have f1 : V9.frozen? ⟨Y0, 1, none⟩ = false := frozen_blk M0.out 1
                  obtain ⟨P1, hP1⟩ : ∃ P1, P1 = V9.setCell ⟨Y0, 1, none⟩ (.int .i64 (s.last + 1 + (i : Int))) := ⟨_, rfl⟩
                  have p0 : P1.heap[Y0]? = some (.cells #[.int .i64 (s.ver + 1), .int .i64 (s.last + 1 + (i : Int)), .slice tad G.length tcap] 24 (0, 0)) := by rw [hP1]; exact set_blk M0.out _
                  have fP1 : Fr V9 P1 (fun k9 => k9 = Y0) := by rw [hP1]; exact Fr.set (S := fun k9 => k9 = Y0) (a := ⟨Y0, 1, none⟩) (Fr.refl _ _) (.inl rfl) _
                  have pQ := (fP1.block Q (blk_lt MQ.out) (fun q => by have := HQG.out; omega)).trans MQ.out
                  have p2 := (fP1.block Y2 (blk_lt M2.out) (fun q => GE.out.2.2.1 q.symm)).trans M2.out
                  have x2 : P1.cell? ⟨Y0, 2, none⟩ = some (.slice tad G.length tcap) := cell_blk p0 2
                  have f2 : P1.frozen? ⟨Y0, 2, none⟩ = false := frozen_blk p0 2
                  have y0 : P1.cell? ⟨Q, 0, none⟩ = some (.int .i64 (s.last + 1)) := cell_blk pQ 0
                  have y1 : P1.cell? ⟨Q, 1, none⟩ = some (.string d.table) := cell_blk pQ 1
                  have y2 : P1.cell? ⟨Q, 2, none⟩ = some (.slice la i lc) := cell_blk pQ 2
                  have y3 : P1.cell? ⟨Q, 3, none⟩ = some (.slice none 0 0) := cell_blk pQ 3
                  have y4 : P1.cell? ⟨Q, 4, none⟩ = some (.slice none 0 0) := cell_blk pQ 4
                  have HDP : Dr P1 B G (.slice tad G.length tcap) := (HD1.out.below HBL.out).keep fP1 (fun k9 hk9 => .inr (fun cs e tg => by
                    rw [hk9, M0.out] at tg
                    simp only [Option.some.injEq, Obj.cells.injEq] at tg
                    rw [← tg.2.1]
                    decide))
                  obtain ⟨ad, cap, P2, hrun, t1, t2, t3⟩ := pushT (own_mono HDP.row (Nat.zero_le _)) ⟨s.last + 1, d.table, freshC (s.last + 2) d.cols, [], []⟩ (ca := la) (cn := i) (cc := lc) (ia := none) (im := 0) (ic := 0) (ka := none) (kn := 0) (kc := 0) (by have := HLN.out; have := HN6.out; omega)
                  have fP2 : Fr V9 P2 (fun k9 => k9 = Y0 ∨ (Value.slice tad G.length tcap).ownBlock = some k9) := (fP1.mono (fun k9 q => .inl q)).trans (t2.mono (fun k9 q => .inr q))
                  have HROWP : P2.ownsRow U.heap.size 65 7 (.slice la i lc) (freshC (s.last + 2) d.cols).length ((freshC (s.last + 2) d.cols).flatMap colL) := row_keep HROW.out fP2 (fun k9 hk9 z => by
                    have h1 := (own_ge HROW.out k9 hk9).1
                    have h2 := HUS.out
                    rcases z with z | z
                    · have := HQG.out
                      omega
                    · have := (own_ge HD1.out.row k9 z).2
                      omega)
                  have q0 : P2.heap[Y0]? = some (.cells #[.int .i64 (s.ver + 1), .int .i64 (s.last + 1 + (i : Int)), .slice tad G.length tcap] 24 (0, 0)) := (t2.block Y0 (blk_lt p0) (fun z => by
                    obtain ⟨cs2, tg⟩ := own_tag HDP.row Y0 z
                    rw [p0] at tg
                    simp only [Option.some.injEq, Obj.cells.injEq] at tg
                    exact absurd tg.2.1 (by decide))).trans p0
                  have q2 : P2.heap[Y2]? = some (.cells #[.int .i64 0, .int .i64 0, .slice none 0 0] 24 (0, 0)) := (t2.block Y2 (blk_lt p2) (fun z => by
                    obtain ⟨cs2, tg⟩ := own_tag HDP.row Y2 z
                    rw [p2] at tg
                    simp only [Option.some.injEq, Obj.cells.injEq] at tg
                    exact absurd tg.2.1 (by decide))).trans p2
                  have x3 : P2.cell? ⟨Y0, 2, none⟩ = some (.slice tad G.length tcap) := cell_blk q0 2
                  have f3 : P2.frozen? ⟨Y0, 2, none⟩ = false := frozen_blk q0 2
                  obtain ⟨P3, hP3⟩ : ∃ P3, P3 = P2.setCell ⟨Y0, 2, none⟩ (.slice ad (G.length + 1) cap) := ⟨_, rfl⟩
                  have r0 : P3.heap[Y0]? = some (.cells #[.int .i64 (s.ver + 1), .int .i64 (s.last + 1 + (i : Int)), .slice ad (G.length + 1) cap] 24 (0, 0)) := by rw [hP3]; exact set_blk q0 _
                  have fP3 : Fr P2 P3 (fun k9 => k9 = Y0) := by rw [hP3]; exact Fr.set (S := fun k9 => k9 = Y0) (a := ⟨Y0, 2, none⟩) (Fr.refl _ _) (.inl rfl) _
                  have r2 : P3.heap[Y2]? = some (.cells #[.int .i64 0, .int .i64 0, .slice none 0 0] 24 (0, 0)) := (fP3.block Y2 (blk_lt q2) (fun q => GE.out.2.2.1 q.symm)).trans q2
                  have hld := load_row r0 Try.underlying24 rfl size24
                  obtain ⟨X4, e44, j4, f4⟩ := sets_row r2 (#[.int .i64 (s.ver + 1), .int .i64 (s.last + 1 + (i : Int)), .slice ad (G.length + 1) cap]) rfl
                  have hst : (Instr.storeAt 24 (.pointer (some ⟨Y2, 0, none⟩)) (.agg #[.int .i64 (s.ver + 1), .int .i64 (s.last + 1 + (i : Int)), .slice ad (G.length + 1) cap])).run Try.prog P3 = .ok () X4 := by
                    rw [e44]
                    exact store_row r2 rfl size24 (by simp [Value.oneCell'])
                  have J4 := Lib.hid j4
                  have f94 : Fr V9 X4 (fun k9 => k9 = Y0 ∨ k9 = Y2 ∨ (Value.slice tad G.length tcap).ownBlock = some k9) := ((fP2.mono (fun k9 q => q.elim .inl (fun z => .inr (.inr z)))).trans (fP3.mono (fun k9 q => .inl q))).trans (f4.mono (fun k9 q => .inr (.inl q)))
                  have f14 : Fr w1 X4 (fun k9 => k9 = Y0 ∨ k9 = Y2 ∨ (Value.slice tad G.length tcap).ownBlock = some k9) := (Fr.ofBelow _ HBL.out).trans f94
                  have HE : Hid (Below B w X4) := Lib.hid ((HB1.out.mono HBB.out).trans (f14.toBelow (fun k9 hk9 q9 => by
                    rcases q9 with q9 | q9 | q9
                    · have := GE.out; have := HBB.out; omega
                    · have := GE.out; have := HBB.out; omega
                    · have := (own_ge HD1.out.row k9 q9).1; omega) (by have := HB1.out.size; have := HBB.out; omega)))
                  have noY : ∀ {e : TypeId} {c9 n9 B9 : Nat} {v : Value} {xs : List Value}, e ≠ 24 → P2.ownsRow B9 e c9 v n9 xs → X4.ownsRow B9 e c9 v n9 xs := fun he q9 => keep_rowB (keep_rowB q9 fP3 (fun k9 hk9 cs9 tg => by
                    rw [hk9, q0] at tg
                    simp only [Option.some.injEq, Obj.cells.injEq] at tg
                    exact he tg.2.1.symm)) f4 (fun k9 hk9 cs9 tg => by
                    rw [hk9, r2] at tg
                    simp only [Option.some.injEq, Obj.cells.injEq] at tg
                    exact he tg.2.1.symm)
                  have HD4 : Hid (Dr X4 B (G ++ [((⟨s.last + 1, d.table, freshC (s.last + 2) d.cols, [], []⟩, .slice la i lc, .slice none 0 0, .slice none 0 0) : Gt)]) (.slice ad (G.length + 1) cap)) := Lib.hid (Dr.push HD1.out (by have := HB1.out.size; have := HBB.out; omega) f14 (fun k9 hk9 => by
                      rcases hk9 with z | z | z
                      · exact .inr (.inr (fun cs e tg => by rw [z, I0.out] at tg; simp only [Option.some.injEq, Obj.cells.injEq] at tg; rw [← tg.2.1]; decide))
                      · exact .inr (.inr (fun cs e tg => by rw [z, I2.out] at tg; simp only [Option.some.injEq, Obj.cells.injEq] at tg; rw [← tg.2.1]; decide))
                      · exact .inr (.inl z)) _ (by have := noY (by decide) t1; simpa using this) (fun k9 hk9 => by
                      rcases t3 k9 hk9 with z | z
                      · exact .inl z
                      · exact .inr (by have := fP1.size; have := HBL.out.size; omega)) (noY (by decide) (own_mono HROWP HUS.out.2)) (World.ownsRow_nil _ _ 70 5) (World.ownsRow_nil _ _ 73 5))
                  have HK4 : Hid (Kp24 w X4) := Lib.hid (fun k9 cs9 hk9 => by
                    have h1 := (HBW9.out.block k9 (blk_lt hk9)).trans hk9
                    exact (f94.block k9 (blk_lt h1) (fun z => by
                      rcases z with z | z | z
                      · have := blk_lt hk9; have := GE.out; omega
                      · have := blk_lt hk9; have := GE.out; omega
                      · obtain ⟨cs2, tg⟩ := own_tag (HD1.out.below HBL.out).row k9 z
                        rw [h1] at tg
                        simp only [Option.some.injEq, Obj.cells.injEq] at tg
                        exact absurd tg.2.1 (by decide))).trans h1)
                  have HP1 := Lib.hid hP1
                  have HP3 := Lib.hid hP3
                  clear e44 j4 f4 f94 f14 noY r0 r2 fP3 hP3 q0 q2 HROWP fP2 t1 t2 t3 HDP pQ p2 p0 fP1 hP1
                  go_upto_region 28 with fail
                  rw [← HP1.out]
                  clear x1 f1 z1 z2 z3 z4 k1 e8
                  go_upto_region 29 with (at_builtin; refine wpl_run2 _ _ rfl (by simp [Act.eval]) (by simp [Act.eval]) hrun ?_)
                  rw [← HP3.out]
                  clear x2 f2 x3 f3 y0 y1 y2 y3 y4 hrun
                  go_wp2_with (first | (refine wpl_load _ rfl (by first | rfl | (simp [Act.eval]; done)) hld ?_) | (refine wpl_store _ _ rfl (by first | rfl | (simp [Act.eval]; done)) (by first | rfl | (simp [Act.eval]; done)) hst ?_))
                  refine bodyPost_ret (results_two rfl rfl rfl (load_var J4.out Try.underlying24 rfl size24)) rfl ?_
                  refine CrAns.ok (s' := ⟨s.ver + 1, s.last + 1 + d.cols.length, s.tabs ++ [⟨s.last + 1, d.table, freshC (s.last + 2) d.cols, [], []⟩]⟩) HR.out ?_ HD4.out HE.out HK4.out (by rw [HN.out.1]; rfl)
                  rw [List.map_append, HG.out]
                  rfl
                · have g1 : (st == 3) = false := by simpa using s3
                  have g2 : (st != 3) = true := by simpa using s3
                  have HS3 := Lib.hid s3
                  clear s3
                  have HR : Hid (createS s d st = .error 1) := Lib.hid (by
                    unfold createS
                    rw [if_neg (by rw [HNB.out, HALL.out]; simp), if_neg (by rw [HAN.out]; simp [HND.out]), if_neg HM.out.1, if_neg (by rw [HKA.out]; simp), if_pos HS3.out])
                  have HBX := Lib.hid (HBW9.out)
                  have i0 : V9.heap[Y0]? = some (.cells #[.int .i64 (s.ver + 1), .int .i64 s.last, .slice tad G.length tcap] 24 (0, 0)) := M0.out
                  have i2 : V9.heap[Y2]? = some (.cells #[.int .i64 0, .int .i64 0, .slice none 0 0] 24 (0, 0)) := M2.out
                  have hld := load_row i0 Try.underlying24 rfl size24
                  obtain ⟨X4, e44, j4, f4⟩ := sets_row i2 (#[.int .i64 (s.ver + 1), .int .i64 s.last, .slice tad G.length tcap]) rfl
                  have hst : (Instr.storeAt 24 (.pointer (some ⟨Y2, 0, none⟩)) (.agg #[.int .i64 (s.ver + 1), .int .i64 s.last, .slice tad G.length tcap])).run Try.prog V9 = .ok () X4 := by
                    rw [e44]
                    exact store_row i2 rfl size24 (by simp [Value.oneCell'])
                  have J4 := Lib.hid j4
                  have HE : Hid (Below w.heap.size w X4) := Lib.hid (HBX.out.trans (f4.toBelow (fun k9 hk9 q9 => by have := GE.out; omega) HBX.out.size))
                  clear e44 j4 f4 i0 i2
                  go_upto_region 26 with fail
                  go_wp2_with (first | (refine wpl_load _ rfl (by first | rfl | (simp [Act.eval]; done)) hld ?_) | (refine wpl_store _ _ rfl (by first | rfl | (simp [Act.eval]; done)) (by first | rfl | (simp [Act.eval]; done)) hst ?_))
                  refine bodyPost_ret (results_two rfl rfl rfl (load_var J4.out Try.underlying24 rfl size24)) rfl ?_
                  exact CrAns.err HR.out (by decide) HBB.out HE.out
end
end Go.Proofs.Ytkfnphhoebknnaa
