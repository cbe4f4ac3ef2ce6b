/- The document's Num, nums, flag, text. -/
import Derived.Test.YtjhgmncmcklnkaaKm
namespace Go.Proofs.Ytjhgmncmcklnkaa
open Go.RowKit

theorem conv_row {w : World} {B : Nat} {v : Value} {l : List UInt8} (h : w.ownsRow B 5 1 v l.length (Lib.byteCells l)) : (convert 130 9 v).run Try.prog w = .ok (.string (txt l)) w := by
  rcases h.2 with ⟨rfl, h0⟩ | ⟨g, cap, cur, rfl, _⟩
  · have : l = [] := List.eq_nil_of_length_eq_zero h0
    subst this
    exact run_convert_bytes_nil (P := Try.prog) w 130 5 Try.underlying130 Try.underlying5 0 0 9 Try.underlying9
  · exact run_convert_bytes_back (P := Try.prog) w 130 9 5 ⟨g, 0, none⟩ cap l Try.underlying130 Try.underlying5 Try.underlying9 (fun j hj => h.cells (g := g) rfl j _ (by simp [Lib.byteCells, hj]))
theorem neg_zig {n : Int} (h : I64 n) (hn : n < 0) : IntKind.u64.wrap (IntKind.u64.wrap (IntKind.u64.wrap (wrap64 (-wrap64 (n + 1))) * 2) + 1) = (zig n : Int) := by
  unfold I64 at h
  have e1 : wrap64 (n + 1) = n + 1 := by unfold wrap64; omega
  have e2 : wrap64 (-(n + 1)) = -(n + 1) := by unfold wrap64; omega
  rw [e1, e2, IntKind.wrap_u64, IntKind.wrap_u64, IntKind.wrap_u64]
  unfold zig
  rw [if_pos hn]
  omega
/-- One byte more in a row. -/
theorem row_push {w : World} {B : Nat} {v : Value} {l : List UInt8} (h : w.ownsRow B 5 1 v l.length (Lib.byteCells l)) (hB : B ≤ w.heap.size) (b : UInt8) (hz : l.length ≤ 1000000) : ∃ v2 w2, (Builtin.append_ #[130, 130] 130 #[v, .slice (some ⟨w.heap.size, 0, none⟩) 1 1]).run Try.prog (w.alloc (.cells #[.int .u8 b.toNat] 5)) = .ok v2 w2 ∧ w2.ownsRow B 5 1 v2 (l ++ [b]).length (Lib.byteCells (l ++ [b])) ∧ Below B w w2 := by
  obtain ⟨i0, hi, hz0, hz1, hz2⟩ := info_parts infoByte
  have hb : Below w.heap.size w (w.alloc (.cells #[.int .u8 b.toNat] 5)) := Below.alloc (Below.refl _ _) (Nat.le_refl _) _
  have hrow := own_below h hb
  have hsz : (w.alloc (.cells #[.int .u8 b.toNat] 5)).heap.size = w.heap.size + 1 := by simp
  obtain ⟨v', w', hr, ho', hg, _, hat⟩ := run_append_own_at (P := Try.prog) (w := w.alloc (.cells #[.int .u8 b.toNat] 5)) B 130 130 5 i0 _ 1 1 Try.underlying130 hi hz0 hz1 hz2 rfl (by decide) v _ _ hrow ⟨w.heap.size, 0, none⟩ 1 1 [.int .u8 b.toNat] rfl (news_one w _ 5) (by intro u hu; simp at hu; subst hu; rfl) (by unfold maxLen; omega) (by omega) (by omega)
  refine ⟨v', w', hr, ?_, (hb.mono hB).grown hg (by rw [hsz]; omega) (fun k hk => (hrow.lt k hk).1)⟩
  rw [byteCells_append, List.length_append]
  simpa [Lib.byteCells] using ho'
theorem div_wrap {y z : Nat} (h : U64 z) (hy : y ≤ z) : IntKind.u64.wrap ((y : Int) / 128) = (y : Int) / 128 := by
  unfold U64 at h
  rw [IntKind.wrap_u64]
  omega
theorem byte_more (y : Nat) : (y : Int) % 128 + 128 = ((UInt8.ofNat (y % 128 + 128)).toNat : Int) := by
  rw [toNat_of (by omega)]
  omega
set_option maxHeartbeats 2000000 in
set_option maxRecDepth 100000 in
theorem num_ref (n : Int) (w : World) (h : I64 n) : Calls Try.prog 38 #[.int .i64 n] w fun e w' => e = .returned (.string (txt (num n))) ∧ Below w.heap.size w w' := by
  have HW := Lib.hid (Wg.start (zig_lt h))
  have HZ : Hid (U64 (zig n)) := zig_lt h
  have HN : Hid (num n = grp (zig n)) := rfl
  have hpos : ¬ n < 0 → IntKind.u64.wrap (IntKind.u64.wrap n * 2) = (zig n : Int) := fun q => fold_pos h (by omega)
  have hneg : n < 0 → IntKind.u64.wrap (IntKind.u64.wrap (IntKind.u64.wrap (wrap64 (-wrap64 (n + 1))) * 2) + 1) = (zig n : Int) := fun q => neg_zig h q
  clear h
  obtain ⟨z, hz⟩ : ∃ z, zig n = z := ⟨_, rfl⟩
  rw [hz] at HW HN HZ hpos hneg
  clear hz
  by_cases hn : n < 0
  · have h2 := hneg hn
    clear hneg hpos
    go_enter Try.func38, Try.ntmps38
    go_wp2
    go_loopw [3, 4] (fun zv ov wr => ∃ k y d, Hid (Wg z d k y ∧ y ≤ z) ∧ zv = .int .u64 y ∧ wr.ownsRow w.heap.size 5 1 ov d.length (Lib.byteCells d) ∧ Below w.heap.size w wr) (fun zv _ _ => (intOf zv).toNat)
    case atStart => exact ⟨10, z, [], Lib.hid ⟨HW.out, Nat.le_refl _⟩, rfl, World.ownsRow_nil _ _ _ _, Below.refl _ _⟩
    case round =>
      obtain ⟨k, y, d, HG, rfl, hrow, hb⟩ := hrel
      have hdl : d.length ≤ 10 := by
        have h1 := congrArg List.length HG.out.1.eq
        have h2 := grp_len z
        rw [List.length_append] at h1
        omega
      by_cases hy : 128 ≤ y
      · have e1 := byte_more y
        have hdv := div_wrap HZ.out HG.out.2
        obtain ⟨b, hbb⟩ : ∃ b, UInt8.ofNat (y % 128 + 128) = b := ⟨_, rfl⟩
        rw [hbb] at e1
        have hbl := b.toNat_lt
        obtain ⟨v2, w2, hrun, q1, q2⟩ := row_push hrow hb.size b (by omega)
        obtain ⟨adv, cpv, rfl⟩ := own_shape hrow
        obtain ⟨ad2, cap2, rfl⟩ := own_shape q1
        obtain ⟨D2, hD2⟩ : ∃ D2, (d ++ [b]).length = D2 := ⟨_, rfl⟩
        rw [hD2] at hrun q1
        have HD := Lib.hid hD2
        have HB := Lib.hid hbb
        have H1 := Lib.hid q1
        have H2 := Lib.hid q2
        have HBb := Lib.hid hb
        clear hD2
        clear hbb q1 q2 hb hrow hdl
        go_wp2_with (at_builtin; refine wpl_run _ _ rfl (by simp [Act.eval]) (by simp [Act.eval]) hrun ?_)
        go_roundw
        case rel =>
          obtain ⟨k', hk'⟩ := HG.out.1.next hy
          rw [HB.out] at hk'
          refine ⟨k', y / 128, _, Lib.hid ⟨hk', Nat.le_trans (Nat.div_le_self _ _) HG.out.2⟩, by go_num, ?_, HBb.out.trans H2.out⟩
          rw [HD.out]
          exact H1.out
        case measure => simp [intOf]; omega
      · have e1 := or_last y (by omega)
        have hlast := HG.out.1.last (by omega : y < 128)
        obtain ⟨b, hbb⟩ : ∃ b, UInt8.ofNat y = b := ⟨_, rfl⟩
        rw [hbb] at e1 hlast
        obtain ⟨v2, w2, hrun, q1, q2⟩ := row_push hrow hb.size b (by omega)
        have hcv := conv_row q1
        obtain ⟨adv, cpv, rfl⟩ := own_shape hrow
        obtain ⟨ad2, cap2, rfl⟩ := own_shape q1
        obtain ⟨D2, hD2⟩ : ∃ D2, (d ++ [b]).length = D2 := ⟨_, rfl⟩
        have H2 := Lib.hid q2
        have HBb := Lib.hid hb
        have HL := Lib.hid hlast
        rw [← e1] at hrun
        rw [hD2] at hrun hcv
        clear hD2
        have hy1 : y < 128 := by omega
        have hy2 : (y : Int) % 256 = y := by omega
        clear hbb q1 q2 hb hrow hdl e1 hlast
        go_wp2_with (at_builtin; refine wpl_run _ _ rfl (by simp [Act.eval]) (by simp [Act.eval]) hrun ?_)
        go_ret
        refine ⟨?_, HBb.out.trans H2.out⟩
        rw [HN.out, HL.out]
        rfl
  · have h2 := hpos hn
    clear hneg hpos
    go_enter Try.func38, Try.ntmps38
    go_wp2
    go_loopw [3, 4] (fun zv ov wr => ∃ k y d, Hid (Wg z d k y ∧ y ≤ z) ∧ zv = .int .u64 y ∧ wr.ownsRow w.heap.size 5 1 ov d.length (Lib.byteCells d) ∧ Below w.heap.size w wr) (fun zv _ _ => (intOf zv).toNat)
    case atStart => exact ⟨10, z, [], Lib.hid ⟨HW.out, Nat.le_refl _⟩, rfl, World.ownsRow_nil _ _ _ _, Below.refl _ _⟩
    case round =>
      obtain ⟨k, y, d, HG, rfl, hrow, hb⟩ := hrel
      have hdl : d.length ≤ 10 := by
        have h1 := congrArg List.length HG.out.1.eq
        have h2 := grp_len z
        rw [List.length_append] at h1
        omega
      by_cases hy : 128 ≤ y
      · have e1 := byte_more y
        have hdv := div_wrap HZ.out HG.out.2
        obtain ⟨b, hbb⟩ : ∃ b, UInt8.ofNat (y % 128 + 128) = b := ⟨_, rfl⟩
        rw [hbb] at e1
        have hbl := b.toNat_lt
        obtain ⟨v2, w2, hrun, q1, q2⟩ := row_push hrow hb.size b (by omega)
        obtain ⟨adv, cpv, rfl⟩ := own_shape hrow
        obtain ⟨ad2, cap2, rfl⟩ := own_shape q1
        obtain ⟨D2, hD2⟩ : ∃ D2, (d ++ [b]).length = D2 := ⟨_, rfl⟩
        rw [hD2] at hrun q1
        have HD := Lib.hid hD2
        have HB := Lib.hid hbb
        have H1 := Lib.hid q1
        have H2 := Lib.hid q2
        have HBb := Lib.hid hb
        clear hD2
        clear hbb q1 q2 hb hrow hdl
        go_wp2_with (at_builtin; refine wpl_run _ _ rfl (by simp [Act.eval]) (by simp [Act.eval]) hrun ?_)
        go_roundw
        case rel =>
          obtain ⟨k', hk'⟩ := HG.out.1.next hy
          rw [HB.out] at hk'
          refine ⟨k', y / 128, _, Lib.hid ⟨hk', Nat.le_trans (Nat.div_le_self _ _) HG.out.2⟩, by go_num, ?_, HBb.out.trans H2.out⟩
          rw [HD.out]
          exact H1.out
        case measure => simp [intOf]; omega
      · have e1 := or_last y (by omega)
        have hlast := HG.out.1.last (by omega : y < 128)
        obtain ⟨b, hbb⟩ : ∃ b, UInt8.ofNat y = b := ⟨_, rfl⟩
        rw [hbb] at e1 hlast
        obtain ⟨v2, w2, hrun, q1, q2⟩ := row_push hrow hb.size b (by omega)
        have hcv := conv_row q1
        obtain ⟨adv, cpv, rfl⟩ := own_shape hrow
        obtain ⟨ad2, cap2, rfl⟩ := own_shape q1
        obtain ⟨D2, hD2⟩ : ∃ D2, (d ++ [b]).length = D2 := ⟨_, rfl⟩
        have H2 := Lib.hid q2
        have HBb := Lib.hid hb
        have HL := Lib.hid hlast
        rw [← e1] at hrun
        rw [hD2] at hrun hcv
        clear hD2
        have hy1 : y < 128 := by omega
        have hy2 : (y : Int) % 256 = y := by omega
        clear hbb q1 q2 hb hrow hdl e1 hlast
        go_wp2_with (at_builtin; refine wpl_run _ _ rfl (by simp [Act.eval]) (by simp [Act.eval]) hrun ?_)
        go_ret
        refine ⟨?_, HBb.out.trans H2.out⟩
        rw [HN.out, HL.out]
        rfl
end Go.Proofs.Ytjhgmncmcklnkaa
