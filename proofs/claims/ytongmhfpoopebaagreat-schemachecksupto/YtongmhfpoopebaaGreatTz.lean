import Derived.Test.YtongmhfpoopebaaGreatBl
import Derived.Lib.ConvBytes
import Derived.Carry
import Derived.ProofKit
import Derived.SizedLaws
import Derived.OpenShut
import Derived.Deep.Slices
import Derived.Lib.SmallJoins
import Derived.Test.YtongmhfpoopebaaGreatRows
/- The document's Num, nums, flag, text. -/
namespace Go.Proofs.YtongmhfpoopebaaGreat
open Go.RowKit
theorem infoByte : (Tryz.prog.info? 5).map (fun i => (i.zero, i.size, i.bytes)) = some (some (.int .u8 0), 1, 1) := by kernel_rfl
def zig (n : Int) : Nat := if n < 0 then (-2 * n - 1).toNat else (2 * n).toNat
theorem zig_lt {n : Int} (h : I64 n) : zig n < 18446744073709551616 := by
  unfold I64 at h
  unfold zig
  split <;> omega
/-- At most k groups. -/
def grpN : Nat → Nat → List UInt8
  | 0, _ => []
  | k + 1, z => if z < 128 then [UInt8.ofNat z] else UInt8.ofNat (z % 128 + 128) :: grpN k (z / 128)
def grp (z : Nat) : List UInt8 := grpN 10 z
theorem grpN_len : ∀ (k z : Nat), (grpN k z).length ≤ k
  | 0, _ => Nat.le_refl _
  | k + 1, z => by
    unfold grpN
    split
    · simp
    · have := grpN_len k (z / 128)
      simp only [List.length_cons]
      omega
theorem grp_len (z : Nat) : (grp z).length ≤ 10 := grpN_len 10 z
theorem toNat_of {z : Nat} (h : z < 256) : (UInt8.ofNat z).toNat = z := by
  rw [UInt8.toNat_ofNat']
  exact Nat.mod_eq_of_lt h
/-- Groups, where there is room for all. -/
theorem grpN_step (k z : Nat) (h : 128 ≤ z) : grpN (k + 1) z = UInt8.ofNat (z % 128 + 128) :: grpN k (z / 128) := by
  show (if z < 128 then _ else _) = _
  rw [if_neg (by omega)]
theorem grpN_last (k z : Nat) (h : z < 128) : grpN (k + 1) z = [UInt8.ofNat z] := by
  show (if z < 128 then _ else _) = _
  rw [if_pos h]
/-- A number's bytes. -/
def num (n : Int) : List UInt8 := grp (zig n)
theorem num_len (n : Int) : (num n).length ≤ 10 := grp_len _
theorem ba_ext {s t : ByteArray} (h : s.data.toList = t.data.toList) : s = t := by
  cases s
  cases t
  simp only [Array.toList_inj] at h
  rw [h]
def txt (l : List UInt8) : ByteArray := ⟨l.toArray⟩
theorem txt_of (s : ByteArray) : txt s.data.toList = s := by cases s; rfl
theorem txt_size (l : List UInt8) : (txt l).size = l.length := rfl
theorem fold_pos {n : Int} (h : I64 n) (hn : 0 ≤ n) : IntKind.u64.wrap (IntKind.u64.wrap n * 2) = (zig n : Int) := by
  unfold I64 at h
  rw [IntKind.wrap_u64, IntKind.wrap_u64]
  unfold zig
  rw [if_neg (by omega)]
  omega
/-- A number of 64 bits without a sign. -/
def U64 (z : Nat) : Prop := z < 18446744073709551616
theorem byteCells_append (a b : List UInt8) : Lib.byteCells (a ++ b) = Lib.byteCells a ++ Lib.byteCells b := by simp [Lib.byteCells]
theorem news_one (w : World) (c : Value) (t : TypeId) : ∀ j u, [c][j]? = some u → (w.alloc (.cells #[c] t)).cell? ((⟨w.heap.size, 0, none⟩ : Addr).add j) = some u := by
  intro j u hj
  match j, hj with
  | 0, hj => simp at hj; subst hj; simp [Addr.add]
/-- What is done, and left, of a number's groups. -/
structure Wg (z : Nat) (d : List UInt8) (k y : Nat) : Prop where
  one : 1 ≤ k
  lt : y < 128 ^ k
  eq : grp z = d ++ grpN k y
theorem Wg.start {z : Nat} (h : U64 z) : Wg z [] 10 z := ⟨by omega, by unfold U64 at h; omega, rfl⟩
theorem Wg.next {z k y : Nat} {d : List UInt8} (h : Wg z d k y) (hy : 128 ≤ y) : ∃ k', Wg z (d ++ [UInt8.ofNat (y % 128 + 128)]) k' (y / 128) := by
  obtain ⟨j, rfl⟩ : ∃ j, k = j + 1 := ⟨k - 1, by have := h.one; omega⟩
  have hl := h.lt
  refine ⟨j, ?_, ?_, ?_⟩
  · rcases Nat.eq_zero_or_pos j with rfl | q
    · simp at hl; omega
    · exact q
  · rw [Nat.pow_succ] at hl
    exact Nat.div_lt_of_lt_mul (by rw [Nat.mul_comm]; exact hl)
  · rw [h.eq, grpN_step j y hy, List.append_assoc]
    rfl
theorem Wg.last {z k y : Nat} {d : List UInt8} (h : Wg z d k y) (hy : y < 128) : grp z = d ++ [UInt8.ofNat y] := by
  obtain ⟨j, rfl⟩ : ∃ j, k = j + 1 := ⟨k - 1, by have := h.one; omega⟩
  rw [h.eq, grpN_last j y hy]
theorem or_last (y : Nat) (h : y < 128) : (y : Int) = ((UInt8.ofNat y).toNat : Int) := by rw [toNat_of (by omega)]
theorem conv_row {w : World} {B : Nat} {v : Value} {l : List UInt8} (h : w.ownsRow B 5 1 v l.length (Lib.byteCells l)) : (convert 128 9 v).run Tryz.prog w = .ok (.string (txt l)) w := by
  rcases h.2 with ⟨rfl, h0⟩ | ⟨g, cap, cur, rfl, _⟩
  · have : l = [] := List.eq_nil_of_length_eq_zero h0
    subst this
    exact run_convert_bytes_nil (P := Tryz.prog) w 128 5 Tryz.underlying128 Tryz.underlying5 0 0 9 Tryz.underlying9
  · exact run_convert_bytes_back (P := Tryz.prog) w 128 9 5 ⟨g, 0, none⟩ cap l Tryz.underlying128 Tryz.underlying5 Tryz.underlying9 (fun j hj => h.cells (g := g) rfl j _ (by simp [Lib.byteCells, hj]))
theorem neg_zig {n : Int} (h : I64 n) (hn : n < 0) : IntKind.u64.wrap (IntKind.u64.wrap (IntKind.u64.wrap (wrap64 (-wrap64 (n + 1))) * 2) + 1) = (zig n : Int) := by
  unfold I64 at h
  have e1 : wrap64 (n + 1) = n + 1 := by unfold wrap64; omega
  have e2 : wrap64 (-(n + 1)) = -(n + 1) := by unfold wrap64; omega
  rw [e1, e2, IntKind.wrap_u64, IntKind.wrap_u64, IntKind.wrap_u64]
  unfold zig
  rw [if_pos hn]
  omega
/-- One byte more in a row. -/
theorem row_push {w : World} {B : Nat} {v : Value} {l : List UInt8} (h : w.ownsRow B 5 1 v l.length (Lib.byteCells l)) (hB : B ≤ w.heap.size) (b : UInt8) (hz : l.length ≤ 1000000) : ∃ v2 w2, (Builtin.append_ #[128, 128] 128 #[v, .slice (some ⟨w.heap.size, 0, none⟩) 1 1]).run Tryz.prog (w.alloc (.cells #[.int .u8 b.toNat] 5)) = .ok v2 w2 ∧ w2.ownsRow B 5 1 v2 (l ++ [b]).length (Lib.byteCells (l ++ [b])) ∧ Below B w w2 := by
  obtain ⟨i0, hi, hz0, hz1, hz2⟩ := info_parts infoByte
  have hb : Below w.heap.size w (w.alloc (.cells #[.int .u8 b.toNat] 5)) := Below.alloc (Below.refl _ _) (Nat.le_refl _) _
  have hrow := own_below h hb
  have hsz : (w.alloc (.cells #[.int .u8 b.toNat] 5)).heap.size = w.heap.size + 1 := by simp
  obtain ⟨v', w', hr, ho', hg, _, hat⟩ := run_append_own_at (P := Tryz.prog) (w := w.alloc (.cells #[.int .u8 b.toNat] 5)) B 128 128 5 i0 _ 1 1 Tryz.underlying128 hi hz0 hz1 hz2 rfl (by decide) v _ _ hrow ⟨w.heap.size, 0, none⟩ 1 1 [.int .u8 b.toNat] rfl (news_one w _ 5) (by intro u hu; simp at hu; subst hu; rfl) (by unfold maxLen; omega) (by omega) (by omega)
  refine ⟨v', w', hr, ?_, (hb.mono hB).grown hg (by rw [hsz]; omega) (fun k hk => (hrow.lt k hk).1)⟩
  rw [byteCells_append, List.length_append]
  simpa [Lib.byteCells] using ho'
theorem div_wrap {y z : Nat} (h : U64 z) (hy : y ≤ z) : IntKind.u64.wrap ((y : Int) / 128) = (y : Int) / 128 := by
  unfold U64 at h
  rw [IntKind.wrap_u64]
  omega
theorem byte_more (y : Nat) : (y : Int) % 128 + 128 = ((UInt8.ofNat (y % 128 + 128)).toNat : Int) := by
  rw [toNat_of (by omega)]
  omega
set_option maxHeartbeats 2000000 in
set_option maxRecDepth 100000 in
theorem num_ref (n : Int) (w : World) (h : I64 n) : Calls Tryz.prog 48 #[.int .i64 n] w fun e w' => e = .returned (.string (txt (num n))) ∧ Below w.heap.size w w' := by
  have HW := Lib.hid (Wg.start (zig_lt h))
  have HZ : Hid (U64 (zig n)) := zig_lt h
  have HN : Hid (num n = grp (zig n)) := rfl
  have hpos : ¬ n < 0 → IntKind.u64.wrap (IntKind.u64.wrap n * 2) = (zig n : Int) := fun q => fold_pos h (by omega)
  have hneg : n < 0 → IntKind.u64.wrap (IntKind.u64.wrap (IntKind.u64.wrap (wrap64 (-wrap64 (n + 1))) * 2) + 1) = (zig n : Int) := fun q => neg_zig h q
  clear h
  obtain ⟨z, hz⟩ : ∃ z, zig n = z := ⟨_, rfl⟩
  rw [hz] at HW HN HZ hpos hneg
  clear hz
  by_cases hn : n < 0
  · have h2 := hneg hn
    clear hneg hpos
    go_enter Tryz.func48, Tryz.ntmps48
    go_wp2
    go_loopw [3, 4] (fun zv ov wr => ∃ k y d, Hid (Wg z d k y ∧ y ≤ z) ∧ zv = .int .u64 y ∧ wr.ownsRow w.heap.size 5 1 ov d.length (Lib.byteCells d) ∧ Below w.heap.size w wr) (fun zv _ _ => (intOf zv).toNat)
    case atStart => exact ⟨10, z, [], Lib.hid ⟨HW.out, Nat.le_refl _⟩, rfl, World.ownsRow_nil _ _ _ _, Below.refl _ _⟩
    case round =>
      obtain ⟨k, y, d, HG, rfl, hrow, hb⟩ := hrel
      have hdl : d.length ≤ 10 := by
        have h1 := congrArg List.length HG.out.1.eq
        have h2 := grp_len z
        rw [List.length_append] at h1
        omega
      by_cases hy : 128 ≤ y
      · have e1 := byte_more y
        have hdv := div_wrap HZ.out HG.out.2
        obtain ⟨b, hbb⟩ : ∃ b, UInt8.ofNat (y % 128 + 128) = b := ⟨_, rfl⟩
        rw [hbb] at e1
        have hbl := b.toNat_lt
        obtain ⟨v2, w2, hrun, q1, q2⟩ := row_push hrow hb.size b (by omega)
        obtain ⟨adv, cpv, rfl⟩ := own_shape hrow
        obtain ⟨ad2, cap2, rfl⟩ := own_shape q1
        obtain ⟨D2, hD2⟩ : ∃ D2, (d ++ [b]).length = D2 := ⟨_, rfl⟩
        rw [hD2] at hrun q1
        have HD := Lib.hid hD2
        have HB := Lib.hid hbb
        have H1 := Lib.hid q1
        have H2 := Lib.hid q2
        have HBb := Lib.hid hb
        clear hD2
        clear hbb q1 q2 hb hrow hdl
        go_wp2_with (at_builtin; refine wpl_run2 _ _ rfl (by simp [Act.eval]) (by simp [Act.eval]) hrun ?_)
        go_roundw
        case rel =>
          obtain ⟨k', hk'⟩ := HG.out.1.next hy
          rw [HB.out] at hk'
          refine ⟨k', y / 128, _, Lib.hid ⟨hk', Nat.le_trans (Nat.div_le_self _ _) HG.out.2⟩, by go_num, ?_, HBb.out.trans H2.out⟩
          rw [HD.out]
          exact H1.out
        case measure => simp [intOf]; omega
      · have e1 := or_last y (by omega)
        have hlast := HG.out.1.last (by omega : y < 128)
        obtain ⟨b, hbb⟩ : ∃ b, UInt8.ofNat y = b := ⟨_, rfl⟩
        rw [hbb] at e1 hlast
        obtain ⟨v2, w2, hrun, q1, q2⟩ := row_push hrow hb.size b (by omega)
        have hcv := conv_row q1
        obtain ⟨adv, cpv, rfl⟩ := own_shape hrow
        obtain ⟨ad2, cap2, rfl⟩ := own_shape q1
        obtain ⟨D2, hD2⟩ : ∃ D2, (d ++ [b]).length = D2 := ⟨_, rfl⟩
        have H2 := Lib.hid q2
        have HBb := Lib.hid hb
        have HL := Lib.hid hlast
        rw [← e1] at hrun
        rw [hD2] at hrun hcv
        clear hD2
        have hy1 : y < 128 := by omega
        have hy2 : (y : Int) % 256 = y := by omega
        clear hbb q1 q2 hb hrow hdl e1 hlast
        go_wp2_with (at_builtin; refine wpl_run2 _ _ rfl (by simp [Act.eval]) (by simp [Act.eval]) hrun ?_)
        go_ret
        refine ⟨?_, HBb.out.trans H2.out⟩
        rw [HN.out, HL.out]
        rfl
  · have h2 := hpos hn
    clear hneg hpos
    go_enter Tryz.func48, Tryz.ntmps48
    go_wp2
    go_loopw [3, 4] (fun zv ov wr => ∃ k y d, Hid (Wg z d k y ∧ y ≤ z) ∧ zv = .int .u64 y ∧ wr.ownsRow w.heap.size 5 1 ov d.length (Lib.byteCells d) ∧ Below w.heap.size w wr) (fun zv _ _ => (intOf zv).toNat)
    case atStart => exact ⟨10, z, [], Lib.hid ⟨HW.out, Nat.le_refl _⟩, rfl, World.ownsRow_nil _ _ _ _, Below.refl _ _⟩
    case round =>
      obtain ⟨k, y, d, HG, rfl, hrow, hb⟩ := hrel
      have hdl : d.length ≤ 10 := by
        have h1 := congrArg List.length HG.out.1.eq
        have h2 := grp_len z
        rw [List.length_append] at h1
        omega
      by_cases hy : 128 ≤ y
      · have e1 := byte_more y
        have hdv := div_wrap HZ.out HG.out.2
        obtain ⟨b, hbb⟩ : ∃ b, UInt8.ofNat (y % 128 + 128) = b := ⟨_, rfl⟩
        rw [hbb] at e1
        have hbl := b.toNat_lt
        obtain ⟨v2, w2, hrun, q1, q2⟩ := row_push hrow hb.size b (by omega)
        obtain ⟨adv, cpv, rfl⟩ := own_shape hrow
        obtain ⟨ad2, cap2, rfl⟩ := own_shape q1
        obtain ⟨D2, hD2⟩ : ∃ D2, (d ++ [b]).length = D2 := ⟨_, rfl⟩
        rw [hD2] at hrun q1
        have HD := Lib.hid hD2
        have HB := Lib.hid hbb
        have H1 := Lib.hid q1
        have H2 := Lib.hid q2
        have HBb := Lib.hid hb
        clear hD2
        clear hbb q1 q2 hb hrow hdl
        go_wp2_with (at_builtin; refine wpl_run2 _ _ rfl (by simp [Act.eval]) (by simp [Act.eval]) hrun ?_)
        go_roundw
        case rel =>
          obtain ⟨k', hk'⟩ := HG.out.1.next hy
          rw [HB.out] at hk'
          refine ⟨k', y / 128, _, Lib.hid ⟨hk', Nat.le_trans (Nat.div_le_self _ _) HG.out.2⟩, by go_num, ?_, HBb.out.trans H2.out⟩
          rw [HD.out]
          exact H1.out
        case measure => simp [intOf]; omega
      · have e1 := or_last y (by omega)
        have hlast := HG.out.1.last (by omega : y < 128)
        obtain ⟨b, hbb⟩ : ∃ b, UInt8.ofNat y = b := ⟨_, rfl⟩
        rw [hbb] at e1 hlast
        obtain ⟨v2, w2, hrun, q1, q2⟩ := row_push hrow hb.size b (by omega)
        have hcv := conv_row q1
        obtain ⟨adv, cpv, rfl⟩ := own_shape hrow
        obtain ⟨ad2, cap2, rfl⟩ := own_shape q1
        obtain ⟨D2, hD2⟩ : ∃ D2, (d ++ [b]).length = D2 := ⟨_, rfl⟩
        have H2 := Lib.hid q2
        have HBb := Lib.hid hb
        have HL := Lib.hid hlast
        rw [← e1] at hrun
        rw [hD2] at hrun hcv
        clear hD2
        have hy1 : y < 128 := by omega
        have hy2 : (y : Int) % 256 = y := by omega
        clear hbb q1 q2 hb hrow hdl e1 hlast
        go_wp2_with (at_builtin; refine wpl_run2 _ _ rfl (by simp [Act.eval]) (by simp [Act.eval]) hrun ?_)
        go_ret
        refine ⟨?_, HBb.out.trans H2.out⟩
        rw [HN.out, HL.out]
        rfl
def flagL (b : Bool) : List UInt8 := num (if b then 1 else 0)
def textL (s : ByteArray) : List UInt8 := num (s.size : Int) ++ s.data.toList
theorem txt_append (a b : List UInt8) : txt a ++ txt b = txt (a ++ b) := by
  apply ba_ext
  simp [txt]
theorem sum_ok {a b : ByteArray} (ha : a.size ≤ 4000000000) (hb : b.size ≤ 4000000000) : ¬ 9223372036854775807 < a.size + b.size := by omega
theorem numsL_len (ns : List Int) : (ns.flatMap num).length ≤ ns.length * 10 := by
  induction ns with
  | nil => simp
  | cons n r ih =>
    have := num_len n
    simp only [List.flatMap_cons, List.length_append, List.length_cons]
    omega
def numsL (ns : List Int) : List UInt8 := ns.flatMap num
theorem numsL_take (ns : List Int) (i : Nat) (h : i < ns.length) : numsL (ns.take (i + 1)) = numsL (ns.take i) ++ num ns[i] := by
  unfold numsL
  rw [List.take_succ_eq_append_getElem h, List.flatMap_append]
  simp only [List.flatMap_cons, List.flatMap_nil, List.append_nil]
/-- Numbers in a row of their own. -/
def Ints (w : World) (F : Nat) (ns : List Int) : Prop := ∃ cs ty, w.heap[F]? = some (.cells cs ty (0, 0)) ∧ ∀ i (h : i < ns.length), cs[i]? = some (.int .i64 ns[i])
theorem Ints.on {w w' : World} {F : Nat} {ns : List Int} (h : Ints w F ns) (hb : Below w.heap.size w w') : Ints w' F ns := by
  obtain ⟨cs, ty, h1, h2⟩ := h
  exact ⟨cs, ty, (hb.block F (blk_lt h1)).trans h1, h2⟩
set_option maxHeartbeats 2000000 in
set_option maxRecDepth 100000 in
theorem nums_ref {F : Nat} {ns : List Int} (w : World) (k : Nat) (hk : ns.length = k) (hk2 : k ≤ 100) (h : Ints w F ns) (hi : ∀ n ∈ ns, I64 n) : Calls Tryz.prog 47 #[.slice (some ⟨F, 0, none⟩) k k] w fun e w' => e = .returned (.string (txt (numsL ns))) ∧ Below w.heap.size w w' := by
  have HK := Lib.hid hk
  have HI := Lib.hid hi
  have HX := Lib.hid h
  clear hk hi h
  go_enter Tryz.func47, Tryz.ntmps47
  go_wp2
  go_loopw [3, 4] (fun ov iv wr => ∃ (i : Nat) (str : ByteArray), i ≤ k ∧ iv = .int .i64 i ∧ ov = .string str ∧ Hid (str = txt (numsL (ns.take i))) ∧ Below w.heap.size w wr) (fun _ iv _ => k - (intOf iv).toNat)
  case atStart => exact ⟨0, ⟨#[]⟩, by omega, rfl, rfl, rfl, Below.refl _ _⟩
  case round =>
    obtain ⟨i, str, hik, rfl, rfl, HS, hb⟩ := hrel
    by_cases hlt : i < k
    · have hltn : i < ns.length := by rw [HK.out]; exact hlt
      obtain ⟨cs, ty, h1, h2⟩ := HX.out.on hb
      obtain ⟨n, hn⟩ : ∃ n, ns[i] = n := ⟨_, rfl⟩
      have hin : I64 n := by rw [← hn]; exact HI.out _ (List.getElem_mem hltn)
      have cF : wr.cell? ⟨F, i, none⟩ = some (.int .i64 n) := by rw [cell_blk h1, h2 i hltn, hn]
      have HE : Hid (numsL (ns.take (i + 1)) = numsL (ns.take i) ++ num n) := by
        show _ = _
        rw [numsL_take ns i hltn, hn]
      have hcall := num_ref n wr hin
      have HB := Lib.hid hb
      clear h1 h2 hn hin hltn hb
      obtain ⟨str2, hs2⟩ : ∃ q, txt (num n) = q := ⟨_, rfl⟩
      rw [hs2] at hcall
      have hsum := sum_ok (a := str) (b := str2) (by
        have := numsL_len (ns.take i)
        rw [HS.out, txt_size]
        unfold numsL
        rw [List.length_take] at this
        omega) (by
        have := num_len n
        rw [← hs2, txt_size]
        omega)
      go_wp2_with (go_at_call 48; refine hcall.mono ?_; rintro e w1 ⟨rfl, hb1⟩; refine Hid.out ?_)
      refine Lib.hid ?_
      have HB1 : Hid (Below w.heap.size w w1) := HB.out.trans (hb1.mono HB.out.size)
      clear hb1 hcall
      go_wp2
      go_roundw
      case rel =>
        refine ⟨i + 1, _, by omega, by go_num, rfl, ?_, HB1.out⟩
        show _ = _
        rw [HE.out, HS.out, ← hs2, txt_append]
      case measure => simp [intOf]; omega
    · have hiF : i = k := by omega
      subst hiF
      go_wp2
      go_ret
      refine ⟨?_, hb⟩
      rw [HS.out, ← HK.out, List.take_length]
      rfl
set_option maxHeartbeats 2000000 in
set_option maxRecDepth 100000 in
theorem flag_ref (b : Bool) (w : World) : Calls Tryz.prog 51 #[.bool b] w fun e w' => e = .returned (.string (txt (flagL b))) ∧ Below w.heap.size w w' := by
  have h1 := num_ref 1 w (by unfold I64; omega)
  have h0 := num_ref 0 w (by unfold I64; omega)
  cases b with
  | false =>
    go_enter Tryz.func51, Tryz.ntmps51
    go_wp2_with (go_at_call 48; refine h0.mono ?_; rintro e w1 ⟨rfl, hb1⟩; refine Hid.out ?_)
    refine Lib.hid ?_
    go_wp2
    go_ret
    exact ⟨rfl, hb1⟩
  | true =>
    go_enter Tryz.func51, Tryz.ntmps51
    go_wp2_with (go_at_call 48; refine h1.mono ?_; rintro e w1 ⟨rfl, hb1⟩; refine Hid.out ?_)
    refine Lib.hid ?_
    go_wp2
    go_ret
    exact ⟨rfl, hb1⟩
set_option maxHeartbeats 2000000 in
set_option maxRecDepth 100000 in
theorem text_ref (s : ByteArray) (w : World) (h : s.size ≤ 1000000000) : Calls Tryz.prog 49 #[.string s] w fun e w' => e = .returned (.string (txt (textL s))) ∧ Below w.heap.size w w' := by
  have e0 : s.data.toList.length = s.size := by rw [Array.length_toList]; rfl
  have HE : Hid (textL s = num (s.size : Int) ++ s.data.toList) := by
    show _ = _
    unfold textL
    rfl
  clear e0
  have h1 := num_ref (s.size : Int) w (by unfold I64; omega)
  obtain ⟨str2, hs2⟩ : ∃ q, txt (num (s.size : Int)) = q := ⟨_, rfl⟩
  rw [hs2] at h1
  have hsum := sum_ok (a := str2) (b := s) (by
    have := num_len (s.size : Int)
    rw [← hs2, txt_size]
    omega) (by omega)
  go_enter Tryz.func49, Tryz.ntmps49
  go_wp2_with (go_at_call 48; refine h1.mono ?_; rintro e w1 ⟨rfl, hb1⟩; refine Hid.out ?_)
  refine Lib.hid ?_
  go_wp2
  go_ret
  refine ⟨?_, hb1⟩
  rw [HE.out, ← txt_append, hs2, txt_of]
  rfl
end Go.Proofs.YtongmhfpoopebaaGreat

/- The document's text of a value, of columns. -/
namespace Go.Proofs.YtongmhfpoopebaaGreat
open Go.RowKit
section
variable {ρ : Operand → Value} {X : World} {d : Option Tmp} {ty : TypeId} {ps : String} {af : Array Edge} {g : Option (Nat × Bool)}
theorem op_cat {x y : Operand} {a b : ByteArray} (e : ρ x = .string a) (e2 : ρ y = .string b) (h : ¬ 9223372036854775807 < a.size + b.size) : (execOp ρ ⟨d, .binOp .add 9 x y 9, ty, ps, af, g⟩).run Tryz.prog X = .ok (.value (.string (a ++ b))) X := by
  simp only [execOp, e, e2]
  go_simp
theorem op_ints2 {x y : Operand} {a b : Int} (e : ρ x = .int .i64 a) (e2 : ρ y = .int .i64 b) : (execOp ρ ⟨d, .buildSlice 65 2 #[(0, x), (1, y)], ty, ps, af, g⟩).run Tryz.prog X = .ok (.value (.slice (some ⟨X.heap.size, 0, none⟩) 2 2)) (X.alloc (.cells #[.int .i64 a, .int .i64 b] 3)) := by
  simp only [execOp]
  simp [e, e2]
  go_simp
theorem op_ints3 {x y z : Operand} {a b c : Int} (e : ρ x = .int .i64 a) (e2 : ρ y = .int .i64 b) (e3 : ρ z = .int .i64 c) : (execOp ρ ⟨d, .buildSlice 65 3 #[(0, x), (1, y), (2, z)], ty, ps, af, g⟩).run Tryz.prog X = .ok (.value (.slice (some ⟨X.heap.size, 0, none⟩) 3 3)) (X.alloc (.cells #[.int .i64 a, .int .i64 b, .int .i64 c] 3)) := by
  simp only [execOp]
  simp [e, e2, e3]
  go_simp
end
/-! ### Plain -/
structure VlIn (v : Vl) : Prop where
  k : I64 v.k
  n : I64 v.n
structure ColIn (c : Col) : Prop where
  id : I64 c.id
  kd : I64 c.kd
  st : I64 c.st
  df : VlIn c.df
structure IxIn (c : Ix) : Prop where
  id : I64 c.id
  col : I64 c.col
  st : I64 c.st
structure FkIn (c : Fk) : Prop where
  id : I64 c.id
  col : I64 c.col
  par : I64 c.par
  st : I64 c.st
structure TbIn (t : Tb) : Prop where
  id : I64 t.id
  c : ∀ x ∈ t.cols, ColIn x
  i : ∀ x ∈ t.ixs, IxIn x
  k : ∀ x ∈ t.fks, FkIn x
structure ScIn (s : Sc) : Prop where
  ver : I64 s.ver
  last : I64 s.last
  t : ∀ x ∈ s.tabs, TbIn x
def valL (v : Vl) : List UInt8 := num v.k ++ num v.n ++ textL v.s
def col1L (c : Col) : List UInt8 := num c.id ++ textL c.nm ++ numsL [c.kd, c.st] ++ valL c.df
def colsL (L : List Col) : List UInt8 := num (L.length : Int) ++ L.flatMap col1L
def ix1L (x : Ix) : List UInt8 := num x.id ++ textL x.nm ++ num x.col ++ flagL x.uq ++ num x.st
def fk1L (x : Fk) : List UInt8 := num x.id ++ textL x.nm ++ numsL [x.col, x.par, x.st]
def tabIL (t : Tb) : List UInt8 := num t.id ++ textL t.nm ++ colsL t.cols ++ num (t.ixs.length : Int) ++ t.ixs.flatMap ix1L
def tab1L (t : Tb) : List UInt8 := tabIL t ++ num (t.fks.length : Int) ++ t.fks.flatMap fk1L
def schL (s : Sc) : List UInt8 := numsL [s.ver, s.last] ++ num (s.tabs.length : Int) ++ s.tabs.flatMap tab1L
theorem fm_next {α : Type} (f : α → List UInt8) {L : List α} {i : Nat} (h : i < L.length) : (L.take (i + 1)).flatMap f = (L.take i).flatMap f ++ f L[i] := by
  rw [List.take_succ_eq_append_getElem h, List.flatMap_append]
  simp only [List.flatMap_cons, List.flatMap_nil, List.append_nil]
theorem fmy_take {α : Type} (f : α → List UInt8) (L : List α) (i : Nat) : ((L.take i).flatMap f).length ≤ (L.flatMap f).length := by
  have h := congrArg (fun l => (l.flatMap f).length) (List.take_append_drop i L)
  simp only [List.flatMap_append, List.length_append] at h
  omega
theorem fm_mem {α : Type} (f : α → List UInt8) {L : List α} {x : α} (h : x ∈ L) : (f x).length ≤ (L.flatMap f).length := by
  obtain ⟨i, hi, rfl⟩ := List.getElem_of_mem h
  have h1 := fmy_take f L (i + 1)
  rw [fm_next f hi, List.length_append] at h1
  omega
theorem textL_len (s : ByteArray) : s.size ≤ (textL s).length ∧ (textL s).length ≤ 10 + s.size := by
  unfold textL
  have := num_len (s.size : Int)
  have e0 : s.data.toList.length = s.size := by rw [Array.length_toList]; rfl
  rw [List.length_append, e0]
  omega
theorem flagL_len (b : Bool) : (flagL b).length ≤ 10 := num_len _
/-- What is written so far, in a loop. -/
def TJ {α : Type} (w : World) (pre : List UInt8) (f : α → List UInt8) (L : List α) (wr : World) (ov iv : Value) : Prop := ∃ i : Nat, i ≤ L.length ∧ iv = .int .i64 (i : Int) ∧ ov = .string (txt (pre ++ (L.take i).flatMap f)) ∧ Below w.heap.size w wr
section
variable {w : World}
set_option maxHeartbeats 4000000 in
set_option maxRecDepth 100000 in
theorem value_ref (v : Vl) (w : World) (hI : VlIn v) (hz : (valL v).length ≤ 1000000000) : Calls Tryz.prog 88 #[vlV v] w fun e w' => e = .returned (.string (txt (valL v))) ∧ Below w.heap.size w w' := by
  obtain ⟨V, hV⟩ : ∃ V, V = w.alloc (.cells #[.int .i64 v.k, .int .i64 v.n, .string v.s] 28) := ⟨_, rfl⟩
  have hb : Below w.heap.size w V := by rw [hV]; exact bnew _ _
  obtain ⟨Y, hY⟩ : ∃ Y, w.heap.size = Y := ⟨_, rfl⟩
  have jY : V.heap[Y]? = some (.cells #[.int .i64 v.k, .int .i64 v.n, .string v.s] 28 (0, 0)) := by rw [hV, ← hY]; exact heap_alloc_new w _
  have c0 : V.cell? ⟨Y, 0, none⟩ = some (.int .i64 v.k) := cell_blk jY 0
  have c1 : V.cell? ⟨Y, 1, none⟩ = some (.int .i64 v.n) := cell_blk jY 1
  have c2 : V.cell? ⟨Y, 2, none⟩ = some (.string v.s) := cell_blk jY 2
  unfold valL at hz ⊢
  simp only [List.length_append] at hz
  have HT2 := Lib.hid (fun X => num_ref v.k X hI.k)
  have HT5 := Lib.hid (fun X => num_ref v.n X hI.n)
  have s6 := sum_ok (a := txt (num v.k)) (b := txt (num v.n)) (by rw [txt_size]; omega) (by rw [txt_size]; omega)
  have HT9 := Lib.hid (fun X => text_ref v.s X (by have := textL_len v.s; omega))
  have s10 := sum_ok (a := txt (num v.k) ++ txt (num v.n)) (b := txt (textL v.s)) (by simp only [txt_append, txt_size, List.length_append]; omega) (by rw [txt_size]; omega)
  have hend : txt (num v.k) ++ txt (num v.n) ++ txt (textL v.s) = txt (num v.k ++ num v.n ++ textL v.s) := by simp only [txt_append]
  have HEND := Lib.hid hend
  have HV := Lib.hid hV
  have HY := Lib.hid hY
  have HB := Lib.hid hb
  clear hV hY hb jY hz hend
  go_enter Tryz.func88, Tryz.ntmps88
  go_upto_region 1 with fail
  rw [← HV.out, HY.out]
  refine wp_region_fin (fun X9 => Below V.heap.size V X9) (fun X9 X' => Below X9.heap.size X9 X') [
    fun v9 _ => v9 = .pointer (some ⟨Y, 0, none⟩),
    fun v9 _ => v9 = .int .i64 v.k,
    fun v9 _ => v9 = .string (txt (num v.k)),
    fun v9 _ => v9 = .pointer (some ⟨Y, 1, none⟩),
    fun v9 _ => v9 = .int .i64 v.n,
    fun v9 _ => v9 = .string (txt (num v.n)),
    fun v9 _ => v9 = .string (txt (num v.k) ++ txt (num v.n)),
    fun v9 _ => v9 = .pointer (some ⟨Y, 2, none⟩),
    fun v9 _ => v9 = .string v.s,
    fun v9 _ => v9 = .string (txt (textL v.s)),
    fun v9 _ => v9 = .string (txt (num v.k) ++ txt (num v.n) ++ txt (textL v.s))]
    (fun v9 X9 => v9 = .string (txt (num v.k) ++ txt (num v.n) ++ txt (textL v.s)) ∧ Below V.heap.size V X9) rfl (by kernel_rfl) (by kernel_rfl) (by kernel_rfl) (by kernel_rfl) ?st ?g0 ?os ?la ?en
  case st => exact ⟨fun _ _ _ _ h => h, fun _ _ _ _ h => h, fun _ _ _ _ h => h, fun _ _ _ _ h => h, fun _ _ _ _ h => h, fun _ _ _ _ h => h, fun _ _ _ _ h => h, fun _ _ _ _ h => h, fun _ _ _ _ h => h, fun _ _ _ _ h => h, fun _ _ _ _ h => h, trivial⟩
  case g0 => exact ⟨rfl, rfl, rfl, Nat.le_refl _, fun _ _ => rfl⟩
  case os =>
    refine ⟨?_, ?_, ?_, ?_, ?_, ?_, ?_, ?_, ?_, ?_, ?_, trivial⟩
    · exact ⟨rfl, fun ρ X9 hg ho hc hf hr => Runs.val _ (op_f28_0 (show ρ (.tmp 1) = .pointer (some ⟨Y, 0, none⟩) from ho 1 rfl)) ⟨hg, Below.refl _ _, rfl⟩⟩
    · exact ⟨rfl, fun ρ X9 hg ho hc hf hr => Runs.val _ (op_load3 (show ρ (.tmp 3) = .pointer (some ⟨Y, 0, none⟩) from hr 0 3 rfl rfl) (cell_on hg c0)) ⟨hg, Below.refl _ _, rfl⟩⟩
    · refine ⟨rfl, fun ρ X9 hg ho hc hf hr => ?_⟩
      refine Runs.goes 48 #[.int .i64 v.k] (op_call1 hf (by go_simp) (show ρ (.tmp 4) = .int .i64 v.k from hr 1 4 rfl rfl)) ((HT2.out X9).mono ?_)
      rintro e7 w7 ⟨rfl, b7⟩
      exact ⟨_, rfl, hg.trans (b7.mono hg.size), b7, rfl⟩
    · exact ⟨rfl, fun ρ X9 hg ho hc hf hr => Runs.val _ (op_f28_1 (show ρ (.tmp 1) = .pointer (some ⟨Y, 0, none⟩) from ho 1 rfl)) ⟨hg, Below.refl _ _, rfl⟩⟩
    · exact ⟨rfl, fun ρ X9 hg ho hc hf hr => Runs.val _ (op_load2 (show ρ (.tmp 6) = .pointer (some ⟨Y, 1, none⟩) from hr 3 6 rfl rfl) (cell_on hg c1)) ⟨hg, Below.refl _ _, rfl⟩⟩
    · refine ⟨rfl, fun ρ X9 hg ho hc hf hr => ?_⟩
      refine Runs.goes 48 #[.int .i64 v.n] (op_call1 hf (by go_simp) (show ρ (.tmp 7) = .int .i64 v.n from hr 4 7 rfl rfl)) ((HT5.out X9).mono ?_)
      rintro e7 w7 ⟨rfl, b7⟩
      exact ⟨_, rfl, hg.trans (b7.mono hg.size), b7, rfl⟩
    · exact ⟨rfl, fun ρ X9 hg ho hc hf hr => Runs.val _ (op_cat (show ρ (.tmp 5) = .string (txt (num v.k)) from hr 2 5 rfl rfl) (show ρ (.tmp 8) = .string (txt (num v.n)) from hr 5 8 rfl rfl) s6) ⟨hg, Below.refl _ _, rfl⟩⟩
    · exact ⟨rfl, fun ρ X9 hg ho hc hf hr => Runs.val _ (op_f28_2 (show ρ (.tmp 1) = .pointer (some ⟨Y, 0, none⟩) from ho 1 rfl)) ⟨hg, Below.refl _ _, rfl⟩⟩
    · exact ⟨rfl, fun ρ X9 hg ho hc hf hr => Runs.val _ (op_load9 (show ρ (.tmp 10) = .pointer (some ⟨Y, 2, none⟩) from hr 7 10 rfl rfl) (cell_on hg c2)) ⟨hg, Below.refl _ _, rfl⟩⟩
    · refine ⟨rfl, fun ρ X9 hg ho hc hf hr => ?_⟩
      refine Runs.goes 49 #[.string v.s] (op_call1 hf (by go_simp) (show ρ (.tmp 11) = .string v.s from hr 8 11 rfl rfl)) ((HT9.out X9).mono ?_)
      rintro e7 w7 ⟨rfl, b7⟩
      exact ⟨_, rfl, hg.trans (b7.mono hg.size), b7, rfl⟩
    · exact ⟨rfl, fun ρ X9 hg ho hc hf hr => Runs.val _ (op_cat (show ρ (.tmp 9) = .string (txt (num v.k) ++ txt (num v.n)) from hr 6 9 rfl rfl) (show ρ (.tmp 12) = .string (txt (textL v.s)) from hr 9 12 rfl rfl) s10) ⟨hg, Below.refl _ _, rfl⟩⟩
  case la =>
    refine ⟨rfl, fun ρ X9 hg ho hc hf hr => ?_⟩
    exact Runs.val _ (op_assign (show ρ (.tmp 13) = .string (txt (num v.k) ++ txt (num v.n) ++ txt (textL v.s)) from hr 10 13 (by decide) rfl)) ⟨rfl, hg⟩
  case en =>
    intro a9 X9 Xb v9 hF hs9 hd9 ho9 hv9 hr9
    obtain ⟨x9, hx, hxt⟩ := act_put hs9 hd9 ho9
    have e2 : x9 2 = .string (txt (num v.k) ++ txt (num v.n) ++ txt (textL v.s)) := (hxt 2).symm.trans ((hv9 2 rfl).trans hF.1)
    change a9 = putAll _ x9 [3, 4, 5, 6, 7, 8, 9, 10, 11, 12, 13, 2] at hx
    simp only [putAll, Act.put, List.setIfInBounds_toArray, List.set_cons_zero, List.set_cons_succ, e2] at hx
    have HG := Lib.hid hF.2
    clear hF hs9 hd9 ho9 hv9 hr9 hxt e2
    subst hx
    generalize x9 3 = z3, x9 4 = z4, x9 5 = z5, x9 6 = z6, x9 7 = z7, x9 8 = z8, x9 9 = z9, x9 10 = z10, x9 11 = z11, x9 12 = z12, x9 13 = z13
    rw [HEND.out]
    go_wp2
    go_ret
    exact ⟨rfl, HB.out.trans (HG.out.mono HB.out.size)⟩
set_option maxHeartbeats 4000000 in
set_option maxRecDepth 100000 in
theorem cols_ref {L : List Col} {v : Value} (hl : Lr colE 7 w L v) (hts : ∀ r ∈ L, ColIn r) (hz : (colsL L).length ≤ 1000000000) : Calls Tryz.prog 50 #[v] w fun e w' => e = .returned (.string (txt (colsL L))) ∧ Below w.heap.size w w' := by
  have HL := Lib.hid hl
  obtain ⟨ad, cap, rfl, _, _, hcap, _⟩ := hl
  obtain ⟨n, hn⟩ : ∃ n, L.length = n := ⟨_, rfl⟩
  have hmx : (n : Int) ≤ 9223372036854775807 := by unfold maxLen at hcap; omega
  have hnum := num_ref (n : Int) w (by unfold I64; omega)
  have HN := Lib.hid hn
  have HZ := Lib.hid hz
  have HTS := Lib.hid hts
  have hfull : colsL L = num (n : Int) ++ L.flatMap col1L := by unfold colsL; rw [hn]
  rw [hn]
  obtain ⟨pre, hpre⟩ : ∃ pre, num (n : Int) = pre := ⟨_, rfl⟩
  rw [hpre] at hnum hfull
  have HFU := Lib.hid hfull
  clear hn hz hcap hfull hpre hts
  go_enter Tryz.func50, Tryz.ntmps50
  go_wp2_with (go_at_call 48; refine hnum.mono ?_; rintro e w1 ⟨rfl, hb1⟩; refine Hid.out ?_)
  refine Lib.hid ?_
  have H0 : Hid (TJ w pre col1L L w1 (.string (txt pre)) (.int .i64 0)) := Lib.hid ⟨0, Nat.zero_le _, rfl, by rw [List.take_zero]; simp, hb1⟩
  clear hb1 hnum
  go_wp2
  go_loopw [3, 4] (fun ov iv wr => TJ w pre col1L L wr ov iv) (fun _ iv _ => n - (intOf iv).toNat)
  case atStart => exact H0.out
  case round =>
    clear H0
    obtain ⟨i, hi, rfl, rfl, hb⟩ := hrel
    obtain ⟨V, rfl⟩ : ∃ V, V = wr := ⟨_, rfl⟩
    have hin : i ≤ n := by rw [← HN.out]; exact hi
    by_cases hlt : i < n
    · have hiL : i < L.length := by rw [HN.out]; exact hlt
      have k0 : (0 : Int) ≤ i := by omega
      have k1 : (i : Int) < n := by omega
      obtain ⟨_, _, e1, _, _, _, hcs⟩ := HL.out.on colE_held hb
      obtain ⟨b, o, cs, ha, hbl, hE, _, hcell⟩ := hcs i hiL
      have hE' : cs = colL L[i] := hE
      subst hE'
      simp only [Value.slice.injEq] at e1
      obtain ⟨rfl, _, rfl⟩ := e1
      subst ha
      have c0 := hcell 0 _ rfl
      have c1 := hcell 1 _ rfl
      have c2 := hcell 2 _ rfl
      have c3 := hcell 3 _ rfl
      have hnx := fm_next col1L hiL
      have hln : (pre ++ (L.take (i + 1)).flatMap col1L).length ≤ 1000000000 := by
        have h1 := HZ.out
        rw [HFU.out, List.length_append] at h1
        have h2 := fmy_take col1L L (i + 1)
        rw [List.length_append]
        omega
      have hti := HTS.out _ (List.getElem_mem hiL)
      obtain ⟨x, hx⟩ : ∃ x, L[i] = x := ⟨_, rfl⟩
      rw [hx] at c0 c1 c2 c3 hnx hti hcell
      simp only [Nat.add_zero] at c0
      have HLD : Hid (∀ X, Below V.heap.size V X → (Instr.loadAt 28 (.pointer (some ⟨b, o + i * 7 + 4, none⟩))).run Tryz.prog X = .ok (vlV x.df) X) := fun X hX => run_loadAt_mid (P := Tryz.prog) X b (o + i * 7 + 4) 28 (vlL x.df) _ (fun j u hu => by
        have hj : j < 3 := (List.getElem?_eq_some_iff.1 hu).1
        have := cell_on hX (hcell (4 + j) u (by
          match j, hj, hu with
          | 0, _, hu => exact hu
          | 1, _, hu => exact hu
          | 2, _, hu => exact hu))
        rw [Nat.add_assoc]
        exact this) Tryz.underlying28 rfl size28
      obtain ⟨acc, hacc⟩ : ∃ acc, pre ++ (L.take i).flatMap col1L = acc := ⟨_, rfl⟩
      have hna : pre ++ (L.take (i + 1)).flatMap col1L = acc ++ col1L x := by rw [hnx, ← List.append_assoc, hacc]
      rw [hna] at hln
      rw [hacc]
      have HNA := Lib.hid hna
      have HB := Lib.hid hb
      unfold col1L at hln
      simp only [List.length_append] at hln
      have HT6 := Lib.hid (fun X => num_ref x.id X hti.id)
      have s7 := sum_ok (a := txt acc) (b := txt (num x.id)) (by rw [txt_size]; omega) (by rw [txt_size]; omega)
      have HT13 := Lib.hid (fun X => text_ref x.nm X (by have := textL_len x.nm; omega))
      have s14 := sum_ok (a := txt acc ++ txt (num x.id)) (b := txt (textL x.nm)) (by simp only [txt_append, txt_size, List.length_append]; omega) (by rw [txt_size]; omega)
      have HT26 := Lib.hid (fun X F (hF : Ints X F [x.kd, x.st]) => nums_ref X 2 rfl (by omega) hF (fun z hz => by
        simp at hz
        rcases hz with rfl | rfl
        · exact hti.kd
        · exact hti.st))
      have s27 := sum_ok (a := txt acc ++ txt (num x.id) ++ txt (textL x.nm)) (b := txt (numsL [x.kd, x.st])) (by simp only [txt_append, txt_size, List.length_append]; omega) (by rw [txt_size]; omega)
      have HT33 := Lib.hid (fun X => value_ref x.df X hti.df (by omega))
      have s34 := sum_ok (a := txt acc ++ txt (num x.id) ++ txt (textL x.nm) ++ txt (numsL [x.kd, x.st])) (b := txt (valL x.df)) (by simp only [txt_append, txt_size, List.length_append]; omega) (by rw [txt_size]; omega)
      have hend : txt acc ++ txt (num x.id) ++ txt (textL x.nm) ++ txt (numsL [x.kd, x.st]) ++ txt (valL x.df) = txt (acc ++ num x.id ++ textL x.nm ++ numsL [x.kd, x.st] ++ valL x.df) := by simp only [txt_append]
      have HEND := Lib.hid hend
      have hfin : acc ++ num x.id ++ textL x.nm ++ numsL [x.kd, x.st] ++ valL x.df = acc ++ col1L x := by unfold col1L; simp only [List.append_assoc]
      have HFIN := Lib.hid hfin
      clear hcs hcell hE hb hx hnx hna hln hacc hend hti hfin
      go_upto_region 5 with fail
      refine wp_region_fin (fun X9 => Below V.heap.size V X9) (fun X9 X' => Below X9.heap.size X9 X') [
        fun v9 _ => v9 = .string (txt acc),
        fun v9 _ => v9 = .slice (some ⟨b, o, none⟩) n cap,
        fun v9 _ => v9 = .int .i64 (i : Int),
        fun v9 _ => v9 = .pointer (some ⟨b, o + i * 7, none⟩),
        fun v9 _ => v9 = .pointer (some ⟨b, o + i * 7, none⟩),
        fun v9 _ => v9 = .int .i64 x.id,
        fun v9 _ => v9 = .string (txt (num x.id)),
        fun v9 _ => v9 = .string (txt acc ++ txt (num x.id)),
        fun v9 _ => v9 = .slice (some ⟨b, o, none⟩) n cap,
        fun v9 _ => v9 = .int .i64 (i : Int),
        fun v9 _ => v9 = .pointer (some ⟨b, o + i * 7, none⟩),
        fun v9 _ => v9 = .pointer (some ⟨b, o + i * 7 + 1, none⟩),
        fun v9 _ => v9 = .string x.nm,
        fun v9 _ => v9 = .string (txt (textL x.nm)),
        fun v9 _ => v9 = .string (txt acc ++ txt (num x.id) ++ txt (textL x.nm)),
        fun v9 _ => v9 = .slice (some ⟨b, o, none⟩) n cap,
        fun v9 _ => v9 = .int .i64 (i : Int),
        fun v9 _ => v9 = .pointer (some ⟨b, o + i * 7, none⟩),
        fun v9 _ => v9 = .pointer (some ⟨b, o + i * 7 + 2, none⟩),
        fun v9 _ => v9 = .int .i64 x.kd,
        fun v9 _ => v9 = .slice (some ⟨b, o, none⟩) n cap,
        fun v9 _ => v9 = .int .i64 (i : Int),
        fun v9 _ => v9 = .pointer (some ⟨b, o + i * 7, none⟩),
        fun v9 _ => v9 = .pointer (some ⟨b, o + i * 7 + 3, none⟩),
        fun v9 _ => v9 = .int .i64 x.st,
        fun v9 X9 => ∃ F, v9 = .slice (some ⟨F, 0, none⟩) 2 2 ∧ Ints X9 F [x.kd, x.st],
        fun v9 _ => v9 = .string (txt (numsL [x.kd, x.st])),
        fun v9 _ => v9 = .string (txt acc ++ txt (num x.id) ++ txt (textL x.nm) ++ txt (numsL [x.kd, x.st])),
        fun v9 _ => v9 = .slice (some ⟨b, o, none⟩) n cap,
        fun v9 _ => v9 = .int .i64 (i : Int),
        fun v9 _ => v9 = .pointer (some ⟨b, o + i * 7, none⟩),
        fun v9 _ => v9 = .pointer (some ⟨b, o + i * 7 + 4, none⟩),
        fun v9 _ => v9 = vlV x.df,
        fun v9 _ => v9 = .string (txt (valL x.df)),
        fun v9 _ => v9 = .string (txt acc ++ txt (num x.id) ++ txt (textL x.nm) ++ txt (numsL [x.kd, x.st]) ++ txt (valL x.df))]
        (fun v9 X9 => v9 = .string (txt acc ++ txt (num x.id) ++ txt (textL x.nm) ++ txt (numsL [x.kd, x.st]) ++ txt (valL x.df)) ∧ Below V.heap.size V X9) rfl (by kernel_rfl) (by kernel_rfl) (by kernel_rfl) (by kernel_rfl) ?st ?g0 ?os ?la ?en
      case st => exact ⟨fun _ _ _ _ h => h, fun _ _ _ _ h => h, fun _ _ _ _ h => h, fun _ _ _ _ h => h, fun _ _ _ _ h => h, fun _ _ _ _ h => h, fun _ _ _ _ h => h, fun _ _ _ _ h => h, fun _ _ _ _ h => h, fun _ _ _ _ h => h, fun _ _ _ _ h => h, fun _ _ _ _ h => h, fun _ _ _ _ h => h, fun _ _ _ _ h => h, fun _ _ _ _ h => h, fun _ _ _ _ h => h, fun _ _ _ _ h => h, fun _ _ _ _ h => h, fun _ _ _ _ h => h, fun _ _ _ _ h => h, fun _ _ _ _ h => h, fun _ _ _ _ h => h, fun _ _ _ _ h => h, fun _ _ _ _ h => h, fun _ _ _ _ h => h, (fun _ _ _ hb h => by obtain ⟨F, e9, h9⟩ := h; exact ⟨F, e9, h9.on hb⟩), fun _ _ _ _ h => h, fun _ _ _ _ h => h, fun _ _ _ _ h => h, fun _ _ _ _ h => h, fun _ _ _ _ h => h, fun _ _ _ _ h => h, fun _ _ _ _ h => h, fun _ _ _ _ h => h, fun _ _ _ _ h => h, trivial⟩
      case g0 => exact ⟨rfl, rfl, rfl, Nat.le_refl _, fun _ _ => rfl⟩
      case os =>
        refine ⟨?_, ?_, ?_, ?_, ?_, ?_, ?_, ?_, ?_, ?_, ?_, ?_, ?_, ?_, ?_, ?_, ?_, ?_, ?_, ?_, ?_, ?_, ?_, ?_, ?_, ?_, ?_, ?_, ?_, ?_, ?_, ?_, ?_, ?_, ?_, trivial⟩
        · exact ⟨rfl, fun ρ X9 hg ho hc hf hr => Runs.val _ (op_move (show ρ (.tmp 3) = .string (txt acc) from ho 3 rfl)) ⟨hg, Below.refl _ _, rfl⟩⟩
        · exact ⟨rfl, fun ρ X9 hg ho hc hf hr => Runs.val _ (op_move (show ρ (.tmp 0) = .slice (some ⟨b, o, none⟩) n cap from ho 0 rfl)) ⟨hg, Below.refl _ _, rfl⟩⟩
        · exact ⟨rfl, fun ρ X9 hg ho hc hf hr => Runs.val _ (op_move (show ρ (.tmp 4) = .int .i64 (i : Int) from ho 4 rfl)) ⟨hg, Below.refl _ _, rfl⟩⟩
        · exact ⟨rfl, fun ρ X9 hg ho hc hf hr => Runs.val _ (op_i29 (show ρ (.tmp 15) = .slice (some ⟨b, o, none⟩) n cap from hr 1 15 rfl rfl) (show ρ (.tmp 16) = .int .i64 (i : Int) from hr 2 16 rfl rfl) hlt) ⟨hg, Below.refl _ _, rfl⟩⟩
        · exact ⟨rfl, fun ρ X9 hg ho hc hf hr => Runs.val _ (op_f50_0 (show ρ (.tmp 17) = .pointer (some ⟨b, o + i * 7, none⟩) from hr 3 17 rfl rfl)) ⟨hg, Below.refl _ _, rfl⟩⟩
        · exact ⟨rfl, fun ρ X9 hg ho hc hf hr => Runs.val _ (op_load3 (show ρ (.tmp 18) = .pointer (some ⟨b, o + i * 7, none⟩) from hr 4 18 rfl rfl) (cell_on hg c0)) ⟨hg, Below.refl _ _, rfl⟩⟩
        · refine ⟨rfl, fun ρ X9 hg ho hc hf hr => ?_⟩
          refine Runs.goes 48 #[.int .i64 x.id] (op_call1 hf (by go_simp) (show ρ (.tmp 19) = .int .i64 x.id from hr 5 19 rfl rfl)) ((HT6.out X9).mono ?_)
          rintro e7 w7 ⟨rfl, b7⟩
          exact ⟨_, rfl, hg.trans (b7.mono hg.size), b7, rfl⟩
        · exact ⟨rfl, fun ρ X9 hg ho hc hf hr => Runs.val _ (op_cat (show ρ (.tmp 14) = .string (txt acc) from hr 0 14 rfl rfl) (show ρ (.tmp 20) = .string (txt (num x.id)) from hr 6 20 rfl rfl) s7) ⟨hg, Below.refl _ _, rfl⟩⟩
        · exact ⟨rfl, fun ρ X9 hg ho hc hf hr => Runs.val _ (op_move (show ρ (.tmp 0) = .slice (some ⟨b, o, none⟩) n cap from ho 0 rfl)) ⟨hg, Below.refl _ _, rfl⟩⟩
        · exact ⟨rfl, fun ρ X9 hg ho hc hf hr => Runs.val _ (op_move (show ρ (.tmp 4) = .int .i64 (i : Int) from ho 4 rfl)) ⟨hg, Below.refl _ _, rfl⟩⟩
        · exact ⟨rfl, fun ρ X9 hg ho hc hf hr => Runs.val _ (op_i29 (show ρ (.tmp 22) = .slice (some ⟨b, o, none⟩) n cap from hr 8 22 rfl rfl) (show ρ (.tmp 23) = .int .i64 (i : Int) from hr 9 23 rfl rfl) hlt) ⟨hg, Below.refl _ _, rfl⟩⟩
        · exact ⟨rfl, fun ρ X9 hg ho hc hf hr => Runs.val _ (op_f50_1 (show ρ (.tmp 24) = .pointer (some ⟨b, o + i * 7, none⟩) from hr 10 24 rfl rfl)) ⟨hg, Below.refl _ _, rfl⟩⟩
        · exact ⟨rfl, fun ρ X9 hg ho hc hf hr => Runs.val _ (op_load9 (show ρ (.tmp 25) = .pointer (some ⟨b, o + i * 7 + 1, none⟩) from hr 11 25 rfl rfl) (cell_on hg c1)) ⟨hg, Below.refl _ _, rfl⟩⟩
        · refine ⟨rfl, fun ρ X9 hg ho hc hf hr => ?_⟩
          refine Runs.goes 49 #[.string x.nm] (op_call1 hf (by go_simp) (show ρ (.tmp 26) = .string x.nm from hr 12 26 rfl rfl)) ((HT13.out X9).mono ?_)
          rintro e7 w7 ⟨rfl, b7⟩
          exact ⟨_, rfl, hg.trans (b7.mono hg.size), b7, rfl⟩
        · exact ⟨rfl, fun ρ X9 hg ho hc hf hr => Runs.val _ (op_cat (show ρ (.tmp 21) = .string (txt acc ++ txt (num x.id)) from hr 7 21 rfl rfl) (show ρ (.tmp 27) = .string (txt (textL x.nm)) from hr 13 27 rfl rfl) s14) ⟨hg, Below.refl _ _, rfl⟩⟩
        · exact ⟨rfl, fun ρ X9 hg ho hc hf hr => Runs.val _ (op_move (show ρ (.tmp 0) = .slice (some ⟨b, o, none⟩) n cap from ho 0 rfl)) ⟨hg, Below.refl _ _, rfl⟩⟩
        · exact ⟨rfl, fun ρ X9 hg ho hc hf hr => Runs.val _ (op_move (show ρ (.tmp 4) = .int .i64 (i : Int) from ho 4 rfl)) ⟨hg, Below.refl _ _, rfl⟩⟩
        · exact ⟨rfl, fun ρ X9 hg ho hc hf hr => Runs.val _ (op_i29 (show ρ (.tmp 29) = .slice (some ⟨b, o, none⟩) n cap from hr 15 29 rfl rfl) (show ρ (.tmp 30) = .int .i64 (i : Int) from hr 16 30 rfl rfl) hlt) ⟨hg, Below.refl _ _, rfl⟩⟩
        · exact ⟨rfl, fun ρ X9 hg ho hc hf hr => Runs.val _ (op_f50_2 (show ρ (.tmp 31) = .pointer (some ⟨b, o + i * 7, none⟩) from hr 17 31 rfl rfl)) ⟨hg, Below.refl _ _, rfl⟩⟩
        · exact ⟨rfl, fun ρ X9 hg ho hc hf hr => Runs.val _ (op_load3 (show ρ (.tmp 32) = .pointer (some ⟨b, o + i * 7 + 2, none⟩) from hr 18 32 rfl rfl) (cell_on hg c2)) ⟨hg, Below.refl _ _, rfl⟩⟩
        · exact ⟨rfl, fun ρ X9 hg ho hc hf hr => Runs.val _ (op_move (show ρ (.tmp 0) = .slice (some ⟨b, o, none⟩) n cap from ho 0 rfl)) ⟨hg, Below.refl _ _, rfl⟩⟩
        · exact ⟨rfl, fun ρ X9 hg ho hc hf hr => Runs.val _ (op_move (show ρ (.tmp 4) = .int .i64 (i : Int) from ho 4 rfl)) ⟨hg, Below.refl _ _, rfl⟩⟩
        · exact ⟨rfl, fun ρ X9 hg ho hc hf hr => Runs.val _ (op_i29 (show ρ (.tmp 34) = .slice (some ⟨b, o, none⟩) n cap from hr 20 34 rfl rfl) (show ρ (.tmp 35) = .int .i64 (i : Int) from hr 21 35 rfl rfl) hlt) ⟨hg, Below.refl _ _, rfl⟩⟩
        · exact ⟨rfl, fun ρ X9 hg ho hc hf hr => Runs.val _ (op_f50_3 (show ρ (.tmp 36) = .pointer (some ⟨b, o + i * 7, none⟩) from hr 22 36 rfl rfl)) ⟨hg, Below.refl _ _, rfl⟩⟩
        · exact ⟨rfl, fun ρ X9 hg ho hc hf hr => Runs.val _ (op_load3 (show ρ (.tmp 37) = .pointer (some ⟨b, o + i * 7 + 3, none⟩) from hr 23 37 rfl rfl) (cell_on hg c3)) ⟨hg, Below.refl _ _, rfl⟩⟩
        · refine ⟨rfl, fun ρ X9 hg ho hc hf hr => ?_⟩
          have b7 : Below X9.heap.size X9 (X9.alloc (.cells #[.int .i64 x.kd, .int .i64 x.st] 3)) := (Below.refl _ X9).alloc (Nat.le_refl _) _
          refine Runs.val _ (op_ints2 (show ρ (.tmp 33) = .int .i64 x.kd from hr 19 33 rfl rfl) (show ρ (.tmp 38) = .int .i64 x.st from hr 24 38 rfl rfl)) ⟨hg.trans (b7.mono hg.size), b7, _, rfl, _, _, heap_alloc_new X9 _, fun i hi => ?_⟩
          match i, hi with
          | 0, _ => rfl
          | 1, _ => rfl
        · refine ⟨rfl, fun ρ X9 hg ho hc hf hr => ?_⟩
          obtain ⟨F, e9, h9⟩ : ∃ F, ρ (.tmp 39) = .slice (some ⟨F, 0, none⟩) 2 2 ∧ Ints X9 F [x.kd, x.st] := hr 25 39 rfl rfl
          refine Runs.goes 47 #[.slice (some ⟨F, 0, none⟩) 2 2] (op_call1 hf (by go_simp) e9) ((HT26.out X9 F h9).mono ?_)
          rintro e7 w7 ⟨rfl, b7⟩
          exact ⟨_, rfl, hg.trans (b7.mono hg.size), b7, rfl⟩
        · exact ⟨rfl, fun ρ X9 hg ho hc hf hr => Runs.val _ (op_cat (show ρ (.tmp 28) = .string (txt acc ++ txt (num x.id) ++ txt (textL x.nm)) from hr 14 28 rfl rfl) (show ρ (.tmp 40) = .string (txt (numsL [x.kd, x.st])) from hr 26 40 rfl rfl) s27) ⟨hg, Below.refl _ _, rfl⟩⟩
        · exact ⟨rfl, fun ρ X9 hg ho hc hf hr => Runs.val _ (op_move (show ρ (.tmp 0) = .slice (some ⟨b, o, none⟩) n cap from ho 0 rfl)) ⟨hg, Below.refl _ _, rfl⟩⟩
        · exact ⟨rfl, fun ρ X9 hg ho hc hf hr => Runs.val _ (op_move (show ρ (.tmp 4) = .int .i64 (i : Int) from ho 4 rfl)) ⟨hg, Below.refl _ _, rfl⟩⟩
        · exact ⟨rfl, fun ρ X9 hg ho hc hf hr => Runs.val _ (op_i29 (show ρ (.tmp 42) = .slice (some ⟨b, o, none⟩) n cap from hr 28 42 rfl rfl) (show ρ (.tmp 43) = .int .i64 (i : Int) from hr 29 43 rfl rfl) hlt) ⟨hg, Below.refl _ _, rfl⟩⟩
        · exact ⟨rfl, fun ρ X9 hg ho hc hf hr => Runs.val _ (op_f50_4 (show ρ (.tmp 44) = .pointer (some ⟨b, o + i * 7, none⟩) from hr 30 44 rfl rfl)) ⟨hg, Below.refl _ _, rfl⟩⟩
        · exact ⟨rfl, fun ρ X9 hg ho hc hf hr => Runs.val _ (op_loadAt (show ρ (.tmp 45) = .pointer (some ⟨b, o + i * 7 + 4, none⟩) from hr 31 45 rfl rfl) (HLD.out X9 hg)) ⟨hg, Below.refl _ _, rfl⟩⟩
        · refine ⟨rfl, fun ρ X9 hg ho hc hf hr => ?_⟩
          refine Runs.goes 88 #[vlV x.df] (op_call1 hf (by go_simp) (show ρ (.tmp 46) = vlV x.df from hr 32 46 rfl rfl)) ((HT33.out X9).mono ?_)
          rintro e7 w7 ⟨rfl, b7⟩
          exact ⟨_, rfl, hg.trans (b7.mono hg.size), b7, rfl⟩
        · exact ⟨rfl, fun ρ X9 hg ho hc hf hr => Runs.val _ (op_cat (show ρ (.tmp 41) = .string (txt acc ++ txt (num x.id) ++ txt (textL x.nm) ++ txt (numsL [x.kd, x.st])) from hr 27 41 rfl rfl) (show ρ (.tmp 47) = .string (txt (valL x.df)) from hr 33 47 rfl rfl) s34) ⟨hg, Below.refl _ _, rfl⟩⟩
      case la =>
        refine ⟨rfl, fun ρ X9 hg ho hc hf hr => ?_⟩
        exact Runs.val _ (op_assign (show ρ (.tmp 48) = .string (txt acc ++ txt (num x.id) ++ txt (textL x.nm) ++ txt (numsL [x.kd, x.st]) ++ txt (valL x.df)) from hr 34 48 (by decide) rfl)) ⟨rfl, hg⟩
      case en =>
        intro a9 X9 Xb v9 hF hs9 hd9 ho9 hv9 hr9
        obtain ⟨x9, hx, hxt⟩ := act_put hs9 hd9 ho9
        have e3 : x9 3 = .string (txt acc ++ txt (num x.id) ++ txt (textL x.nm) ++ txt (numsL [x.kd, x.st]) ++ txt (valL x.df)) := (hxt 3).symm.trans ((hv9 3 rfl).trans hF.1)
        change a9 = putAll _ x9 [14, 15, 16, 17, 18, 19, 20, 21, 22, 23, 24, 25, 26, 27, 28, 29, 30, 31, 32, 33, 34, 35, 36, 37, 38, 39, 40, 41, 42, 43, 44, 45, 46, 47, 48, 3] at hx
        simp only [putAll, Act.put, List.setIfInBounds_toArray, List.set_cons_zero, List.set_cons_succ, e3] at hx
        have HG := Lib.hid hF.2
        clear hF hs9 hd9 ho9 hv9 hr9 hxt e3
        subst hx
        generalize x9 14 = z14, x9 15 = z15, x9 16 = z16, x9 17 = z17, x9 18 = z18, x9 19 = z19, x9 20 = z20, x9 21 = z21, x9 22 = z22, x9 23 = z23, x9 24 = z24, x9 25 = z25, x9 26 = z26, x9 27 = z27, x9 28 = z28, x9 29 = z29, x9 30 = z30, x9 31 = z31, x9 32 = z32, x9 33 = z33, x9 34 = z34, x9 35 = z35, x9 36 = z36, x9 37 = z37, x9 38 = z38, x9 39 = z39, x9 40 = z40, x9 41 = z41, x9 42 = z42, x9 43 = z43, x9 44 = z44, x9 45 = z45, x9 46 = z46, x9 47 = z47, x9 48 = z48
        rw [HEND.out]
        rw [HFIN.out]
        go_wp2
        go_roundw
        case rel => exact ⟨i + 1, hiL, by go_num, by rw [HNA.out], HB.out.trans (HG.out.mono HB.out.size)⟩
        case measure => simp [intOf]; omega
    · have k1 : ¬ ((i : Int) < n) := by omega
      have ei : (L.take i) = L := List.take_of_length_le (by rw [HN.out]; omega)
      rw [ei, ← HFU.out]
      have HB := Lib.hid hb
      clear hb ei
      go_wp2
      go_ret
      exact ⟨rfl, HB.out⟩
end
end Go.Proofs.YtongmhfpoopebaaGreat

/- Arguments opened: schemas and changes, by how much they hold. -/
namespace Go.Proofs.YtongmhfpoopebaaGreat
open Go.ChangeShapes Go.WideShapes Go.ChangeAt Go.WideMaps Go.WideElems Go.RowKit Go.Joins Go.Deep
theorem own : ownKnob Tryz.prog.godebug = none := by kernel_rfl
theorem laidOut : laidOutB Tryz.prog = true := by kernel_rfl
theorem cells2 : Tryz.prog.cellsOf 2 = 1 := by kernel_rfl
theorem cells3 : Tryz.prog.cellsOf 3 = 1 := by kernel_rfl
theorem cells4 : Tryz.prog.cellsOf 4 = 1 := by kernel_rfl
theorem cells9 : Tryz.prog.cellsOf 9 = 1 := by kernel_rfl
theorem cells28 : Tryz.prog.cellsOf 28 = 3 := by kernel_rfl
theorem cells29 : Tryz.prog.cellsOf 29 = 1 := by kernel_rfl
theorem cells31 : Tryz.prog.cellsOf 31 = 11 := by kernel_rfl
theorem cells22 : Tryz.prog.cellsOf 22 = 1 := by kernel_rfl
theorem cells24 : Tryz.prog.cellsOf 24 = 3 := by kernel_rfl
theorem cells32 : Tryz.prog.cellsOf 32 = 1 := by kernel_rfl
theorem cells33 : Tryz.prog.cellsOf 33 = 1 := by kernel_rfl
theorem cells35 : Tryz.prog.cellsOf 35 = 5 := by kernel_rfl
theorem cells50 : Tryz.prog.cellsOf 50 = 7 := by kernel_rfl
theorem cells71 : Tryz.prog.cellsOf 71 = 5 := by kernel_rfl
theorem cells74 : Tryz.prog.cellsOf 74 = 5 := by kernel_rfl
theorem bytes35 : Tryz.prog.bytesOf 35 = 96 := by kernel_rfl
theorem bytes50 : Tryz.prog.bytesOf 50 = 72 := by kernel_rfl
theorem bytes71 : Tryz.prog.bytesOf 71 = 48 := by kernel_rfl
theorem bytes74 : Tryz.prog.bytesOf 74 = 48 := by kernel_rfl
def vlB (v : Vl) : Nat := 1 + v.s.size
def colB (c : Col) : Nat := 1 + c.nm.size + vlB c.df
def ixB (c : Ix) : Nat := 1 + c.nm.size
def fkBk (c : Fk) : Nat := 1 + c.nm.size
def tbB (t : Tb) : Nat := 1 + t.nm.size + (t.cols.map colB).sum + (t.ixs.map ixB).sum + (t.fks.map fkBk).sum
def scB (s : Sc) : Nat := 1 + (s.tabs.map tbB).sum
def ddB (d : Dd) : Nat := 1 + (d.cols.map colB).sum
structure TbQ (t : Tb) : Prop where
  c : t.cols.length * 72 ≤ 140737488355328
  i : t.ixs.length * 48 ≤ 140737488355328
  k : t.fks.length * 48 ≤ 140737488355328
structure ScQ (s : Sc) : Prop where
  n : s.tabs.length * 96 ≤ 140737488355328
  t : ∀ x ∈ s.tabs, TbQ x
structure DdIn (d : Dd) : Prop where
  kind : I64 d.kind
  ty : I64 d.ty
  df : VlIn d.df
  c : ∀ x ∈ d.cols, ColIn x
theorem sum_ge {α : Type} {f : α → Nat} (h : ∀ x, 1 ≤ f x) : ∀ l : List α, l.length ≤ (l.map f).sum
  | [] => Nat.le_refl _
  | x :: l => by
    have := sum_ge h l
    have := h x
    simp
    omega
theorem sum_le {α : Type} {f g : α → Nat} (h : ∀ x, f x ≤ g x) : ∀ l : List α, (l.map f).sum ≤ (l.map g).sum
  | [] => Nat.le_refl _
  | x :: l => by
    have := sum_le h l
    have := h x
    simp
    omega
theorem sum_two {α : Type} {f g : α → Nat} : ∀ l : List α, (l.map fun x => f x + g x).sum = (l.map f).sum + (l.map g).sum
  | [] => rfl
  | x :: l => by
    have := sum_two (f := f) (g := g) l
    simp
    omega
theorem sum_mem {α : Type} {f : α → Nat} : ∀ {l : List α} {x : α}, x ∈ l → f x ≤ (l.map f).sum
  | y :: l, x, h => by
    simp only [List.map_cons, List.sum_cons]
    rcases List.mem_cons.1 h with rfl | h
    · omega
    · have := sum_mem (f := f) h
      omega
theorem one_sum {α : Type} : ∀ l : List α, (l.map fun _ => 1).sum = l.length
  | [] => rfl
  | x :: l => by
    have := one_sum l
    rw [List.map_cons, List.sum_cons, List.length_cons, this]
    omega
theorem bulk_one {H : Type} (d : DataW H) : 1 ≤ Rows.uptoBulk d := by
  cases d with
  | lit l => cases l <;> simp [Rows.uptoBulk]
  | nil => simp [Rows.uptoBulk]
  | ptr d => simp [Rows.uptoBulk]
  | slice elems spare => simp [Rows.uptoBulk]
  | agg parts => simp [Rows.uptoBulk]
  | iface t d => simp [Rows.uptoBulk]
  | map entries => simp [Rows.uptoBulk]
  | held h => simp [Rows.uptoBulk]
theorem bulk_text {H : Type} {y : DataW H} {s : ByteArray} (e : y = .lit (.string s.data.toList)) : Rows.uptoBulk y = s.size + 1 := by
  rw [e]
  simp only [Rows.uptoBulk]
  rw [Array.length_toList]
  rfl
theorem bulk_map {H : Type} {α : Type} {q : Nat → α} {D : Nat → DataW H} {f : α → Nat} : ∀ l : List Nat, (∀ i ∈ l, f (q i) ≤ Rows.uptoBulk (D i)) → ((l.map q).map f).sum ≤ Rows.uptoBulkAll (l.map D)
  | [], _ => by simp
  | i :: l, h => by
    have h1 := bulk_map l (fun j hj => h j (List.mem_cons_of_mem _ hj))
    have h2 := h i List.mem_cons_self
    simp only [List.map_cons, List.sum_cons, Rows.uptoBulkAll]
    omega
section
variable {H : Type} {enc : TypeId × Value → H} {W : World} {fuel : Nat} {cs : List Value} {x : DataW H × List MemPlace}
theorem weights_all {P : Program} {e : TypeId} {n : Nat} {d : DataW H} : ∀ {l : List (DataW H)}, d ∈ l → n ∈ d.weights P e → n ∈ DataW.weightsAll P e l
  | [], h, _ => by cases h
  | a :: l, h, hn => by
    simp only [DataW.weightsAll, List.mem_append]
    rcases List.mem_cons.1 h with rfl | h
    · exact .inl hn
    · exact .inr (weights_all h hn)
set_option maxRecDepth 100000 in
set_option maxHeartbeats 1000000 in
theorem list_trod {α : Type} (hinh : Inhabited α) {E : World → α → List Value → Prop} {P Q : α → Prop} {f : α → Nat} {st et : TypeId} {c : Nat} (hu : Tryz.prog.underlying st = some (.slice et)) (hcs : Tryz.prog.cellsOf et = c) (hc0 : 0 < c) {by0 : Nat} (hby : Tryz.prog.bytesOf et = by0)
    (each0 : ∀ (cs' : List Value) (fuel : Nat) (x' : DataW H × List MemPlace), cs'.length = c → DataW.trod enc Tryz.prog W 0 (fun _ => true) true fuel et cs' = some x' → ∃ q : α, E W q cs' ∧ P q ∧ f q ≤ Rows.uptoBulk x'.1 ∧ ((∀ n ∈ DataW.weights Tryz.prog et x'.1, n ≤ reachBytes) → Q q))
    (hf : DataW.trod enc Tryz.prog W 0 (fun _ => true) true fuel st cs = some x) : ∃ (l : List α) (v : Value), cs = [v] ∧ Lr E c W l v ∧ (∀ q ∈ l, P q) ∧ (l.map f).sum + 1 ≤ Rows.uptoBulk x.1 ∧ ((∀ n ∈ DataW.weights Tryz.prog st x.1, n ≤ reachBytes) → l.length * by0 ≤ 140737488355328 ∧ ∀ q ∈ l, Q q) := by
  rcases open_slice hu hf with ⟨hcs', hx⟩ | ⟨a, len, cap, m, n, D, Pl, hcs', _, hl, hm, hmm, hx, hel⟩
  · exact ⟨[], .slice none 0 0, hcs', ⟨none, 0, rfl, fun _ => rfl, Nat.le_refl _, Nat.zero_le _, fun i hi => by simp at hi⟩, fun q hq => (by cases hq), bulk_one _, fun _ => ⟨by simp, fun q hq => (by cases hq)⟩⟩
  · simp only [if_true] at hmm
    subst hmm
    have each : ∀ i, i < len → ∃ q : α, (∃ cs', E W q cs' ∧ cs'.length = c ∧ ∀ j u, cs'[j]? = some u → W.cell? (a.add (i * c + j)) = some u) ∧ P q ∧ f q ≤ Rows.uptoBulk (D i) ∧ ((∀ n ∈ DataW.weights Tryz.prog et (D i), n ≤ reachBytes) → Q q) := by
      intro i hi
      obtain ⟨cs', h1, h2⟩ := hel i (by omega)
      rw [hcs] at h1
      obtain ⟨_, hlen, hcell⟩ := World.cells?_some h1
      obtain ⟨o, e, hP, hz, hQ⟩ := each0 cs' _ _ hlen h2
      refine ⟨o, ⟨cs', e, hlen, fun j u hu => ?_⟩, hP, hz, hQ⟩
      have hj : j < cs'.length := by
        rw [List.getElem?_eq_some_iff] at hu
        exact hu.1
      have z := hcell j (by omega)
      rw [add_add] at z
      rw [z]
      exact hu
    obtain ⟨q, hq⟩ := choose_lt each
    have hlen : ((List.range len).map q).length = len := by simp
    refine ⟨(List.range len).map q, _, hcs', ⟨some a, m, by rw [hlen], fun z => (by cases z), by rw [hlen]; exact hl, hm, fun i hi => ?cl⟩, ?pp, ?sz, fun h => ?qq⟩
    case pp =>
      intro r hr
      obtain ⟨i, hi, rfl⟩ := List.mem_map.1 hr
      exact (hq i (List.mem_range.1 hi)).2.1
    case qq =>
      have hd : x.1 = _ := congrArg Prod.fst hx
      rw [hd] at h
      simp only [DataW.weights, hu] at h
      have z := h _ (List.mem_cons_self)
      rw [hby, List.length_map, List.length_map, List.length_range, List.length_range] at z
      have hR := reachBytes_lt
      have hm9 := Nat.mul_le_mul_right by0 (Nat.le_add_right len (m - len))
      refine ⟨by rw [hlen]; omega, ?_⟩
      intro r hr
      obtain ⟨i, hi, rfl⟩ := List.mem_map.1 hr
      have hi' := List.mem_range.1 hi
      exact (hq i hi').2.2.2 (fun n hn => h n (by
        simp only [List.mem_cons, List.mem_append]
        exact .inr (.inl (weights_all (List.mem_map.2 ⟨i, hi, rfl⟩) hn))))
    case sz =>
      have hd : x.1 = _ := congrArg Prod.fst hx
      have h1 := bulk_map (f := f) (q := q) (D := D) (List.range len) (fun i hi => (hq i (List.mem_range.1 hi)).2.2.1)
      rw [hd]
      simp only [Rows.uptoBulk]
      omega
    case cl =>
      rw [hlen] at hi
      obtain ⟨⟨cs', e1, e2, e3⟩, _⟩ := hq i hi
      obtain ⟨b, o, sp⟩ := a
      have hw0 : ∃ u, W.cell? ((⟨b, o, sp⟩ : Addr).add (i * c + 0)) = some u := ⟨_, e3 0 _ (List.getElem?_eq_getElem (by omega))⟩
      have hsp : sp = none := by
        obtain ⟨⟨cs0, _, l0, c0⟩, _⟩ := hq 0 (by omega)
        have := World.cell?_spot (c0 0 _ (List.getElem?_eq_getElem (by omega)))
        simpa [Addr.add] using this
      subst hsp
      have e : ((List.range len).map q)[i]'(by rw [hlen]; exact hi) = q i := by simp
      rw [e]
      have hbl : b < W.heap.size := by
        obtain ⟨u, z⟩ := hw0
        rw [add_at] at z
        exact pt_lt z
      exact ⟨b, o, cs', rfl, hbl, e1, e2, fun j u hu => by
        have z := e3 j u hu
        rw [add_at] at z
        rw [Nat.add_assoc]
        exact z⟩
def vlE (_ : World) (v : Vl) (cs : List Value) : Prop := cs = vlL v
set_option maxRecDepth 100000 in
set_option maxHeartbeats 1000000 in
theorem vl_trod (hl : cs.length = 3) (hf : DataW.trod enc Tryz.prog W 0 (fun _ => true) true fuel 28 cs = some x) : ∃ v : Vl, vlE W v cs ∧ VlIn v ∧ vlB v ≤ Rows.uptoBulk x.1 ∧ ((∀ n ∈ DataW.weights Tryz.prog 28 x.1, n ≤ reachBytes) → True) := by
  obtain ⟨xs, k, hk, hxy, _, hxl, hfl⟩ := DataW.trod_struct Tryz.underlying28 hf
  match xs, hxl, cs, hl with
  | [y0, y1, y2], _, [v0, v1, v2], _ =>
    have g0 := hfl 0 _ rfl
    have g1 := hfl 1 _ rfl
    have g2 := hfl 2 _ rfl
    simp [cells2, cells3, cells9] at g0 g1 g2
    obtain ⟨k0, f0, _, b0⟩ := DataW.trod_int Tryz.underlying3 g0
    obtain ⟨k1, f1, _, b1⟩ := DataW.trod_int Tryz.underlying2 g1
    obtain ⟨s2, f2, e2, _⟩ := DataW.trod_string Tryz.underlying9 g2
    simp at f0 f1 f2
    subst f0 f1 f2
    have t2 := bulk_text (congrArg Prod.fst e2)
    have hx : x.1 = .agg [y0.1, y1.1, y2.1] := by rw [hxy]; rfl
    refine ⟨⟨k0, k1, s2⟩, rfl, ⟨bounds_i64 b0, bounds_i64 b1⟩, ?_, fun _ => trivial⟩
    · rw [hx]
      simp only [Rows.uptoBulk, Rows.uptoBulkAll, vlB]
      omega
set_option maxRecDepth 100000 in
set_option maxHeartbeats 1000000 in
theorem col_trod (hl : cs.length = 7) (hf : DataW.trod enc Tryz.prog W 0 (fun _ => true) true fuel 50 cs = some x) : ∃ v : Col, colE W v cs ∧ ColIn v ∧ colB v ≤ Rows.uptoBulk x.1 ∧ ((∀ n ∈ DataW.weights Tryz.prog 50 x.1, n ≤ reachBytes) → True) := by
  obtain ⟨xs, k, hk, hxy, _, hxl, hfl⟩ := DataW.trod_struct Tryz.underlying50 hf
  match xs, hxl, cs, hl with
  | [y0, y1, y2, y3, y4], _, [v0, v1, v2, v3, v4, v5, v6], _ =>
    have g0 := hfl 0 _ rfl
    have g1 := hfl 1 _ rfl
    have g2 := hfl 2 _ rfl
    have g3 := hfl 3 _ rfl
    have g4 := hfl 4 _ rfl
    simp [cells3, cells9, cells28] at g0 g1 g2 g3 g4
    obtain ⟨k0, f0, _, b0⟩ := DataW.trod_int Tryz.underlying3 g0
    obtain ⟨s1, f1, e1, _⟩ := DataW.trod_string Tryz.underlying9 g1
    obtain ⟨k2, f2, _, b2⟩ := DataW.trod_int Tryz.underlying3 g2
    obtain ⟨k3, f3, _, b3⟩ := DataW.trod_int Tryz.underlying3 g3
    obtain ⟨q4, f4, i4, z4, _⟩ := vl_trod (cs := [v4, v5, v6]) rfl g4
    simp at f0 f1 f2 f3
    have f4' : [v4, v5, v6] = vlL q4 := f4
    simp only [vlL, List.cons.injEq, and_true] at f4'
    obtain ⟨rfl, rfl, rfl⟩ := f4'
    subst f0 f1 f2 f3
    have t1 := bulk_text (congrArg Prod.fst e1)
    have hx : x.1 = .agg [y0.1, y1.1, y2.1, y3.1, y4.1] := by rw [hxy]; rfl
    refine ⟨⟨k0, s1, k2, k3, q4⟩, rfl, ⟨bounds_i64 b0, bounds_i64 b2, bounds_i64 b3, i4⟩, ?_, fun _ => trivial⟩
    · rw [hx]
      simp only [Rows.uptoBulk, Rows.uptoBulkAll, colB]
      omega
set_option maxRecDepth 100000 in
set_option maxHeartbeats 1000000 in
theorem ix_trod (hl : cs.length = 5) (hf : DataW.trod enc Tryz.prog W 0 (fun _ => true) true fuel 71 cs = some x) : ∃ v : Ix, ixE W v cs ∧ IxIn v ∧ ixB v ≤ Rows.uptoBulk x.1 ∧ ((∀ n ∈ DataW.weights Tryz.prog 71 x.1, n ≤ reachBytes) → True) := by
  obtain ⟨xs, k, hk, hxy, _, hxl, hfl⟩ := DataW.trod_struct Tryz.underlying71 hf
  match xs, hxl, cs, hl with
  | [y0, y1, y2, y3, y4], _, [v0, v1, v2, v3, v4], _ =>
    have g0 := hfl 0 _ rfl
    have g1 := hfl 1 _ rfl
    have g2 := hfl 2 _ rfl
    have g3 := hfl 3 _ rfl
    have g4 := hfl 4 _ rfl
    simp [cells3, cells4, cells9] at g0 g1 g2 g3 g4
    obtain ⟨k0, f0, _, b0⟩ := DataW.trod_int Tryz.underlying3 g0
    obtain ⟨s1, f1, e1, _⟩ := DataW.trod_string Tryz.underlying9 g1
    obtain ⟨k2, f2, _, b2⟩ := DataW.trod_int Tryz.underlying3 g2
    obtain ⟨p3, f3, _⟩ := DataW.trod_bool Tryz.underlying4 g3
    obtain ⟨k4, f4, _, b4⟩ := DataW.trod_int Tryz.underlying3 g4
    simp at f0 f1 f2 f3 f4
    subst f0 f1 f2 f3 f4
    have t1 := bulk_text (congrArg Prod.fst e1)
    have hx : x.1 = .agg [y0.1, y1.1, y2.1, y3.1, y4.1] := by rw [hxy]; rfl
    refine ⟨⟨k0, s1, k2, p3, k4⟩, rfl, ⟨bounds_i64 b0, bounds_i64 b2, bounds_i64 b4⟩, ?_, fun _ => trivial⟩
    · rw [hx]
      simp only [Rows.uptoBulk, Rows.uptoBulkAll, ixB]
      omega
set_option maxRecDepth 100000 in
set_option maxHeartbeats 1000000 in
theorem fk_trod (hl : cs.length = 5) (hf : DataW.trod enc Tryz.prog W 0 (fun _ => true) true fuel 74 cs = some x) : ∃ v : Fk, fkE W v cs ∧ FkIn v ∧ fkBk v ≤ Rows.uptoBulk x.1 ∧ ((∀ n ∈ DataW.weights Tryz.prog 74 x.1, n ≤ reachBytes) → True) := by
  obtain ⟨xs, k, hk, hxy, _, hxl, hfl⟩ := DataW.trod_struct Tryz.underlying74 hf
  match xs, hxl, cs, hl with
  | [y0, y1, y2, y3, y4], _, [v0, v1, v2, v3, v4], _ =>
    have g0 := hfl 0 _ rfl
    have g1 := hfl 1 _ rfl
    have g2 := hfl 2 _ rfl
    have g3 := hfl 3 _ rfl
    have g4 := hfl 4 _ rfl
    simp [cells3, cells9] at g0 g1 g2 g3 g4
    obtain ⟨k0, f0, _, b0⟩ := DataW.trod_int Tryz.underlying3 g0
    obtain ⟨s1, f1, e1, _⟩ := DataW.trod_string Tryz.underlying9 g1
    obtain ⟨k2, f2, _, b2⟩ := DataW.trod_int Tryz.underlying3 g2
    obtain ⟨k3, f3, _, b3⟩ := DataW.trod_int Tryz.underlying3 g3
    obtain ⟨k4, f4, _, b4⟩ := DataW.trod_int Tryz.underlying3 g4
    simp at f0 f1 f2 f3 f4
    subst f0 f1 f2 f3 f4
    have t1 := bulk_text (congrArg Prod.fst e1)
    have hx : x.1 = .agg [y0.1, y1.1, y2.1, y3.1, y4.1] := by rw [hxy]; rfl
    refine ⟨⟨k0, s1, k2, k3, k4⟩, rfl, ⟨bounds_i64 b0, bounds_i64 b2, bounds_i64 b3, bounds_i64 b4⟩, ?_, fun _ => trivial⟩
    · rw [hx]
      simp only [Rows.uptoBulk, Rows.uptoBulkAll, fkBk]
      omega
theorem cols_trod (hf : DataW.trod enc Tryz.prog W 0 (fun _ => true) true fuel 29 cs = some x) : ∃ (l : List Col) (v : Value), cs = [v] ∧ Lr colE 7 W l v ∧ (∀ q ∈ l, ColIn q) ∧ (l.map colB).sum + 1 ≤ Rows.uptoBulk x.1 ∧ ((∀ n ∈ DataW.weights Tryz.prog 29 x.1, n ≤ reachBytes) → l.length * 72 ≤ 140737488355328 ∧ ∀ q ∈ l, True) :=
  list_trod ⟨⟨0, ⟨#[]⟩, 0, 0, ⟨0, 0, ⟨#[]⟩⟩⟩⟩ Tryz.underlying29 cells50 (by decide) bytes50 (fun _ _ _ h1 h2 => col_trod h1 h2) hf
theorem ixs_trod (hf : DataW.trod enc Tryz.prog W 0 (fun _ => true) true fuel 32 cs = some x) : ∃ (l : List Ix) (v : Value), cs = [v] ∧ Lr ixE 5 W l v ∧ (∀ q ∈ l, IxIn q) ∧ (l.map ixB).sum + 1 ≤ Rows.uptoBulk x.1 ∧ ((∀ n ∈ DataW.weights Tryz.prog 32 x.1, n ≤ reachBytes) → l.length * 48 ≤ 140737488355328 ∧ ∀ q ∈ l, True) :=
  list_trod ⟨⟨0, ⟨#[]⟩, 0, false, 0⟩⟩ Tryz.underlying32 cells71 (by decide) bytes71 (fun _ _ _ h1 h2 => ix_trod h1 h2) hf
theorem fks_trod (hf : DataW.trod enc Tryz.prog W 0 (fun _ => true) true fuel 33 cs = some x) : ∃ (l : List Fk) (v : Value), cs = [v] ∧ Lr fkE 5 W l v ∧ (∀ q ∈ l, FkIn q) ∧ (l.map fkBk).sum + 1 ≤ Rows.uptoBulk x.1 ∧ ((∀ n ∈ DataW.weights Tryz.prog 33 x.1, n ≤ reachBytes) → l.length * 48 ≤ 140737488355328 ∧ ∀ q ∈ l, True) :=
  list_trod ⟨⟨0, ⟨#[]⟩, 0, 0, 0⟩⟩ Tryz.underlying33 cells74 (by decide) bytes74 (fun _ _ _ h1 h2 => fk_trod h1 h2) hf
set_option maxRecDepth 100000 in
set_option maxHeartbeats 1000000 in
theorem tb_trod (hl : cs.length = 5) (hf : DataW.trod enc Tryz.prog W 0 (fun _ => true) true fuel 35 cs = some x) : ∃ v : Tb, tbE W v cs ∧ TbIn v ∧ tbB v ≤ Rows.uptoBulk x.1 ∧ ((∀ n ∈ DataW.weights Tryz.prog 35 x.1, n ≤ reachBytes) → TbQ v) := by
  obtain ⟨xs, k, hk, hxy, _, hxl, hfl⟩ := DataW.trod_struct Tryz.underlying35 hf
  match xs, hxl, cs, hl with
  | [y0, y1, y2, y3, y4], _, [v0, v1, v2, v3, v4], _ =>
    have g0 := hfl 0 _ rfl
    have g1 := hfl 1 _ rfl
    have g2 := hfl 2 _ rfl
    have g3 := hfl 3 _ rfl
    have g4 := hfl 4 _ rfl
    simp [cells3, cells9, cells29, cells32, cells33] at g0 g1 g2 g3 g4
    obtain ⟨k0, f0, _, b0⟩ := DataW.trod_int Tryz.underlying3 g0
    obtain ⟨s1, f1, e1, _⟩ := DataW.trod_string Tryz.underlying9 g1
    obtain ⟨l2, u2, f2, h2, i2, z2, w2⟩ := cols_trod g2
    obtain ⟨l3, u3, f3, h3, i3, z3, w3⟩ := ixs_trod g3
    obtain ⟨l4, u4, f4, h4, i4, z4, w4⟩ := fks_trod g4
    simp at f0 f1 f2 f3 f4
    subst f0 f1 f2 f3 f4
    have t1 := bulk_text (congrArg Prod.fst e1)
    have hx : x.1 = .agg [y0.1, y1.1, y2.1, y3.1, y4.1] := by rw [hxy]; rfl
    refine ⟨⟨k0, s1, l2, l3, l4⟩, ⟨v2, v3, v4, rfl, h2, h3, h4⟩, ⟨bounds_i64 b0, i2, i3, i4⟩, ?_, fun h => ?_⟩
    · rw [hx]
      simp only [Rows.uptoBulk, Rows.uptoBulkAll, tbB]
      omega
    · rw [hx] at h
      exact ⟨(w2 (fun n hn => h n (by
          simp only [DataW.weights, Tryz.underlying35, DataW.weightsEach, List.map_cons, List.mem_append]
          simp [hn]))).1, (w3 (fun n hn => h n (by
          simp only [DataW.weights, Tryz.underlying35, DataW.weightsEach, List.map_cons, List.mem_append]
          simp [hn]))).1, (w4 (fun n hn => h n (by
          simp only [DataW.weights, Tryz.underlying35, DataW.weightsEach, List.map_cons, List.mem_append]
          simp [hn]))).1⟩
theorem tabs_trod (hf : DataW.trod enc Tryz.prog W 0 (fun _ => true) true fuel 22 cs = some x) : ∃ (l : List Tb) (v : Value), cs = [v] ∧ Lr tbE 5 W l v ∧ (∀ q ∈ l, TbIn q) ∧ (l.map tbB).sum + 1 ≤ Rows.uptoBulk x.1 ∧ ((∀ n ∈ DataW.weights Tryz.prog 22 x.1, n ≤ reachBytes) → l.length * 96 ≤ 140737488355328 ∧ ∀ q ∈ l, TbQ q) :=
  list_trod ⟨⟨0, ⟨#[]⟩, [], [], []⟩⟩ Tryz.underlying22 cells35 (by decide) bytes35 (fun _ _ _ h1 h2 => tb_trod h1 h2) hf
def scE (w : World) (s : Sc) (cs : List Value) : Prop := ∃ tv, cs = [.int .i64 s.ver, .int .i64 s.last, tv] ∧ Lr tbE 5 w s.tabs tv
def ddE (w : World) (d : Dd) (cs : List Value) : Prop := ∃ cv, cs = [.int .i64 d.kind, .string d.table, .string d.name, .string d.column, .string d.parent, .bool d.uq, .int .i64 d.ty, .int .i64 d.df.k, .int .i64 d.df.n, .string d.df.s, cv] ∧ Lr colE 7 w d.cols cv
set_option maxRecDepth 100000 in
set_option maxHeartbeats 1000000 in
theorem sc_trod (hl : cs.length = 3) (hf : DataW.trod enc Tryz.prog W 0 (fun _ => true) true fuel 24 cs = some x) : ∃ v : Sc, scE W v cs ∧ ScIn v ∧ scB v ≤ Rows.uptoBulk x.1 ∧ ((∀ n ∈ DataW.weights Tryz.prog 24 x.1, n ≤ reachBytes) → ScQ v) := by
  obtain ⟨xs, k, hk, hxy, _, hxl, hfl⟩ := DataW.trod_struct Tryz.underlying24 hf
  match xs, hxl, cs, hl with
  | [y0, y1, y2], _, [v0, v1, v2], _ =>
    have g0 := hfl 0 _ rfl
    have g1 := hfl 1 _ rfl
    have g2 := hfl 2 _ rfl
    simp [cells3, cells22] at g0 g1 g2
    obtain ⟨k0, f0, _, b0⟩ := DataW.trod_int Tryz.underlying3 g0
    obtain ⟨k1, f1, _, b1⟩ := DataW.trod_int Tryz.underlying3 g1
    obtain ⟨l2, u2, f2, h2, i2, z2, w2⟩ := tabs_trod g2
    simp at f0 f1 f2
    subst f0 f1 f2
    have hx : x.1 = .agg [y0.1, y1.1, y2.1] := by rw [hxy]; rfl
    refine ⟨⟨k0, k1, l2⟩, ⟨v2, rfl, h2⟩, ⟨bounds_i64 b0, bounds_i64 b1, i2⟩, ?_, fun h => ?_⟩
    · rw [hx]
      simp only [Rows.uptoBulk, Rows.uptoBulkAll, scB]
      omega
    · rw [hx] at h
      exact ⟨(w2 (fun n hn => h n (by
          simp only [DataW.weights, Tryz.underlying24, DataW.weightsEach, List.map_cons, List.mem_append]
          simp [hn]))).1, (w2 (fun n hn => h n (by
          simp only [DataW.weights, Tryz.underlying24, DataW.weightsEach, List.map_cons, List.mem_append]
          simp [hn]))).2⟩
set_option maxRecDepth 100000 in
set_option maxHeartbeats 1000000 in
theorem dd_trod (hl : cs.length = 11) (hf : DataW.trod enc Tryz.prog W 0 (fun _ => true) true fuel 31 cs = some x) : ∃ v : Dd, ddE W v cs ∧ DdIn v ∧ ddB v ≤ Rows.uptoBulk x.1 ∧ ((∀ n ∈ DataW.weights Tryz.prog 31 x.1, n ≤ reachBytes) → v.cols.length * 72 ≤ 140737488355328) := by
  obtain ⟨xs, k, hk, hxy, _, hxl, hfl⟩ := DataW.trod_struct Tryz.underlying31 hf
  match xs, hxl, cs, hl with
  | [y0, y1, y2, y3, y4, y5, y6, y7, y8], _, [v0, v1, v2, v3, v4, v5, v6, v7, v8, v9, v10], _ =>
    have g0 := hfl 0 _ rfl
    have g1 := hfl 1 _ rfl
    have g2 := hfl 2 _ rfl
    have g3 := hfl 3 _ rfl
    have g4 := hfl 4 _ rfl
    have g5 := hfl 5 _ rfl
    have g6 := hfl 6 _ rfl
    have g7 := hfl 7 _ rfl
    have g8 := hfl 8 _ rfl
    simp [cells3, cells4, cells9, cells28, cells29] at g0 g1 g2 g3 g4 g5 g6 g7 g8
    obtain ⟨k0, f0, _, b0⟩ := DataW.trod_int Tryz.underlying3 g0
    obtain ⟨s1, f1, e1, _⟩ := DataW.trod_string Tryz.underlying9 g1
    obtain ⟨s2, f2, e2, _⟩ := DataW.trod_string Tryz.underlying9 g2
    obtain ⟨s3, f3, e3, _⟩ := DataW.trod_string Tryz.underlying9 g3
    obtain ⟨s4, f4, e4, _⟩ := DataW.trod_string Tryz.underlying9 g4
    obtain ⟨p5, f5, _⟩ := DataW.trod_bool Tryz.underlying4 g5
    obtain ⟨k6, f6, _, b6⟩ := DataW.trod_int Tryz.underlying3 g6
    obtain ⟨q7, f7, i7, z7, _⟩ := vl_trod (cs := [v7, v8, v9]) rfl g7
    obtain ⟨l8, u8, f8, h8, i8, z8, w8⟩ := cols_trod g8
    simp at f0 f1 f2 f3 f4 f5 f6 f8
    have f7' : [v7, v8, v9] = vlL q7 := f7
    simp only [vlL, List.cons.injEq, and_true] at f7'
    obtain ⟨rfl, rfl, rfl⟩ := f7'
    subst f0 f1 f2 f3 f4 f5 f6 f8
    have t1 := bulk_text (congrArg Prod.fst e1)
    have t2 := bulk_text (congrArg Prod.fst e2)
    have t3 := bulk_text (congrArg Prod.fst e3)
    have t4 := bulk_text (congrArg Prod.fst e4)
    have hx : x.1 = .agg [y0.1, y1.1, y2.1, y3.1, y4.1, y5.1, y6.1, y7.1, y8.1] := by rw [hxy]; rfl
    refine ⟨⟨k0, s1, s2, s3, s4, p5, k6, q7, l8⟩, ⟨v10, rfl, h8⟩, ⟨bounds_i64 b0, bounds_i64 b6, i7, i8⟩, ?_, fun h => ?_⟩
    · rw [hx]
      simp only [Rows.uptoBulk, Rows.uptoBulkAll, ddB]
      omega
    · rw [hx] at h
      exact (w8 (fun n hn => h n (by
          simp only [DataW.weights, Tryz.underlying31, DataW.weightsEach, List.map_cons, List.mem_append]
          simp [hn]))).1
set_option maxRecDepth 100000 in
theorem open_sc {base : Nat} {v : Value} {d : DataW H} {p : List MemPlace} (hv : Value.okWide Tryz.prog W .any base 24 v) (h : DataW.Trod enc Tryz.prog W 0 (fun _ => true) true 24 v d p) : ∃ (s : Sc) (tv : Value), v = scV s tv ∧ Lr tbE 5 W s.tabs tv ∧ ScIn s ∧ scB s ≤ Rows.uptoBulk d ∧ ((∀ n ∈ DataW.weights Tryz.prog 24 d, n ≤ reachBytes) → ScQ s) := by
  obtain ⟨cs, rfl, hsz⟩ := okWide_struct Tryz.underlying24 hv
  obtain ⟨fuel, hf⟩ := h
  obtain ⟨l⟩ := cs
  have hl : l.length = 3 := hsz.trans cells24
  obtain ⟨s, ⟨tv, e, hL⟩, hI, hB, hQ⟩ := sc_trod (cs := l) hl hf
  subst e
  exact ⟨s, tv, rfl, hL, hI, hB, hQ⟩
set_option maxRecDepth 100000 in
theorem open_dd {base : Nat} {v : Value} {d : DataW H} {p : List MemPlace} (hv : Value.okWide Tryz.prog W .any base 31 v) (h : DataW.Trod enc Tryz.prog W 0 (fun _ => true) true 31 v d p) : ∃ (s : Dd) (tv : Value), v = ddV s tv ∧ Lr colE 7 W s.cols tv ∧ DdIn s ∧ ddB s ≤ Rows.uptoBulk d ∧ ((∀ n ∈ DataW.weights Tryz.prog 31 d, n ≤ reachBytes) → s.cols.length * 72 ≤ 140737488355328) := by
  obtain ⟨cs, rfl, hsz⟩ := okWide_struct Tryz.underlying31 hv
  obtain ⟨fuel, hf⟩ := h
  obtain ⟨l⟩ := cs
  have hl : l.length = 11 := hsz.trans cells31
  obtain ⟨s, ⟨tv, e, hL⟩, hI, hB, hQ⟩ := dd_trod (cs := l) hl hf
  subst e
  exact ⟨s, tv, rfl, hL, hI, hB, hQ⟩
theorem againT_sc {W' : World} {v : Value} {d : DataW H} {p : List MemPlace} (h : DataW.Trod enc Tryz.prog W 0 (fun _ => true) true 24 v d p) (hb : Below W.heap.size W W') (hlt : ∀ x ∈ p, x.block < W.heap.size) : DataW.Trod enc Tryz.prog W' 0 (fun b => decide (b < W.heap.size)) true 24 v d p :=
  Below.trod laidOut (by kernel_rfl) (of_decide_eq_true (by kernel_rfl)) h hb hlt
theorem againT_dd {W' : World} {v : Value} {d : DataW H} {p : List MemPlace} (h : DataW.Trod enc Tryz.prog W 0 (fun _ => true) true 31 v d p) (hb : Below W.heap.size W W') (hlt : ∀ x ∈ p, x.block < W.heap.size) : DataW.Trod enc Tryz.prog W' 0 (fun b => decide (b < W.heap.size)) true 31 v d p :=
  Below.trod laidOut (by kernel_rfl) (of_decide_eq_true (by kernel_rfl)) h hb hlt
theorem againT_str {W' : World} {v : Value} {d : DataW H} {p : List MemPlace} (h : DataW.Trod enc Tryz.prog W 0 (fun _ => true) true 9 v d p) (hb : Below W.heap.size W W') (hlt : ∀ x ∈ p, x.block < W.heap.size) : DataW.Trod enc Tryz.prog W' 0 (fun b => decide (b < W.heap.size)) true 9 v d p :=
  Below.trod laidOut (by kernel_rfl) (of_decide_eq_true (by kernel_rfl)) h hb hlt
theorem againT_int {W' : World} {v : Value} {d : DataW H} {p : List MemPlace} (h : DataW.Trod enc Tryz.prog W 0 (fun _ => true) true 3 v d p) (hb : Below W.heap.size W W') (hlt : ∀ x ∈ p, x.block < W.heap.size) : DataW.Trod enc Tryz.prog W' 0 (fun b => decide (b < W.heap.size)) true 3 v d p :=
  Below.trod laidOut (by kernel_rfl) (of_decide_eq_true (by kernel_rfl)) h hb hlt
end
end Go.Proofs.YtongmhfpoopebaaGreat

/- The document's text of a schema; same. -/
namespace Go.Proofs.YtongmhfpoopebaaGreat
open Go.RowKit
section
variable {w : World}
set_option maxHeartbeats 8000000 in
set_option maxRecDepth 100000 in
theorem schema_ref {s : Sc} {tv : Value} (hl : Lr tbE 5 w s.tabs tv) (hI : ScIn s) (hz : (schL s).length ≤ 1000000000) : Calls Tryz.prog 24 #[scV s tv] w fun e w' => e = .returned (.string (txt (schL s))) ∧ Below w.heap.size w w' := by
  have HL := Lib.hid hl
  obtain ⟨ta, tc, rfl, _, _, hcap, _⟩ := hl
  obtain ⟨n, hn⟩ : ∃ n, s.tabs.length = n := ⟨_, rfl⟩
  have hmx : (n : Int) ≤ 9223372036854775807 := by unfold maxLen at hcap; omega
  have hfull : schL s = numsL [s.ver, s.last] ++ num (n : Int) ++ s.tabs.flatMap tab1L := by unfold schL; rw [hn]
  rw [hfull] at hz
  have HZ := Lib.hid hz
  simp only [List.length_append] at hz
  unfold scV
  rw [hn]
  obtain ⟨V, hV⟩ : ∃ V, V = w.alloc (.cells #[.int .i64 s.ver, .int .i64 s.last, .slice ta n tc] 24) := ⟨_, rfl⟩
  have hb : Below w.heap.size w V := by rw [hV]; exact bnew _ _
  obtain ⟨Y, hY⟩ : ∃ Y, w.heap.size = Y := ⟨_, rfl⟩
  have jY : V.heap[Y]? = some (.cells #[.int .i64 s.ver, .int .i64 s.last, .slice ta n tc] 24 (0, 0)) := by rw [hV, ← hY]; exact heap_alloc_new w _
  have c0 : V.cell? ⟨Y, 0, none⟩ = some (.int .i64 s.ver) := cell_blk jY 0
  have c1 : V.cell? ⟨Y, 1, none⟩ = some (.int .i64 s.last) := cell_blk jY 1
  have c2 : V.cell? ⟨Y, 2, none⟩ = some (.slice ta n tc) := cell_blk jY 2
  have HT5 := Lib.hid (fun X F (hF : Ints X F [s.ver, s.last]) => nums_ref X 2 rfl (by omega) hF (fun z hz => by
    simp at hz
    rcases hz with rfl | rfl
    · exact hI.ver
    · exact hI.last))
  have HT9 := Lib.hid (fun X => num_ref (n : Int) X (by unfold I64; omega))
  have s10 := sum_ok (a := txt (numsL [s.ver, s.last])) (b := txt (num (n : Int))) (by rw [txt_size]; omega) (by rw [txt_size]; omega)
  have hend : txt (numsL [s.ver, s.last]) ++ txt (num (n : Int)) = txt (numsL [s.ver, s.last] ++ num (n : Int)) := by simp only [txt_append]
  have HEND := Lib.hid hend
  obtain ⟨pre, hpre⟩ : ∃ pre, numsL [s.ver, s.last] ++ num (n : Int) = pre := ⟨_, rfl⟩
  have HPRE : Hid (txt (numsL [s.ver, s.last] ++ num (n : Int)) = txt pre) := Lib.hid (by rw [hpre])
  rw [hpre] at hfull HZ
  have HFU := Lib.hid hfull
  have HN := Lib.hid hn
  have HTI := Lib.hid hI.t
  have HV := Lib.hid hV
  have HY := Lib.hid hY
  have HB := Lib.hid hb
  have HC2 : Hid (∀ X, Below V.heap.size V X → X.cell? ⟨Y, 2, none⟩ = some (.slice ta n tc)) := Lib.hid (fun X hX => cell_on hX c2)
  clear hV hY hb jY hz hend hfull hpre hn hI hcap
  go_enter Tryz.func24, Tryz.ntmps24
  go_upto_region 1 with fail
  rw [← HV.out, HY.out]
  refine wp_region_fin (fun X9 => Below V.heap.size V X9) (fun X9 X' => Below X9.heap.size X9 X') [
    fun v9 _ => v9 = .pointer (some ⟨Y, 0, none⟩),
    fun v9 _ => v9 = .int .i64 s.ver,
    fun v9 _ => v9 = .pointer (some ⟨Y, 1, none⟩),
    fun v9 _ => v9 = .int .i64 s.last,
    fun v9 X9 => ∃ F, v9 = .slice (some ⟨F, 0, none⟩) 2 2 ∧ Ints X9 F [s.ver, s.last],
    fun v9 _ => v9 = .string (txt (numsL [s.ver, s.last])),
    fun v9 _ => v9 = .pointer (some ⟨Y, 2, none⟩),
    fun v9 _ => v9 = .slice ta n tc,
    fun v9 _ => v9 = .int .i64 (n : Int),
    fun v9 _ => v9 = .string (txt (num (n : Int))),
    fun v9 _ => v9 = .string (txt (numsL [s.ver, s.last]) ++ txt (num (n : Int)))]
    (fun v9 X9 => v9 = .string (txt (numsL [s.ver, s.last]) ++ txt (num (n : Int))) ∧ Below V.heap.size V X9) rfl (by kernel_rfl) (by kernel_rfl) (by kernel_rfl) (by kernel_rfl) ?st ?g0 ?os ?la ?en
  case st => exact ⟨fun _ _ _ _ h => h, fun _ _ _ _ h => h, fun _ _ _ _ h => h, fun _ _ _ _ h => h, (fun _ _ _ hb h => by obtain ⟨F, e9, h9⟩ := h; exact ⟨F, e9, h9.on hb⟩), fun _ _ _ _ h => h, fun _ _ _ _ h => h, fun _ _ _ _ h => h, fun _ _ _ _ h => h, fun _ _ _ _ h => h, fun _ _ _ _ h => h, trivial⟩
  case g0 => exact ⟨rfl, rfl, rfl, Nat.le_refl _, fun _ _ => rfl⟩
  case os =>
    refine ⟨?_, ?_, ?_, ?_, ?_, ?_, ?_, ?_, ?_, ?_, ?_, trivial⟩
    · exact ⟨rfl, fun ρ X9 hg ho hc hf hr => Runs.val _ (op_f24_0 (show ρ (.tmp 1) = .pointer (some ⟨Y, 0, none⟩) from ho 1 rfl)) ⟨hg, Below.refl _ _, rfl⟩⟩
    · exact ⟨rfl, fun ρ X9 hg ho hc hf hr => Runs.val _ (op_load3 (show ρ (.tmp 10) = .pointer (some ⟨Y, 0, none⟩) from hr 0 10 rfl rfl) (cell_on hg c0)) ⟨hg, Below.refl _ _, rfl⟩⟩
    · exact ⟨rfl, fun ρ X9 hg ho hc hf hr => Runs.val _ (op_f24_1 (show ρ (.tmp 1) = .pointer (some ⟨Y, 0, none⟩) from ho 1 rfl)) ⟨hg, Below.refl _ _, rfl⟩⟩
    · exact ⟨rfl, fun ρ X9 hg ho hc hf hr => Runs.val _ (op_load3 (show ρ (.tmp 12) = .pointer (some ⟨Y, 1, none⟩) from hr 2 12 rfl rfl) (cell_on hg c1)) ⟨hg, Below.refl _ _, rfl⟩⟩
    · refine ⟨rfl, fun ρ X9 hg ho hc hf hr => ?_⟩
      have b7 : Below X9.heap.size X9 (X9.alloc (.cells #[.int .i64 s.ver, .int .i64 s.last] 3)) := (Below.refl _ X9).alloc (Nat.le_refl _) _
      refine Runs.val _ (op_ints2 (show ρ (.tmp 11) = .int .i64 s.ver from hr 1 11 rfl rfl) (show ρ (.tmp 13) = .int .i64 s.last from hr 3 13 rfl rfl)) ⟨hg.trans (b7.mono hg.size), b7, _, rfl, _, _, heap_alloc_new X9 _, fun i hi => ?_⟩
      match i, hi with
      | 0, _ => rfl
      | 1, _ => rfl
    · refine ⟨rfl, fun ρ X9 hg ho hc hf hr => ?_⟩
      obtain ⟨F, e9, h9⟩ : ∃ F, ρ (.tmp 14) = .slice (some ⟨F, 0, none⟩) 2 2 ∧ Ints X9 F [s.ver, s.last] := hr 4 14 rfl rfl
      refine Runs.goes 47 #[.slice (some ⟨F, 0, none⟩) 2 2] (op_call1 hf (by go_simp) e9) ((HT5.out X9 F h9).mono ?_)
      rintro e7 w7 ⟨rfl, b7⟩
      exact ⟨_, rfl, hg.trans (b7.mono hg.size), b7, rfl⟩
    · exact ⟨rfl, fun ρ X9 hg ho hc hf hr => Runs.val _ (op_f24_2 (show ρ (.tmp 1) = .pointer (some ⟨Y, 0, none⟩) from ho 1 rfl)) ⟨hg, Below.refl _ _, rfl⟩⟩
    · exact ⟨rfl, fun ρ X9 hg ho hc hf hr => Runs.val _ (op_load22 (show ρ (.tmp 16) = .pointer (some ⟨Y, 2, none⟩) from hr 6 16 rfl rfl) (cell_on hg c2)) ⟨hg, Below.refl _ _, rfl⟩⟩
    · exact ⟨rfl, fun ρ X9 hg ho hc hf hr => Runs.val _ (op_len22 (show ρ (.tmp 17) = .slice ta n tc from hr 7 17 rfl rfl)) ⟨hg, Below.refl _ _, rfl⟩⟩
    · refine ⟨rfl, fun ρ X9 hg ho hc hf hr => ?_⟩
      refine Runs.goes 48 #[.int .i64 (n : Int)] (op_call1 hf (by go_simp) (show ρ (.tmp 18) = .int .i64 (n : Int) from hr 8 18 rfl rfl)) ((HT9.out X9).mono ?_)
      rintro e7 w7 ⟨rfl, b7⟩
      exact ⟨_, rfl, hg.trans (b7.mono hg.size), b7, rfl⟩
    · exact ⟨rfl, fun ρ X9 hg ho hc hf hr => Runs.val _ (op_cat (show ρ (.tmp 15) = .string (txt (numsL [s.ver, s.last])) from hr 5 15 rfl rfl) (show ρ (.tmp 19) = .string (txt (num (n : Int))) from hr 9 19 rfl rfl) s10) ⟨hg, Below.refl _ _, rfl⟩⟩
  case la =>
    refine ⟨rfl, fun ρ X9 hg ho hc hf hr => ?_⟩
    exact Runs.val _ (op_assign (show ρ (.tmp 20) = .string (txt (numsL [s.ver, s.last]) ++ txt (num (n : Int))) from hr 10 20 (by decide) rfl)) ⟨rfl, hg⟩
  case en =>
    intro a9 X9 Xb v9 hF hs9 hd9 ho9 hv9 hr9
    obtain ⟨x9, hx, hxt⟩ := act_put hs9 hd9 ho9
    have e3 : x9 3 = .string (txt (numsL [s.ver, s.last]) ++ txt (num (n : Int))) := (hxt 3).symm.trans ((hv9 3 rfl).trans hF.1)
    change a9 = putAll _ x9 [10, 11, 12, 13, 14, 15, 16, 17, 18, 19, 20, 3] at hx
    simp only [putAll, Act.put, List.setIfInBounds_toArray, List.set_cons_zero, List.set_cons_succ, e3] at hx
    have HG := Lib.hid hF.2
    clear hF hs9 hd9 ho9 hv9 hr9 hxt e3
    subst hx
    generalize x9 10 = z10, x9 11 = z11, x9 12 = z12, x9 13 = z13, x9 14 = z14, x9 15 = z15, x9 16 = z16, x9 17 = z17, x9 18 = z18, x9 19 = z19, x9 20 = z20
    rw [HEND.out]
    rw [HPRE.out]
    have HB1 := Lib.hid (bgo HB.out HG.out)
    have HC3 : Hid (∀ X, Below X9.heap.size X9 X → X.cell? ⟨Y, 2, none⟩ = some (.slice ta n tc)) := Lib.hid (fun X hX => HC2.out X (bgo HG.out hX))
    obtain ⟨W1, rfl⟩ : ∃ W, W = X9 := ⟨_, rfl⟩
    have HL1 := Lib.hid (HL.out.on tbE_held HB1.out)
    clear HG HEND HC2 HPRE HL HT5 HT9 s10 c0 c1 c2
    have cY := HC3.out W1 (Below.refl _ _)
    go_wp2
    go_loopw [3, 4] (fun ov iv wr => TJ W1 pre tab1L s.tabs wr ov iv) (fun _ iv _ => n - (intOf iv).toNat)
    case atStart => exact ⟨0, Nat.zero_le _, rfl, by rw [List.take_zero]; simp, Below.refl _ _⟩
    case round =>
      clear cY
      obtain ⟨i, hi, rfl, rfl, hb⟩ := hrel
      obtain ⟨V, rfl⟩ : ∃ V, V = wr := ⟨_, rfl⟩
      have hin : i ≤ n := by rw [← HN.out]; exact hi
      have cY := HC3.out V hb
      by_cases hlt : i < n
      · have hiL : i < s.tabs.length := by rw [HN.out]; exact hlt
        have k0 : (0 : Int) ≤ i := by omega
        have k1 : (i : Int) < n := by omega
        obtain ⟨_, _, e1, _, _, _, hcs⟩ := HL1.out.on tbE_held hb
        obtain ⟨b, o, cs, ha, hbl, ⟨cv, iv, kv, rfl, h3⟩, _, hcell⟩ := hcs i hiL
        simp only [Value.slice.injEq] at e1
        obtain ⟨rfl, _, rfl⟩ := e1
        subst ha
        obtain ⟨ca, cc, rfl, _, _, _, _⟩ := h3.c
        obtain ⟨ia, ic, rfl, _, hmi1, hmi2, _⟩ := h3.i
        obtain ⟨ka, kc, rfl, _, hmk1, hmk2, _⟩ := h3.k
        have c0 := hcell 0 _ rfl
        have c1 := hcell 1 _ rfl
        have c2 := hcell 2 _ rfl
        have c3 := hcell 3 _ rfl
        have c4 := hcell 4 _ rfl
        simp only [Nat.add_zero] at c0
        have hnx := fm_next tab1L hiL
        have hln : (pre ++ (s.tabs.take (i + 1)).flatMap tab1L).length ≤ 1000000000 := by
          have h1 := HZ.out
          have h2 := fmy_take tab1L s.tabs (i + 1)
          simp only [List.length_append] at h1 ⊢
          omega
        have hti := HTI.out _ (List.getElem_mem hiL)
        obtain ⟨x, hx⟩ : ∃ x, s.tabs[i] = x := ⟨_, rfl⟩
        rw [hx] at c0 c1 c2 c3 c4 hnx hti h3 hmi1 hmk1
        obtain ⟨acc, hacc⟩ : ∃ acc, pre ++ (s.tabs.take i).flatMap tab1L = acc := ⟨_, rfl⟩
        have hna : pre ++ (s.tabs.take (i + 1)).flatMap tab1L = acc ++ tab1L x := by rw [hnx, ← List.append_assoc, hacc]
        rw [hna] at hln
        rw [hacc]
        have HNA := Lib.hid hna
        have HBV := Lib.hid (bgo HB1.out hb)
        have HBW := Lib.hid hb
        obtain ⟨mi, hmi⟩ : ∃ m, x.ixs.length = m := ⟨_, rfl⟩
        obtain ⟨mk, hmk0⟩ : ∃ m, x.fks.length = m := ⟨_, rfl⟩
        have hmi' : (mi : Int) ≤ 9223372036854775807 := by unfold maxLen at hmi2; omega
        have hmk : (mk : Int) ≤ 9223372036854775807 := by unfold maxLen at hmk2; omega
        obtain ⟨U, hU⟩ : ∃ U, U = V.alloc (.cells #[.int .i64 x.id, .string x.nm, .slice ca x.cols.length cc, .slice ia mi ic, .slice ka mk kc] 35) := ⟨_, rfl⟩
        obtain ⟨Q, hQ⟩ : ∃ Q, V.heap.size = Q := ⟨_, rfl⟩
        have bU : Below V.heap.size V U := by rw [hU]; exact bnew _ _
        have jU : U.heap[Q]? = some (.cells #[.int .i64 x.id, .string x.nm, .slice ca x.cols.length cc, .slice ia mi ic, .slice ka mk kc] 35 (0, 0)) := by rw [hU, ← hQ]; exact heap_alloc_new V _
        have g0 : U.cell? ⟨Q, 0, none⟩ = some (.int .i64 x.id) := cell_blk jU 0
        have g1 : U.cell? ⟨Q, 1, none⟩ = some (.string x.nm) := cell_blk jU 1
        have g2 : U.cell? ⟨Q, 2, none⟩ = some (.slice ca x.cols.length cc) := cell_blk jU 2
        have g3 : U.cell? ⟨Q, 3, none⟩ = some (.slice ia mi ic) := cell_blk jU 3
        have g4 : U.cell? ⟨Q, 4, none⟩ = some (.slice ka mk kc) := cell_blk jU 4
        have h3u := h3.on bU
        have hlc := h3u.c
        unfold tab1L tabIL at hln
        rw [hmi, hmk0] at hln
        simp only [List.length_append] at hln
        have HT3 := Lib.hid (fun X => num_ref x.id X hti.id)
        have s4 := sum_ok (a := txt acc) (b := txt (num x.id)) (by rw [txt_size]; omega) (by rw [txt_size]; omega)
        have HT7 := Lib.hid (fun X => text_ref x.nm X (by have := textL_len x.nm; omega))
        have s8 := sum_ok (a := txt acc ++ txt (num x.id)) (b := txt (textL x.nm)) (by simp only [txt_append, txt_size, List.length_append]; omega) (by rw [txt_size]; omega)
        have HT11 := Lib.hid (fun X (hX : Below U.heap.size U X) => cols_ref (hlc.on colE_held hX) hti.c (by omega))
        have s12 := sum_ok (a := txt acc ++ txt (num x.id) ++ txt (textL x.nm)) (b := txt (colsL x.cols)) (by simp only [txt_append, txt_size, List.length_append]; omega) (by rw [txt_size]; omega)
        have HT16 := Lib.hid (fun X => num_ref (mi : Int) X (by unfold I64; omega))
        have s17 := sum_ok (a := txt acc ++ txt (num x.id) ++ txt (textL x.nm) ++ txt (colsL x.cols)) (b := txt (num (mi : Int))) (by simp only [txt_append, txt_size, List.length_append]; omega) (by rw [txt_size]; omega)
        have hend : txt acc ++ txt (num x.id) ++ txt (textL x.nm) ++ txt (colsL x.cols) ++ txt (num (mi : Int)) = txt (acc ++ num x.id ++ textL x.nm ++ colsL x.cols ++ num (mi : Int)) := by simp only [txt_append]
        have HEND := Lib.hid hend
        obtain ⟨pre2, hp2⟩ : ∃ pre2, acc ++ num x.id ++ textL x.nm ++ colsL x.cols ++ num (mi : Int) = pre2 := ⟨_, rfl⟩
        have HP2 : Hid (txt (acc ++ num x.id ++ textL x.nm ++ colsL x.cols ++ num (mi : Int)) = txt pre2) := Lib.hid (by rw [hp2])
        have HX2 : Hid (acc ++ tab1L x = pre2 ++ x.ixs.flatMap ix1L ++ num (mk : Int) ++ x.fks.flatMap fk1L) := Lib.hid (by rw [← hp2]; unfold tab1L tabIL; rw [hmi, hmk0]; simp only [List.append_assoc])
        have HZmi : Hid ((pre2 ++ x.ixs.flatMap ix1L ++ num (mk : Int) ++ x.fks.flatMap fk1L).length ≤ 1000000000) := Lib.hid (by rw [← hp2]; simp only [List.length_append]; omega)
        have HImi : Hid (∀ y ∈ x.ixs, IxIn y) := Lib.hid hti.i
        have HImk : Hid (∀ y ∈ x.fks, FkIn y) := Lib.hid hti.k
        have H3I := h3u.i
        have H3K := h3u.k
        rw [hmi] at H3I
        rw [hmk0] at H3K
        have HLI := Lib.hid H3I
        have HLK := Lib.hid H3K
        have Hmi := Lib.hid hmi
        have Hmk := Lib.hid hmk0
        have HQ := Lib.hid hQ
        have HU := Lib.hid hU
        have HBU := Lib.hid bU
        rw [hmi] at c3
        rw [hmk0] at c4
        clear hcs hcell hb hx hnx hna hln hacc hend hti hU hQ bU jU hmi hmk0 h3 h3u hlc H3I H3K hmi1 hmi2 hmk1 hmk2 hp2
        go_upto_region 6 with fail
        rw [← HU.out, HQ.out]
        clear c0 c1 c2 c3 c4 cY
        refine wp_region_fin (fun X9 => Below U.heap.size U X9) (fun X9 X' => Below X9.heap.size X9 X') [
          fun v9 _ => v9 = .string (txt acc),
          fun v9 _ => v9 = .pointer (some ⟨Q, 0, none⟩),
          fun v9 _ => v9 = .int .i64 x.id,
          fun v9 _ => v9 = .string (txt (num x.id)),
          fun v9 _ => v9 = .string (txt acc ++ txt (num x.id)),
          fun v9 _ => v9 = .pointer (some ⟨Q, 1, none⟩),
          fun v9 _ => v9 = .string x.nm,
          fun v9 _ => v9 = .string (txt (textL x.nm)),
          fun v9 _ => v9 = .string (txt acc ++ txt (num x.id) ++ txt (textL x.nm)),
          fun v9 _ => v9 = .pointer (some ⟨Q, 2, none⟩),
          fun v9 _ => v9 = .slice ca x.cols.length cc,
          fun v9 _ => v9 = .string (txt (colsL x.cols)),
          fun v9 _ => v9 = .string (txt acc ++ txt (num x.id) ++ txt (textL x.nm) ++ txt (colsL x.cols)),
          fun v9 _ => v9 = .pointer (some ⟨Q, 3, none⟩),
          fun v9 _ => v9 = .slice ia mi ic,
          fun v9 _ => v9 = .int .i64 (mi : Int),
          fun v9 _ => v9 = .string (txt (num (mi : Int))),
          fun v9 _ => v9 = .string (txt acc ++ txt (num x.id) ++ txt (textL x.nm) ++ txt (colsL x.cols) ++ txt (num (mi : Int)))]
          (fun v9 X9 => v9 = .string (txt acc ++ txt (num x.id) ++ txt (textL x.nm) ++ txt (colsL x.cols) ++ txt (num (mi : Int))) ∧ Below U.heap.size U X9) rfl (by kernel_rfl) (by kernel_rfl) (by kernel_rfl) (by kernel_rfl) ?st ?g0 ?os ?la ?en
        case st => exact ⟨fun _ _ _ _ h => h, fun _ _ _ _ h => h, fun _ _ _ _ h => h, fun _ _ _ _ h => h, fun _ _ _ _ h => h, fun _ _ _ _ h => h, fun _ _ _ _ h => h, fun _ _ _ _ h => h, fun _ _ _ _ h => h, fun _ _ _ _ h => h, fun _ _ _ _ h => h, fun _ _ _ _ h => h, fun _ _ _ _ h => h, fun _ _ _ _ h => h, fun _ _ _ _ h => h, fun _ _ _ _ h => h, fun _ _ _ _ h => h, fun _ _ _ _ h => h, trivial⟩
        case g0 => exact ⟨rfl, rfl, rfl, Nat.le_refl _, fun _ _ => rfl⟩
        case os =>
          refine ⟨?_, ?_, ?_, ?_, ?_, ?_, ?_, ?_, ?_, ?_, ?_, ?_, ?_, ?_, ?_, ?_, ?_, ?_, trivial⟩
          · exact ⟨rfl, fun ρ X9 hg ho hc hf hr => Runs.val _ (op_move (show ρ (.tmp 3) = .string (txt acc) from ho 3 rfl)) ⟨hg, Below.refl _ _, rfl⟩⟩
          · exact ⟨rfl, fun ρ X9 hg ho hc hf hr => Runs.val _ (op_f35_0 (show ρ (.tmp 5) = .pointer (some ⟨Q, 0, none⟩) from ho 5 rfl)) ⟨hg, Below.refl _ _, rfl⟩⟩
          · exact ⟨rfl, fun ρ X9 hg ho hc hf hr => Runs.val _ (op_load3 (show ρ (.tmp 34) = .pointer (some ⟨Q, 0, none⟩) from hr 1 34 rfl rfl) (cell_on hg g0)) ⟨hg, Below.refl _ _, rfl⟩⟩
          · refine ⟨rfl, fun ρ X9 hg ho hc hf hr => ?_⟩
            refine Runs.goes 48 #[.int .i64 x.id] (op_call1 hf (by go_simp) (show ρ (.tmp 35) = .int .i64 x.id from hr 2 35 rfl rfl)) ((HT3.out X9).mono ?_)
            rintro e7 w7 ⟨rfl, b7⟩
            exact ⟨_, rfl, hg.trans (b7.mono hg.size), b7, rfl⟩
          · exact ⟨rfl, fun ρ X9 hg ho hc hf hr => Runs.val _ (op_cat (show ρ (.tmp 33) = .string (txt acc) from hr 0 33 rfl rfl) (show ρ (.tmp 36) = .string (txt (num x.id)) from hr 3 36 rfl rfl) s4) ⟨hg, Below.refl _ _, rfl⟩⟩
          · exact ⟨rfl, fun ρ X9 hg ho hc hf hr => Runs.val _ (op_f35_1 (show ρ (.tmp 5) = .pointer (some ⟨Q, 0, none⟩) from ho 5 rfl)) ⟨hg, Below.refl _ _, rfl⟩⟩
          · exact ⟨rfl, fun ρ X9 hg ho hc hf hr => Runs.val _ (op_load9 (show ρ (.tmp 38) = .pointer (some ⟨Q, 1, none⟩) from hr 5 38 rfl rfl) (cell_on hg g1)) ⟨hg, Below.refl _ _, rfl⟩⟩
          · refine ⟨rfl, fun ρ X9 hg ho hc hf hr => ?_⟩
            refine Runs.goes 49 #[.string x.nm] (op_call1 hf (by go_simp) (show ρ (.tmp 39) = .string x.nm from hr 6 39 rfl rfl)) ((HT7.out X9).mono ?_)
            rintro e7 w7 ⟨rfl, b7⟩
            exact ⟨_, rfl, hg.trans (b7.mono hg.size), b7, rfl⟩
          · exact ⟨rfl, fun ρ X9 hg ho hc hf hr => Runs.val _ (op_cat (show ρ (.tmp 37) = .string (txt acc ++ txt (num x.id)) from hr 4 37 rfl rfl) (show ρ (.tmp 40) = .string (txt (textL x.nm)) from hr 7 40 rfl rfl) s8) ⟨hg, Below.refl _ _, rfl⟩⟩
          · exact ⟨rfl, fun ρ X9 hg ho hc hf hr => Runs.val _ (op_f35_2 (show ρ (.tmp 5) = .pointer (some ⟨Q, 0, none⟩) from ho 5 rfl)) ⟨hg, Below.refl _ _, rfl⟩⟩
          · exact ⟨rfl, fun ρ X9 hg ho hc hf hr => Runs.val _ (op_load29 (show ρ (.tmp 42) = .pointer (some ⟨Q, 2, none⟩) from hr 9 42 rfl rfl) (cell_on hg g2)) ⟨hg, Below.refl _ _, rfl⟩⟩
          · refine ⟨rfl, fun ρ X9 hg ho hc hf hr => ?_⟩
            refine Runs.goes 50 #[.slice ca x.cols.length cc] (op_call1 hf (by go_simp) (show ρ (.tmp 43) = .slice ca x.cols.length cc from hr 10 43 rfl rfl)) ((HT11.out X9 hg).mono ?_)
            rintro e7 w7 ⟨rfl, b7⟩
            exact ⟨_, rfl, hg.trans (b7.mono hg.size), b7, rfl⟩
          · exact ⟨rfl, fun ρ X9 hg ho hc hf hr => Runs.val _ (op_cat (show ρ (.tmp 41) = .string (txt acc ++ txt (num x.id) ++ txt (textL x.nm)) from hr 8 41 rfl rfl) (show ρ (.tmp 44) = .string (txt (colsL x.cols)) from hr 11 44 rfl rfl) s12) ⟨hg, Below.refl _ _, rfl⟩⟩
          · exact ⟨rfl, fun ρ X9 hg ho hc hf hr => Runs.val _ (op_f35_3 (show ρ (.tmp 5) = .pointer (some ⟨Q, 0, none⟩) from ho 5 rfl)) ⟨hg, Below.refl _ _, rfl⟩⟩
          · exact ⟨rfl, fun ρ X9 hg ho hc hf hr => Runs.val _ (op_load32 (show ρ (.tmp 46) = .pointer (some ⟨Q, 3, none⟩) from hr 13 46 rfl rfl) (cell_on hg g3)) ⟨hg, Below.refl _ _, rfl⟩⟩
          · exact ⟨rfl, fun ρ X9 hg ho hc hf hr => Runs.val _ (op_len32 (show ρ (.tmp 47) = .slice ia mi ic from hr 14 47 rfl rfl)) ⟨hg, Below.refl _ _, rfl⟩⟩
          · refine ⟨rfl, fun ρ X9 hg ho hc hf hr => ?_⟩
            refine Runs.goes 48 #[.int .i64 (mi : Int)] (op_call1 hf (by go_simp) (show ρ (.tmp 48) = .int .i64 (mi : Int) from hr 15 48 rfl rfl)) ((HT16.out X9).mono ?_)
            rintro e7 w7 ⟨rfl, b7⟩
            exact ⟨_, rfl, hg.trans (b7.mono hg.size), b7, rfl⟩
          · exact ⟨rfl, fun ρ X9 hg ho hc hf hr => Runs.val _ (op_cat (show ρ (.tmp 45) = .string (txt acc ++ txt (num x.id) ++ txt (textL x.nm) ++ txt (colsL x.cols)) from hr 12 45 rfl rfl) (show ρ (.tmp 49) = .string (txt (num (mi : Int))) from hr 16 49 rfl rfl) s17) ⟨hg, Below.refl _ _, rfl⟩⟩
        case la =>
          refine ⟨rfl, fun ρ X9 hg ho hc hf hr => ?_⟩
          exact Runs.val _ (op_assign (show ρ (.tmp 50) = .string (txt acc ++ txt (num x.id) ++ txt (textL x.nm) ++ txt (colsL x.cols) ++ txt (num (mi : Int))) from hr 17 50 (by decide) rfl)) ⟨rfl, hg⟩
        case en =>
          intro a9 X9 Xb v9 hF hs9 hd9 ho9 hv9 hr9
          obtain ⟨x9, hx, hxt⟩ := act_put hs9 hd9 ho9
          have e3 : x9 3 = .string (txt acc ++ txt (num x.id) ++ txt (textL x.nm) ++ txt (colsL x.cols) ++ txt (num (mi : Int))) := (hxt 3).symm.trans ((hv9 3 rfl).trans hF.1)
          change a9 = putAll _ x9 [33, 34, 35, 36, 37, 38, 39, 40, 41, 42, 43, 44, 45, 46, 47, 48, 49, 50, 3] at hx
          simp only [putAll, Act.put, List.setIfInBounds_toArray, List.set_cons_zero, List.set_cons_succ, e3] at hx
          have HG := Lib.hid hF.2
          clear hF hs9 hd9 ho9 hv9 hr9 hxt e3
          subst hx
          generalize x9 33 = z33, x9 34 = z34, x9 35 = z35, x9 36 = z36, x9 37 = z37, x9 38 = z38, x9 39 = z39, x9 40 = z40, x9 41 = z41, x9 42 = z42, x9 43 = z43, x9 44 = z44, x9 45 = z45, x9 46 = z46, x9 47 = z47, x9 48 = z48, x9 49 = z49, x9 50 = z50
          rw [HEND.out]
          rw [HP2.out]
          have HB2 := Lib.hid (bgo HBW.out (bgo HBU.out HG.out))
          have HCX : Hid (∀ Y, Below X9.heap.size X9 Y → Y.cell? ⟨Q, 3, none⟩ = some (.slice ia mi ic) ∧ Y.cell? ⟨Q, 4, none⟩ = some (.slice ka mk kc)) := Lib.hid (fun Y hY => ⟨cell_on hY (cell_on HG.out g3), cell_on hY (cell_on HG.out g4)⟩)
          have HLmi := Lib.hid (HLI.out.on ixE_held HG.out)
          have HLmk := Lib.hid (HLK.out.on fkE_held HG.out)
          clear HG HEND HP2 HLI HLK HT3 s4 HT7 s8 HT11 s12 HT16 s17 g0 g1 g2 g3 g4
          obtain ⟨W2, rfl⟩ : ∃ W, W = X9 := ⟨_, rfl⟩
          go_wp2
          go_loopw [3, 6] (fun ov iv wr => TJ W2 pre2 ix1L x.ixs wr ov iv) (fun _ iv _ => mi - (intOf iv).toNat)
          case atStart => exact ⟨0, Nat.zero_le _, rfl, by rw [List.take_zero]; simp, Below.refl _ _⟩
          case round =>
            obtain ⟨j, hj, rfl, rfl, hbj⟩ := hrel
            obtain ⟨V, rfl⟩ : ∃ V, V = wr := ⟨_, rfl⟩
            have hjm : j ≤ mi := by rw [← Hmi.out]; exact hj
            have cl := (HCX.out V hbj).1
            by_cases hltj : j < mi
            · have hjL : j < x.ixs.length := by rw [Hmi.out]; exact hltj
              have m0 : (0 : Int) ≤ j := by omega
              have m1 : (j : Int) < mi := by omega
              obtain ⟨_, _, e1, _, _, _, hcs⟩ := HLmi.out.on ixE_held hbj
              obtain ⟨b3, o3, cs3, ha, _, hE, _, hcell⟩ := hcs j hjL
              have hE' : cs3 = ixL x.ixs[j] := hE
              subst hE'
              simp only [Value.slice.injEq] at e1
              obtain ⟨rfl, _, rfl⟩ := e1
              subst ha
              have d0 := hcell 0 _ rfl
              have d1 := hcell 1 _ rfl
              have d2 := hcell 2 _ rfl
              have d3 := hcell 3 _ rfl
              have d4 := hcell 4 _ rfl
              simp only [Nat.add_zero] at d0
              have hnx := fm_next ix1L hjL
              have hln : (pre2 ++ (x.ixs.take (j + 1)).flatMap ix1L).length ≤ 1000000000 := by
                have h1 := HZmi.out
                have h2 := fmy_take ix1L x.ixs (j + 1)
                simp only [List.length_append] at h1 ⊢
                omega
              have hti := HImi.out _ (List.getElem_mem hjL)
              obtain ⟨y, hy⟩ : ∃ y, x.ixs[j] = y := ⟨_, rfl⟩
              rw [hy] at d0 d1 d2 d3 d4 hnx hti
              obtain ⟨acc2, hacc⟩ : ∃ acc2, pre2 ++ (x.ixs.take j).flatMap ix1L = acc2 := ⟨_, rfl⟩
              have hna : pre2 ++ (x.ixs.take (j + 1)).flatMap ix1L = acc2 ++ ix1L y := by rw [hnx, ← List.append_assoc, hacc]
              rw [hna] at hln
              rw [hacc]
              have HNB := Lib.hid hna
              have HBJ := Lib.hid hbj
              unfold ix1L at hln
              simp only [List.length_append] at hln
              have HT3 := Lib.hid (fun X => num_ref y.id X hti.id)
              have s4 := sum_ok (a := txt acc2) (b := txt (num y.id)) (by rw [txt_size]; omega) (by rw [txt_size]; omega)
              have HT7 := Lib.hid (fun X => text_ref y.nm X (by have := textL_len y.nm; omega))
              have s8 := sum_ok (a := txt acc2 ++ txt (num y.id)) (b := txt (textL y.nm)) (by simp only [txt_append, txt_size, List.length_append]; omega) (by rw [txt_size]; omega)
              have HT11 := Lib.hid (fun X => num_ref y.col X hti.col)
              have s12 := sum_ok (a := txt acc2 ++ txt (num y.id) ++ txt (textL y.nm)) (b := txt (num y.col)) (by simp only [txt_append, txt_size, List.length_append]; omega) (by rw [txt_size]; omega)
              have HT15 := Lib.hid (fun X => flag_ref y.uq X)
              have s16 := sum_ok (a := txt acc2 ++ txt (num y.id) ++ txt (textL y.nm) ++ txt (num y.col)) (b := txt (flagL y.uq)) (by simp only [txt_append, txt_size, List.length_append]; omega) (by rw [txt_size]; omega)
              have HT19 := Lib.hid (fun X => num_ref y.st X hti.st)
              have s20 := sum_ok (a := txt acc2 ++ txt (num y.id) ++ txt (textL y.nm) ++ txt (num y.col) ++ txt (flagL y.uq)) (b := txt (num y.st)) (by simp only [txt_append, txt_size, List.length_append]; omega) (by rw [txt_size]; omega)
              have hend : txt acc2 ++ txt (num y.id) ++ txt (textL y.nm) ++ txt (num y.col) ++ txt (flagL y.uq) ++ txt (num y.st) = txt (acc2 ++ num y.id ++ textL y.nm ++ num y.col ++ flagL y.uq ++ num y.st) := by simp only [txt_append]
              have HEND := Lib.hid hend
              have hfin : acc2 ++ num y.id ++ textL y.nm ++ num y.col ++ flagL y.uq ++ num y.st = acc2 ++ ix1L y := by unfold ix1L; simp only [List.append_assoc]
              have HFIN := Lib.hid hfin
              obtain ⟨U, hU⟩ : ∃ U, U = V.alloc (.cells (ixA y) 71) := ⟨_, rfl⟩
              obtain ⟨Z, hZ⟩ : ∃ Z, V.heap.size = Z := ⟨_, rfl⟩
              have bU : Below V.heap.size V U := by rw [hU]; exact bnew _ _
              have jU : U.heap[Z]? = some (.cells (ixA y) 71 (0, 0)) := by rw [hU, ← hZ]; exact heap_alloc_new V _
              have g0 : U.cell? ⟨Z, 0, none⟩ = some (.int .i64 y.id) := cell_blk jU 0
              have g1 : U.cell? ⟨Z, 1, none⟩ = some (.string y.nm) := cell_blk jU 1
              have g2 : U.cell? ⟨Z, 2, none⟩ = some (.int .i64 y.col) := cell_blk jU 2
              have g3 : U.cell? ⟨Z, 3, none⟩ = some (.bool y.uq) := cell_blk jU 3
              have g4 : U.cell? ⟨Z, 4, none⟩ = some (.int .i64 y.st) := cell_blk jU 4
              have HU := Lib.hid hU
              have HZZ := Lib.hid hZ
              have HBU := Lib.hid bU
              clear hcs hcell hE hbj hy hnx hna hln hacc hend hti hfin hU hZ bU jU
              go_upto_region 11 with fail
              rw [← HU.out, HZZ.out]
              clear cl d0 d1 d2 d3 d4
              refine wp_region_fin (fun X9 => Below U.heap.size U X9) (fun X9 X' => Below X9.heap.size X9 X') [
                fun v9 _ => v9 = .string (txt acc2),
                fun v9 _ => v9 = .pointer (some ⟨Z, 0, none⟩),
                fun v9 _ => v9 = .int .i64 y.id,
                fun v9 _ => v9 = .string (txt (num y.id)),
                fun v9 _ => v9 = .string (txt acc2 ++ txt (num y.id)),
                fun v9 _ => v9 = .pointer (some ⟨Z, 1, none⟩),
                fun v9 _ => v9 = .string y.nm,
                fun v9 _ => v9 = .string (txt (textL y.nm)),
                fun v9 _ => v9 = .string (txt acc2 ++ txt (num y.id) ++ txt (textL y.nm)),
                fun v9 _ => v9 = .pointer (some ⟨Z, 2, none⟩),
                fun v9 _ => v9 = .int .i64 y.col,
                fun v9 _ => v9 = .string (txt (num y.col)),
                fun v9 _ => v9 = .string (txt acc2 ++ txt (num y.id) ++ txt (textL y.nm) ++ txt (num y.col)),
                fun v9 _ => v9 = .pointer (some ⟨Z, 3, none⟩),
                fun v9 _ => v9 = .bool y.uq,
                fun v9 _ => v9 = .string (txt (flagL y.uq)),
                fun v9 _ => v9 = .string (txt acc2 ++ txt (num y.id) ++ txt (textL y.nm) ++ txt (num y.col) ++ txt (flagL y.uq)),
                fun v9 _ => v9 = .pointer (some ⟨Z, 4, none⟩),
                fun v9 _ => v9 = .int .i64 y.st,
                fun v9 _ => v9 = .string (txt (num y.st)),
                fun v9 _ => v9 = .string (txt acc2 ++ txt (num y.id) ++ txt (textL y.nm) ++ txt (num y.col) ++ txt (flagL y.uq) ++ txt (num y.st))]
                (fun v9 X9 => v9 = .string (txt acc2 ++ txt (num y.id) ++ txt (textL y.nm) ++ txt (num y.col) ++ txt (flagL y.uq) ++ txt (num y.st)) ∧ Below U.heap.size U X9) rfl (by kernel_rfl) (by kernel_rfl) (by kernel_rfl) (by kernel_rfl) ?st ?g0 ?os ?la ?en
              case st => exact ⟨fun _ _ _ _ h => h, fun _ _ _ _ h => h, fun _ _ _ _ h => h, fun _ _ _ _ h => h, fun _ _ _ _ h => h, fun _ _ _ _ h => h, fun _ _ _ _ h => h, fun _ _ _ _ h => h, fun _ _ _ _ h => h, fun _ _ _ _ h => h, fun _ _ _ _ h => h, fun _ _ _ _ h => h, fun _ _ _ _ h => h, fun _ _ _ _ h => h, fun _ _ _ _ h => h, fun _ _ _ _ h => h, fun _ _ _ _ h => h, fun _ _ _ _ h => h, fun _ _ _ _ h => h, fun _ _ _ _ h => h, fun _ _ _ _ h => h, trivial⟩
              case g0 => exact ⟨rfl, rfl, rfl, Nat.le_refl _, fun _ _ => rfl⟩
              case os =>
                refine ⟨?_, ?_, ?_, ?_, ?_, ?_, ?_, ?_, ?_, ?_, ?_, ?_, ?_, ?_, ?_, ?_, ?_, ?_, ?_, ?_, ?_, trivial⟩
                · exact ⟨rfl, fun ρ X9 hg ho hc hf hr => Runs.val _ (op_move (show ρ (.tmp 3) = .string (txt acc2) from ho 3 rfl)) ⟨hg, Below.refl _ _, rfl⟩⟩
                · exact ⟨rfl, fun ρ X9 hg ho hc hf hr => Runs.val _ (op_f71_0 (show ρ (.tmp 7) = .pointer (some ⟨Z, 0, none⟩) from ho 7 rfl)) ⟨hg, Below.refl _ _, rfl⟩⟩
                · exact ⟨rfl, fun ρ X9 hg ho hc hf hr => Runs.val _ (op_load3 (show ρ (.tmp 64) = .pointer (some ⟨Z, 0, none⟩) from hr 1 64 rfl rfl) (cell_on hg g0)) ⟨hg, Below.refl _ _, rfl⟩⟩
                · refine ⟨rfl, fun ρ X9 hg ho hc hf hr => ?_⟩
                  refine Runs.goes 48 #[.int .i64 y.id] (op_call1 hf (by go_simp) (show ρ (.tmp 65) = .int .i64 y.id from hr 2 65 rfl rfl)) ((HT3.out X9).mono ?_)
                  rintro e7 w7 ⟨rfl, b7⟩
                  exact ⟨_, rfl, hg.trans (b7.mono hg.size), b7, rfl⟩
                · exact ⟨rfl, fun ρ X9 hg ho hc hf hr => Runs.val _ (op_cat (show ρ (.tmp 63) = .string (txt acc2) from hr 0 63 rfl rfl) (show ρ (.tmp 66) = .string (txt (num y.id)) from hr 3 66 rfl rfl) s4) ⟨hg, Below.refl _ _, rfl⟩⟩
                · exact ⟨rfl, fun ρ X9 hg ho hc hf hr => Runs.val _ (op_f71_1 (show ρ (.tmp 7) = .pointer (some ⟨Z, 0, none⟩) from ho 7 rfl)) ⟨hg, Below.refl _ _, rfl⟩⟩
                · exact ⟨rfl, fun ρ X9 hg ho hc hf hr => Runs.val _ (op_load9 (show ρ (.tmp 68) = .pointer (some ⟨Z, 1, none⟩) from hr 5 68 rfl rfl) (cell_on hg g1)) ⟨hg, Below.refl _ _, rfl⟩⟩
                · refine ⟨rfl, fun ρ X9 hg ho hc hf hr => ?_⟩
                  refine Runs.goes 49 #[.string y.nm] (op_call1 hf (by go_simp) (show ρ (.tmp 69) = .string y.nm from hr 6 69 rfl rfl)) ((HT7.out X9).mono ?_)
                  rintro e7 w7 ⟨rfl, b7⟩
                  exact ⟨_, rfl, hg.trans (b7.mono hg.size), b7, rfl⟩
                · exact ⟨rfl, fun ρ X9 hg ho hc hf hr => Runs.val _ (op_cat (show ρ (.tmp 67) = .string (txt acc2 ++ txt (num y.id)) from hr 4 67 rfl rfl) (show ρ (.tmp 70) = .string (txt (textL y.nm)) from hr 7 70 rfl rfl) s8) ⟨hg, Below.refl _ _, rfl⟩⟩
                · exact ⟨rfl, fun ρ X9 hg ho hc hf hr => Runs.val _ (op_f71_2 (show ρ (.tmp 7) = .pointer (some ⟨Z, 0, none⟩) from ho 7 rfl)) ⟨hg, Below.refl _ _, rfl⟩⟩
                · exact ⟨rfl, fun ρ X9 hg ho hc hf hr => Runs.val _ (op_load3 (show ρ (.tmp 72) = .pointer (some ⟨Z, 2, none⟩) from hr 9 72 rfl rfl) (cell_on hg g2)) ⟨hg, Below.refl _ _, rfl⟩⟩
                · refine ⟨rfl, fun ρ X9 hg ho hc hf hr => ?_⟩
                  refine Runs.goes 48 #[.int .i64 y.col] (op_call1 hf (by go_simp) (show ρ (.tmp 73) = .int .i64 y.col from hr 10 73 rfl rfl)) ((HT11.out X9).mono ?_)
                  rintro e7 w7 ⟨rfl, b7⟩
                  exact ⟨_, rfl, hg.trans (b7.mono hg.size), b7, rfl⟩
                · exact ⟨rfl, fun ρ X9 hg ho hc hf hr => Runs.val _ (op_cat (show ρ (.tmp 71) = .string (txt acc2 ++ txt (num y.id) ++ txt (textL y.nm)) from hr 8 71 rfl rfl) (show ρ (.tmp 74) = .string (txt (num y.col)) from hr 11 74 rfl rfl) s12) ⟨hg, Below.refl _ _, rfl⟩⟩
                · exact ⟨rfl, fun ρ X9 hg ho hc hf hr => Runs.val _ (op_f71_3 (show ρ (.tmp 7) = .pointer (some ⟨Z, 0, none⟩) from ho 7 rfl)) ⟨hg, Below.refl _ _, rfl⟩⟩
                · exact ⟨rfl, fun ρ X9 hg ho hc hf hr => Runs.val _ (op_load4 (show ρ (.tmp 76) = .pointer (some ⟨Z, 3, none⟩) from hr 13 76 rfl rfl) (cell_on hg g3)) ⟨hg, Below.refl _ _, rfl⟩⟩
                · refine ⟨rfl, fun ρ X9 hg ho hc hf hr => ?_⟩
                  refine Runs.goes 51 #[.bool y.uq] (op_call1 hf (by go_simp) (show ρ (.tmp 77) = .bool y.uq from hr 14 77 rfl rfl)) ((HT15.out X9).mono ?_)
                  rintro e7 w7 ⟨rfl, b7⟩
                  exact ⟨_, rfl, hg.trans (b7.mono hg.size), b7, rfl⟩
                · exact ⟨rfl, fun ρ X9 hg ho hc hf hr => Runs.val _ (op_cat (show ρ (.tmp 75) = .string (txt acc2 ++ txt (num y.id) ++ txt (textL y.nm) ++ txt (num y.col)) from hr 12 75 rfl rfl) (show ρ (.tmp 78) = .string (txt (flagL y.uq)) from hr 15 78 rfl rfl) s16) ⟨hg, Below.refl _ _, rfl⟩⟩
                · exact ⟨rfl, fun ρ X9 hg ho hc hf hr => Runs.val _ (op_f71_4 (show ρ (.tmp 7) = .pointer (some ⟨Z, 0, none⟩) from ho 7 rfl)) ⟨hg, Below.refl _ _, rfl⟩⟩
                · exact ⟨rfl, fun ρ X9 hg ho hc hf hr => Runs.val _ (op_load3 (show ρ (.tmp 80) = .pointer (some ⟨Z, 4, none⟩) from hr 17 80 rfl rfl) (cell_on hg g4)) ⟨hg, Below.refl _ _, rfl⟩⟩
                · refine ⟨rfl, fun ρ X9 hg ho hc hf hr => ?_⟩
                  refine Runs.goes 48 #[.int .i64 y.st] (op_call1 hf (by go_simp) (show ρ (.tmp 81) = .int .i64 y.st from hr 18 81 rfl rfl)) ((HT19.out X9).mono ?_)
                  rintro e7 w7 ⟨rfl, b7⟩
                  exact ⟨_, rfl, hg.trans (b7.mono hg.size), b7, rfl⟩
                · exact ⟨rfl, fun ρ X9 hg ho hc hf hr => Runs.val _ (op_cat (show ρ (.tmp 79) = .string (txt acc2 ++ txt (num y.id) ++ txt (textL y.nm) ++ txt (num y.col) ++ txt (flagL y.uq)) from hr 16 79 rfl rfl) (show ρ (.tmp 82) = .string (txt (num y.st)) from hr 19 82 rfl rfl) s20) ⟨hg, Below.refl _ _, rfl⟩⟩
              case la =>
                refine ⟨rfl, fun ρ X9 hg ho hc hf hr => ?_⟩
                exact Runs.val _ (op_assign (show ρ (.tmp 83) = .string (txt acc2 ++ txt (num y.id) ++ txt (textL y.nm) ++ txt (num y.col) ++ txt (flagL y.uq) ++ txt (num y.st)) from hr 20 83 (by decide) rfl)) ⟨rfl, hg⟩
              case en =>
                intro a9 X9 Xb v9 hF hs9 hd9 ho9 hv9 hr9
                obtain ⟨x9, hx, hxt⟩ := act_put hs9 hd9 ho9
                have e3 : x9 3 = .string (txt acc2 ++ txt (num y.id) ++ txt (textL y.nm) ++ txt (num y.col) ++ txt (flagL y.uq) ++ txt (num y.st)) := (hxt 3).symm.trans ((hv9 3 rfl).trans hF.1)
                change a9 = putAll _ x9 [63, 64, 65, 66, 67, 68, 69, 70, 71, 72, 73, 74, 75, 76, 77, 78, 79, 80, 81, 82, 83, 3] at hx
                simp only [putAll, Act.put, List.setIfInBounds_toArray, List.set_cons_zero, List.set_cons_succ, e3] at hx
                have HG := Lib.hid hF.2
                clear hF hs9 hd9 ho9 hv9 hr9 hxt e3
                subst hx
                generalize x9 63 = z63, x9 64 = z64, x9 65 = z65, x9 66 = z66, x9 67 = z67, x9 68 = z68, x9 69 = z69, x9 70 = z70, x9 71 = z71, x9 72 = z72, x9 73 = z73, x9 74 = z74, x9 75 = z75, x9 76 = z76, x9 77 = z77, x9 78 = z78, x9 79 = z79, x9 80 = z80, x9 81 = z81, x9 82 = z82, x9 83 = z83
                rw [HEND.out]
                rw [HFIN.out]
                go_wp2
                go_roundw
                case rel => exact ⟨j + 1, hjL, by go_num, by rw [HNB.out], bgo HBJ.out (bgo HBU.out HG.out)⟩
                case measure => simp [intOf]; omega
            · have m1 : ¬ ((j : Int) < mi) := by omega
              have ei : (x.ixs.take j) = x.ixs := List.take_of_length_le (by rw [Hmi.out]; omega)
              rw [ei]
              have hl2 := HZmi.out
              obtain ⟨acc3, hacc3⟩ : ∃ acc3, pre2 ++ x.ixs.flatMap ix1L = acc3 := ⟨_, rfl⟩
              rw [hacc3]
              have hz4 : acc3.length + (num (mk : Int)).length + (x.fks.flatMap fk1L).length ≤ 1000000000 := by
                rw [← hacc3]
                simp only [List.length_append] at hl2 ⊢
                omega
              have s4 := sum_ok (a := txt acc3) (b := txt (num (mk : Int))) (by rw [txt_size]; omega) (by rw [txt_size]; omega)
              obtain ⟨pre4, hp4⟩ : ∃ pre4, acc3 ++ num (mk : Int) = pre4 := ⟨_, rfl⟩
              have HP4 : Hid (txt acc3 ++ txt (num (mk : Int)) = txt pre4) := Lib.hid (by rw [txt_append, hp4])
              have HTOT : Hid (acc ++ tab1L x = pre4 ++ x.fks.flatMap fk1L) := Lib.hid (by rw [← hp4, ← hacc3, HX2.out])
              have HZmk : Hid ((pre4 ++ x.fks.flatMap fk1L).length ≤ 1000000000) := Lib.hid (by rw [← hp4]; simp only [List.length_append]; omega)
              have hnk := num_ref (mk : Int) V (by unfold I64; have := hmk; omega)
              have cl2 := (HCX.out V hbj).2
              have HB2' := Lib.hid (bgo HB2.out hbj)
              have HCV := Lib.hid (fun Y (hY : Below V.heap.size V Y) => HCX.out Y (bgo hbj hY))
              have HLV := Lib.hid (HLmk.out.on fkE_held hbj)
              clear hbj ei hl2 hacc3 hz4 hp4
              go_wp2_with (go_at_call 48; refine hnk.mono ?_; rintro e W3 ⟨rfl, hb3⟩; refine Hid.out ?_)
              refine Lib.hid ?_
              have HB3 := Lib.hid (bgo HB2'.out hb3)
              have HCX : Hid (∀ Y, Below W3.heap.size W3 Y → Y.cell? ⟨Q, 3, none⟩ = some (.slice ia mi ic) ∧ Y.cell? ⟨Q, 4, none⟩ = some (.slice ka mk kc)) := Lib.hid (fun Y hY => HCV.out Y (bgo hb3 hY))
              have HLmk := Lib.hid (HLV.out.on fkE_held hb3)
              have cl2 := (HCX.out W3 (Below.refl _ _)).2
              clear hb3 hnk HLV HCV cl
              go_upto_region 13 with fail
              rw [HP4.out]
              clear cl2
              go_wp2
              go_loopw [3, 8] (fun ov iv wr => TJ W3 pre4 fk1L x.fks wr ov iv) (fun _ iv _ => mk - (intOf iv).toNat)
              case atStart => exact ⟨0, Nat.zero_le _, rfl, by rw [List.take_zero]; simp, Below.refl _ _⟩
              case round =>
                obtain ⟨j, hj, rfl, rfl, hbj⟩ := hrel
                obtain ⟨V, rfl⟩ : ∃ V, V = wr := ⟨_, rfl⟩
                have hjm : j ≤ mk := by rw [← Hmk.out]; exact hj
                have cl := (HCX.out V hbj).2
                by_cases hltj : j < mk
                · have hjL : j < x.fks.length := by rw [Hmk.out]; exact hltj
                  have m0 : (0 : Int) ≤ j := by omega
                  have m1 : (j : Int) < mk := by omega
                  obtain ⟨_, _, e1, _, _, _, hcs⟩ := HLmk.out.on fkE_held hbj
                  obtain ⟨b3, o3, cs3, ha, _, hE, _, hcell⟩ := hcs j hjL
                  have hE' : cs3 = fkL x.fks[j] := hE
                  subst hE'
                  simp only [Value.slice.injEq] at e1
                  obtain ⟨rfl, _, rfl⟩ := e1
                  subst ha
                  have d0 := hcell 0 _ rfl
                  have d1 := hcell 1 _ rfl
                  have d2 := hcell 2 _ rfl
                  have d3 := hcell 3 _ rfl
                  have d4 := hcell 4 _ rfl
                  simp only [Nat.add_zero] at d0
                  have hnx := fm_next fk1L hjL
                  have hln : (pre4 ++ (x.fks.take (j + 1)).flatMap fk1L).length ≤ 1000000000 := by
                    have h1 := HZmk.out
                    have h2 := fmy_take fk1L x.fks (j + 1)
                    simp only [List.length_append] at h1 ⊢
                    omega
                  have hti := HImk.out _ (List.getElem_mem hjL)
                  obtain ⟨y, hy⟩ : ∃ y, x.fks[j] = y := ⟨_, rfl⟩
                  rw [hy] at d0 d1 d2 d3 d4 hnx hti
                  obtain ⟨acc2, hacc⟩ : ∃ acc2, pre4 ++ (x.fks.take j).flatMap fk1L = acc2 := ⟨_, rfl⟩
                  have hna : pre4 ++ (x.fks.take (j + 1)).flatMap fk1L = acc2 ++ fk1L y := by rw [hnx, ← List.append_assoc, hacc]
                  rw [hna] at hln
                  rw [hacc]
                  have HNB := Lib.hid hna
                  have HBJ := Lib.hid hbj
                  unfold fk1L at hln
                  simp only [List.length_append] at hln
                  have HT3 := Lib.hid (fun X => num_ref y.id X hti.id)
                  have s4 := sum_ok (a := txt acc2) (b := txt (num y.id)) (by rw [txt_size]; omega) (by rw [txt_size]; omega)
                  have HT7 := Lib.hid (fun X => text_ref y.nm X (by have := textL_len y.nm; omega))
                  have s8 := sum_ok (a := txt acc2 ++ txt (num y.id)) (b := txt (textL y.nm)) (by simp only [txt_append, txt_size, List.length_append]; omega) (by rw [txt_size]; omega)
                  have HT16 := Lib.hid (fun X F (hF : Ints X F [y.col, y.par, y.st]) => nums_ref X 3 rfl (by omega) hF (fun z hz => by
                    simp at hz
                    rcases hz with rfl | rfl | rfl
                    · exact hti.col
                    · exact hti.par
                    · exact hti.st))
                  have s17 := sum_ok (a := txt acc2 ++ txt (num y.id) ++ txt (textL y.nm)) (b := txt (numsL [y.col, y.par, y.st])) (by simp only [txt_append, txt_size, List.length_append]; omega) (by rw [txt_size]; omega)
                  have hend : txt acc2 ++ txt (num y.id) ++ txt (textL y.nm) ++ txt (numsL [y.col, y.par, y.st]) = txt (acc2 ++ num y.id ++ textL y.nm ++ numsL [y.col, y.par, y.st]) := by simp only [txt_append]
                  have HEND := Lib.hid hend
                  have hfin : acc2 ++ num y.id ++ textL y.nm ++ numsL [y.col, y.par, y.st] = acc2 ++ fk1L y := by unfold fk1L; simp only [List.append_assoc]
                  have HFIN := Lib.hid hfin
                  obtain ⟨U, hU⟩ : ∃ U, U = V.alloc (.cells (fkA y) 74) := ⟨_, rfl⟩
                  obtain ⟨Z, hZ⟩ : ∃ Z, V.heap.size = Z := ⟨_, rfl⟩
                  have bU : Below V.heap.size V U := by rw [hU]; exact bnew _ _
                  have jU : U.heap[Z]? = some (.cells (fkA y) 74 (0, 0)) := by rw [hU, ← hZ]; exact heap_alloc_new V _
                  have g0 : U.cell? ⟨Z, 0, none⟩ = some (.int .i64 y.id) := cell_blk jU 0
                  have g1 : U.cell? ⟨Z, 1, none⟩ = some (.string y.nm) := cell_blk jU 1
                  have g2 : U.cell? ⟨Z, 2, none⟩ = some (.int .i64 y.col) := cell_blk jU 2
                  have g3 : U.cell? ⟨Z, 3, none⟩ = some (.int .i64 y.par) := cell_blk jU 3
                  have g4 : U.cell? ⟨Z, 4, none⟩ = some (.int .i64 y.st) := cell_blk jU 4
                  have HU := Lib.hid hU
                  have HZZ := Lib.hid hZ
                  have HBU := Lib.hid bU
                  clear hcs hcell hE hbj hy hnx hna hln hacc hend hti hfin hU hZ bU jU
                  go_upto_region 17 with fail
                  rw [← HU.out, HZZ.out]
                  clear cl d0 d1 d2 d3 d4
                  refine wp_region_fin (fun X9 => Below U.heap.size U X9) (fun X9 X' => Below X9.heap.size X9 X') [
                    fun v9 _ => v9 = .string (txt acc2),
                    fun v9 _ => v9 = .pointer (some ⟨Z, 0, none⟩),
                    fun v9 _ => v9 = .int .i64 y.id,
                    fun v9 _ => v9 = .string (txt (num y.id)),
                    fun v9 _ => v9 = .string (txt acc2 ++ txt (num y.id)),
                    fun v9 _ => v9 = .pointer (some ⟨Z, 1, none⟩),
                    fun v9 _ => v9 = .string y.nm,
                    fun v9 _ => v9 = .string (txt (textL y.nm)),
                    fun v9 _ => v9 = .string (txt acc2 ++ txt (num y.id) ++ txt (textL y.nm)),
                    fun v9 _ => v9 = .pointer (some ⟨Z, 2, none⟩),
                    fun v9 _ => v9 = .int .i64 y.col,
                    fun v9 _ => v9 = .pointer (some ⟨Z, 3, none⟩),
                    fun v9 _ => v9 = .int .i64 y.par,
                    fun v9 _ => v9 = .pointer (some ⟨Z, 4, none⟩),
                    fun v9 _ => v9 = .int .i64 y.st,
                    fun v9 X9 => ∃ F, v9 = .slice (some ⟨F, 0, none⟩) 3 3 ∧ Ints X9 F [y.col, y.par, y.st],
                    fun v9 _ => v9 = .string (txt (numsL [y.col, y.par, y.st])),
                    fun v9 _ => v9 = .string (txt acc2 ++ txt (num y.id) ++ txt (textL y.nm) ++ txt (numsL [y.col, y.par, y.st]))]
                    (fun v9 X9 => v9 = .string (txt acc2 ++ txt (num y.id) ++ txt (textL y.nm) ++ txt (numsL [y.col, y.par, y.st])) ∧ Below U.heap.size U X9) rfl (by kernel_rfl) (by kernel_rfl) (by kernel_rfl) (by kernel_rfl) ?st ?g0 ?os ?la ?en
                  case st => exact ⟨fun _ _ _ _ h => h, fun _ _ _ _ h => h, fun _ _ _ _ h => h, fun _ _ _ _ h => h, fun _ _ _ _ h => h, fun _ _ _ _ h => h, fun _ _ _ _ h => h, fun _ _ _ _ h => h, fun _ _ _ _ h => h, fun _ _ _ _ h => h, fun _ _ _ _ h => h, fun _ _ _ _ h => h, fun _ _ _ _ h => h, fun _ _ _ _ h => h, fun _ _ _ _ h => h, (fun _ _ _ hb h => by obtain ⟨F, e9, h9⟩ := h; exact ⟨F, e9, h9.on hb⟩), fun _ _ _ _ h => h, fun _ _ _ _ h => h, trivial⟩
                  case g0 => exact ⟨rfl, rfl, rfl, Nat.le_refl _, fun _ _ => rfl⟩
                  case os =>
                    refine ⟨?_, ?_, ?_, ?_, ?_, ?_, ?_, ?_, ?_, ?_, ?_, ?_, ?_, ?_, ?_, ?_, ?_, ?_, trivial⟩
                    · exact ⟨rfl, fun ρ X9 hg ho hc hf hr => Runs.val _ (op_move (show ρ (.tmp 3) = .string (txt acc2) from ho 3 rfl)) ⟨hg, Below.refl _ _, rfl⟩⟩
                    · exact ⟨rfl, fun ρ X9 hg ho hc hf hr => Runs.val _ (op_f74_0 (show ρ (.tmp 9) = .pointer (some ⟨Z, 0, none⟩) from ho 9 rfl)) ⟨hg, Below.refl _ _, rfl⟩⟩
                    · exact ⟨rfl, fun ρ X9 hg ho hc hf hr => Runs.val _ (op_load3 (show ρ (.tmp 103) = .pointer (some ⟨Z, 0, none⟩) from hr 1 103 rfl rfl) (cell_on hg g0)) ⟨hg, Below.refl _ _, rfl⟩⟩
                    · refine ⟨rfl, fun ρ X9 hg ho hc hf hr => ?_⟩
                      refine Runs.goes 48 #[.int .i64 y.id] (op_call1 hf (by go_simp) (show ρ (.tmp 104) = .int .i64 y.id from hr 2 104 rfl rfl)) ((HT3.out X9).mono ?_)
                      rintro e7 w7 ⟨rfl, b7⟩
                      exact ⟨_, rfl, hg.trans (b7.mono hg.size), b7, rfl⟩
                    · exact ⟨rfl, fun ρ X9 hg ho hc hf hr => Runs.val _ (op_cat (show ρ (.tmp 102) = .string (txt acc2) from hr 0 102 rfl rfl) (show ρ (.tmp 105) = .string (txt (num y.id)) from hr 3 105 rfl rfl) s4) ⟨hg, Below.refl _ _, rfl⟩⟩
                    · exact ⟨rfl, fun ρ X9 hg ho hc hf hr => Runs.val _ (op_f74_1 (show ρ (.tmp 9) = .pointer (some ⟨Z, 0, none⟩) from ho 9 rfl)) ⟨hg, Below.refl _ _, rfl⟩⟩
                    · exact ⟨rfl, fun ρ X9 hg ho hc hf hr => Runs.val _ (op_load9 (show ρ (.tmp 107) = .pointer (some ⟨Z, 1, none⟩) from hr 5 107 rfl rfl) (cell_on hg g1)) ⟨hg, Below.refl _ _, rfl⟩⟩
                    · refine ⟨rfl, fun ρ X9 hg ho hc hf hr => ?_⟩
                      refine Runs.goes 49 #[.string y.nm] (op_call1 hf (by go_simp) (show ρ (.tmp 108) = .string y.nm from hr 6 108 rfl rfl)) ((HT7.out X9).mono ?_)
                      rintro e7 w7 ⟨rfl, b7⟩
                      exact ⟨_, rfl, hg.trans (b7.mono hg.size), b7, rfl⟩
                    · exact ⟨rfl, fun ρ X9 hg ho hc hf hr => Runs.val _ (op_cat (show ρ (.tmp 106) = .string (txt acc2 ++ txt (num y.id)) from hr 4 106 rfl rfl) (show ρ (.tmp 109) = .string (txt (textL y.nm)) from hr 7 109 rfl rfl) s8) ⟨hg, Below.refl _ _, rfl⟩⟩
                    · exact ⟨rfl, fun ρ X9 hg ho hc hf hr => Runs.val _ (op_f74_2 (show ρ (.tmp 9) = .pointer (some ⟨Z, 0, none⟩) from ho 9 rfl)) ⟨hg, Below.refl _ _, rfl⟩⟩
                    · exact ⟨rfl, fun ρ X9 hg ho hc hf hr => Runs.val _ (op_load3 (show ρ (.tmp 111) = .pointer (some ⟨Z, 2, none⟩) from hr 9 111 rfl rfl) (cell_on hg g2)) ⟨hg, Below.refl _ _, rfl⟩⟩
                    · exact ⟨rfl, fun ρ X9 hg ho hc hf hr => Runs.val _ (op_f74_3 (show ρ (.tmp 9) = .pointer (some ⟨Z, 0, none⟩) from ho 9 rfl)) ⟨hg, Below.refl _ _, rfl⟩⟩
                    · exact ⟨rfl, fun ρ X9 hg ho hc hf hr => Runs.val _ (op_load3 (show ρ (.tmp 113) = .pointer (some ⟨Z, 3, none⟩) from hr 11 113 rfl rfl) (cell_on hg g3)) ⟨hg, Below.refl _ _, rfl⟩⟩
                    · exact ⟨rfl, fun ρ X9 hg ho hc hf hr => Runs.val _ (op_f74_4 (show ρ (.tmp 9) = .pointer (some ⟨Z, 0, none⟩) from ho 9 rfl)) ⟨hg, Below.refl _ _, rfl⟩⟩
                    · exact ⟨rfl, fun ρ X9 hg ho hc hf hr => Runs.val _ (op_load3 (show ρ (.tmp 115) = .pointer (some ⟨Z, 4, none⟩) from hr 13 115 rfl rfl) (cell_on hg g4)) ⟨hg, Below.refl _ _, rfl⟩⟩
                    · refine ⟨rfl, fun ρ X9 hg ho hc hf hr => ?_⟩
                      have b7 : Below X9.heap.size X9 (X9.alloc (.cells #[.int .i64 y.col, .int .i64 y.par, .int .i64 y.st] 3)) := (Below.refl _ X9).alloc (Nat.le_refl _) _
                      refine Runs.val _ (op_ints3 (show ρ (.tmp 112) = .int .i64 y.col from hr 10 112 rfl rfl) (show ρ (.tmp 114) = .int .i64 y.par from hr 12 114 rfl rfl) (show ρ (.tmp 116) = .int .i64 y.st from hr 14 116 rfl rfl)) ⟨hg.trans (b7.mono hg.size), b7, _, rfl, _, _, heap_alloc_new X9 _, fun i hi => ?_⟩
                      match i, hi with
                      | 0, _ => rfl
                      | 1, _ => rfl
                      | 2, _ => rfl
                    · refine ⟨rfl, fun ρ X9 hg ho hc hf hr => ?_⟩
                      obtain ⟨F, e9, h9⟩ : ∃ F, ρ (.tmp 117) = .slice (some ⟨F, 0, none⟩) 3 3 ∧ Ints X9 F [y.col, y.par, y.st] := hr 15 117 rfl rfl
                      refine Runs.goes 47 #[.slice (some ⟨F, 0, none⟩) 3 3] (op_call1 hf (by go_simp) e9) ((HT16.out X9 F h9).mono ?_)
                      rintro e7 w7 ⟨rfl, b7⟩
                      exact ⟨_, rfl, hg.trans (b7.mono hg.size), b7, rfl⟩
                    · exact ⟨rfl, fun ρ X9 hg ho hc hf hr => Runs.val _ (op_cat (show ρ (.tmp 110) = .string (txt acc2 ++ txt (num y.id) ++ txt (textL y.nm)) from hr 8 110 rfl rfl) (show ρ (.tmp 118) = .string (txt (numsL [y.col, y.par, y.st])) from hr 16 118 rfl rfl) s17) ⟨hg, Below.refl _ _, rfl⟩⟩
                  case la =>
                    refine ⟨rfl, fun ρ X9 hg ho hc hf hr => ?_⟩
                    exact Runs.val _ (op_assign (show ρ (.tmp 119) = .string (txt acc2 ++ txt (num y.id) ++ txt (textL y.nm) ++ txt (numsL [y.col, y.par, y.st])) from hr 17 119 (by decide) rfl)) ⟨rfl, hg⟩
                  case en =>
                    intro a9 X9 Xb v9 hF hs9 hd9 ho9 hv9 hr9
                    obtain ⟨x9, hx, hxt⟩ := act_put hs9 hd9 ho9
                    have e3 : x9 3 = .string (txt acc2 ++ txt (num y.id) ++ txt (textL y.nm) ++ txt (numsL [y.col, y.par, y.st])) := (hxt 3).symm.trans ((hv9 3 rfl).trans hF.1)
                    change a9 = putAll _ x9 [102, 103, 104, 105, 106, 107, 108, 109, 110, 111, 112, 113, 114, 115, 116, 117, 118, 119, 3] at hx
                    simp only [putAll, Act.put, List.setIfInBounds_toArray, List.set_cons_zero, List.set_cons_succ, e3] at hx
                    have HG := Lib.hid hF.2
                    clear hF hs9 hd9 ho9 hv9 hr9 hxt e3
                    subst hx
                    generalize x9 102 = z102, x9 103 = z103, x9 104 = z104, x9 105 = z105, x9 106 = z106, x9 107 = z107, x9 108 = z108, x9 109 = z109, x9 110 = z110, x9 111 = z111, x9 112 = z112, x9 113 = z113, x9 114 = z114, x9 115 = z115, x9 116 = z116, x9 117 = z117, x9 118 = z118, x9 119 = z119
                    rw [HEND.out]
                    rw [HFIN.out]
                    go_wp2
                    go_roundw
                    case rel => exact ⟨j + 1, hjL, by go_num, by rw [HNB.out], bgo HBJ.out (bgo HBU.out HG.out)⟩
                    case measure => simp [intOf]; omega
                · have m1 : ¬ ((j : Int) < mk) := by omega
                  have ei : (x.fks.take j) = x.fks := List.take_of_length_le (by rw [Hmk.out]; omega)
                  rw [ei]
                  have HBK := Lib.hid (bgo HB3.out hbj)
                  clear hbj ei
                  go_wp2
                  go_roundw
                  case rel => exact ⟨i + 1, hiL, by go_num, by rw [HNA.out, HTOT.out], HBK.out⟩
                  case measure => simp [intOf]; omega
          
      · have k1 : ¬ ((i : Int) < n) := by omega
        have ei : (s.tabs.take i) = s.tabs := List.take_of_length_le (by rw [HN.out]; omega)
        rw [ei, ← HFU.out]
        have HBX := Lib.hid (bgo HB1.out hb)
        clear hb ei
        go_wp2
        go_ret
        exact ⟨rfl, HBX.out⟩
end
end Go.Proofs.YtongmhfpoopebaaGreat

/- same, of the same; great. -/
namespace Go.Proofs.YtongmhfpoopebaaGreat
open Go.RowKit
section
variable {w : World}
set_option maxHeartbeats 4000000 in
set_option maxRecDepth 100000 in
theorem same_any {s : Sc} {ta tb : Value} (ha : Lr tbE 5 w s.tabs ta) (hb : Lr tbE 5 w s.tabs tb) (hI : ScIn s) (hz : (schL s).length ≤ 1000000000) : Calls Tryz.prog 11 #[scV s ta, scV s tb] w fun e w' => e = .returned (.bool true) ∧ Below w.heap.size w w' := by
  obtain ⟨W, hW⟩ : ∃ W, W = (w.alloc (.cells #[.int .i64 s.ver, .int .i64 s.last, ta] 24)).alloc (.cells #[.int .i64 s.ver, .int .i64 s.last, tb] 24) := ⟨_, rfl⟩
  have hbW : Below w.heap.size w W := by rw [hW]; exact ((Below.refl _ w).alloc (Nat.le_refl _) _).alloc (by simp) _
  obtain ⟨Y0, hY0⟩ : ∃ Y0, w.heap.size = Y0 := ⟨_, rfl⟩
  obtain ⟨Y1, hY1⟩ : ∃ Y1, Y0 + 1 = Y1 := ⟨_, rfl⟩
  have j0 : W.heap[Y0]? = some (.cells (scA s ta) 24 (0, 0)) := by
    have := heap_alloc_new w (.cells #[.int .i64 s.ver, .int .i64 s.last, ta] 24)
    rw [hW, ← hY0]
    rw [Below.heap_alloc _ _ _ (by simp only [World.size_alloc]; omega)]
    exact this
  have j1 : W.heap[Y1]? = some (.cells (scA s tb) 24 (0, 0)) := by
    have := heap_alloc_new (w.alloc (.cells #[.int .i64 s.ver, .int .i64 s.last, ta] 24)) (.cells #[.int .i64 s.ver, .int .i64 s.last, tb] 24)
    simp only [World.size_alloc] at this
    rw [hW, ← hY1, ← hY0]
    exact this
  have HA := Lib.hid (ha.on tbE_held hbW)
  have HB := Lib.hid (hb.on tbE_held hbW)
  obtain ⟨a1, a2, rfl, _⟩ := ha
  obtain ⟨b1, b2, rfl, _⟩ := hb
  have HI := Lib.hid hI
  have HZ := Lib.hid hz
  have HW := Lib.hid hW
  have HBW := Lib.hid hbW
  have HY0 := Lib.hid hY0
  have HY1 := Lib.hid hY1
  clear hW hbW hY0 hY1 hI hz
  go_enter Tryz.func11, Tryz.ntmps11
  go_upto_region 1 with fail
  rw [← HW.out, HY0.out, HY1.out]
  refine wp_region_fin (fun X9 => Below W.heap.size W X9) (fun X9 X' => Below X9.heap.size X9 X') [
    fun v9 _ => v9 = scV s (.slice a1 s.tabs.length a2),
    fun v9 _ => v9 = .string (txt (schL s)),
    fun v9 _ => v9 = scV s (.slice b1 s.tabs.length b2),
    fun v9 _ => v9 = .string (txt (schL s)),
    fun v9 _ => v9 = .bool true]
    (fun v9 X9 => v9 = .bool true ∧ Below W.heap.size W X9) rfl (by kernel_rfl) (by kernel_rfl) (by kernel_rfl) (by kernel_rfl) ?st ?g0 ?os ?la ?en
  case st => exact ⟨fun _ _ _ _ h => h, fun _ _ _ _ h => h, fun _ _ _ _ h => h, fun _ _ _ _ h => h, fun _ _ _ _ h => h, trivial⟩
  case g0 => exact ⟨rfl, rfl, rfl, Nat.le_refl _, fun _ _ => rfl⟩
  case os =>
    refine ⟨?_, ?_, ?_, ?_, ?_, trivial⟩
    · exact ⟨rfl, fun ρ X9 hg ho hc hf hr => Runs.val _ (op_loadAt (show ρ (.tmp 2) = .pointer (some ⟨Y0, 0, none⟩) from ho 2 rfl) (load_row ((hg.block Y0 (blk_lt j0)).trans j0) Tryz.underlying24 rfl size24)) ⟨hg, Below.refl _ _, rfl⟩⟩
    · refine ⟨rfl, fun ρ X9 hg ho hc hf hr => ?_⟩
      refine Runs.goes 24 #[scV s (.slice a1 s.tabs.length a2)] (op_call1 hf (by go_simp) (show ρ (.tmp 5) = scV s (.slice a1 s.tabs.length a2) from hr 0 5 rfl rfl)) ((schema_ref (HA.out.on tbE_held hg) HI.out HZ.out).mono ?_)
      rintro e7 w7 ⟨rfl, b7⟩
      exact ⟨_, rfl, hg.trans (b7.mono hg.size), b7, rfl⟩
    · exact ⟨rfl, fun ρ X9 hg ho hc hf hr => Runs.val _ (op_loadAt (show ρ (.tmp 3) = .pointer (some ⟨Y1, 0, none⟩) from ho 3 rfl) (load_row ((hg.block Y1 (blk_lt j1)).trans j1) Tryz.underlying24 rfl size24)) ⟨hg, Below.refl _ _, rfl⟩⟩
    · refine ⟨rfl, fun ρ X9 hg ho hc hf hr => ?_⟩
      refine Runs.goes 24 #[scV s (.slice b1 s.tabs.length b2)] (op_call1 hf (by go_simp) (show ρ (.tmp 7) = scV s (.slice b1 s.tabs.length b2) from hr 2 7 rfl rfl)) ((schema_ref (HB.out.on tbE_held hg) HI.out HZ.out).mono ?_)
      rintro e7 w7 ⟨rfl, b7⟩
      exact ⟨_, rfl, hg.trans (b7.mono hg.size), b7, rfl⟩
    · exact ⟨rfl, fun ρ X9 hg ho hc hf hr => Runs.val _ (op_eql9 (show ρ (.tmp 6) = .string (txt (schL s)) from hr 1 6 rfl rfl) (show ρ (.tmp 8) = .string (txt (schL s)) from hr 3 8 rfl rfl) (by simp)) ⟨hg, Below.refl _ _, rfl⟩⟩
  case la =>
    refine ⟨rfl, fun ρ X9 hg ho hc hf hr => ?_⟩
    exact Runs.val _ (op_assign (show ρ (.tmp 9) = .bool true from hr 4 9 (by decide) rfl)) ⟨rfl, hg⟩
  case en =>
    intro a9 X9 Xb v9 hF hs9 hd9 ho9 hv9 hr9
    obtain ⟨x9, hx, hxt⟩ := act_put hs9 hd9 ho9
    have e4 : x9 4 = .bool true := (hxt 4).symm.trans ((hv9 4 rfl).trans hF.1)
    change a9 = putAll _ x9 [5, 6, 7, 8, 9, 4] at hx
    simp only [putAll, Act.put, List.setIfInBounds_toArray, List.set_cons_zero, List.set_cons_succ, e4] at hx
    have HG := Lib.hid hF.2
    clear hF hs9 hd9 ho9 hv9 hr9 hxt e4
    subst hx
    generalize x9 5 = z5, x9 6 = z6, x9 7 = z7, x9 8 = z8, x9 9 = z9
    go_wp2
    go_ret
    exact ⟨rfl, bgo HBW.out HG.out⟩
/-- How much a schema has. -/
def cntT (t : Tb) : Nat := t.cols.length + t.ixs.length + t.fks.length
def cntN (l : List Tb) : Nat := (l.map cntT).sum
theorem cntN_next {l : List Tb} {i : Nat} (h : i < l.length) : cntN (l.take (i + 1)) = cntN (l.take i) + cntT l[i] := by
  unfold cntN
  rw [List.take_succ_eq_append_getElem h, List.map_append, List.sum_append]
  simp
def GrAns (w : World) (P : Prop) (e : Ending) (w' : World) : Prop := ∃ g, e = .returned (.bool g) ∧ (g = false → P) ∧ Below w.heap.size w w'
def GJ (w : World) (s : Sc) (m : Nat) (nv iv : Value) (wr : World) : Prop := ∃ i k : Nat, i ≤ s.tabs.length ∧ iv = .int .i64 (i : Int) ∧ k = s.tabs.length + m + cntN (s.tabs.take i) ∧ nv = .int .i64 (k : Int) ∧ (0 < i → k ≤ 300) ∧ Below w.heap.size w wr
set_option maxHeartbeats 4000000 in
set_option maxRecDepth 100000 in
theorem great_any {s : Sc} {d : Dd} {tv : Value} {da : Option Addr} {dc : Nat} (hL : Lr tbE 5 w s.tabs tv) (h1 : s.tabs.length ≤ 1000000000000000) (h2 : d.cols.length ≤ 1000000000000000) (h3 : ∀ t ∈ s.tabs, cntT t ≤ 1000000000000000) : Calls Tryz.prog 8 #[scV s tv, .agg #[.int .i64 d.kind, .string d.table, .string d.name, .string d.column, .string d.parent, .bool d.uq, .int .i64 d.ty, .int .i64 d.df.k, .int .i64 d.df.n, .string d.df.s, .slice da d.cols.length dc]] w (GrAns w (s.tabs.length + d.cols.length + cntN s.tabs ≤ 300)) := by
  obtain ⟨m, hm⟩ : ∃ m, d.cols.length = m := ⟨_, rfl⟩
  rw [hm] at h2 ⊢
  obtain ⟨ta, tc, rfl, hr0⟩ := hL
  have hL : Lr tbE 5 w s.tabs (.slice ta s.tabs.length tc) := ⟨ta, tc, rfl, hr0⟩
  obtain ⟨W, hW⟩ : ∃ W, W = (w.alloc (.cells #[.int .i64 s.ver, .int .i64 s.last, .slice ta s.tabs.length tc] 24)).alloc (.cells #[.int .i64 d.kind, .string d.table, .string d.name, .string d.column, .string d.parent, .bool d.uq, .int .i64 d.ty, .int .i64 d.df.k, .int .i64 d.df.n, .string d.df.s, .slice da m dc] 31) := ⟨_, rfl⟩
  have hbW : Below w.heap.size w W := by rw [hW]; exact ((Below.refl _ w).alloc (Nat.le_refl _) _).alloc (by simp) _
  obtain ⟨Y0, hY0⟩ : ∃ Y0, w.heap.size = Y0 := ⟨_, rfl⟩
  obtain ⟨Y1, hY1⟩ : ∃ Y1, Y0 + 1 = Y1 := ⟨_, rfl⟩
  have j0 : W.heap[Y0]? = some (.cells #[.int .i64 s.ver, .int .i64 s.last, .slice ta s.tabs.length tc] 24 (0, 0)) := by
    have := heap_alloc_new w (.cells #[.int .i64 s.ver, .int .i64 s.last, .slice ta s.tabs.length tc] 24)
    rw [hW, ← hY0]
    rw [Below.heap_alloc _ _ _ (by simp only [World.size_alloc]; omega)]
    exact this
  have j1 : W.heap[Y1]? = some (.cells #[.int .i64 d.kind, .string d.table, .string d.name, .string d.column, .string d.parent, .bool d.uq, .int .i64 d.ty, .int .i64 d.df.k, .int .i64 d.df.n, .string d.df.s, .slice da m dc] 31 (0, 0)) := by
    have := heap_alloc_new (w.alloc (.cells #[.int .i64 s.ver, .int .i64 s.last, .slice ta s.tabs.length tc] 24)) (.cells #[.int .i64 d.kind, .string d.table, .string d.name, .string d.column, .string d.parent, .bool d.uq, .int .i64 d.ty, .int .i64 d.df.k, .int .i64 d.df.n, .string d.df.s, .slice da m dc] 31)
    simp only [World.size_alloc] at this
    rw [hW, ← hY1, ← hY0]
    exact this
  have e2 : W.cell? ⟨Y0, 2, none⟩ = some (.slice ta s.tabs.length tc) := cell_blk j0 2
  have e10 : W.cell? ⟨Y1, 10, none⟩ = some (.slice da m dc) := cell_blk j1 10
  obtain ⟨n, hn⟩ : ∃ n, s.tabs.length = n := ⟨_, rfl⟩
  have HL := Lib.hid (hL.on tbE_held hbW)
  have H3 := Lib.hid h3
  have HW := Lib.hid hW
  have HBW := Lib.hid hbW
  have HY0 := Lib.hid hY0
  have HY1 := Lib.hid hY1
  have HN := Lib.hid hn
  have H0 : Hid (GJ W s m (.int .i64 ((n + m : Nat) : Int)) (.int .i64 0) W) := Lib.hid ⟨0, n + m, Nat.zero_le _, rfl, by rw [List.take_zero, hn]; rfl, rfl, fun q => by omega, Below.refl _ _⟩
  rw [hn] at e2 h1
  have k1 : (n : Int) + m ≤ 9223372036854775807 := by omega
  have k2 : (n : Int) ≤ 9223372036854775807 := by omega
  have k3 : (m : Int) ≤ 9223372036854775807 := by omega
  have kz : ((n + m : Nat) : Int) = (n : Int) + m := by omega
  rw [kz] at H0
  unfold scV
  rw [hn] at HW HL ⊢
  clear hW hbW hY0 hY1 j0 j1 hL hr0 h3 hm hn kz
  go_enter Tryz.func8, Tryz.ntmps8
  go_upto_region 1 with fail
  rw [← HW.out, HY0.out, HY1.out]
  go_wp2
  go_loopw [5, 18] (fun nv iv wr => GJ W s m nv iv wr) (fun _ iv _ => n - (intOf iv).toNat)
  case atStart => exact H0.out
  case round =>
    clear H0 e2 e10
    obtain ⟨i, k, hi, rfl, hk, rfl, hk3, hb⟩ := hrel
    obtain ⟨V, rfl⟩ : ∃ V, V = wr := ⟨_, rfl⟩
    have hin : i ≤ n := by rw [← HN.out]; exact hi
    have HBV := Lib.hid (bgo HBW.out hb)
    have HBW2 := Lib.hid hb
    by_cases hlt : i < n
    · have hiL : i < s.tabs.length := by rw [HN.out]; exact hlt
      have k0 : (0 : Int) ≤ i := by omega
      have kk1 : (i : Int) < n := by omega
      obtain ⟨_, _, e1, _, _, _, hcs⟩ := HL.out.on tbE_held hb
      obtain ⟨b, o, cs, ha, hbl, ⟨cv, iv, kv, rfl, ht⟩, _, hcell⟩ := hcs i hiL
      simp only [Value.slice.injEq] at e1
      obtain ⟨rfl, _, rfl⟩ := e1
      subst ha
      obtain ⟨ca, cc, rfl, _, _, _, _⟩ := ht.c
      obtain ⟨ia, ic, rfl, _, _, _, _⟩ := ht.i
      obtain ⟨ka, kc, rfl, _, _, _, _⟩ := ht.k
      have c0 := hcell 0 _ rfl
      have c1 := hcell 1 _ rfl
      have c2 := hcell 2 _ rfl
      have c3 := hcell 3 _ rfl
      have c4 := hcell 4 _ rfl
      simp only [Nat.add_zero] at c0
      have hnx := cntN_next hiL
      have hsm := H3.out _ (List.getElem_mem hiL)
      obtain ⟨x, hx⟩ : ∃ x, s.tabs[i] = x := ⟨_, rfl⟩
      rw [hx] at c0 c1 c2 c3 c4 hnx hsm
      obtain ⟨p, hp⟩ : ∃ p, x.cols.length = p := ⟨_, rfl⟩
      obtain ⟨q, hq⟩ : ∃ q, x.ixs.length = q := ⟨_, rfl⟩
      obtain ⟨r, hr⟩ : ∃ r, x.fks.length = r := ⟨_, rfl⟩
      have hct : cntT x = p + q + r := by unfold cntT; rw [hp, hq, hr]
      rw [hct] at hsm hnx
      rw [hp] at c2
      rw [hq] at c3
      rw [hr] at c4
      have hkb : k ≤ 2000000000000000 := by
        rcases Nat.eq_zero_or_pos i with z | z
        · subst z
          rw [hk, List.take_zero, HN.out]
          show n + m + 0 ≤ _
          omega
        · have := hk3 z; omega
      have b1 : (p : Int) + q ≤ 9223372036854775807 := by omega
      have b2 : (p : Int) + q + r ≤ 9223372036854775807 := by omega
      have b3 : (k : Int) + (p + q + r) ≤ 9223372036854775807 := by omega
      have hk' : k + (p + q + r) = s.tabs.length + m + cntN (s.tabs.take (i + 1)) := by rw [hnx, hk]; omega
      have HK := Lib.hid hk'
      clear hcs hcell hbl ht hx hnx hsm hp hq hr hct hb hk hk3 hk'
      by_cases hgt : k + (p + q + r) ≤ 300
      · have g1 : ¬ (300 : Int) < (k : Int) + (p + q + r) := by omega
        go_wp2
        go_roundw
        case rel => exact ⟨i + 1, k + (p + q + r), hiL, by go_num, HK.out, by go_num, fun _ => hgt, by
          exact bgo HBW2.out (bnew _ _)⟩
        case measure => simp [intOf]; omega
      · have g1 : (300 : Int) < (k : Int) + (p + q + r) := by omega
        go_wp2
        go_ret
        exact ⟨true, rfl, fun q => (by cases q), bgo HBV.out (bnew _ _)⟩
    · have kk1 : ¬ ((i : Int) < n) := by omega
      obtain rfl : i = n := by omega
      have hti : s.tabs.take i = s.tabs := List.take_of_length_le (by rw [HN.out]; omega)
      rw [hti] at hk
      have HK := Lib.hid hk
      clear hb hk hk3 hti
      by_cases hgt : k ≤ 300
      · have g1 : ¬ (300 : Int) < (k : Int) := by omega
        go_wp2
        go_ret
        exact ⟨false, rfl, fun _ => by have := HK.out; rw [HN.out] at this; omega, HBV.out⟩
      · have g1 : (300 : Int) < (k : Int) := by omega
        go_wp2
        go_ret
        exact ⟨true, rfl, fun q => (by cases q), HBV.out⟩
end
end Go.Proofs.YtongmhfpoopebaaGreat
