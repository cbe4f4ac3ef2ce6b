/- The document's Num, nums, flag, text. -/
import Derived.Test.YtcoaahlakkghhaaGp
import Derived.Lib.ConvBytes
import Derived.Test.YtcoaahlakkghhaaGr
import Derived.Test.YtcoaahlakkghhaaGs
namespace Go.Proofs.Ytcoaahlakkghhaa
open Go.RowKit
def zig (n : Int) : Nat := if n < 0 then (-2 * n - 1).toNat else (2 * n).toNat
theorem zig_lt {n : Int} (h : I64 n) : zig n < 18446744073709551616 := by
  unfold I64 at h
  unfold zig
  split <;> omega
/-- At most k groups. -/
def grpN : Nat → Nat → List UInt8
  | 0, _ => []
  | k + 1, z => if z < 128 then [UInt8.ofNat z] else UInt8.ofNat (z % 128 + 128) :: grpN k (z / 128)
def grp (z : Nat) : List UInt8 := grpN 10 z
theorem grpN_len : ∀ (k z : Nat), (grpN k z).length ≤ k
  | 0, _ => Nat.le_refl _
  | k + 1, z => by
    unfold grpN
    split
    · simp
    · have := grpN_len k (z / 128)
      simp only [List.length_cons]
      omega
theorem grp_len (z : Nat) : (grp z).length ≤ 10 := grpN_len 10 z
theorem toNat_of {z : Nat} (h : z < 256) : (UInt8.ofNat z).toNat = z := by
  rw [UInt8.toNat_ofNat']
  exact Nat.mod_eq_of_lt h
/-- Groups, where there is room for all. -/
theorem grpN_step (k z : Nat) (h : 128 ≤ z) : grpN (k + 1) z = UInt8.ofNat (z % 128 + 128) :: grpN k (z / 128) := by
  show (if z < 128 then _ else _) = _
  rw [if_neg (by omega)]
theorem grpN_last (k z : Nat) (h : z < 128) : grpN (k + 1) z = [UInt8.ofNat z] := by
  show (if z < 128 then _ else _) = _
  rw [if_pos h]
/-- A number's bytes. -/
def num (n : Int) : List UInt8 := grp (zig n)
theorem num_len (n : Int) : (num n).length ≤ 10 := grp_len _
theorem ba_ext {s t : ByteArray} (h : s.data.toList = t.data.toList) : s = t := by
  cases s
  cases t
  simp only [Array.toList_inj] at h
  rw [h]
def txt (l : List UInt8) : ByteArray := ⟨l.toArray⟩
theorem txt_of (s : ByteArray) : txt s.data.toList = s := by cases s; rfl
theorem txt_size (l : List UInt8) : (txt l).size = l.length := rfl
theorem fold_pos {n : Int} (h : I64 n) (hn : 0 ≤ n) : IntKind.u64.wrap (IntKind.u64.wrap n * 2) = (zig n : Int) := by
  unfold I64 at h
  rw [IntKind.wrap_u64, IntKind.wrap_u64]
  unfold zig
  rw [if_neg (by omega)]
  omega
/-- A number of 64 bits without a sign. -/
def U64 (z : Nat) : Prop := z < 18446744073709551616
theorem byteCells_append (a b : List UInt8) : Lib.byteCells (a ++ b) = Lib.byteCells a ++ Lib.byteCells b := by simp [Lib.byteCells]
theorem news_one (w : World) (c : Value) (t : TypeId) : ∀ j u, [c][j]? = some u → (w.alloc (.cells #[c] t)).cell? ((⟨w.heap.size, 0, none⟩ : Addr).add j) = some u := by
  intro j u hj
  match j, hj with
  | 0, hj => simp at hj; subst hj; simp [Addr.add]
/-- What is done, and left, of a number's groups. -/
structure Wg (z : Nat) (d : List UInt8) (k y : Nat) : Prop where
  one : 1 ≤ k
  lt : y < 128 ^ k
  eq : grp z = d ++ grpN k y
theorem Wg.start {z : Nat} (h : U64 z) : Wg z [] 10 z := ⟨by omega, by unfold U64 at h; omega, rfl⟩
theorem Wg.next {z k y : Nat} {d : List UInt8} (h : Wg z d k y) (hy : 128 ≤ y) : ∃ k', Wg z (d ++ [UInt8.ofNat (y % 128 + 128)]) k' (y / 128) := by
  obtain ⟨j, rfl⟩ : ∃ j, k = j + 1 := ⟨k - 1, by have := h.one; omega⟩
  have hl := h.lt
  refine ⟨j, ?_, ?_, ?_⟩
  · rcases Nat.eq_zero_or_pos j with rfl | q
    · simp at hl; omega
    · exact q
  · rw [Nat.pow_succ] at hl
    exact Nat.div_lt_of_lt_mul (by rw [Nat.mul_comm]; exact hl)
  · rw [h.eq, grpN_step j y hy, List.append_assoc]
    rfl
theorem Wg.last {z k y : Nat} {d : List UInt8} (h : Wg z d k y) (hy : y < 128) : grp z = d ++ [UInt8.ofNat y] := by
  obtain ⟨j, rfl⟩ : ∃ j, k = j + 1 := ⟨k - 1, by have := h.one; omega⟩
  rw [h.eq, grpN_last j y hy]
theorem or_last (y : Nat) (h : y < 128) : (y : Int) = ((UInt8.ofNat y).toNat : Int) := by rw [toNat_of (by omega)]
theorem conv_row {w : World} {B : Nat} {v : Value} {l : List UInt8} (h : w.ownsRow B 5 1 v l.length (Lib.byteCells l)) : (convert 139 9 v).run Try.prog w = .ok (.string (txt l)) w := by
  rcases h.2 with ⟨rfl, h0⟩ | ⟨g, cap, cur, rfl, _⟩
  · have : l = [] := List.eq_nil_of_length_eq_zero h0
    subst this
    exact run_convert_bytes_nil (P := Try.prog) w 139 5 Try.underlying139 Try.underlying5 0 0 9 Try.underlying9
  · exact run_convert_bytes_back (P := Try.prog) w 139 9 5 ⟨g, 0, none⟩ cap l Try.underlying139 Try.underlying5 Try.underlying9 (fun j hj => h.cells (g := g) rfl j _ (by simp [Lib.byteCells, hj]))
theorem neg_zig {n : Int} (h : I64 n) (hn : n < 0) : IntKind.u64.wrap (IntKind.u64.wrap (IntKind.u64.wrap (wrap64 (-wrap64 (n + 1))) * 2) + 1) = (zig n : Int) := by
  unfold I64 at h
  have e1 : wrap64 (n + 1) = n + 1 := by unfold wrap64; omega
  have e2 : wrap64 (-(n + 1)) = -(n + 1) := by unfold wrap64; omega
  rw [e1, e2, IntKind.wrap_u64, IntKind.wrap_u64, IntKind.wrap_u64]
  unfold zig
  rw [if_pos hn]
  omega
/-- One byte more in a row. -/
theorem row_push {w : World} {B : Nat} {v : Value} {l : List UInt8} (h : w.ownsRow B 5 1 v l.length (Lib.byteCells l)) (hB : B ≤ w.heap.size) (b : UInt8) (hz : l.length ≤ 1000000) : ∃ v2 w2, (Builtin.append_ #[139, 139] 139 #[v, .slice (some ⟨w.heap.size, 0, none⟩) 1 1]).run Try.prog (w.alloc (.cells #[.int .u8 b.toNat] 5)) = .ok v2 w2 ∧ w2.ownsRow B 5 1 v2 (l ++ [b]).length (Lib.byteCells (l ++ [b])) ∧ Below B w w2 := by
  obtain ⟨i0, hi, hz0, hz1, hz2⟩ := info_parts infoByte
  have hb : Below w.heap.size w (w.alloc (.cells #[.int .u8 b.toNat] 5)) := Below.alloc (Below.refl _ _) (Nat.le_refl _) _
  have hrow := own_below h hb
  have hsz : (w.alloc (.cells #[.int .u8 b.toNat] 5)).heap.size = w.heap.size + 1 := by simp
  obtain ⟨v', w', hr, ho', hg, _, hat⟩ := run_append_own_at (P := Try.prog) (w := w.alloc (.cells #[.int .u8 b.toNat] 5)) B 139 139 5 i0 _ 1 1 Try.underlying139 hi hz0 hz1 hz2 rfl (by decide) v _ _ hrow ⟨w.heap.size, 0, none⟩ 1 1 [.int .u8 b.toNat] rfl (news_one w _ 5) (by intro u hu; simp at hu; subst hu; rfl) (by unfold maxLen; omega) (by omega) (by omega)
  refine ⟨v', w', hr, ?_, (hb.mono hB).grown hg (by rw [hsz]; omega) (fun k hk => (hrow.lt k hk).1)⟩
  rw [byteCells_append, List.length_append]
  simpa [Lib.byteCells] using ho'
theorem div_wrap {y z : Nat} (h : U64 z) (hy : y ≤ z) : IntKind.u64.wrap ((y : Int) / 128) = (y : Int) / 128 := by
  unfold U64 at h
  rw [IntKind.wrap_u64]
  omega
theorem byte_more (y : Nat) : (y : Int) % 128 + 128 = ((UInt8.ofNat (y % 128 + 128)).toNat : Int) := by
  rw [toNat_of (by omega)]
  omega
set_option maxHeartbeats 2000000 in
set_option maxRecDepth 100000 in
theorem num_ref (n : Int) (w : World) (h : I64 n) : Calls Try.prog 41 #[.int .i64 n] w fun e w' => e = .returned (.string (txt (num n))) ∧ Below w.heap.size w w' := by
  have HW := Lib.hid (Wg.start (zig_lt h))
  have HZ : Hid (U64 (zig n)) := zig_lt h
  have HN : Hid (num n = grp (zig n)) := rfl
  have hpos : ¬ n < 0 → IntKind.u64.wrap (IntKind.u64.wrap n * 2) = (zig n : Int) := fun q => fold_pos h (by omega)
  have hneg : n < 0 → IntKind.u64.wrap (IntKind.u64.wrap (IntKind.u64.wrap (wrap64 (-wrap64 (n + 1))) * 2) + 1) = (zig n : Int) := fun q => neg_zig h q
  clear h
  obtain ⟨z, hz⟩ : ∃ z, zig n = z := ⟨_, rfl⟩
  rw [hz] at HW HN HZ hpos hneg
  clear hz
  by_cases hn : n < 0
  · have h2 := hneg hn
    clear hneg hpos
    go_enter Try.func41, Try.ntmps41
    go_wp2
    go_loopw [3, 4] (fun zv ov wr => ∃ k y d, Hid (Wg z d k y ∧ y ≤ z) ∧ zv = .int .u64 y ∧ wr.ownsRow w.heap.size 5 1 ov d.length (Lib.byteCells d) ∧ Below w.heap.size w wr) (fun zv _ _ => (intOf zv).toNat)
    case atStart => exact ⟨10, z, [], Lib.hid ⟨HW.out, Nat.le_refl _⟩, rfl, World.ownsRow_nil _ _ _ _, Below.refl _ _⟩
    case round =>
      obtain ⟨k, y, d, HG, rfl, hrow, hb⟩ := hrel
      have hdl : d.length ≤ 10 := by
        have h1 := congrArg List.length HG.out.1.eq
        have h2 := grp_len z
        rw [List.length_append] at h1
        omega
      by_cases hy : 128 ≤ y
      · have e1 := byte_more y
        have hdv := div_wrap HZ.out HG.out.2
        obtain ⟨b, hbb⟩ : ∃ b, UInt8.ofNat (y % 128 + 128) = b := ⟨_, rfl⟩
        rw [hbb] at e1
        have hbl := b.toNat_lt
        obtain ⟨v2, w2, hrun, q1, q2⟩ := row_push hrow hb.size b (by omega)
        obtain ⟨adv, cpv, rfl⟩ := own_shape hrow
        obtain ⟨ad2, cap2, rfl⟩ := own_shape q1
        obtain ⟨D2, hD2⟩ : ∃ D2, (d ++ [b]).length = D2 := ⟨_, rfl⟩
        rw [hD2] at hrun q1
        have HD := Lib.hid hD2
        have HB := Lib.hid hbb
        have H1 := Lib.hid q1
        have H2 := Lib.hid q2
        have HBb := Lib.hid hb
        clear hD2
        clear hbb q1 q2 hb hrow hdl
        go_wp2_with (at_builtin; refine wpl_run2 _ _ rfl (by simp [Act.eval]) (by simp [Act.eval]) hrun ?_)
        go_roundw
        case rel =>
          obtain ⟨k', hk'⟩ := HG.out.1.next hy
          rw [HB.out] at hk'
          refine ⟨k', y / 128, _, Lib.hid ⟨hk', Nat.le_trans (Nat.div_le_self _ _) HG.out.2⟩, by go_num, ?_, HBb.out.trans H2.out⟩
          rw [HD.out]
          exact H1.out
        case measure => simp [intOf]; omega
      · have e1 := or_last y (by omega)
        have hlast := HG.out.1.last (by omega : y < 128)
        obtain ⟨b, hbb⟩ : ∃ b, UInt8.ofNat y = b := ⟨_, rfl⟩
        rw [hbb] at e1 hlast
        obtain ⟨v2, w2, hrun, q1, q2⟩ := row_push hrow hb.size b (by omega)
        have hcv := conv_row q1
        obtain ⟨adv, cpv, rfl⟩ := own_shape hrow
        obtain ⟨ad2, cap2, rfl⟩ := own_shape q1
        obtain ⟨D2, hD2⟩ : ∃ D2, (d ++ [b]).length = D2 := ⟨_, rfl⟩
        have H2 := Lib.hid q2
        have HBb := Lib.hid hb
        have HL := Lib.hid hlast
        rw [← e1] at hrun
        rw [hD2] at hrun hcv
        clear hD2
        have hy1 : y < 128 := by omega
        have hy2 : (y : Int) % 256 = y := by omega
        clear hbb q1 q2 hb hrow hdl e1 hlast
        go_wp2_with (at_builtin; refine wpl_run2 _ _ rfl (by simp [Act.eval]) (by simp [Act.eval]) hrun ?_)
        go_ret
        refine ⟨?_, HBb.out.trans H2.out⟩
        rw [HN.out, HL.out]
        rfl
  · have h2 := hpos hn
    clear hneg hpos
    go_enter Try.func41, Try.ntmps41
    go_wp2
    go_loopw [3, 4] (fun zv ov wr => ∃ k y d, Hid (Wg z d k y ∧ y ≤ z) ∧ zv = .int .u64 y ∧ wr.ownsRow w.heap.size 5 1 ov d.length (Lib.byteCells d) ∧ Below w.heap.size w wr) (fun zv _ _ => (intOf zv).toNat)
    case atStart => exact ⟨10, z, [], Lib.hid ⟨HW.out, Nat.le_refl _⟩, rfl, World.ownsRow_nil _ _ _ _, Below.refl _ _⟩
    case round =>
      obtain ⟨k, y, d, HG, rfl, hrow, hb⟩ := hrel
      have hdl : d.length ≤ 10 := by
        have h1 := congrArg List.length HG.out.1.eq
        have h2 := grp_len z
        rw [List.length_append] at h1
        omega
      by_cases hy : 128 ≤ y
      · have e1 := byte_more y
        have hdv := div_wrap HZ.out HG.out.2
        obtain ⟨b, hbb⟩ : ∃ b, UInt8.ofNat (y % 128 + 128) = b := ⟨_, rfl⟩
        rw [hbb] at e1
        have hbl := b.toNat_lt
        obtain ⟨v2, w2, hrun, q1, q2⟩ := row_push hrow hb.size b (by omega)
        obtain ⟨adv, cpv, rfl⟩ := own_shape hrow
        obtain ⟨ad2, cap2, rfl⟩ := own_shape q1
        obtain ⟨D2, hD2⟩ : ∃ D2, (d ++ [b]).length = D2 := ⟨_, rfl⟩
        rw [hD2] at hrun q1
        have HD := Lib.hid hD2
        have HB := Lib.hid hbb
        have H1 := Lib.hid q1
        have H2 := Lib.hid q2
        have HBb := Lib.hid hb
        clear hD2
        clear hbb q1 q2 hb hrow hdl
        go_wp2_with (at_builtin; refine wpl_run2 _ _ rfl (by simp [Act.eval]) (by simp [Act.eval]) hrun ?_)
        go_roundw
        case rel =>
          obtain ⟨k', hk'⟩ := HG.out.1.next hy
          rw [HB.out] at hk'
          refine ⟨k', y / 128, _, Lib.hid ⟨hk', Nat.le_trans (Nat.div_le_self _ _) HG.out.2⟩, by go_num, ?_, HBb.out.trans H2.out⟩
          rw [HD.out]
          exact H1.out
        case measure => simp [intOf]; omega
      · have e1 := or_last y (by omega)
        have hlast := HG.out.1.last (by omega : y < 128)
        obtain ⟨b, hbb⟩ : ∃ b, UInt8.ofNat y = b := ⟨_, rfl⟩
        rw [hbb] at e1 hlast
        obtain ⟨v2, w2, hrun, q1, q2⟩ := row_push hrow hb.size b (by omega)
        have hcv := conv_row q1
        obtain ⟨adv, cpv, rfl⟩ := own_shape hrow
        obtain ⟨ad2, cap2, rfl⟩ := own_shape q1
        obtain ⟨D2, hD2⟩ : ∃ D2, (d ++ [b]).length = D2 := ⟨_, rfl⟩
        have H2 := Lib.hid q2
        have HBb := Lib.hid hb
        have HL := Lib.hid hlast
        rw [← e1] at hrun
        rw [hD2] at hrun hcv
        clear hD2
        have hy1 : y < 128 := by omega
        have hy2 : (y : Int) % 256 = y := by omega
        clear hbb q1 q2 hb hrow hdl e1 hlast
        go_wp2_with (at_builtin; refine wpl_run2 _ _ rfl (by simp [Act.eval]) (by simp [Act.eval]) hrun ?_)
        go_ret
        refine ⟨?_, HBb.out.trans H2.out⟩
        rw [HN.out, HL.out]
        rfl
def flagL (b : Bool) : List UInt8 := num (if b then 1 else 0)
def textL (s : ByteArray) : List UInt8 := num (s.size : Int) ++ s.data.toList
theorem txt_append (a b : List UInt8) : txt a ++ txt b = txt (a ++ b) := by
  apply ba_ext
  simp [txt]
theorem sum_ok {a b : ByteArray} (ha : a.size ≤ 4000000000) (hb : b.size ≤ 4000000000) : ¬ 9223372036854775807 < a.size + b.size := by omega
theorem numsL_len (ns : List Int) : (ns.flatMap num).length ≤ ns.length * 10 := by
  induction ns with
  | nil => simp
  | cons n r ih =>
    have := num_len n
    simp only [List.flatMap_cons, List.length_append, List.length_cons]
    omega
def numsL (ns : List Int) : List UInt8 := ns.flatMap num
theorem numsL_take (ns : List Int) (i : Nat) (h : i < ns.length) : numsL (ns.take (i + 1)) = numsL (ns.take i) ++ num ns[i] := by
  unfold numsL
  rw [List.take_succ_eq_append_getElem h, List.flatMap_append]
  simp only [List.flatMap_cons, List.flatMap_nil, List.append_nil]
/-- Numbers in a row of their own. -/
def Ints (w : World) (F : Nat) (ns : List Int) : Prop := ∃ cs ty, w.heap[F]? = some (.cells cs ty (0, 0)) ∧ ∀ i (h : i < ns.length), cs[i]? = some (.int .i64 ns[i])
theorem Ints.on {w w' : World} {F : Nat} {ns : List Int} (h : Ints w F ns) (hb : Below w.heap.size w w') : Ints w' F ns := by
  obtain ⟨cs, ty, h1, h2⟩ := h
  exact ⟨cs, ty, (hb.block F (blk_lt h1)).trans h1, h2⟩
set_option maxHeartbeats 2000000 in
set_option maxRecDepth 100000 in
theorem nums_ref {F : Nat} {ns : List Int} (w : World) (k : Nat) (hk : ns.length = k) (hk2 : k ≤ 100) (h : Ints w F ns) (hi : ∀ n ∈ ns, I64 n) : Calls Try.prog 67 #[.slice (some ⟨F, 0, none⟩) k k] w fun e w' => e = .returned (.string (txt (numsL ns))) ∧ Below w.heap.size w w' := by
  have HK := Lib.hid hk
  have HI := Lib.hid hi
  have HX := Lib.hid h
  clear hk hi h
  go_enter Try.func67, Try.ntmps67
  go_wp2
  go_loopw [3, 4] (fun ov iv wr => ∃ (i : Nat) (str : ByteArray), i ≤ k ∧ iv = .int .i64 i ∧ ov = .string str ∧ Hid (str = txt (numsL (ns.take i))) ∧ Below w.heap.size w wr) (fun _ iv _ => k - (intOf iv).toNat)
  case atStart => exact ⟨0, ⟨#[]⟩, by omega, rfl, rfl, rfl, Below.refl _ _⟩
  case round =>
    obtain ⟨i, str, hik, rfl, rfl, HS, hb⟩ := hrel
    by_cases hlt : i < k
    · have hltn : i < ns.length := by rw [HK.out]; exact hlt
      obtain ⟨cs, ty, h1, h2⟩ := HX.out.on hb
      obtain ⟨n, hn⟩ : ∃ n, ns[i] = n := ⟨_, rfl⟩
      have hin : I64 n := by rw [← hn]; exact HI.out _ (List.getElem_mem hltn)
      have cF : wr.cell? ⟨F, i, none⟩ = some (.int .i64 n) := by rw [cell_blk h1, h2 i hltn, hn]
      have HE : Hid (numsL (ns.take (i + 1)) = numsL (ns.take i) ++ num n) := by
        show _ = _
        rw [numsL_take ns i hltn, hn]
      have hcall := num_ref n wr hin
      have HB := Lib.hid hb
      clear h1 h2 hn hin hltn hb
      obtain ⟨str2, hs2⟩ : ∃ q, txt (num n) = q := ⟨_, rfl⟩
      rw [hs2] at hcall
      have hsum := sum_ok (a := str) (b := str2) (by
        have := numsL_len (ns.take i)
        rw [HS.out, txt_size]
        unfold numsL
        rw [List.length_take] at this
        omega) (by
        have := num_len n
        rw [← hs2, txt_size]
        omega)
      go_wp2_with (go_at_call 41; refine hcall.mono ?_; rintro e w1 ⟨rfl, hb1⟩; refine Hid.out ?_)
      refine Lib.hid ?_
      have HB1 : Hid (Below w.heap.size w w1) := HB.out.trans (hb1.mono HB.out.size)
      clear hb1 hcall
      go_wp2
      go_roundw
      case rel =>
        refine ⟨i + 1, _, by omega, by go_num, rfl, ?_, HB1.out⟩
        show _ = _
        rw [HE.out, HS.out, ← hs2, txt_append]
      case measure => simp [intOf]; omega
    · have hiF : i = k := by omega
      subst hiF
      go_wp2
      go_ret
      refine ⟨?_, hb⟩
      rw [HS.out, ← HK.out, List.take_length]
      rfl
set_option maxHeartbeats 2000000 in
set_option maxRecDepth 100000 in
theorem flag_ref (b : Bool) (w : World) : Calls Try.prog 66 #[.bool b] w fun e w' => e = .returned (.string (txt (flagL b))) ∧ Below w.heap.size w w' := by
  have h1 := num_ref 1 w (by unfold I64; omega)
  have h0 := num_ref 0 w (by unfold I64; omega)
  cases b with
  | false =>
    go_enter Try.func66, Try.ntmps66
    go_wp2_with (go_at_call 41; refine h0.mono ?_; rintro e w1 ⟨rfl, hb1⟩; refine Hid.out ?_)
    refine Lib.hid ?_
    go_wp2
    go_ret
    exact ⟨rfl, hb1⟩
  | true =>
    go_enter Try.func66, Try.ntmps66
    go_wp2_with (go_at_call 41; refine h1.mono ?_; rintro e w1 ⟨rfl, hb1⟩; refine Hid.out ?_)
    refine Lib.hid ?_
    go_wp2
    go_ret
    exact ⟨rfl, hb1⟩
set_option maxHeartbeats 2000000 in
set_option maxRecDepth 100000 in
theorem text_ref (s : ByteArray) (w : World) (h : s.size ≤ 1000000000) : Calls Try.prog 65 #[.string s] w fun e w' => e = .returned (.string (txt (textL s))) ∧ Below w.heap.size w w' := by
  have e0 : s.data.toList.length = s.size := by rw [Array.length_toList]; rfl
  have HE : Hid (textL s = num (s.size : Int) ++ s.data.toList) := by
    show _ = _
    unfold textL
    rfl
  clear e0
  have h1 := num_ref (s.size : Int) w (by unfold I64; omega)
  obtain ⟨str2, hs2⟩ : ∃ q, txt (num (s.size : Int)) = q := ⟨_, rfl⟩
  rw [hs2] at h1
  have hsum := sum_ok (a := str2) (b := s) (by
    have := num_len (s.size : Int)
    rw [← hs2, txt_size]
    omega) (by omega)
  go_enter Try.func65, Try.ntmps65
  go_wp2_with (go_at_call 41; refine h1.mono ?_; rintro e w1 ⟨rfl, hb1⟩; refine Hid.out ?_)
  refine Lib.hid ?_
  go_wp2
  go_ret
  refine ⟨?_, hb1⟩
  rw [HE.out, ← txt_append, hs2, txt_of]
  rfl
end Go.Proofs.Ytcoaahlakkghhaa
/- The document's texts of transactions' names and of writes. -/
namespace Go.Proofs.Ytcoaahlakkghhaa
open Go.RowKit
section
variable {ρ : Operand → Value} {X : World} {d : Option Tmp} {ty : TypeId} {ps : String} {af : Array Edge} {g : Option (Nat × Bool)}
theorem op_x39 {x y : Operand} {B o n m i : Nat} (e : ρ x = .slice (some ⟨B, o, none⟩) n m) (e2 : ρ y = .int .i64 (i : Int)) (h : i < n) : (execOp ρ ⟨d, .indexAddr 39 x y, ty, ps, af, g⟩).run Try.prog X = .ok (.value (.pointer (some ⟨B, o + i * 3, none⟩))) X := by
  have k0 : (0 : Int) ≤ (i : Int) := by omega
  have k1 : (i : Int) < (n : Int) := by omega
  simp only [execOp, e, e2]
  go_simp
theorem op_x61 {x y : Operand} {B o n m i : Nat} (e : ρ x = .slice (some ⟨B, o, none⟩) n m) (e2 : ρ y = .int .i64 (i : Int)) (h : i < n) : (execOp ρ ⟨d, .indexAddr 61 x y, ty, ps, af, g⟩).run Try.prog X = .ok (.value (.pointer (some ⟨B, o + i * 2, none⟩))) X := by
  have k0 : (0 : Int) ≤ (i : Int) := by omega
  have k1 : (i : Int) < (n : Int) := by omega
  simp only [execOp, e, e2]
  go_simp
theorem op_x127 {x y : Operand} {B o n m i : Nat} (e : ρ x = .slice (some ⟨B, o, none⟩) n m) (e2 : ρ y = .int .i64 (i : Int)) (h : i < n) : (execOp ρ ⟨d, .indexAddr 127 x y, ty, ps, af, g⟩).run Try.prog X = .ok (.value (.pointer (some ⟨B, o + i * 3, none⟩))) X := by
  have k0 : (0 : Int) ≤ (i : Int) := by omega
  have k1 : (i : Int) < (n : Int) := by omega
  simp only [execOp, e, e2]
  go_simp
theorem op_x31 {x y : Operand} {B o n m i : Nat} (e : ρ x = .slice (some ⟨B, o, none⟩) n m) (e2 : ρ y = .int .i64 (i : Int)) (h : i < n) : (execOp ρ ⟨d, .indexAddr 31 x y, ty, ps, af, g⟩).run Try.prog X = .ok (.value (.pointer (some ⟨B, o + i * 7, none⟩))) X := by
  have k0 : (0 : Int) ≤ (i : Int) := by omega
  have k1 : (i : Int) < (n : Int) := by omega
  simp only [execOp, e, e2]
  go_simp
theorem op_x66 {x y : Operand} {B o n m i : Nat} (e : ρ x = .slice (some ⟨B, o, none⟩) n m) (e2 : ρ y = .int .i64 (i : Int)) (h : i < n) : (execOp ρ ⟨d, .indexAddr 66 x y, ty, ps, af, g⟩).run Try.prog X = .ok (.value (.pointer (some ⟨B, o + i * 2, none⟩))) X := by
  have k0 : (0 : Int) ≤ (i : Int) := by omega
  have k1 : (i : Int) < (n : Int) := by omega
  simp only [execOp, e, e2]
  go_simp
theorem op_x32 {x y : Operand} {B o n m i : Nat} (e : ρ x = .slice (some ⟨B, o, none⟩) n m) (e2 : ρ y = .int .i64 (i : Int)) (h : i < n) : (execOp ρ ⟨d, .indexAddr 32 x y, ty, ps, af, g⟩).run Try.prog X = .ok (.value (.pointer (some ⟨B, o + i * 4, none⟩))) X := by
  have k0 : (0 : Int) ≤ (i : Int) := by omega
  have k1 : (i : Int) < (n : Int) := by omega
  simp only [execOp, e, e2]
  go_simp
theorem op_x33 {x y : Operand} {B o n m i : Nat} (e : ρ x = .slice (some ⟨B, o, none⟩) n m) (e2 : ρ y = .int .i64 (i : Int)) (h : i < n) : (execOp ρ ⟨d, .indexAddr 33 x y, ty, ps, af, g⟩).run Try.prog X = .ok (.value (.pointer (some ⟨B, o + i * 3, none⟩))) X := by
  have k0 : (0 : Int) ≤ (i : Int) := by omega
  have k1 : (i : Int) < (n : Int) := by omega
  simp only [execOp, e, e2]
  go_simp
theorem op_n61 {x : Operand} {a : Option Addr} {n m : Nat} (e : ρ x = .slice a n m) : (execOp ρ ⟨d, .call { callee := .builtin .len, args := #[x], argTypes := #[61] }, 3, ps, af, g⟩).run Try.prog X = .ok (.value (.int .i64 (n : Int))) X := by
  simp only [execOp]
  simp [resolve, invoke, builtin, e]
  go_simp
theorem op_n127 {x : Operand} {a : Option Addr} {n m : Nat} (e : ρ x = .slice a n m) : (execOp ρ ⟨d, .call { callee := .builtin .len, args := #[x], argTypes := #[127] }, 3, ps, af, g⟩).run Try.prog X = .ok (.value (.int .i64 (n : Int))) X := by
  simp only [execOp]
  simp [resolve, invoke, builtin, e]
  go_simp
theorem op_n31 {x : Operand} {a : Option Addr} {n m : Nat} (e : ρ x = .slice a n m) : (execOp ρ ⟨d, .call { callee := .builtin .len, args := #[x], argTypes := #[31] }, 3, ps, af, g⟩).run Try.prog X = .ok (.value (.int .i64 (n : Int))) X := by
  simp only [execOp]
  simp [resolve, invoke, builtin, e]
  go_simp
theorem op_n66 {x : Operand} {a : Option Addr} {n m : Nat} (e : ρ x = .slice a n m) : (execOp ρ ⟨d, .call { callee := .builtin .len, args := #[x], argTypes := #[66] }, 3, ps, af, g⟩).run Try.prog X = .ok (.value (.int .i64 (n : Int))) X := by
  simp only [execOp]
  simp [resolve, invoke, builtin, e]
  go_simp
theorem op_n32 {x : Operand} {a : Option Addr} {n m : Nat} (e : ρ x = .slice a n m) : (execOp ρ ⟨d, .call { callee := .builtin .len, args := #[x], argTypes := #[32] }, 3, ps, af, g⟩).run Try.prog X = .ok (.value (.int .i64 (n : Int))) X := by
  simp only [execOp]
  simp [resolve, invoke, builtin, e]
  go_simp
theorem op_n33 {x : Operand} {a : Option Addr} {n m : Nat} (e : ρ x = .slice a n m) : (execOp ρ ⟨d, .call { callee := .builtin .len, args := #[x], argTypes := #[33] }, 3, ps, af, g⟩).run Try.prog X = .ok (.value (.int .i64 (n : Int))) X := by
  simp only [execOp]
  simp [resolve, invoke, builtin, e]
  go_simp
theorem op_n39 {x : Operand} {a : Option Addr} {n m : Nat} (e : ρ x = .slice a n m) : (execOp ρ ⟨d, .call { callee := .builtin .len, args := #[x], argTypes := #[39] }, 3, ps, af, g⟩).run Try.prog X = .ok (.value (.int .i64 (n : Int))) X := by
  simp only [execOp]
  simp [resolve, invoke, builtin, e]
  go_simp
theorem op_g55_0 {x : Operand} {B o : Nat} (e : ρ x = .pointer (some ⟨B, o, none⟩)) : (execOp ρ ⟨d, .fieldAddr 55 x 0, ty, ps, af, g⟩).run Try.prog X = .ok (.value (.pointer (some ⟨B, o + 0, none⟩))) X := by
  simp only [execOp, e]
  go_simp
theorem op_g55_1 {x : Operand} {B o : Nat} (e : ρ x = .pointer (some ⟨B, o, none⟩)) : (execOp ρ ⟨d, .fieldAddr 55 x 1, ty, ps, af, g⟩).run Try.prog X = .ok (.value (.pointer (some ⟨B, o + 1, none⟩))) X := by
  simp only [execOp, e]
  go_simp
theorem op_g55_2 {x : Operand} {B o : Nat} (e : ρ x = .pointer (some ⟨B, o, none⟩)) : (execOp ρ ⟨d, .fieldAddr 55 x 2, ty, ps, af, g⟩).run Try.prog X = .ok (.value (.pointer (some ⟨B, o + 2, none⟩))) X := by
  simp only [execOp, e]
  go_simp
theorem op_g129_0 {x : Operand} {B o : Nat} (e : ρ x = .pointer (some ⟨B, o, none⟩)) : (execOp ρ ⟨d, .fieldAddr 129 x 0, ty, ps, af, g⟩).run Try.prog X = .ok (.value (.pointer (some ⟨B, o + 0, none⟩))) X := by
  simp only [execOp, e]
  go_simp
theorem op_g129_1 {x : Operand} {B o : Nat} (e : ρ x = .pointer (some ⟨B, o, none⟩)) : (execOp ρ ⟨d, .fieldAddr 129 x 1, ty, ps, af, g⟩).run Try.prog X = .ok (.value (.pointer (some ⟨B, o + 1, none⟩))) X := by
  simp only [execOp, e]
  go_simp
theorem op_g125_0 {x : Operand} {B o : Nat} (e : ρ x = .pointer (some ⟨B, o, none⟩)) : (execOp ρ ⟨d, .fieldAddr 125 x 0, ty, ps, af, g⟩).run Try.prog X = .ok (.value (.pointer (some ⟨B, o + 0, none⟩))) X := by
  simp only [execOp, e]
  go_simp
theorem op_g125_1 {x : Operand} {B o : Nat} (e : ρ x = .pointer (some ⟨B, o, none⟩)) : (execOp ρ ⟨d, .fieldAddr 125 x 1, ty, ps, af, g⟩).run Try.prog X = .ok (.value (.pointer (some ⟨B, o + 1, none⟩))) X := by
  simp only [execOp, e]
  go_simp
theorem op_g125_2 {x : Operand} {B o : Nat} (e : ρ x = .pointer (some ⟨B, o, none⟩)) : (execOp ρ ⟨d, .fieldAddr 125 x 2, ty, ps, af, g⟩).run Try.prog X = .ok (.value (.pointer (some ⟨B, o + 2, none⟩))) X := by
  simp only [execOp, e]
  go_simp
theorem op_g68_0 {x : Operand} {B o : Nat} (e : ρ x = .pointer (some ⟨B, o, none⟩)) : (execOp ρ ⟨d, .fieldAddr 68 x 0, ty, ps, af, g⟩).run Try.prog X = .ok (.value (.pointer (some ⟨B, o + 0, none⟩))) X := by
  simp only [execOp, e]
  go_simp
theorem op_g68_1 {x : Operand} {B o : Nat} (e : ρ x = .pointer (some ⟨B, o, none⟩)) : (execOp ρ ⟨d, .fieldAddr 68 x 1, ty, ps, af, g⟩).run Try.prog X = .ok (.value (.pointer (some ⟨B, o + 3, none⟩))) X := by
  simp only [execOp, e]
  go_simp
theorem op_g68_2 {x : Operand} {B o : Nat} (e : ρ x = .pointer (some ⟨B, o, none⟩)) : (execOp ρ ⟨d, .fieldAddr 68 x 2, ty, ps, af, g⟩).run Try.prog X = .ok (.value (.pointer (some ⟨B, o + 4, none⟩))) X := by
  simp only [execOp, e]
  go_simp
theorem op_g68_3 {x : Operand} {B o : Nat} (e : ρ x = .pointer (some ⟨B, o, none⟩)) : (execOp ρ ⟨d, .fieldAddr 68 x 3, ty, ps, af, g⟩).run Try.prog X = .ok (.value (.pointer (some ⟨B, o + 5, none⟩))) X := by
  simp only [execOp, e]
  go_simp
theorem op_g68_4 {x : Operand} {B o : Nat} (e : ρ x = .pointer (some ⟨B, o, none⟩)) : (execOp ρ ⟨d, .fieldAddr 68 x 4, ty, ps, af, g⟩).run Try.prog X = .ok (.value (.pointer (some ⟨B, o + 6, none⟩))) X := by
  simp only [execOp, e]
  go_simp
theorem op_g57_0 {x : Operand} {B o : Nat} (e : ρ x = .pointer (some ⟨B, o, none⟩)) : (execOp ρ ⟨d, .fieldAddr 57 x 0, ty, ps, af, g⟩).run Try.prog X = .ok (.value (.pointer (some ⟨B, o + 0, none⟩))) X := by
  simp only [execOp, e]
  go_simp
theorem op_g57_1 {x : Operand} {B o : Nat} (e : ρ x = .pointer (some ⟨B, o, none⟩)) : (execOp ρ ⟨d, .fieldAddr 57 x 1, ty, ps, af, g⟩).run Try.prog X = .ok (.value (.pointer (some ⟨B, o + 1, none⟩))) X := by
  simp only [execOp, e]
  go_simp
theorem op_g101_0 {x : Operand} {B o : Nat} (e : ρ x = .pointer (some ⟨B, o, none⟩)) : (execOp ρ ⟨d, .fieldAddr 101 x 0, ty, ps, af, g⟩).run Try.prog X = .ok (.value (.pointer (some ⟨B, o + 0, none⟩))) X := by
  simp only [execOp, e]
  go_simp
theorem op_g101_1 {x : Operand} {B o : Nat} (e : ρ x = .pointer (some ⟨B, o, none⟩)) : (execOp ρ ⟨d, .fieldAddr 101 x 1, ty, ps, af, g⟩).run Try.prog X = .ok (.value (.pointer (some ⟨B, o + 3, none⟩))) X := by
  simp only [execOp, e]
  go_simp
theorem op_g63_0 {x : Operand} {B o : Nat} (e : ρ x = .pointer (some ⟨B, o, none⟩)) : (execOp ρ ⟨d, .fieldAddr 63 x 0, ty, ps, af, g⟩).run Try.prog X = .ok (.value (.pointer (some ⟨B, o + 0, none⟩))) X := by
  simp only [execOp, e]
  go_simp
theorem op_g63_1 {x : Operand} {B o : Nat} (e : ρ x = .pointer (some ⟨B, o, none⟩)) : (execOp ρ ⟨d, .fieldAddr 63 x 1, ty, ps, af, g⟩).run Try.prog X = .ok (.value (.pointer (some ⟨B, o + 1, none⟩))) X := by
  simp only [execOp, e]
  go_simp
theorem op_g63_2 {x : Operand} {B o : Nat} (e : ρ x = .pointer (some ⟨B, o, none⟩)) : (execOp ρ ⟨d, .fieldAddr 63 x 2, ty, ps, af, g⟩).run Try.prog X = .ok (.value (.pointer (some ⟨B, o + 2, none⟩))) X := by
  simp only [execOp, e]
  go_simp
theorem op_g63_3 {x : Operand} {B o : Nat} (e : ρ x = .pointer (some ⟨B, o, none⟩)) : (execOp ρ ⟨d, .fieldAddr 63 x 3, ty, ps, af, g⟩).run Try.prog X = .ok (.value (.pointer (some ⟨B, o + 3, none⟩))) X := by
  simp only [execOp, e]
  go_simp
theorem op_g63_4 {x : Operand} {B o : Nat} (e : ρ x = .pointer (some ⟨B, o, none⟩)) : (execOp ρ ⟨d, .fieldAddr 63 x 4, ty, ps, af, g⟩).run Try.prog X = .ok (.value (.pointer (some ⟨B, o + 4, none⟩))) X := by
  simp only [execOp, e]
  go_simp
theorem calls39 {v0 : Value} : Sem.run Try.prog (callFunc 39 #[v0]) X = .ok (.enter 39 #[v0]) X := by go_simp
theorem calls40 {v0 : Value} : Sem.run Try.prog (callFunc 40 #[v0]) X = .ok (.enter 40 #[v0]) X := by go_simp
theorem calls41 {v0 : Value} : Sem.run Try.prog (callFunc 41 #[v0]) X = .ok (.enter 41 #[v0]) X := by go_simp
theorem calls42 {v0 : Value} : Sem.run Try.prog (callFunc 42 #[v0]) X = .ok (.enter 42 #[v0]) X := by go_simp
theorem calls65 {v0 : Value} : Sem.run Try.prog (callFunc 65 #[v0]) X = .ok (.enter 65 #[v0]) X := by go_simp
theorem calls66 {v0 : Value} : Sem.run Try.prog (callFunc 66 #[v0]) X = .ok (.enter 66 #[v0]) X := by go_simp
theorem calls67 {v0 : Value} : Sem.run Try.prog (callFunc 67 #[v0]) X = .ok (.enter 67 #[v0]) X := by go_simp
theorem calls68 {v0 : Value} : Sem.run Try.prog (callFunc 68 #[v0]) X = .ok (.enter 68 #[v0]) X := by go_simp
theorem op_cat {x y : Operand} {a b : ByteArray} (e : ρ x = .string a) (e2 : ρ y = .string b) (h : ¬ 9223372036854775807 < a.size + b.size) : (execOp ρ ⟨d, .binOp .add 9 x y 9, ty, ps, af, g⟩).run Try.prog X = .ok (.value (.string (a ++ b))) X := by
  simp only [execOp, e, e2]
  go_simp
theorem op_two136 {x y : Operand} {a b : Int} (e : ρ x = .int .i64 a) (e2 : ρ y = .int .i64 b) : (execOp ρ ⟨d, .buildSlice 136 2 #[(0, x), (1, y)], ty, ps, af, g⟩).run Try.prog X = .ok (.value (.slice (some ⟨X.heap.size, 0, none⟩) 2 2)) (X.alloc (.cells #[.int .i64 a, .int .i64 b] 3)) := by
  simp only [execOp]
  simp [e, e2]
  go_simp
end
/-! ### Plain -/
def tidL (t : Td) : List UInt8 := numsL [t.1, t.2.1, t.2.2]
def wr1L (x : Wr) : List UInt8 := textL x.key ++ textL x.val ++ flagL x.dead
def wrsL (L : List Wr) : List UInt8 := num (L.length : Int) ++ L.flatMap wr1L
def ve1L (v : Ve) : List UInt8 := num v.ts ++ textL v.val ++ flagL v.dead
def rw1L (r : Rw) : List UInt8 := textL r.key ++ num (r.list.length : Int) ++ r.list.flatMap ve1L
def rowsL (R : List Rw) : List UInt8 := num (R.length : Int) ++ R.flatMap rw1L
def sp1L (p : Sn) : List UInt8 := textL p.lo ++ textL p.hi
def lk1L (l : Lk) : List UInt8 := tidL l.txn ++ numsL [l.home, l.til] ++ num (l.spans.length : Int) ++ l.spans.flatMap sp1L ++ wrsL l.writes
def locksL (L : List Lk) : List UInt8 := num (L.length : Int) ++ L.flatMap lk1L
def rc1L (r : Rc) : List UInt8 := tidL r.1 ++ num r.2
def rangeL (s : Sh) : List UInt8 := rowsL s.rows ++ locksL s.locks ++ num (s.recs.length : Int) ++ s.recs.flatMap rc1L ++ num (s.over.length : Int) ++ s.over.flatMap tidL ++ num s.high
theorem fm_next {α : Type} (f : α → List UInt8) {L : List α} {i : Nat} (h : i < L.length) : (L.take (i + 1)).flatMap f = (L.take i).flatMap f ++ f L[i] := by
  rw [List.take_succ_eq_append_getElem h, List.flatMap_append]
  simp only [List.flatMap_cons, List.flatMap_nil, List.append_nil]
theorem fmy_take {α : Type} (f : α → List UInt8) (L : List α) (i : Nat) : ((L.take i).flatMap f).length ≤ (L.flatMap f).length := by
  have h := congrArg (fun l => (l.flatMap f).length) (List.take_append_drop i L)
  simp only [List.flatMap_append, List.length_append] at h
  omega
theorem fm_mem {α : Type} (f : α → List UInt8) {L : List α} {x : α} (h : x ∈ L) : (f x).length ≤ (L.flatMap f).length := by
  obtain ⟨i, hi, rfl⟩ := List.getElem_of_mem h
  have h1 := fmy_take f L (i + 1)
  rw [fm_next f hi, List.length_append] at h1
  omega
theorem fm_sum {α : Type} (f : α → List UInt8) (g : α → Nat) (k : Nat) (h : ∀ x, (f x).length ≤ k * g x) : ∀ L : List α, (L.flatMap f).length ≤ k * (L.map g).sum
  | [] => by simp
  | x :: L => by
    have h1 := fm_sum f g k h L
    have h2 := h x
    rw [List.flatMap_cons, List.length_append, List.map_cons, List.sum_cons, Nat.mul_add]
    omega
theorem textL_len (s : ByteArray) : s.size ≤ (textL s).length ∧ (textL s).length ≤ 10 + s.size := by
  unfold textL
  have := num_len (s.size : Int)
  have e0 : s.data.toList.length = s.size := by rw [Array.length_toList]; rfl
  rw [List.length_append, e0]
  omega
theorem flagL_len (b : Bool) : (flagL b).length ≤ 10 := num_len _
theorem tidL_len (t : Td) : (tidL t).length ≤ 30 := numsL_len [t.1, t.2.1, t.2.2]
theorem wr1L_len (x : Wr) : (wr1L x).length ≤ 30 * wrB x := by
  have h1 := textL_len x.key
  have h2 := textL_len x.val
  have h3 := flagL_len x.dead
  unfold wr1L wrB
  rw [List.length_append, List.length_append]
  omega
theorem ve1L_len (v : Ve) : (ve1L v).length ≤ 30 * veB v := by
  have h1 := num_len v.ts
  have h2 := textL_len v.val
  have h3 := flagL_len v.dead
  unfold ve1L veB
  rw [List.length_append, List.length_append]
  omega
theorem rw1L_len (r : Rw) : (rw1L r).length ≤ 30 * rwB r := by
  have h1 := textL_len r.key
  have h2 := num_len (r.list.length : Int)
  have h3 := fm_sum ve1L veB 30 ve1L_len r.list
  unfold rw1L rwB
  rw [List.length_append, List.length_append]
  omega
theorem sp1L_len (p : Sn) : (sp1L p).length ≤ 30 * spB p := by
  have h1 := textL_len p.lo
  have h2 := textL_len p.hi
  unfold sp1L spB
  rw [List.length_append]
  omega
theorem wrsL_len (L : List Wr) : (wrsL L).length ≤ 10 + 30 * (L.map wrB).sum := by
  have h1 := num_len (L.length : Int)
  have h2 := fm_sum wr1L wrB 30 wr1L_len L
  unfold wrsL
  rw [List.length_append]
  omega
theorem lk1L_len (l : Lk) : (lk1L l).length ≤ 70 * lkB l := by
  have h1 := tidL_len l.txn
  have h2 : (numsL [l.home, l.til]).length ≤ 20 := numsL_len [l.home, l.til]
  have h3 := num_len (l.spans.length : Int)
  have h4 := fm_sum sp1L spB 30 sp1L_len l.spans
  have h5 := wrsL_len l.writes
  unfold lk1L lkB
  rw [List.length_append, List.length_append, List.length_append, List.length_append]
  omega
theorem rangeL_len (s : Sh) : (rangeL s).length ≤ 100 + 70 * shB s := by
  have h1 := num_len (s.rows.length : Int)
  have h2 := fm_sum rw1L rwB 30 rw1L_len s.rows
  have h3 := num_len (s.locks.length : Int)
  have h4 := fm_sum lk1L lkB 70 lk1L_len s.locks
  have h5 := num_len (s.recs.length : Int)
  have h6 := fm_sum rc1L (fun _ => 1) 40 (fun r => by
    have h1 := tidL_len r.1
    have h2 := num_len r.2
    unfold rc1L
    rw [List.length_append]
    omega) s.recs
  have h7 := num_len (s.over.length : Int)
  have h8 := fm_sum tidL (fun _ => 1) 30 (fun t => by have := tidL_len t; omega) s.over
  have h9 := num_len s.high
  rw [one_sum] at h6 h8
  unfold rangeL rowsL locksL shB rowsB locksB
  simp only [List.length_append]
  omega
section
variable {w : World}
set_option maxHeartbeats 2000000 in
set_option maxRecDepth 100000 in
theorem tid_ref (t : Td) (w : World) (h : TdOk t) : Calls Try.prog 42 #[tdV t] w fun e w' => e = .returned (.string (txt (tidL t))) ∧ Below w.heap.size w w' := by
  obtain ⟨W, hW⟩ : ∃ W, W = (w.alloc (.cells #[.int .i64 t.1, .int .i64 t.2.1, .int .i64 t.2.2] 37)).alloc (.cells #[.int .i64 t.1, .int .i64 t.2.1, .int .i64 t.2.2] 3) := ⟨_, rfl⟩
  have hb : Below w.heap.size w W := by rw [hW]; exact ((Below.refl _ w).alloc (Nat.le_refl _) _).alloc (by simp) _
  have jF : W.heap[w.heap.size + 1]? = some (.cells #[.int .i64 t.1, .int .i64 t.2.1, .int .i64 t.2.2] 3 (0, 0)) := by
    have := heap_alloc_new (w.alloc (.cells #[.int .i64 t.1, .int .i64 t.2.1, .int .i64 t.2.2] 37)) (.cells #[.int .i64 t.1, .int .i64 t.2.1, .int .i64 t.2.2] 3)
    rw [hW]
    simpa using this
  have hi : Ints W (w.heap.size + 1) [t.1, t.2.1, t.2.2] := ⟨_, _, jF, fun i hi => by
    match i, hi with
    | 0, _ => rfl
    | 1, _ => rfl
    | 2, _ => rfl⟩
  have hn := nums_ref W 3 rfl (by omega) hi (fun n hn => by
    simp at hn
    rcases hn with rfl | rfl | rfl
    · exact h.1
    · exact h.2.1
    · exact h.2.2)
  rw [hW] at hn
  have HB := Lib.hid hb
  have HW := Lib.hid hW
  clear hb jF hi h hW
  go_enter Try.func42, Try.ntmps42
  go_wp2_with (go_at_call 67; refine hn.mono ?_; rintro e w1 ⟨rfl, hb1⟩; refine Hid.out ?_)
  refine Lib.hid ?_
  have HB1 : Hid (Below w.heap.size w w1) := Lib.hid (by
    rw [← HW.out] at hb1
    exact HB.out.trans (hb1.mono HB.out.size))
  clear hb1
  go_wp2
  go_ret
  exact ⟨rfl, HB1.out⟩
theorem cat2 (a b : List UInt8) : txt a ++ txt b = txt (a ++ b) := txt_append a b
/-- What is written so far, in a loop. -/
def TJ {α : Type} (w : World) (pre : List UInt8) (f : α → List UInt8) (L : List α) (wr : World) (ov iv : Value) : Prop := ∃ i : Nat, i ≤ L.length ∧ iv = .int .i64 (i : Int) ∧ ov = .string (txt (pre ++ (L.take i).flatMap f)) ∧ Below w.heap.size w wr
set_option maxHeartbeats 2000000 in
set_option maxRecDepth 100000 in
theorem writes_ref {L : List Wr} {v : Value} (hl : Lr wrE 3 w L v) (hz : (wrsL L).length ≤ 1000000000) : Calls Try.prog 68 #[v] w fun e w' => e = .returned (.string (txt (wrsL L))) ∧ Below w.heap.size w w' := by
  have HL := Lib.hid hl
  obtain ⟨ad, cap, rfl, _, _, hcap, _⟩ := hl
  obtain ⟨n, hn⟩ : ∃ n, L.length = n := ⟨_, rfl⟩
  have hmx : (n : Int) ≤ 9223372036854775807 := by unfold maxLen at hcap; omega
  have hnum := num_ref (n : Int) w (by unfold I64; omega)
  have HN := Lib.hid hn
  have HZ := Lib.hid hz
  have hfull : wrsL L = num (n : Int) ++ L.flatMap wr1L := by unfold wrsL; rw [hn]
  rw [hn]
  obtain ⟨pre, hpre⟩ : ∃ pre, num (n : Int) = pre := ⟨_, rfl⟩
  rw [hpre] at hnum hfull
  have HFU := Lib.hid hfull
  clear hn hz hcap hfull hpre
  go_enter Try.func68, Try.ntmps68
  go_wp2_with (go_at_call 41; refine hnum.mono ?_; rintro e w1 ⟨rfl, hb1⟩; refine Hid.out ?_)
  refine Lib.hid ?_
  have H0 : Hid (TJ w pre wr1L L w1 (.string (txt pre)) (.int .i64 0)) := Lib.hid ⟨0, Nat.zero_le _, rfl, by rw [List.take_zero]; simp, hb1⟩
  clear hb1 hnum
  go_wp2
  go_loopw [3, 4] (fun ov iv wr => TJ w pre wr1L L wr ov iv) (fun _ iv _ => n - (intOf iv).toNat)
  case atStart => exact H0.out
  case round =>
    clear H0
    obtain ⟨i, hi, rfl, rfl, hb⟩ := hrel
    obtain ⟨V, rfl⟩ : ∃ V, V = wr := ⟨_, rfl⟩
    have hin : i ≤ n := by rw [← HN.out]; exact hi
    by_cases hlt : i < n
    · have hiL : i < L.length := by rw [HN.out]; exact hlt
      have k0 : (0 : Int) ≤ i := by omega
      have k1 : (i : Int) < n := by omega
      obtain ⟨_, _, e1, _, _, _, hcs⟩ := HL.out.on wrE_held hb
      obtain ⟨b, o, cs, ha, hbl, hE, _, hcell⟩ := hcs i hiL
      have hE' : cs = wrL L[i] := hE
      subst hE'
      simp only [Value.slice.injEq] at e1
      obtain ⟨rfl, _, rfl⟩ := e1
      subst ha
      have c0 := hcell 0 _ rfl
      have c1 := hcell 1 _ rfl
      have c2 := hcell 2 _ rfl
      simp only [Nat.add_zero] at c0
      have hnx := fm_next wr1L hiL
      have hln : (pre ++ (L.take (i + 1)).flatMap wr1L).length ≤ 1000000000 := by
        have h1 := HZ.out
        rw [HFU.out, List.length_append] at h1
        have h2 := fmy_take wr1L L (i + 1)
        rw [List.length_append]
        omega
      obtain ⟨x, hx⟩ : ∃ x, L[i] = x := ⟨_, rfl⟩
      rw [hx] at c0 c1 c2 hnx
      obtain ⟨acc, hacc⟩ : ∃ acc, pre ++ (L.take i).flatMap wr1L = acc := ⟨_, rfl⟩
      have hna : pre ++ (L.take (i + 1)).flatMap wr1L = acc ++ wr1L x := by rw [hnx, ← List.append_assoc, hacc]
      rw [hna] at hln
      rw [hacc]
      have HNA := Lib.hid hna
      have HB := Lib.hid hb
      have hlx : (wr1L x).length = (textL x.key).length + (textL x.val).length + (flagL x.dead).length := by unfold wr1L; rw [List.length_append, List.length_append]
      rw [List.length_append] at hln
      have hk1 := textL_len x.key
      have hk2 := textL_len x.val
      have s1 := sum_ok (a := txt acc) (b := txt (textL x.key)) (by rw [txt_size]; omega) (by rw [txt_size]; omega)
      have s2 := sum_ok (a := txt acc ++ txt (textL x.key)) (b := txt (textL x.val)) (by rw [txt_append, txt_size, List.length_append]; omega) (by rw [txt_size]; omega)
      have s3 := sum_ok (a := txt acc ++ txt (textL x.key) ++ txt (textL x.val)) (b := txt (flagL x.dead)) (by rw [txt_append, txt_append, txt_size, List.length_append, List.length_append]; omega) (by rw [txt_size]; omega)
      have HT1 := Lib.hid (fun X => text_ref x.key X (by omega))
      have HT2 := Lib.hid (fun X => text_ref x.val X (by omega))
      have HT3 := Lib.hid (fun X => flag_ref x.dead X)
      have hend : txt acc ++ txt (textL x.key) ++ txt (textL x.val) ++ txt (flagL x.dead) = txt (acc ++ wr1L x) := by
        rw [txt_append, txt_append, txt_append]
        unfold wr1L
        simp only [List.append_assoc]
      have HEND := Lib.hid hend
      clear hcs hcell hE hb hx hnx hna hln hacc hlx hk1 hk2 hend
      go_upto_region 5 with fail
      refine wp_region_fin (fun X9 => Below V.heap.size V X9) (fun X9 X' => Below X9.heap.size X9 X') [
        fun v9 _ => v9 = .string (txt acc),
        fun v9 _ => v9 = .slice (some ⟨b, o, none⟩) n cap,
        fun v9 _ => v9 = .int .i64 (i : Int),
        fun v9 _ => v9 = .pointer (some ⟨b, o + i * 3, none⟩),
        fun v9 _ => v9 = .pointer (some ⟨b, o + i * 3, none⟩),
        fun v9 _ => v9 = .string x.key,
        fun v9 _ => v9 = .string (txt (textL x.key)),
        fun v9 _ => v9 = .string (txt acc ++ txt (textL x.key)),
        fun v9 _ => v9 = .slice (some ⟨b, o, none⟩) n cap,
        fun v9 _ => v9 = .int .i64 (i : Int),
        fun v9 _ => v9 = .pointer (some ⟨b, o + i * 3, none⟩),
        fun v9 _ => v9 = .pointer (some ⟨b, o + i * 3 + 1, none⟩),
        fun v9 _ => v9 = .string x.val,
        fun v9 _ => v9 = .string (txt (textL x.val)),
        fun v9 _ => v9 = .string (txt acc ++ txt (textL x.key) ++ txt (textL x.val)),
        fun v9 _ => v9 = .slice (some ⟨b, o, none⟩) n cap,
        fun v9 _ => v9 = .int .i64 (i : Int),
        fun v9 _ => v9 = .pointer (some ⟨b, o + i * 3, none⟩),
        fun v9 _ => v9 = .pointer (some ⟨b, o + i * 3 + 2, none⟩),
        fun v9 _ => v9 = .bool x.dead,
        fun v9 _ => v9 = .string (txt (flagL x.dead)),
        fun v9 _ => v9 = .string (txt acc ++ txt (textL x.key) ++ txt (textL x.val) ++ txt (flagL x.dead))]
        (fun v9 X9 => v9 = .string (txt acc ++ txt (textL x.key) ++ txt (textL x.val) ++ txt (flagL x.dead)) ∧ Below V.heap.size V X9) rfl (by kernel_rfl) (by kernel_rfl) (by kernel_rfl) (by kernel_rfl) ?st ?g0 ?os ?la ?en
      case st => exact ⟨fun _ _ _ _ h => h, fun _ _ _ _ h => h, fun _ _ _ _ h => h, fun _ _ _ _ h => h, fun _ _ _ _ h => h, fun _ _ _ _ h => h, fun _ _ _ _ h => h, fun _ _ _ _ h => h, fun _ _ _ _ h => h, fun _ _ _ _ h => h, fun _ _ _ _ h => h, fun _ _ _ _ h => h, fun _ _ _ _ h => h, fun _ _ _ _ h => h, fun _ _ _ _ h => h, fun _ _ _ _ h => h, fun _ _ _ _ h => h, fun _ _ _ _ h => h, fun _ _ _ _ h => h, fun _ _ _ _ h => h, fun _ _ _ _ h => h, fun _ _ _ _ h => h, trivial⟩
      case g0 => exact ⟨rfl, rfl, rfl, Nat.le_refl _, fun _ _ => rfl⟩
      case os =>
        refine ⟨?_, ?_, ?_, ?_, ?_, ?_, ?_, ?_, ?_, ?_, ?_, ?_, ?_, ?_, ?_, ?_, ?_, ?_, ?_, ?_, ?_, ?_, trivial⟩
        · exact ⟨rfl, fun ρ X9 hg ho hc hf hr => Runs.val _ (op_move (show ρ (.tmp 3) = .string (txt acc) from ho 3 rfl)) ⟨hg, Below.refl _ _, rfl⟩⟩
        · exact ⟨rfl, fun ρ X9 hg ho hc hf hr => Runs.val _ (op_move (show ρ (.tmp 0) = .slice (some ⟨b, o, none⟩) n cap from ho 0 rfl)) ⟨hg, Below.refl _ _, rfl⟩⟩
        · exact ⟨rfl, fun ρ X9 hg ho hc hf hr => Runs.val _ (op_move (show ρ (.tmp 4) = .int .i64 (i : Int) from ho 4 rfl)) ⟨hg, Below.refl _ _, rfl⟩⟩
        · exact ⟨rfl, fun ρ X9 hg ho hc hf hr => Runs.val _ (op_x39 (show ρ (.tmp 15) = .slice (some ⟨b, o, none⟩) n cap from hr 1 15 rfl rfl) (show ρ (.tmp 16) = .int .i64 (i : Int) from hr 2 16 rfl rfl) hlt) ⟨hg, Below.refl _ _, rfl⟩⟩
        · exact ⟨rfl, fun ρ X9 hg ho hc hf hr => Runs.val _ (op_g55_0 (show ρ (.tmp 17) = .pointer (some ⟨b, o + i * 3, none⟩) from hr 3 17 rfl rfl)) ⟨hg, Below.refl _ _, rfl⟩⟩
        · exact ⟨rfl, fun ρ X9 hg ho hc hf hr => Runs.val _ (op_load9 (show ρ (.tmp 18) = .pointer (some ⟨b, o + i * 3, none⟩) from hr 4 18 rfl rfl) (cell_on hg c0)) ⟨hg, Below.refl _ _, rfl⟩⟩
        · refine ⟨rfl, fun ρ X9 hg ho hc hf hr => ?_⟩
          refine Runs.goes 65 #[.string x.key] (op_call1 hf calls65 (show ρ (.tmp 19) = .string x.key from hr 5 19 rfl rfl)) ((HT1.out X9).mono ?_)
          rintro e7 w7 ⟨rfl, b7⟩
          exact ⟨_, rfl, hg.trans (b7.mono hg.size), b7, rfl⟩
        · exact ⟨rfl, fun ρ X9 hg ho hc hf hr => Runs.val _ (op_cat (show ρ (.tmp 14) = .string (txt acc) from hr 0 14 rfl rfl) (show ρ (.tmp 20) = .string (txt (textL x.key)) from hr 6 20 rfl rfl) s1) ⟨hg, Below.refl _ _, rfl⟩⟩
        · exact ⟨rfl, fun ρ X9 hg ho hc hf hr => Runs.val _ (op_move (show ρ (.tmp 0) = .slice (some ⟨b, o, none⟩) n cap from ho 0 rfl)) ⟨hg, Below.refl _ _, rfl⟩⟩
        · exact ⟨rfl, fun ρ X9 hg ho hc hf hr => Runs.val _ (op_move (show ρ (.tmp 4) = .int .i64 (i : Int) from ho 4 rfl)) ⟨hg, Below.refl _ _, rfl⟩⟩
        · exact ⟨rfl, fun ρ X9 hg ho hc hf hr => Runs.val _ (op_x39 (show ρ (.tmp 22) = .slice (some ⟨b, o, none⟩) n cap from hr 8 22 rfl rfl) (show ρ (.tmp 23) = .int .i64 (i : Int) from hr 9 23 rfl rfl) hlt) ⟨hg, Below.refl _ _, rfl⟩⟩
        · exact ⟨rfl, fun ρ X9 hg ho hc hf hr => Runs.val _ (op_g55_1 (show ρ (.tmp 24) = .pointer (some ⟨b, o + i * 3, none⟩) from hr 10 24 rfl rfl)) ⟨hg, Below.refl _ _, rfl⟩⟩
        · exact ⟨rfl, fun ρ X9 hg ho hc hf hr => Runs.val _ (op_load9 (show ρ (.tmp 25) = .pointer (some ⟨b, o + i * 3 + 1, none⟩) from hr 11 25 rfl rfl) (cell_on hg c1)) ⟨hg, Below.refl _ _, rfl⟩⟩
        · refine ⟨rfl, fun ρ X9 hg ho hc hf hr => ?_⟩
          refine Runs.goes 65 #[.string x.val] (op_call1 hf calls65 (show ρ (.tmp 26) = .string x.val from hr 12 26 rfl rfl)) ((HT2.out X9).mono ?_)
          rintro e7 w7 ⟨rfl, b7⟩
          exact ⟨_, rfl, hg.trans (b7.mono hg.size), b7, rfl⟩
        · exact ⟨rfl, fun ρ X9 hg ho hc hf hr => Runs.val _ (op_cat (show ρ (.tmp 21) = .string (txt acc ++ txt (textL x.key)) from hr 7 21 rfl rfl) (show ρ (.tmp 27) = .string (txt (textL x.val)) from hr 13 27 rfl rfl) s2) ⟨hg, Below.refl _ _, rfl⟩⟩
        · exact ⟨rfl, fun ρ X9 hg ho hc hf hr => Runs.val _ (op_move (show ρ (.tmp 0) = .slice (some ⟨b, o, none⟩) n cap from ho 0 rfl)) ⟨hg, Below.refl _ _, rfl⟩⟩
        · exact ⟨rfl, fun ρ X9 hg ho hc hf hr => Runs.val _ (op_move (show ρ (.tmp 4) = .int .i64 (i : Int) from ho 4 rfl)) ⟨hg, Below.refl _ _, rfl⟩⟩
        · exact ⟨rfl, fun ρ X9 hg ho hc hf hr => Runs.val _ (op_x39 (show ρ (.tmp 29) = .slice (some ⟨b, o, none⟩) n cap from hr 15 29 rfl rfl) (show ρ (.tmp 30) = .int .i64 (i : Int) from hr 16 30 rfl rfl) hlt) ⟨hg, Below.refl _ _, rfl⟩⟩
        · exact ⟨rfl, fun ρ X9 hg ho hc hf hr => Runs.val _ (op_g55_2 (show ρ (.tmp 31) = .pointer (some ⟨b, o + i * 3, none⟩) from hr 17 31 rfl rfl)) ⟨hg, Below.refl _ _, rfl⟩⟩
        · exact ⟨rfl, fun ρ X9 hg ho hc hf hr => Runs.val _ (op_load4 (show ρ (.tmp 32) = .pointer (some ⟨b, o + i * 3 + 2, none⟩) from hr 18 32 rfl rfl) (cell_on hg c2)) ⟨hg, Below.refl _ _, rfl⟩⟩
        · refine ⟨rfl, fun ρ X9 hg ho hc hf hr => ?_⟩
          refine Runs.goes 66 #[.bool x.dead] (op_call1 hf calls66 (show ρ (.tmp 33) = .bool x.dead from hr 19 33 rfl rfl)) ((HT3.out X9).mono ?_)
          rintro e7 w7 ⟨rfl, b7⟩
          exact ⟨_, rfl, hg.trans (b7.mono hg.size), b7, rfl⟩
        · exact ⟨rfl, fun ρ X9 hg ho hc hf hr => Runs.val _ (op_cat (show ρ (.tmp 28) = .string (txt acc ++ txt (textL x.key) ++ txt (textL x.val)) from hr 14 28 rfl rfl) (show ρ (.tmp 34) = .string (txt (flagL x.dead)) from hr 20 34 rfl rfl) s3) ⟨hg, Below.refl _ _, rfl⟩⟩
      case la =>
        refine ⟨rfl, fun ρ X9 hg ho hc hf hr => ?_⟩
        exact Runs.val _ (op_assign (show ρ (.tmp 35) = .string (txt acc ++ txt (textL x.key) ++ txt (textL x.val) ++ txt (flagL x.dead)) from hr 21 35 (by decide) rfl)) ⟨rfl, hg⟩
      case en =>
        intro a9 X9 Xb v9 hF hs9 hd9 ho9 hv9 hr9
        obtain ⟨x9, hx, hxt⟩ := act_put hs9 hd9 ho9
        have e3 : x9 3 = .string (txt acc ++ txt (textL x.key) ++ txt (textL x.val) ++ txt (flagL x.dead)) := (hxt 3).symm.trans ((hv9 3 rfl).trans hF.1)
        change a9 = putAll _ x9 [14, 15, 16, 17, 18, 19, 20, 21, 22, 23, 24, 25, 26, 27, 28, 29, 30, 31, 32, 33, 34, 35, 3] at hx
        simp only [putAll, Act.put, List.setIfInBounds_toArray, List.set_cons_zero, List.set_cons_succ, e3] at hx
        have HG := Lib.hid hF.2
        clear hF hs9 hd9 ho9 hv9 hr9 hxt e3
        subst hx
        generalize x9 14 = z14, x9 15 = z15, x9 16 = z16, x9 17 = z17, x9 18 = z18, x9 19 = z19, x9 20 = z20, x9 21 = z21, x9 22 = z22, x9 23 = z23, x9 24 = z24, x9 25 = z25, x9 26 = z26, x9 27 = z27, x9 28 = z28, x9 29 = z29, x9 30 = z30, x9 31 = z31, x9 32 = z32, x9 33 = z33, x9 34 = z34, x9 35 = z35
        rw [HEND.out]
        go_wp2
        go_roundw
        case rel => exact ⟨i + 1, hiL, by go_num, by rw [HNA.out], HB.out.trans (HG.out.mono HB.out.size)⟩
        case measure => simp [intOf]; omega
    · have k1 : ¬ ((i : Int) < n) := by omega
      have ei : (L.take i) = L := List.take_of_length_le (by rw [HN.out]; omega)
      rw [ei, ← HFU.out]
      have HB := Lib.hid hb
      clear hb ei
      go_wp2
      go_ret
      exact ⟨rfl, HB.out⟩
end
end Go.Proofs.Ytcoaahlakkghhaa
