/- The document's Num, nums, flag, text. -/
import Derived.Test.YtfokgalgdlajlaaCp
import Derived.Lib.ConvBytes
namespace Go.Proofs.Ytfokgalgdlajlaa
open Go.RowKit
def I64 (n : Int) : Prop := -9223372036854775808 ≤ n ∧ n ≤ 9223372036854775807
theorem infoByte : (Try.prog.info? 5).map (fun i => (i.zero, i.size, i.bytes)) = some (some (.int .u8 0), 1, 1) := by kernel_rfl
def zig (n : Int) : Nat := if n < 0 then (-2 * n - 1).toNat else (2 * n).toNat
theorem zig_lt {n : Int} (h : I64 n) : zig n < 18446744073709551616 := by
  unfold I64 at h
  unfold zig
  split <;> omega
/-- At most k groups. -/
def grpN : Nat → Nat → List UInt8
  | 0, _ => []
  | k + 1, z => if z < 128 then [UInt8.ofNat z] else UInt8.ofNat (z % 128 + 128) :: grpN k (z / 128)
def grp (z : Nat) : List UInt8 := grpN 10 z
theorem grpN_len : ∀ (k z : Nat), (grpN k z).length ≤ k
  | 0, _ => Nat.le_refl _
  | k + 1, z => by
    unfold grpN
    split
    · simp
    · have := grpN_len k (z / 128)
      simp only [List.length_cons]
      omega
theorem grp_len (z : Nat) : (grp z).length ≤ 10 := grpN_len 10 z
theorem toNat_of {z : Nat} (h : z < 256) : (UInt8.ofNat z).toNat = z := by
  rw [UInt8.toNat_ofNat']
  exact Nat.mod_eq_of_lt h
/-- Groups, where there is room for all. -/
theorem grpN_step (k z : Nat) (h : 128 ≤ z) : grpN (k + 1) z = UInt8.ofNat (z % 128 + 128) :: grpN k (z / 128) := by
  show (if z < 128 then _ else _) = _
  rw [if_neg (by omega)]
theorem grpN_last (k z : Nat) (h : z < 128) : grpN (k + 1) z = [UInt8.ofNat z] := by
  show (if z < 128 then _ else _) = _
  rw [if_pos h]
/-- A number's bytes. -/
def num (n : Int) : List UInt8 := grp (zig n)
theorem num_len (n : Int) : (num n).length ≤ 10 := grp_len _
theorem ba_ext {s t : ByteArray} (h : s.data.toList = t.data.toList) : s = t := by
  cases s
  cases t
  simp only [Array.toList_inj] at h
  rw [h]
def txt (l : List UInt8) : ByteArray := ⟨l.toArray⟩
theorem txt_of (s : ByteArray) : txt s.data.toList = s := by cases s; rfl
theorem txt_size (l : List UInt8) : (txt l).size = l.length := rfl
theorem fold_pos {n : Int} (h : I64 n) (hn : 0 ≤ n) : IntKind.u64.wrap (IntKind.u64.wrap n * 2) = (zig n : Int) := by
  unfold I64 at h
  rw [IntKind.wrap_u64, IntKind.wrap_u64]
  unfold zig
  rw [if_neg (by omega)]
  omega
/-- A number of 64 bits without a sign. -/
def U64 (z : Nat) : Prop := z < 18446744073709551616
theorem byteCells_append (a b : List UInt8) : Lib.byteCells (a ++ b) = Lib.byteCells a ++ Lib.byteCells b := by simp [Lib.byteCells]
theorem news_one (w : World) (c : Value) (t : TypeId) : ∀ j u, [c][j]? = some u → (w.alloc (.cells #[c] t)).cell? ((⟨w.heap.size, 0, none⟩ : Addr).add j) = some u := by
  intro j u hj
  match j, hj with
  | 0, hj => simp at hj; subst hj; simp [Addr.add]
/-- What is done, and left, of a number's groups. -/
structure Wg (z : Nat) (d : List UInt8) (k y : Nat) : Prop where
  one : 1 ≤ k
  lt : y < 128 ^ k
  eq : grp z = d ++ grpN k y
theorem Wg.start {z : Nat} (h : U64 z) : Wg z [] 10 z := ⟨by omega, by unfold U64 at h; omega, rfl⟩
theorem Wg.next {z k y : Nat} {d : List UInt8} (h : Wg z d k y) (hy : 128 ≤ y) : ∃ k', Wg z (d ++ [UInt8.ofNat (y % 128 + 128)]) k' (y / 128) := by
  obtain ⟨j, rfl⟩ : ∃ j, k = j + 1 := ⟨k - 1, by have := h.one; omega⟩
  have hl := h.lt
  refine ⟨j, ?_, ?_, ?_⟩
  · rcases Nat.eq_zero_or_pos j with rfl | q
    · simp at hl; omega
    · exact q
  · rw [Nat.pow_succ] at hl
    exact Nat.div_lt_of_lt_mul (by rw [Nat.mul_comm]; exact hl)
  · rw [h.eq, grpN_step j y hy, List.append_assoc]
    rfl
theorem Wg.last {z k y : Nat} {d : List UInt8} (h : Wg z d k y) (hy : y < 128) : grp z = d ++ [UInt8.ofNat y] := by
  obtain ⟨j, rfl⟩ : ∃ j, k = j + 1 := ⟨k - 1, by have := h.one; omega⟩
  rw [h.eq, grpN_last j y hy]
theorem or_last (y : Nat) (h : y < 128) : (y : Int) = ((UInt8.ofNat y).toNat : Int) := by rw [toNat_of (by omega)]
theorem conv_row {w : World} {B : Nat} {v : Value} {l : List UInt8} (h : w.ownsRow B 5 1 v l.length (Lib.byteCells l)) : (convert 145 9 v).run Try.prog w = .ok (.string (txt l)) w := by
  rcases h.2 with ⟨rfl, h0⟩ | ⟨g, cap, cur, rfl, _⟩
  · have : l = [] := List.eq_nil_of_length_eq_zero h0
    subst this
    exact run_convert_bytes_nil (P := Try.prog) w 145 5 Try.underlying145 Try.underlying5 0 0 9 Try.underlying9
  · exact run_convert_bytes_back (P := Try.prog) w 145 9 5 ⟨g, 0, none⟩ cap l Try.underlying145 Try.underlying5 Try.underlying9 (fun j hj => h.cells (g := g) rfl j _ (by simp [Lib.byteCells, hj]))
theorem neg_zig {n : Int} (h : I64 n) (hn : n < 0) : IntKind.u64.wrap (IntKind.u64.wrap (IntKind.u64.wrap (wrap64 (-wrap64 (n + 1))) * 2) + 1) = (zig n : Int) := by
  unfold I64 at h
  have e1 : wrap64 (n + 1) = n + 1 := by unfold wrap64; omega
  have e2 : wrap64 (-(n + 1)) = -(n + 1) := by unfold wrap64; omega
  rw [e1, e2, IntKind.wrap_u64, IntKind.wrap_u64, IntKind.wrap_u64]
  unfold zig
  rw [if_pos hn]
  omega
/-- One byte more in a row. -/
theorem row_push {w : World} {B : Nat} {v : Value} {l : List UInt8} (h : w.ownsRow B 5 1 v l.length (Lib.byteCells l)) (hB : B ≤ w.heap.size) (b : UInt8) (hz : l.length ≤ 1000000) : ∃ v2 w2, (Builtin.append_ #[145, 145] 145 #[v, .slice (some ⟨w.heap.size, 0, none⟩) 1 1]).run Try.prog (w.alloc (.cells #[.int .u8 b.toNat] 5)) = .ok v2 w2 ∧ w2.ownsRow B 5 1 v2 (l ++ [b]).length (Lib.byteCells (l ++ [b])) ∧ Below B w w2 := by
  obtain ⟨i0, hi, hz0, hz1, hz2⟩ := info_parts infoByte
  have hb : Below w.heap.size w (w.alloc (.cells #[.int .u8 b.toNat] 5)) := Below.alloc (Below.refl _ _) (Nat.le_refl _) _
  have hrow := own_below h hb
  have hsz : (w.alloc (.cells #[.int .u8 b.toNat] 5)).heap.size = w.heap.size + 1 := by simp
  obtain ⟨v', w', hr, ho', hg, _, hat⟩ := run_append_own_at (P := Try.prog) (w := w.alloc (.cells #[.int .u8 b.toNat] 5)) B 145 145 5 i0 _ 1 1 Try.underlying145 hi hz0 hz1 hz2 rfl (by decide) v _ _ hrow ⟨w.heap.size, 0, none⟩ 1 1 [.int .u8 b.toNat] rfl (news_one w _ 5) (by intro u hu; simp at hu; subst hu; rfl) (by unfold maxLen; omega) (by omega) (by omega)
  refine ⟨v', w', hr, ?_, (hb.mono hB).grown hg (by rw [hsz]; omega) (fun k hk => (hrow.lt k hk).1)⟩
  rw [byteCells_append, List.length_append]
  simpa [Lib.byteCells] using ho'
theorem div_wrap {y z : Nat} (h : U64 z) (hy : y ≤ z) : IntKind.u64.wrap ((y : Int) / 128) = (y : Int) / 128 := by
  unfold U64 at h
  rw [IntKind.wrap_u64]
  omega
theorem byte_more (y : Nat) : (y : Int) % 128 + 128 = ((UInt8.ofNat (y % 128 + 128)).toNat : Int) := by
  rw [toNat_of (by omega)]
  omega
set_option maxHeartbeats 2000000 in
set_option maxRecDepth 100000 in
theorem num_ref (n : Int) (w : World) (h : I64 n) : Calls Try.prog 64 #[.int .i64 n] w fun e w' => e = .returned (.string (txt (num n))) ∧ Below w.heap.size w w' := by
  have HW := Lib.hid (Wg.start (zig_lt h))
  have HZ : Hid (U64 (zig n)) := zig_lt h
  have HN : Hid (num n = grp (zig n)) := rfl
  have hpos : ¬ n < 0 → IntKind.u64.wrap (IntKind.u64.wrap n * 2) = (zig n : Int) := fun q => fold_pos h (by omega)
  have hneg : n < 0 → IntKind.u64.wrap (IntKind.u64.wrap (IntKind.u64.wrap (wrap64 (-wrap64 (n + 1))) * 2) + 1) = (zig n : Int) := fun q => neg_zig h q
  clear h
  obtain ⟨z, hz⟩ : ∃ z, zig n = z := ⟨_, rfl⟩
  rw [hz] at HW HN HZ hpos hneg
  clear hz
  by_cases hn : n < 0
  · have h2 := hneg hn
    clear hneg hpos
    go_enter Try.func64, Try.ntmps64
    go_wp2
    go_loopw [3, 4] (fun zv ov wr => ∃ k y d, Hid (Wg z d k y ∧ y ≤ z) ∧ zv = .int .u64 y ∧ wr.ownsRow w.heap.size 5 1 ov d.length (Lib.byteCells d) ∧ Below w.heap.size w wr) (fun zv _ _ => (intOf zv).toNat)
    case atStart => exact ⟨10, z, [], Lib.hid ⟨HW.out, Nat.le_refl _⟩, rfl, World.ownsRow_nil _ _ _ _, Below.refl _ _⟩
    case round =>
      obtain ⟨k, y, d, HG, rfl, hrow, hb⟩ := hrel
      have hdl : d.length ≤ 10 := by
        have h1 := congrArg List.length HG.out.1.eq
        have h2 := grp_len z
        rw [List.length_append] at h1
        omega
      by_cases hy : 128 ≤ y
      · have e1 := byte_more y
        have hdv := div_wrap HZ.out HG.out.2
        obtain ⟨b, hbb⟩ : ∃ b, UInt8.ofNat (y % 128 + 128) = b := ⟨_, rfl⟩
        rw [hbb] at e1
        have hbl := b.toNat_lt
        obtain ⟨v2, w2, hrun, q1, q2⟩ := row_push hrow hb.size b (by omega)
        obtain ⟨adv, cpv, rfl⟩ := own_shape hrow
        obtain ⟨ad2, cap2, rfl⟩ := own_shape q1
        obtain ⟨D2, hD2⟩ : ∃ D2, (d ++ [b]).length = D2 := ⟨_, rfl⟩
        rw [hD2] at hrun q1
        have HD := Lib.hid hD2
        have HB := Lib.hid hbb
        have H1 := Lib.hid q1
        have H2 := Lib.hid q2
        have HBb := Lib.hid hb
        clear hD2
        clear hbb q1 q2 hb hrow hdl
        go_wp2_with (at_builtin; refine wpl_run2 _ _ rfl (by simp [Act.eval]) (by simp [Act.eval]) hrun ?_)
        go_roundw
        case rel =>
          obtain ⟨k', hk'⟩ := HG.out.1.next hy
          rw [HB.out] at hk'
          refine ⟨k', y / 128, _, Lib.hid ⟨hk', Nat.le_trans (Nat.div_le_self _ _) HG.out.2⟩, by go_num, ?_, HBb.out.trans H2.out⟩
          rw [HD.out]
          exact H1.out
        case measure => simp [intOf]; omega
      · have e1 := or_last y (by omega)
        have hlast := HG.out.1.last (by omega : y < 128)
        obtain ⟨b, hbb⟩ : ∃ b, UInt8.ofNat y = b := ⟨_, rfl⟩
        rw [hbb] at e1 hlast
        obtain ⟨v2, w2, hrun, q1, q2⟩ := row_push hrow hb.size b (by omega)
        have hcv := conv_row q1
        obtain ⟨adv, cpv, rfl⟩ := own_shape hrow
        obtain ⟨ad2, cap2, rfl⟩ := own_shape q1
        obtain ⟨D2, hD2⟩ : ∃ D2, (d ++ [b]).length = D2 := ⟨_, rfl⟩
        have H2 := Lib.hid q2
        have HBb := Lib.hid hb
        have HL := Lib.hid hlast
        rw [← e1] at hrun
        rw [hD2] at hrun hcv
        clear hD2
        have hy1 : y < 128 := by omega
        have hy2 : (y : Int) % 256 = y := by omega
        clear hbb q1 q2 hb hrow hdl e1 hlast
        go_wp2_with (at_builtin; refine wpl_run2 _ _ rfl (by simp [Act.eval]) (by simp [Act.eval]) hrun ?_)
        go_ret
        refine ⟨?_, HBb.out.trans H2.out⟩
        rw [HN.out, HL.out]
        rfl
  · have h2 := hpos hn
    clear hneg hpos
    go_enter Try.func64, Try.ntmps64
    go_wp2
    go_loopw [3, 4] (fun zv ov wr => ∃ k y d, Hid (Wg z d k y ∧ y ≤ z) ∧ zv = .int .u64 y ∧ wr.ownsRow w.heap.size 5 1 ov d.length (Lib.byteCells d) ∧ Below w.heap.size w wr) (fun zv _ _ => (intOf zv).toNat)
    case atStart => exact ⟨10, z, [], Lib.hid ⟨HW.out, Nat.le_refl _⟩, rfl, World.ownsRow_nil _ _ _ _, Below.refl _ _⟩
    case round =>
      obtain ⟨k, y, d, HG, rfl, hrow, hb⟩ := hrel
      have hdl : d.length ≤ 10 := by
        have h1 := congrArg List.length HG.out.1.eq
        have h2 := grp_len z
        rw [List.length_append] at h1
        omega
      by_cases hy : 128 ≤ y
      · have e1 := byte_more y
        have hdv := div_wrap HZ.out HG.out.2
        obtain ⟨b, hbb⟩ : ∃ b, UInt8.ofNat (y % 128 + 128) = b := ⟨_, rfl⟩
        rw [hbb] at e1
        have hbl := b.toNat_lt
        obtain ⟨v2, w2, hrun, q1, q2⟩ := row_push hrow hb.size b (by omega)
        obtain ⟨adv, cpv, rfl⟩ := own_shape hrow
        obtain ⟨ad2, cap2, rfl⟩ := own_shape q1
        obtain ⟨D2, hD2⟩ : ∃ D2, (d ++ [b]).length = D2 := ⟨_, rfl⟩
        rw [hD2] at hrun q1
        have HD := Lib.hid hD2
        have HB := Lib.hid hbb
        have H1 := Lib.hid q1
        have H2 := Lib.hid q2
        have HBb := Lib.hid hb
        clear hD2
        clear hbb q1 q2 hb hrow hdl
        go_wp2_with (at_builtin; refine wpl_run2 _ _ rfl (by simp [Act.eval]) (by simp [Act.eval]) hrun ?_)
        go_roundw
        case rel =>
          obtain ⟨k', hk'⟩ := HG.out.1.next hy
          rw [HB.out] at hk'
          refine ⟨k', y / 128, _, Lib.hid ⟨hk', Nat.le_trans (Nat.div_le_self _ _) HG.out.2⟩, by go_num, ?_, HBb.out.trans H2.out⟩
          rw [HD.out]
          exact H1.out
        case measure => simp [intOf]; omega
      · have e1 := or_last y (by omega)
        have hlast := HG.out.1.last (by omega : y < 128)
        obtain ⟨b, hbb⟩ : ∃ b, UInt8.ofNat y = b := ⟨_, rfl⟩
        rw [hbb] at e1 hlast
        obtain ⟨v2, w2, hrun, q1, q2⟩ := row_push hrow hb.size b (by omega)
        have hcv := conv_row q1
        obtain ⟨adv, cpv, rfl⟩ := own_shape hrow
        obtain ⟨ad2, cap2, rfl⟩ := own_shape q1
        obtain ⟨D2, hD2⟩ : ∃ D2, (d ++ [b]).length = D2 := ⟨_, rfl⟩
        have H2 := Lib.hid q2
        have HBb := Lib.hid hb
        have HL := Lib.hid hlast
        rw [← e1] at hrun
        rw [hD2] at hrun hcv
        clear hD2
        have hy1 : y < 128 := by omega
        have hy2 : (y : Int) % 256 = y := by omega
        clear hbb q1 q2 hb hrow hdl e1 hlast
        go_wp2_with (at_builtin; refine wpl_run2 _ _ rfl (by simp [Act.eval]) (by simp [Act.eval]) hrun ?_)
        go_ret
        refine ⟨?_, HBb.out.trans H2.out⟩
        rw [HN.out, HL.out]
        rfl
def flagL (b : Bool) : List UInt8 := num (if b then 1 else 0)
def textL (s : ByteArray) : List UInt8 := num (s.size : Int) ++ s.data.toList
theorem txt_append (a b : List UInt8) : txt a ++ txt b = txt (a ++ b) := by
  apply ba_ext
  simp [txt]
theorem sum_ok {a b : ByteArray} (ha : a.size ≤ 4000000000) (hb : b.size ≤ 4000000000) : ¬ 9223372036854775807 < a.size + b.size := by omega
theorem numsL_len (ns : List Int) : (ns.flatMap num).length ≤ ns.length * 10 := by
  induction ns with
  | nil => simp
  | cons n r ih =>
    have := num_len n
    simp only [List.flatMap_cons, List.length_append, List.length_cons]
    omega
def numsL (ns : List Int) : List UInt8 := ns.flatMap num
theorem numsL_take (ns : List Int) (i : Nat) (h : i < ns.length) : numsL (ns.take (i + 1)) = numsL (ns.take i) ++ num ns[i] := by
  unfold numsL
  rw [List.take_succ_eq_append_getElem h, List.flatMap_append]
  simp only [List.flatMap_cons, List.flatMap_nil, List.append_nil]
/-- Numbers in a row of their own. -/
def Ints (w : World) (F : Nat) (ns : List Int) : Prop := ∃ cs ty, w.heap[F]? = some (.cells cs ty (0, 0)) ∧ ∀ i (h : i < ns.length), cs[i]? = some (.int .i64 ns[i])
theorem Ints.on {w w' : World} {F : Nat} {ns : List Int} (h : Ints w F ns) (hb : Below w.heap.size w w') : Ints w' F ns := by
  obtain ⟨cs, ty, h1, h2⟩ := h
  exact ⟨cs, ty, (hb.block F (blk_lt h1)).trans h1, h2⟩
set_option maxHeartbeats 2000000 in
set_option maxRecDepth 100000 in
theorem nums_ref {F : Nat} {ns : List Int} (w : World) (k : Nat) (hk : ns.length = k) (hk2 : k ≤ 100) (h : Ints w F ns) (hi : ∀ n ∈ ns, I64 n) : Calls Try.prog 68 #[.slice (some ⟨F, 0, none⟩) k k] w fun e w' => e = .returned (.string (txt (numsL ns))) ∧ Below w.heap.size w w' := by
  have HK := Lib.hid hk
  have HI := Lib.hid hi
  have HX := Lib.hid h
  clear hk hi h
  go_enter Try.func68, Try.ntmps68
  go_wp2
  go_loopw [3, 4] (fun ov iv wr => ∃ (i : Nat) (str : ByteArray), i ≤ k ∧ iv = .int .i64 i ∧ ov = .string str ∧ Hid (str = txt (numsL (ns.take i))) ∧ Below w.heap.size w wr) (fun _ iv _ => k - (intOf iv).toNat)
  case atStart => exact ⟨0, ⟨#[]⟩, by omega, rfl, rfl, rfl, Below.refl _ _⟩
  case round =>
    obtain ⟨i, str, hik, rfl, rfl, HS, hb⟩ := hrel
    by_cases hlt : i < k
    · have hltn : i < ns.length := by rw [HK.out]; exact hlt
      obtain ⟨cs, ty, h1, h2⟩ := HX.out.on hb
      obtain ⟨n, hn⟩ : ∃ n, ns[i] = n := ⟨_, rfl⟩
      have hin : I64 n := by rw [← hn]; exact HI.out _ (List.getElem_mem hltn)
      have cF : wr.cell? ⟨F, i, none⟩ = some (.int .i64 n) := by rw [cell_blk h1, h2 i hltn, hn]
      have HE : Hid (numsL (ns.take (i + 1)) = numsL (ns.take i) ++ num n) := by
        show _ = _
        rw [numsL_take ns i hltn, hn]
      have hcall := num_ref n wr hin
      have HB := Lib.hid hb
      clear h1 h2 hn hin hltn hb
      obtain ⟨str2, hs2⟩ : ∃ q, txt (num n) = q := ⟨_, rfl⟩
      rw [hs2] at hcall
      have hsum := sum_ok (a := str) (b := str2) (by
        have := numsL_len (ns.take i)
        rw [HS.out, txt_size]
        unfold numsL
        rw [List.length_take] at this
        omega) (by
        have := num_len n
        rw [← hs2, txt_size]
        omega)
      go_wp2_with (go_at_call 64; refine hcall.mono ?_; rintro e w1 ⟨rfl, hb1⟩; refine Hid.out ?_)
      refine Lib.hid ?_
      have HB1 : Hid (Below w.heap.size w w1) := HB.out.trans (hb1.mono HB.out.size)
      clear hb1 hcall
      go_wp2
      go_roundw
      case rel =>
        refine ⟨i + 1, _, by omega, by go_num, rfl, ?_, HB1.out⟩
        show _ = _
        rw [HE.out, HS.out, ← hs2, txt_append]
      case measure => simp [intOf]; omega
    · have hiF : i = k := by omega
      subst hiF
      go_wp2
      go_ret
      refine ⟨?_, hb⟩
      rw [HS.out, ← HK.out, List.take_length]
      rfl
set_option maxHeartbeats 2000000 in
set_option maxRecDepth 100000 in
theorem flag_ref (b : Bool) (w : World) : Calls Try.prog 79 #[.bool b] w fun e w' => e = .returned (.string (txt (flagL b))) ∧ Below w.heap.size w w' := by
  have h1 := num_ref 1 w (by unfold I64; omega)
  have h0 := num_ref 0 w (by unfold I64; omega)
  cases b with
  | false =>
    go_enter Try.func79, Try.ntmps79
    go_wp2_with (go_at_call 64; refine h0.mono ?_; rintro e w1 ⟨rfl, hb1⟩; refine Hid.out ?_)
    refine Lib.hid ?_
    go_wp2
    go_ret
    exact ⟨rfl, hb1⟩
  | true =>
    go_enter Try.func79, Try.ntmps79
    go_wp2_with (go_at_call 64; refine h1.mono ?_; rintro e w1 ⟨rfl, hb1⟩; refine Hid.out ?_)
    refine Lib.hid ?_
    go_wp2
    go_ret
    exact ⟨rfl, hb1⟩
set_option maxHeartbeats 2000000 in
set_option maxRecDepth 100000 in
theorem text_ref (s : ByteArray) (w : World) (h : s.size ≤ 1000000000) : Calls Try.prog 70 #[.string s] w fun e w' => e = .returned (.string (txt (textL s))) ∧ Below w.heap.size w w' := by
  have e0 : s.data.toList.length = s.size := by rw [Array.length_toList]; rfl
  have HE : Hid (textL s = num (s.size : Int) ++ s.data.toList) := by
    show _ = _
    unfold textL
    rfl
  clear e0
  have h1 := num_ref (s.size : Int) w (by unfold I64; omega)
  obtain ⟨str2, hs2⟩ : ∃ q, txt (num (s.size : Int)) = q := ⟨_, rfl⟩
  rw [hs2] at h1
  have hsum := sum_ok (a := str2) (b := s) (by
    have := num_len (s.size : Int)
    rw [← hs2, txt_size]
    omega) (by omega)
  go_enter Try.func70, Try.ntmps70
  go_wp2_with (go_at_call 64; refine h1.mono ?_; rintro e w1 ⟨rfl, hb1⟩; refine Hid.out ?_)
  refine Lib.hid ?_
  go_wp2
  go_ret
  refine ⟨?_, hb1⟩
  rw [HE.out, ← txt_append, hs2, txt_of]
  rfl
end Go.Proofs.Ytfokgalgdlajlaa
