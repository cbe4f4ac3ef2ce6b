/- The document's Num, nums, flag, text. -/
import Derived.Test.YtjhgmncmcklnkaaVB
import Derived.Test.YtjhgmncmcklnkaaVC
namespace Go.Proofs.Ytjhgmncmcklnkaa
open Go.RowKit

theorem conv_row {w : World} {B : Nat} {v : Value} {l : List UInt8} (h : w.ownsRow B 5 1 v l.length (Lib.byteCells l)) : (convert 130 9 v).run Try.prog w = .ok (.string (txt l)) w := by
  rcases h.2 with ⟨rfl, h0⟩ | ⟨g, cap, cur, rfl, _⟩
  · have : l = [] := List.eq_nil_of_length_eq_zero h0
    subst this
    exact run_convert_bytes_nil (P := Try.prog) w 130 5 Try.underlying130 Try.underlying5 0 0 9 Try.underlying9
  · exact run_convert_bytes_back (P := Try.prog) w 130 9 5 ⟨g, 0, none⟩ cap l Try.underlying130 Try.underlying5 Try.underlying9 (fun j hj => h.cells (g := g) rfl j _ (by simp [Lib.byteCells, hj]))
theorem neg_zig {n : Int} (h : I64 n) (hn : n < 0) : IntKind.u64.wrap (IntKind.u64.wrap (IntKind.u64.wrap (wrap64 (-wrap64 (n + 1))) * 2) + 1) = (zig n : Int) := by
  unfold I64 at h
  have e1 : wrap64 (n + 1) = n + 1 := by unfold wrap64; omega
  have e2 : wrap64 (-(n + 1)) = -(n + 1) := by unfold wrap64; omega
  rw [e1, e2, IntKind.wrap_u64, IntKind.wrap_u64, IntKind.wrap_u64]
  unfold zig
  rw [if_pos hn]
  omega
/-- One byte more in a row. -/
theorem row_push {w : World} {B : Nat} {v : Value} {l : List UInt8} (h : w.ownsRow B 5 1 v l.length (Lib.byteCells l)) (hB : B ≤ w.heap.size) (b : UInt8) (hz : l.length ≤ 1000000) : ∃ v2 w2, (Builtin.append_ #[130, 130] 130 #[v, .slice (some ⟨w.heap.size, 0, none⟩) 1 1]).run Try.prog (w.alloc (.cells #[.int .u8 b.toNat] 5)) = .ok v2 w2 ∧ w2.ownsRow B 5 1 v2 (l ++ [b]).length (Lib.byteCells (l ++ [b])) ∧ Below B w w2 := by
  obtain ⟨i0, hi, hz0, hz1, hz2⟩ := info_parts infoByte
  have hb : Below w.heap.size w (w.alloc (.cells #[.int .u8 b.toNat] 5)) := Below.alloc (Below.refl _ _) (Nat.le_refl _) _
  have hrow := own_below h hb
  have hsz : (w.alloc (.cells #[.int .u8 b.toNat] 5)).heap.size = w.heap.size + 1 := by simp
  obtain ⟨v', w', hr, ho', hg, _, hat⟩ := run_append_own_at (P := Try.prog) (w := w.alloc (.cells #[.int .u8 b.toNat] 5)) B 130 130 5 i0 _ 1 1 Try.underlying130 hi hz0 hz1 hz2 rfl (by decide) v _ _ hrow ⟨w.heap.size, 0, none⟩ 1 1 [.int .u8 b.toNat] rfl (news_one w _ 5) (by intro u hu; simp at hu; subst hu; rfl) (by unfold maxLen; omega) (by omega) (by omega)
  refine ⟨v', w', hr, ?_, (hb.mono hB).grown hg (by rw [hsz]; omega) (fun k hk => (hrow.lt k hk).1)⟩
  rw [byteCells_append, List.length_append]
  simpa [Lib.byteCells] using ho'
theorem div_wrap {y z : Nat} (h : U64 z) (hy : y ≤ z) : IntKind.u64.wrap ((y : Int) / 128) = (y : Int) / 128 := by
  unfold U64 at h
  rw [IntKind.wrap_u64]
  omega
theorem byte_more (y : Nat) : (y : Int) % 128 + 128 = ((UInt8.ofNat (y % 128 + 128)).toNat : Int) := by
  rw [toNat_of (by omega)]
  omega
set_option maxHeartbeats 2000000 in
set_option maxRecDepth 100000 in
theorem num_ref (n : Int) (w : World) (h : I64 n) : Calls Try.prog 38 #[.int .i64 n] w fun e w' => e = .returned (.string (txt (num n))) ∧ Below w.heap.size w w' := by
  have HW := Lib.hid (Wg.start (zig_lt h))
  have HZ : Hid (U64 (zig n)) := zig_lt h
  have HN : Hid (num n = grp (zig n)) := rfl
  have hpos : ¬ n < 0 → IntKind.u64.wrap (IntKind.u64.wrap n * 2) = (zig n : Int) := fun q => fold_pos h (by omega)
  have hneg : n < 0 → IntKind.u64.wrap (IntKind.u64.wrap (IntKind.u64.wrap (wrap64 (-wrap64 (n + 1))) * 2) + 1) = (zig n : Int) := fun q => neg_zig h q
  clear h
  obtain ⟨z, hz⟩ : ∃ z, zig n = z := ⟨_, rfl⟩
  rw [hz] at HW HN HZ hpos hneg
  clear hz
  by_cases hn : n < 0
  · have h2 := hneg hn
    clear hneg hpos
    go_enter Try.func38, Try.ntmps38
    go_wp2
    go_loopw [3, 4] (fun zv ov wr => ∃ k y d, Hid (Wg z d k y ∧ y ≤ z) ∧ zv = .int .u64 y ∧ wr.ownsRow w.heap.size 5 1 ov d.length (Lib.byteCells d) ∧ Below w.heap.size w wr) (fun zv _ _ => (intOf zv).toNat)
    case atStart => exact ⟨10, z, [], Lib.hid ⟨HW.out, Nat.le_refl _⟩, rfl, World.ownsRow_nil _ _ _ _, Below.refl _ _⟩
    case round =>
      obtain ⟨k, y, d, HG, rfl, hrow, hb⟩ := hrel
      have hdl : d.length ≤ 10 := by
        have h1 := congrArg List.length HG.out.1.eq
        have h2 := grp_len z
        rw [List.length_append] at h1
        omega
      by_cases hy : 128 ≤ y
      · have e1 := byte_more y
        have hdv := div_wrap HZ.out HG.out.2
        obtain ⟨b, hbb⟩ : ∃ b, UInt8.ofNat (y % 128 + 128) = b := ⟨_, rfl⟩
        rw [hbb] at e1
        have hbl := b.toNat_lt
        obtain ⟨v2, w2, hrun, q1, q2⟩ := row_push hrow hb.size b (by omega)
        obtain ⟨adv, cpv, rfl⟩ := own_shape hrow
        obtain ⟨ad2, cap2, rfl⟩ := own_shape q1
        obtain ⟨D2, hD2⟩ : ∃ D2, (d ++ [b]).length = D2 := ⟨_, rfl⟩
        rw [hD2] at hrun q1
        have HD := Lib.hid hD2
        have HB := Lib.hid hbb
        have H1 := Lib.hid q1
        have H2 := Lib.hid q2
        have HBb := Lib.hid hb
        clear hD2
        clear hbb q1 q2 hb hrow hdl
        go_wp2_with (at_builtin; refine wpl_run _ _ rfl (by simp [Act.eval]) (by simp [Act.eval]) hrun ?_)
        go_roundw
        case rel =>
          obtain ⟨k', hk'⟩ := HG.out.1.next hy
          rw [HB.out] at hk'
          refine ⟨k', y / 128, _, Lib.hid ⟨hk', Nat.le_trans (Nat.div_le_self _ _) HG.out.2⟩, by go_num, ?_, HBb.out.trans H2.out⟩
          rw [HD.out]
          exact H1.out
        case measure => simp [intOf]; omega
      · have e1 := or_last y (by omega)
        have hlast := HG.out.1.last (by omega : y < 128)
        obtain ⟨b, hbb⟩ : ∃ b, UInt8.ofNat y = b := ⟨_, rfl⟩
        rw [hbb] at e1 hlast
        obtain ⟨v2, w2, hrun, q1, q2⟩ := row_push hrow hb.size b (by omega)
        have hcv := conv_row q1
        obtain ⟨adv, cpv, rfl⟩ := own_shape hrow
        obtain ⟨ad2, cap2, rfl⟩ := own_shape q1
        obtain ⟨D2, hD2⟩ : ∃ D2, (d ++ [b]).length = D2 := ⟨_, rfl⟩
        have H2 := Lib.hid q2
        have HBb := Lib.hid hb
        have HL := Lib.hid hlast
        rw [← e1] at hrun
        rw [hD2] at hrun hcv
        clear hD2
        have hy1 : y < 128 := by omega
        have hy2 : (y : Int) % 256 = y := by omega
        clear hbb q1 q2 hb hrow hdl e1 hlast
        go_wp2_with (at_builtin; refine wpl_run _ _ rfl (by simp [Act.eval]) (by simp [Act.eval]) hrun ?_)
        go_ret
        refine ⟨?_, HBb.out.trans H2.out⟩
        rw [HN.out, HL.out]
        rfl
  · have h2 := hpos hn
    clear hneg hpos
    go_enter Try.func38, Try.ntmps38
    go_wp2
    go_loopw [3, 4] (fun zv ov wr => ∃ k y d, Hid (Wg z d k y ∧ y ≤ z) ∧ zv = .int .u64 y ∧ wr.ownsRow w.heap.size 5 1 ov d.length (Lib.byteCells d) ∧ Below w.heap.size w wr) (fun zv _ _ => (intOf zv).toNat)
    case atStart => exact ⟨10, z, [], Lib.hid ⟨HW.out, Nat.le_refl _⟩, rfl, World.ownsRow_nil _ _ _ _, Below.refl _ _⟩
    case round =>
      obtain ⟨k, y, d, HG, rfl, hrow, hb⟩ := hrel
      have hdl : d.length ≤ 10 := by
        have h1 := congrArg List.length HG.out.1.eq
        have h2 := grp_len z
        rw [List.length_append] at h1
        omega
      by_cases hy : 128 ≤ y
      · have e1 := byte_more y
        have hdv := div_wrap HZ.out HG.out.2
        obtain ⟨b, hbb⟩ : ∃ b, UInt8.ofNat (y % 128 + 128) = b := ⟨_, rfl⟩
        rw [hbb] at e1
        have hbl := b.toNat_lt
        obtain ⟨v2, w2, hrun, q1, q2⟩ := row_push hrow hb.size b (by omega)
        obtain ⟨adv, cpv, rfl⟩ := own_shape hrow
        obtain ⟨ad2, cap2, rfl⟩ := own_shape q1
        obtain ⟨D2, hD2⟩ : ∃ D2, (d ++ [b]).length = D2 := ⟨_, rfl⟩
        rw [hD2] at hrun q1
        have HD := Lib.hid hD2
        have HB := Lib.hid hbb
        have H1 := Lib.hid q1
        have H2 := Lib.hid q2
        have HBb := Lib.hid hb
        clear hD2
        clear hbb q1 q2 hb hrow hdl
        go_wp2_with (at_builtin; refine wpl_run _ _ rfl (by simp [Act.eval]) (by simp [Act.eval]) hrun ?_)
        go_roundw
        case rel =>
          obtain ⟨k', hk'⟩ := HG.out.1.next hy
          rw [HB.out] at hk'
          refine ⟨k', y / 128, _, Lib.hid ⟨hk', Nat.le_trans (Nat.div_le_self _ _) HG.out.2⟩, by go_num, ?_, HBb.out.trans H2.out⟩
          rw [HD.out]
          exact H1.out
        case measure => simp [intOf]; omega
      · have e1 := or_last y (by omega)
        have hlast := HG.out.1.last (by omega : y < 128)
        obtain ⟨b, hbb⟩ : ∃ b, UInt8.ofNat y = b := ⟨_, rfl⟩
        rw [hbb] at e1 hlast
        obtain ⟨v2, w2, hrun, q1, q2⟩ := row_push hrow hb.size b (by omega)
        have hcv := conv_row q1
        obtain ⟨adv, cpv, rfl⟩ := own_shape hrow
        obtain ⟨ad2, cap2, rfl⟩ := own_shape q1
        obtain ⟨D2, hD2⟩ : ∃ D2, (d ++ [b]).length = D2 := ⟨_, rfl⟩
        have H2 := Lib.hid q2
        have HBb := Lib.hid hb
        have HL := Lib.hid hlast
        rw [← e1] at hrun
        rw [hD2] at hrun hcv
        clear hD2
        have hy1 : y < 128 := by omega
        have hy2 : (y : Int) % 256 = y := by omega
        clear hbb q1 q2 hb hrow hdl e1 hlast
        go_wp2_with (at_builtin; refine wpl_run _ _ rfl (by simp [Act.eval]) (by simp [Act.eval]) hrun ?_)
        go_ret
        refine ⟨?_, HBb.out.trans H2.out⟩
        rw [HN.out, HL.out]
        rfl
end Go.Proofs.Ytjhgmncmcklnkaa
/- The document's nums, flag, text. -/
namespace Go.Proofs.Ytjhgmncmcklnkaa
open Go.RowKit

theorem txt_append (a b : List UInt8) : txt a ++ txt b = txt (a ++ b) := by
  apply ba_ext
  simp [txt]
theorem sum_ok {a b : ByteArray} (ha : a.size ≤ 4000000000) (hb : b.size ≤ 4000000000) : ¬ 9223372036854775807 < a.size + b.size := by omega
theorem numsL_len (ns : List Int) : (ns.flatMap num).length ≤ ns.length * 10 := by
  induction ns with
  | nil => simp
  | cons n r ih =>
    have := num_len n
    simp only [List.flatMap_cons, List.length_append, List.length_cons]
    omega
def numsL (ns : List Int) : List UInt8 := ns.flatMap num
theorem numsL_take (ns : List Int) (i : Nat) (h : i < ns.length) : numsL (ns.take (i + 1)) = numsL (ns.take i) ++ num ns[i] := by
  unfold numsL
  rw [List.take_succ_eq_append_getElem h, List.flatMap_append]
  simp only [List.flatMap_cons, List.flatMap_nil, List.append_nil]
/-- Numbers in a row of their own. -/
def Ints (w : World) (F : Nat) (ns : List Int) : Prop := ∃ cs ty, w.heap[F]? = some (.cells cs ty (0, 0)) ∧ ∀ i (h : i < ns.length), cs[i]? = some (.int .i64 ns[i])
theorem Ints.on {w w' : World} {F : Nat} {ns : List Int} (h : Ints w F ns) (hb : Below w.heap.size w w') : Ints w' F ns := by
  obtain ⟨cs, ty, h1, h2⟩ := h
  exact ⟨cs, ty, (hb.block F (blk_lt h1)).trans h1, h2⟩
set_option maxHeartbeats 2000000 in
set_option maxRecDepth 100000 in
theorem nums_ref {F : Nat} {ns : List Int} (w : World) (k : Nat) (hk : ns.length = k) (hk2 : k ≤ 100) (h : Ints w F ns) (hi : ∀ n ∈ ns, I64 n) : Calls Try.prog 28 #[.slice (some ⟨F, 0, none⟩) k k] w fun e w' => e = .returned (.string (txt (numsL ns))) ∧ Below w.heap.size w w' := by
  have HK := Lib.hid hk
  have HI := Lib.hid hi
  have HX := Lib.hid h
  clear hk hi h
  go_enter Try.func28, Try.ntmps28
  go_wp2
  go_loopw [3, 4] (fun ov iv wr => ∃ (i : Nat) (str : ByteArray), i ≤ k ∧ iv = .int .i64 i ∧ ov = .string str ∧ Hid (str = txt (numsL (ns.take i))) ∧ Below w.heap.size w wr) (fun _ iv _ => k - (intOf iv).toNat)
  case atStart => exact ⟨0, ⟨#[]⟩, by omega, rfl, rfl, rfl, Below.refl _ _⟩
  case round =>
    obtain ⟨i, str, hik, rfl, rfl, HS, hb⟩ := hrel
    by_cases hlt : i < k
    · have hltn : i < ns.length := by rw [HK.out]; exact hlt
      obtain ⟨cs, ty, h1, h2⟩ := HX.out.on hb
      obtain ⟨n, hn⟩ : ∃ n, ns[i] = n := ⟨_, rfl⟩
      have hin : I64 n := by rw [← hn]; exact HI.out _ (List.getElem_mem hltn)
      have cF : wr.cell? ⟨F, i, none⟩ = some (.int .i64 n) := by rw [cell_blk h1, h2 i hltn, hn]
      have HE : Hid (numsL (ns.take (i + 1)) = numsL (ns.take i) ++ num n) := by
        show _ = _
        rw [numsL_take ns i hltn, hn]
      have hcall := num_ref n wr hin
      have HB := Lib.hid hb
      clear h1 h2 hn hin hltn hb
      obtain ⟨str2, hs2⟩ : ∃ q, txt (num n) = q := ⟨_, rfl⟩
      rw [hs2] at hcall
      have hsum := sum_ok (a := str) (b := str2) (by
        have := numsL_len (ns.take i)
        rw [HS.out, txt_size]
        unfold numsL
        rw [List.length_take] at this
        omega) (by
        have := num_len n
        rw [← hs2, txt_size]
        omega)
      go_wp2_with (go_at_call 38; refine hcall.mono ?_; rintro e w1 ⟨rfl, hb1⟩; refine Hid.out ?_)
      refine Lib.hid ?_
      have HB1 : Hid (Below w.heap.size w w1) := HB.out.trans (hb1.mono HB.out.size)
      clear hb1 hcall
      go_wp2
      go_roundw
      case rel =>
        refine ⟨i + 1, _, by omega, by go_num, rfl, ?_, HB1.out⟩
        show _ = _
        rw [HE.out, HS.out, ← hs2, txt_append]
      case measure => simp [intOf]; omega
    · have hiF : i = k := by omega
      subst hiF
      go_wp2
      go_ret
      refine ⟨?_, hb⟩
      rw [HS.out, ← HK.out, List.take_length]
      rfl
set_option maxHeartbeats 2000000 in
set_option maxRecDepth 100000 in
theorem flag_ref (b : Bool) (w : World) : Calls Try.prog 29 #[.bool b] w fun e w' => e = .returned (.string (txt (At.yes b).enc)) ∧ Below w.heap.size w w' := by
  have h1 := num_ref 1 w (by unfold I64; omega)
  have h0 := num_ref 0 w (by unfold I64; omega)
  cases b with
  | false =>
    go_enter Try.func29, Try.ntmps29
    go_wp2_with (go_at_call 38; refine h0.mono ?_; rintro e w1 ⟨rfl, hb1⟩; refine Hid.out ?_)
    refine Lib.hid ?_
    go_wp2
    go_ret
    exact ⟨rfl, hb1⟩
  | true =>
    go_enter Try.func29, Try.ntmps29
    go_wp2_with (go_at_call 38; refine h1.mono ?_; rintro e w1 ⟨rfl, hb1⟩; refine Hid.out ?_)
    refine Lib.hid ?_
    go_wp2
    go_ret
    exact ⟨rfl, hb1⟩
set_option maxHeartbeats 2000000 in
set_option maxRecDepth 100000 in
theorem text_ref (s : ByteArray) (w : World) (h : s.size ≤ 1000000000) : Calls Try.prog 31 #[.string s] w fun e w' => e = .returned (.string (txt (At.text s).enc)) ∧ Below w.heap.size w w' := by
  have e0 : s.data.toList.length = s.size := by rw [Array.length_toList]; rfl
  have HE : Hid ((At.text s).enc = num (s.size : Int) ++ s.data.toList) := by
    show _ = _
    simp only [At.enc]
    rw [e0]
  clear e0
  have h1 := num_ref (s.size : Int) w (by unfold I64; omega)
  obtain ⟨str2, hs2⟩ : ∃ q, txt (num (s.size : Int)) = q := ⟨_, rfl⟩
  rw [hs2] at h1
  have hsum := sum_ok (a := str2) (b := s) (by
    have := num_len (s.size : Int)
    rw [← hs2, txt_size]
    omega) (by omega)
  go_enter Try.func31, Try.ntmps31
  go_wp2_with (go_at_call 38; refine h1.mono ?_; rintro e w1 ⟨rfl, hb1⟩; refine Hid.out ?_)
  refine Lib.hid ?_
  go_wp2
  go_ret
  refine ⟨?_, hb1⟩
  rw [HE.out, ← txt_append, hs2, txt_of]
  rfl
end Go.Proofs.Ytjhgmncmcklnkaa
/- The document's entries. -/
namespace Go.Proofs.Ytjhgmncmcklnkaa
open Go.RowKit

theorem hasS_cons {t : Ty} {r : List Ty} {x : List At} (h : hasS (t :: r) x) : ∃ a q, x = a :: q ∧ t.has a ∧ hasS r q := by
  match x, h with
  | a :: q, h =>
    unfold hasS at h
    exact ⟨a, q, rfl, h.1, h.2⟩
  | [], h => simp [hasS] at h
theorem hasS_end {x : List At} (h : hasS [] x) : x = [] := by
  match x, h with
  | [], _ => rfl
  | _ :: _, h => simp [hasS] at h
theorem liesS_cons {w : World} {S : Nat → Prop} {b o : Nat} {a : At} {q : List At} (h : liesS w S b o (a :: q)) : ∃ v, w.cell? ⟨b, o, none⟩ = some v ∧ a.lies w S v ∧ liesS w S b (o + 1) q := by
  simp only [liesS] at h
  obtain ⟨⟨v, h1, h2⟩, h3⟩ := h
  exact ⟨v, h1, h2, h3⟩
theorem lies_num {w : World} {S : Nat → Prop} {v : Value} {n : Int} (h : (At.num n).lies w S v) : v = .int .i64 n := by simpa only [At.lies] using h
theorem lies_yes {w : World} {S : Nat → Prop} {v : Value} {n : Bool} (h : (At.yes n).lies w S v) : v = .bool n := by simpa only [At.lies] using h
theorem lies_text {w : World} {S : Nat → Prop} {v : Value} {n : ByteArray} (h : (At.text n).lies w S v) : v = .string n := by simpa only [At.lies] using h
theorem lies_list {w : World} {S : Nat → Prop} {v : Value} {l : List (List At)} (h : (At.list l).lies w S v) : ∃ ad cap, v = .slice ad l.length cap := by
  simp only [At.lies] at h
  obtain ⟨ad, cap, h, _⟩ := h
  exact ⟨ad, cap, h⟩
abbrev NoS : Nat → Prop := fun _ => False
theorem lies_on {w w' : World} {a : At} {v : Value} (h : a.lies w NoS v) (hb : Below w.heap.size w w') : a.lies w' NoS v := At.keeps ⟨hb.size, fun k hk hs => ⟨hb.block k hk, hs⟩⟩ a v h
theorem cell_on {w w' : World} {a : Addr} {v : Value} (hb : Below w.heap.size w w') (h : w.cell? a = some v) : w'.cell? a = some v := by
  have hlt := World.block_lt_of_cell? w a h
  obtain ⟨b, o, m⟩ := a
  have hk := hb.block b hlt
  simp only [World.cell?] at h ⊢
  rw [hk]
  exact h
theorem bel_drew {w : World} : Below w.heap.size w w.drew := ⟨rfl, rfl, rfl, Nat.le_refl _, fun _ _ => rfl⟩
theorem bel_alloc {w X : World} (h : Below w.heap.size w X) (c : Obj) : Below w.heap.size w (X.alloc c) := h.alloc h.size c
theorem bel_drew1 {w X : World} (h : Below w.heap.size w X) : Below w.heap.size w X.drew := ⟨h.os, h.tape, h.output, h.size, h.block⟩
theorem bel_trans {w X X' : World} (h : Below w.heap.size w X) (k : Below X.heap.size X X') : Below w.heap.size w X' := h.trans (k.mono h.size)
theorem ints_new (w : World) (cs : Array Value) (ty : TypeId) (ns : List Int) (h : ∀ i (h : i < ns.length), cs[i]? = some (.int .i64 ns[i])) : Ints (w.alloc (.cells cs ty)) w.heap.size ns := ⟨cs, ty, heap_alloc_new w _, h⟩
theorem ints_at {w W : World} (cs : Array Value) (ty : TypeId) (ns : List Int) (h : ∀ i (h : i < ns.length), cs[i]? = some (.int .i64 ns[i])) (hW : W.heap = (w.alloc (.cells cs ty)).heap) : Ints W w.heap.size ns := ⟨cs, ty, by rw [hW]; exact heap_alloc_new w _, h⟩
theorem numsL_eq (ns : List Int) : numsL ns = encS (ns.map At.num) := by
  induction ns with
  | nil => simp [numsL, encS]
  | cons n r ih =>
    have e : numsL (n :: r) = num n ++ numsL r := by simp [numsL]
    rw [e, ih]
    simp [encS, At.enc]
/-- A list's items, with their bytes. -/
theorem encL_take (l : List (List At)) (i : Nat) (h : i < l.length) : encL (l.take (i + 1)) = encL (l.take i) ++ encS l[i] := by
  rw [List.take_succ_eq_append_getElem h, encL_append]
  simp [encL]
theorem encL_take_le (l : List (List At)) (i : Nat) : (encL (l.take i)).length ≤ (encL l).length := by
  have e := congrArg List.length (congrArg encL (List.take_append_drop i l))
  rw [encL_append, List.length_append] at e
  omega
theorem encL_item_le (l : List (List At)) (i : Nat) (h : i < l.length) : (encS l[i]).length ≤ (encL l).length := by
  have h1 := encL_take_le l (i + 1)
  rw [encL_take l i h, List.length_append] at h1
  omega
set_option maxHeartbeats 4000000 in
set_option maxRecDepth 100000 in
theorem entrys_ref (w : World) {l : List (List At)} {v : Value} (hv : (At.list l).lies w NoS v) (ht : hasL [.num, .num, .num, .text] l) (hl : (At.list l).enc.length ≤ 1000000000) : Calls Try.prog 30 #[v] w fun e w' => e = .returned (.string (txt (At.list l).enc)) ∧ Below w.heap.size w w' := by
  have hlen : l.length ≤ 1000000000 := by
    have := encL_len (t := [.num, .num, .num, .text]) (by simp) ht
    simp only [At.enc, List.length_append] at hl
    omega
  have HL : Hid ((At.list l).enc = num (l.length : Int) ++ encL l) := by
    show _ = _
    simp only [At.enc]
  rw [HL.out, List.length_append] at hl
  rw [HL.out]
  simp only [At.lies] at hv
  obtain ⟨ad, cap, rfl, hcap, hmx, hmem⟩ := hv
  have HT := Lib.hid ht
  have HM := Lib.hid hmem
  clear ht hmem HL
  have h0 := num_ref (l.length : Int) w (by unfold I64; omega)
  obtain ⟨str0, hs0⟩ : ∃ q, txt (num (l.length : Int)) = q := ⟨_, rfl⟩
  rw [hs0] at h0
  have HS0 := Lib.hid hs0
  have HLL := Lib.hid hl
  clear hs0 hl
  go_enter Try.func30, Try.ntmps30
  go_wp2_with (go_at_call 38; refine h0.mono ?_; rintro e w1 ⟨rfl, hb1⟩; refine Hid.out ?_)
  refine Lib.hid ?_
  clear h0
  go_wp2
  go_loopw [3, 4] (fun ov iv wr => ∃ (i : Nat) (str : ByteArray), i ≤ l.length ∧ iv = .int .i64 i ∧ ov = .string str ∧ Hid (str = txt (num (l.length : Int) ++ encL (l.take i))) ∧ Below w.heap.size w wr) (fun _ iv _ => l.length - (intOf iv).toNat)
  case atStart => exact ⟨0, str0, Nat.zero_le _, rfl, rfl, by show _ = _; rw [← HS0.out]; simp [encL], hb1⟩
  case round =>
    obtain ⟨i, str, hik, rfl, rfl, HS, hb⟩ := hrel
    clear hb1 HS0
    by_cases hlt : i < l.length
    · have hltI : (i : Int) < (l.length : Int) := by omega
      obtain ⟨b, p, rfl, hbl, _, hL⟩ : ∃ b p, ad = some ⟨b, p, none⟩ ∧ b < w.heap.size ∧ ¬ NoS b ∧ liesL w NoS b p l := by
        rcases HM.out with e | q
        · rw [e] at hlt; simp at hlt
        · exact q
      have hx := hasL_all HT.out l[i] (List.getElem_mem hlt)
      have hat := liesL_at l p (m := 4) (fun y hy => hasS_len (hasL_all HT.out y hy)) hL i hlt
      have hsl := encL_item_le l i hlt
      have hstep := encL_take l i hlt
      have htl := encL_take_le l i
      generalize l[i] = y at hx hat hsl hstep
      obtain ⟨a0, x0, rfl, k0, hx_0⟩ := hasS_cons hx
      obtain ⟨n0, rfl, i0⟩ := has_num k0
      obtain ⟨u0, f0, l0, hat0⟩ := liesS_cons hat
      obtain rfl := lies_num l0
      obtain ⟨a1, x1, rfl, k1, hx_1⟩ := hasS_cons hx_0
      obtain ⟨n1, rfl, i1⟩ := has_num k1
      obtain ⟨u1, f1, l1, hat1⟩ := liesS_cons hat0
      obtain rfl := lies_num l1
      obtain ⟨a2, x2, rfl, k2, hx_2⟩ := hasS_cons hx_1
      obtain ⟨n2, rfl, i2⟩ := has_num k2
      obtain ⟨u2, f2, l2, hat2⟩ := liesS_cons hat1
      obtain rfl := lies_num l2
      obtain ⟨a3, x3, rfl, k3, hx_3⟩ := hasS_cons hx_2
      obtain ⟨n3, rfl, i3⟩ := has_text k3
      obtain ⟨u3, f3, l3, hat3⟩ := liesS_cons hat2
      obtain rfl := lies_text l3
      obtain rfl := hasS_end hx_3
      have e0 := cell_on hb f0
      have e1 := cell_on hb f1
      have e2 := cell_on hb f2
      have e3 := cell_on hb f3
      simp only [Nat.add_assoc, Nat.reduceAdd] at e1 e2 e3
      simp only [← Nat.add_assoc] at e1 e2 e3
      have es : encS [.num n0, .num n1, .num n2, .text n3] = numsL [n0, n1, n2] ++ (At.text n3).enc := by
        simp [numsL, encS, At.enc]
      rw [es, List.length_append] at hsl
      rw [es] at hstep
      have hn3 : n3.size ≤ 1000000000 := by
        have hll := HLL.out
        have : n3.size ≤ (At.text n3).enc.length := by
          simp only [At.enc, List.length_append]
          have : n3.data.toList.length = n3.size := by rw [Array.length_toList]; rfl
          omega
        omega
      obtain ⟨N, hN⟩ : ∃ N, txt (numsL [n0, n1, n2]) = N := ⟨_, rfl⟩
      obtain ⟨T, hT⟩ : ∃ T, txt (At.text n3).enc = T := ⟨_, rfl⟩
      have hsum1 : ¬ 9223372036854775807 < str.size + N.size := by
        have hll := HLL.out
        rw [HS.out, ← hN, txt_size, txt_size, List.length_append]
        omega
      have hsum2 : ¬ 9223372036854775807 < str.size + N.size + T.size := by
        have hll := HLL.out
        rw [HS.out, ← hN, ← hT, txt_size, txt_size, txt_size, List.length_append]
        omega
      have mk : ∀ X, Below wr.heap.size wr X → X.cell? ⟨b, p + i * 4, none⟩ = some (.int .i64 n0) ∧ X.cell? ⟨b, p + i * 4 + 1, none⟩ = some (.int .i64 n1) ∧ X.cell? ⟨b, p + i * 4 + 2, none⟩ = some (.int .i64 n2) ∧ X.cell? ⟨b, p + i * 4 + 3, none⟩ = some (.string n3) ∧ Below wr.heap.size wr X := fun X q => ⟨cell_on q e0, cell_on q e1, cell_on q e2, cell_on q e3, q⟩
      have HK := Lib.hid mk
      have hnums : ∀ X F, Ints X F [n0, n1, n2] → Calls Try.prog 28 #[.slice (some ⟨F, 0, none⟩) 3 3] X fun e X' => e = .returned (.string N) ∧ Below X.heap.size X X' := fun X F q => by
        have := nums_ref X 3 rfl (by omega) q (by
          intro n hn
          simp at hn
          rcases hn with rfl | rfl | rfl
          · exact i0
          · exact i1
          · exact i2)
        rwa [hN] at this
      have htext : ∀ X, Calls Try.prog 31 #[.string n3] X fun e X' => e = .returned (.string T) ∧ Below X.heap.size X X' := fun X => by
        have := text_ref n3 X hn3
        rwa [hT] at this
      have hmk : ∀ i (h : i < [n0, n1, n2].length), (#[.int .i64 n0, .int .i64 n1, .int .i64 n2] : Array Value)[i]? = some (.int .i64 [n0, n1, n2][i]) := by
        intro i h
        have : i = 0 ∨ i = 1 ∨ i = 2 := by simp at h; omega
        rcases this with rfl | rfl | rfl <;> rfl
      have HMK := Lib.hid hmk
      have HHN := Lib.hid hN
      have HHT := Lib.hid hT
      have HST := Lib.hid hstep
      have HB := Lib.hid hb
      clear mk hmk hN hT hstep hb hat hat0 hat1 hat2 hat3 hx hx_0 hx_1 hx_2 hx_3 f0 f1 f2 f3 hL es k0 k1 k2 k3 l0 l1 l2 l3 i0 i1 i2 i3 hsl htl hn3
      go_wp2
      go_region_held3 (fun X => X.cell? ⟨b, p + i * 4, none⟩ = some (.int .i64 n0) ∧ X.cell? ⟨b, p + i * 4 + 1, none⟩ = some (.int .i64 n1) ∧ X.cell? ⟨b, p + i * 4 + 2, none⟩ = some (.int .i64 n2) ∧ X.cell? ⟨b, p + i * 4 + 3, none⟩ = some (.string n3) ∧ Below wr.heap.size wr X) (exact HK.out _ (by repeat (first | exact Below.refl _ _ | exact hx2 | exact hx1 | apply bel_drew1 | apply bel_alloc))) (first
        | (go_at_call 28; refine (hnums _ _ (by exact ints_at (w := wr) _ 3 _ HMK.out rfl)).mono ?_; rintro ee1 X1 ⟨rfl, hy1⟩; have hx1 : Below wr.heap.size wr X1 := bel_trans (by repeat (first | exact Below.refl _ _ | exact hx2 | exact hx1 | apply bel_drew1 | apply bel_alloc)) hy1)
        | (go_at_call 31; refine (htext _).mono ?_; rintro ee2 X2 ⟨rfl, hy2⟩; have hx2 : Below wr.heap.size wr X2 := bel_trans (by repeat (first | exact Below.refl _ _ | exact hx2 | exact hx1 | apply bel_drew1 | apply bel_alloc)) hy2))
      all_goals
        go_wp2
        go_roundw
        case rel =>
          refine ⟨i + 1, _, by omega, by go_num, rfl, ?_, bel_trans HB.out hx2⟩
          show _ = _
          rw [HST.out, HS.out, ← HHN.out, ← HHT.out, txt_append, txt_append]
          simp only [List.append_assoc]
        case measure => simp [intOf]; omega
    · have hiF : i = l.length := by omega
      subst hiF
      go_wp2
      go_ret
      refine ⟨?_, hb⟩
      rw [HS.out, List.take_length]
      rfl
end Go.Proofs.Ytjhgmncmcklnkaa
/- The document's structs: how they are walked. -/
namespace Go.Proofs.Ytjhgmncmcklnkaa
open Go.RowKit

theorem valsS_cons {w : World} {S : Nat → Prop} {a : At} {q : List At} {vs : List Value} (h : valsS w S (a :: q) vs) : ∃ v r, vs = v :: r ∧ a.lies w S v ∧ valsS w S q r := by
  match vs, h with
  | v :: r, h => exact ⟨v, r, rfl, h.1, h.2⟩
  | [], h => exact h.elim
theorem valsS_end {w : World} {S : Nat → Prop} {vs : List Value} (h : valsS w S [] vs) : vs = [] := by
  match vs, h with
  | [], _ => rfl
  | _ :: _, h => exact h.elim
/-- So many numbers of 64 bits in a row of their own. -/
def IntsK (w : World) (F k : Nat) (ns : List Int) : Prop := Ints w F ns ∧ ns.length = k ∧ k ≤ 100 ∧ ∀ n ∈ ns, I64 n
theorem IntsK.on {w w' : World} {F k : Nat} {ns : List Int} (h : IntsK w F k ns) (hb : Below w.heap.size w w') : IntsK w' F k ns := ⟨h.1.on hb, h.2⟩
theorem IntsK.onN {w w' : World} {n F k : Nat} {ns : List Int} (hb : Below n w w') (hn : w.heap.size ≤ n) (h : IntsK w F k ns) : IntsK w' F k ns := h.on (hb.mono hn)
theorem IntsK.alloc {w : World} {F k : Nat} {ns : List Int} {c : Obj} (h : IntsK w F k ns) : IntsK (w.alloc c) F k ns := h.on ((Below.refl _ _).alloc (Nat.le_refl _) _)
theorem IntsK.drew {w : World} {F k : Nat} {ns : List Int} (h : IntsK w F k ns) : IntsK w.drew F k ns := h.on bel_drew
/-- The row that was made. -/
structure Mk (cs : Array Value) (k : Nat) (ns : List Int) : Prop where
  at' : ∀ i (h : i < ns.length), cs[i]? = some (.int .i64 ns[i])
  len : ns.length = k
  few : k ≤ 100
  int : ∀ n ∈ ns, I64 n
theorem IntsK.new {w : World} {F k : Nat} {cs : Array Value} {ty : TypeId} {ns : List Int} (h : Mk cs k ns) (hF : F = w.heap.size) : IntsK (w.alloc (.cells cs ty)) F k ns := by
  subst hF
  exact ⟨⟨cs, ty, heap_alloc_new w _, h.at'⟩, h.len, h.few, h.int⟩
theorem nums_gen {F k : Nat} {ns : List Int} (w : World) (h : IntsK w F k ns) : Calls Try.prog 28 #[.slice (some ⟨F, 0, none⟩) k k] w fun e w' => e = .returned (.string (txt (numsL ns))) ∧ Below w.heap.size w w' := nums_ref w k h.2.1 h.2.2.1 h.1 h.2.2.2
theorem text_size {s : ByteArray} (h : (At.text s).enc.length ≤ 1000000000) : s.size ≤ 1000000000 := by
  simp only [At.enc, List.length_append] at h
  have : s.data.toList.length = s.size := by rw [Array.length_toList]; rfl
  omega
theorem txt_end {a b : List UInt8} (h : a = b) : Ending.returned (.string (txt a)) = .returned (.string (txt b)) := by rw [h]
end Go.Proofs.Ytjhgmncmcklnkaa
