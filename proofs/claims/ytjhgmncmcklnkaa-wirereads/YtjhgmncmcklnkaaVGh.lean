/- The walk of WireReads. -/
import Derived.Test.YtjhgmncmcklnkaaVGa
import Derived.Test.YtjhgmncmcklnkaaVNb
import Derived.Test.YtjhgmncmcklnkaaVNc
import Derived.Test.YtjhgmncmcklnkaaVNe
import Derived.Test.YtjhgmncmcklnkaaVNh
import Derived.Test.YtjhgmncmcklnkaaVNi
import Derived.Test.YtjhgmncmcklnkaaVRe
import Derived.Test.YtjhgmncmcklnkaaVRf
import Derived.Test.YtjhgmncmcklnkaaVRk
import Derived.Test.YtjhgmncmcklnkaaVRp
import Derived.Test.YtjhgmncmcklnkaaVRr
namespace Go.Proofs.Ytjhgmncmcklnkaa
open Go.RowKit

theorem zeroS_vals (w : World) (S : Nat → Prop) : ∀ t : List Ty, valsS w S (zeroS t) (t.map Ty.zv)
  | [] => trivial
  | t :: r => ⟨zero_lies t w S, zeroS_vals w S r⟩
/-- What is read, and what the document has of it. -/
def WrAns (n : Nat) (F : FuncId) (s : ByteArray) (w : World) (e : Ending) (w' : World) : Prop := ∃ (us : Array Value) (c : Int) (q : ByteArray) (z : Bool), e = .returned (.tuple #[.agg us, .int .i64 c]) ∧ us.size = n ∧ us.all (·.oneCell') = true ∧ Below w.heap.size w w' ∧ (c = 0 ∨ c = 100) ∧ (c == 0) = z ∧ decide (c = 0) = z ∧ (q.toList == s.toList) = z ∧ Hid (∀ X, Below w'.heap.size w' X → Calls Try.prog F #[.agg us] X fun e X' => e = .returned (.string q) ∧ Below X.heap.size X X')
theorem rd_ans {t : List Ty} {F : FuncId} {s : ByteArray} {w w' : World} {e : Ending} (hs : s.size ≤ 1000000000) (hz : (encS (zeroS t)).length ≤ 1000000000)
    (href : ∀ (w : World) {x : List At} {vs : List Value}, hasS t x → valsS w NoS x vs → (encS x).length ≤ 1000000000 → Calls Try.prog F #[.agg vs.toArray] w fun e w' => e = .returned (.string (txt (encS x))) ∧ Below w.heap.size w w')
    (h : GetAns w w' t s e) : WrAns t.length F s w e w' := by
  obtain ⟨vs, c, rfl, h1, h2, h3, h4⟩ := h
  have oV := kinds_one h1 h2
  have hsl : s.data.toList.length = s.size := by rw [Array.length_toList]; rfl
  rcases h4 with ⟨rfl, y, y1, y2, y3⟩ | ⟨rfl, rfl, q⟩
  · have y4 : valsS w' NoS y vs.toList := valsS_keeps ⟨Nat.le_refl _, fun k _ _ => ⟨rfl, fun q => q⟩⟩ (valsS_keeps (S := fun k => k < w.heap.size) (S' := NoS) ⟨Nat.le_refl _, fun k _ _ => ⟨rfl, fun q => q⟩⟩ y3)
    refine ⟨vs, 0, txt (encS y), true, rfl, h1, oV, h3, .inl rfl, rfl, rfl, ?_, fun X hX => ?_⟩
    · rw [beq_iff_eq, ByteArray.toList_eq, ByteArray.toList_eq, txt_list, y2]
    · have := href X y1 (valsS_keeps (S := NoS) ⟨hX.size, fun k hk hs => ⟨hX.block k hk, hs⟩⟩ y4) (by rw [← y2, hsl]; exact hs)
      rwa [Array.toArray_toList] at this
  · refine ⟨zvS t, 100, txt (encS (zeroS t)), false, rfl, h1, oV, h3, .inr rfl, rfl, rfl, ?_, fun X _ => href X (zeroS_has t) (zeroS_vals X NoS t) hz⟩
    rw [beq_eq_false_iff_ne, ByteArray.toList_eq, ByteArray.toList_eq, txt_list]
    exact fun e => q _ (zeroS_has t) e.symm

theorem rd_msg (w : World) (s : ByteArray) (hs : s.size ≤ 1000000000) : Calls Try.prog 11 #[.string s] w fun e w' => WrAns 10 12 s w e w' :=
  (Get_msg w s hs).mono fun _ _ h => rd_ans (t := msgT) hs (by decide) (fun w {_} {_} h1 h2 h3 => msg_ref w h1 h2 h3) h
theorem rd_delta (w : World) (s : ByteArray) (hs : s.size ≤ 1000000000) : Calls Try.prog 14 #[.string s] w fun e w' => WrAns 8 15 s w e w' :=
  (Get_delta w s hs).mono fun _ _ h => rd_ans (t := deltaT) hs (by decide) (fun w {_} {_} h1 h2 h3 => delta_ref w h1 h2 h3) h
theorem rd_command (w : World) (s : ByteArray) (hs : s.size ≤ 1000000000) : Calls Try.prog 17 #[.string s] w fun e w' => WrAns 30 18 s w e w' :=
  (Get_command w s hs).mono fun _ _ h => rd_ans (t := commandT) hs (by decide) (fun w {_} {_} h1 h2 h3 => command_ref w h1 h2 h3) h
theorem rd_shard (w : World) (s : ByteArray) (hs : s.size ≤ 1000000000) : Calls Try.prog 20 #[.string s] w fun e w' => WrAns 5 21 s w e w' :=
  (Get_shard w s hs).mono fun _ _ h => rd_ans (t := shardT) hs (by decide) (fun w {_} {_} h1 h2 h3 => shard_ref w h1 h2 h3) h
theorem rd_plan (w : World) (s : ByteArray) (hs : s.size ≤ 1000000000) : Calls Try.prog 23 #[.string s] w fun e w' => WrAns 5 24 s w e w' :=
  (Get_plan w s hs).mono fun _ _ h => rd_ans (t := planT) hs (by decide) (fun w {_} {_} h1 h2 h3 => plan_ref w h1 h2 h3) h
set_option maxHeartbeats 8000000 in
set_option maxRecDepth 100000 in
theorem law_reads (w : World) (s : ByteArray) (hs : s.size ≤ 140737488355328) : Calls Try.prog 8 #[.string s] w fun e w' => e = .returned (.bool true) ∧ Below w.heap.size w w' := by
  have hs0 : (s.size : Int) ≤ 9223372036854775807 := by omega
  by_cases hbig : (16384 : Int) < s.size
  · go_enter Try.func8, Try.ntmps8
    go_wp2_with (go_at_call 9; refine (awake_any _).mono ?_; rintro e w1 ⟨rfl, hb1⟩; refine Hid.out ?_)
    refine Lib.hid ?_
    go_wp2_with (go_at_call 9; refine (awake_any _).mono ?_; rintro e w2 ⟨rfl, hb2⟩; refine Hid.out ?_)
    refine Lib.hid ?_
    go_wp2
    go_ret
    exact ⟨rfl, bel_trans hb1 hb2⟩
  · have hsm : s.size ≤ 1000000000 := by omega
    go_enter Try.func8, Try.ntmps8
    go_wp2_with (go_at_call 9; refine (awake_any _).mono ?_; rintro e w1 ⟨rfl, hb1⟩; refine Hid.out ?_)
    refine Lib.hid ?_
    have HB0 := Lib.hid hb1
    clear hb1
    have hga := rd_msg w1 s hsm
    go_wp2_with (first | (go_at_call 11; refine hga.mono ?_; rintro ea waa ⟨ua, ca, qa, za, rfl, sua, oua, hba, hca, hza, hya, hea, hra⟩; refine Hid.out ?_))
    refine Lib.hid ?_
    have sia : (Try.prog.info? 24).map (·.size) = some ua.size := by rw [sua]; kernel_rfl
    have sta := store_new (cs := #[.int .i64 0, .int .i64 0, .int .i64 0, .int .i64 0, .int .i64 0, .int .i64 0, .int .i64 0, .bool false, .slice none 0 0, .string ⟨#[]⟩]) (ty := 24) waa sua sia oua
    obtain ⟨Wa, hWa⟩ : ∃ W, W = waa.alloc (.cells ua 24) := ⟨_, rfl⟩
    have ja : Wa.heap[waa.heap.size]? = some (.cells ua 24 (0, 0)) := by rw [hWa]; exact heap_alloc_new waa _
    have ba : Below w1.heap.size w1 Wa := by rw [hWa]; exact hba.alloc hba.size _
    have va : Below waa.heap.size waa Wa := by rw [hWa]; exact (Below.refl _ _).alloc (Nat.le_refl _) _
    rw [← hWa] at sta
    have HWa := Lib.hid hWa
    have HJa := Lib.hid ja
    have Hba := Lib.hid ba
    have Hva := Lib.hid va
    have HCa := Lib.hid hca
    clear hWa ja ba va hga hba hca
    have hgb := rd_delta Wa s hsm
    go_wp2_with (first | (refine wpl_store _ _ rfl (by simp [Act.eval]) (by simp [Act.eval]) sta ?_) | (go_at_call 14; refine hgb.mono ?_; rintro eb wbb ⟨ub, cb, qb, zb, rfl, sub, oub, hbb, hcb, hzb, hyb, heb, hrb⟩; refine Hid.out ?_))
    refine Lib.hid ?_
    have sib : (Try.prog.info? 32).map (·.size) = some ub.size := by rw [sub]; kernel_rfl
    have stb := store_new (cs := #[.int .i64 0, .int .i64 0, .bool false, .int .i64 0, .int .i64 0, .string ⟨#[]⟩, .int .i64 0, .slice none 0 0]) (ty := 32) wbb sub sib oub
    obtain ⟨Wb, hWb⟩ : ∃ W, W = wbb.alloc (.cells ub 32) := ⟨_, rfl⟩
    have jb : Wb.heap[wbb.heap.size]? = some (.cells ub 32 (0, 0)) := by rw [hWb]; exact heap_alloc_new wbb _
    have bb : Below Wa.heap.size Wa Wb := by rw [hWb]; exact hbb.alloc hbb.size _
    have vb : Below wbb.heap.size wbb Wb := by rw [hWb]; exact (Below.refl _ _).alloc (Nat.le_refl _) _
    rw [← hWb] at stb
    have HWb := Lib.hid hWb
    have HJb := Lib.hid jb
    have Hbb := Lib.hid bb
    have Hvb := Lib.hid vb
    have HCb := Lib.hid hcb
    clear hWb jb bb vb hgb hbb hcb
    have hgc := rd_command Wb s hsm
    go_wp2_with (first | (refine wpl_store _ _ rfl (by simp [Act.eval]) (by simp [Act.eval]) stb ?_) | (go_at_call 17; refine hgc.mono ?_; rintro ec wcc ⟨uc, cc, qc, zc, rfl, suc, ouc, hbc, hcc, hzc, hyc, hec, hrc⟩; refine Hid.out ?_))
    refine Lib.hid ?_
    have sic : (Try.prog.info? 47).map (·.size) = some uc.size := by rw [suc]; kernel_rfl
    have stc := store_new (cs := #[.int .i64 0, .int .i64 0, .int .i64 0, .int .i64 0, .int .i64 0, .int .i64 0, .int .i64 0, .int .i64 0, .slice none 0 0, .slice none 0 0, .int .i64 0, .int .i64 0, .int .i64 0, .int .i64 0, .int .i64 0, .int .i64 0, .string ⟨#[]⟩, .string ⟨#[]⟩, .string ⟨#[]⟩, .string ⟨#[]⟩, .bool false, .int .i64 0, .int .i64 0, .int .i64 0, .string ⟨#[]⟩, .slice none 0 0, .int .i64 0, .int .i64 0, .string ⟨#[]⟩, .int .i64 0]) (ty := 47) wcc suc sic ouc
    obtain ⟨Wc, hWc⟩ : ∃ W, W = wcc.alloc (.cells uc 47) := ⟨_, rfl⟩
    have jc : Wc.heap[wcc.heap.size]? = some (.cells uc 47 (0, 0)) := by rw [hWc]; exact heap_alloc_new wcc _
    have bc : Below Wb.heap.size Wb Wc := by rw [hWc]; exact hbc.alloc hbc.size _
    have vc : Below wcc.heap.size wcc Wc := by rw [hWc]; exact (Below.refl _ _).alloc (Nat.le_refl _) _
    rw [← hWc] at stc
    have HWc := Lib.hid hWc
    have HJc := Lib.hid jc
    have Hbc := Lib.hid bc
    have Hvc := Lib.hid vc
    have HCc := Lib.hid hcc
    clear hWc jc bc vc hgc hbc hcc
    have hgd := rd_shard Wc s hsm
    go_wp2_with (first | (refine wpl_store _ _ rfl (by simp [Act.eval]) (by simp [Act.eval]) stc ?_) | (go_at_call 20; refine hgd.mono ?_; rintro ed wdd ⟨ud, cd, qd, zd, rfl, sud, oud, hbd, hcd, hzd, hyd, hed, hrd⟩; refine Hid.out ?_))
    refine Lib.hid ?_
    have sid : (Try.prog.info? 62).map (·.size) = some ud.size := by rw [sud]; kernel_rfl
    have std := store_new (cs := #[.slice none 0 0, .slice none 0 0, .slice none 0 0, .slice none 0 0, .int .i64 0]) (ty := 62) wdd sud sid oud
    obtain ⟨Wd, hWd⟩ : ∃ W, W = wdd.alloc (.cells ud 62) := ⟨_, rfl⟩
    have jd : Wd.heap[wdd.heap.size]? = some (.cells ud 62 (0, 0)) := by rw [hWd]; exact heap_alloc_new wdd _
    have bd : Below Wc.heap.size Wc Wd := by rw [hWd]; exact hbd.alloc hbd.size _
    have vd : Below wdd.heap.size wdd Wd := by rw [hWd]; exact (Below.refl _ _).alloc (Nat.le_refl _) _
    rw [← hWd] at std
    have HWd := Lib.hid hWd
    have HJd := Lib.hid jd
    have Hbd := Lib.hid bd
    have Hvd := Lib.hid vd
    have HCd := Lib.hid hcd
    clear hWd jd bd vd hgd hbd hcd
    have hge := rd_plan Wd s hsm
    go_wp2_with (first | (refine wpl_store _ _ rfl (by simp [Act.eval]) (by simp [Act.eval]) std ?_) | (go_at_call 23; refine hge.mono ?_; rintro ee wee ⟨ue, ce, qe, ze, rfl, sue, oue, hbe, hce, hze, hye, hee, hre⟩; refine Hid.out ?_))
    refine Lib.hid ?_
    have sie : (Try.prog.info? 79).map (·.size) = some ue.size := by rw [sue]; kernel_rfl
    have ste := store_new (cs := #[.int .i64 0, .int .i64 0, .slice none 0 0, .slice none 0 0, .slice none 0 0]) (ty := 79) wee sue sie oue
    obtain ⟨We, hWe⟩ : ∃ W, W = wee.alloc (.cells ue 79) := ⟨_, rfl⟩
    have je : We.heap[wee.heap.size]? = some (.cells ue 79 (0, 0)) := by rw [hWe]; exact heap_alloc_new wee _
    have be : Below Wd.heap.size Wd We := by rw [hWe]; exact hbe.alloc hbe.size _
    have ve : Below wee.heap.size wee We := by rw [hWe]; exact (Below.refl _ _).alloc (Nat.le_refl _) _
    rw [← hWe] at ste
    have HWe := Lib.hid hWe
    have HJe := Lib.hid je
    have Hbe := Lib.hid be
    have Hve := Lib.hid ve
    have HCe := Lib.hid hce
    clear hWe je be ve hge hbe hce
    have ma : Below Wa.heap.size Wa We := bel_trans (bel_trans (bel_trans (bel_trans (Below.refl _ _) Hbb.out) Hbc.out) Hbd.out) Hbe.out
    have Hma := Lib.hid ma
    clear ma
    have mb : Below Wb.heap.size Wb We := bel_trans (bel_trans (bel_trans (Below.refl _ _) Hbc.out) Hbd.out) Hbe.out
    have Hmb := Lib.hid mb
    clear mb
    have mc : Below Wc.heap.size Wc We := bel_trans (bel_trans (Below.refl _ _) Hbd.out) Hbe.out
    have Hmc := Lib.hid mc
    clear mc
    have md : Below Wd.heap.size Wd We := bel_trans (Below.refl _ _) Hbe.out
    have Hmd := Lib.hid md
    clear md
    have me : Below We.heap.size We We := Below.refl _ _
    have Hme := Lib.hid me
    clear me
    have HBE : Hid (Below w.heap.size w We) := bel_trans (bel_trans (bel_trans (bel_trans (bel_trans HB0.out Hba.out) Hbb.out) Hbc.out) Hbd.out) Hbe.out
    have lda := load_row (w := We) (g := waa.heap.size) (((Below.refl We.heap.size We).block waa.heap.size (Nat.lt_of_lt_of_le (blk_lt HJa.out) Hma.out.size)).trans ((Hma.out.block waa.heap.size (blk_lt HJa.out)).trans HJa.out)) Try.underlying24 rfl sia
    have hqa := hra.out We (bel_trans (bel_trans Hva.out Hma.out) (Below.refl We.heap.size We))
    go_wp2_with (first | (refine wpl_store _ _ rfl (by simp [Act.eval, Act.put]) (by simp [Act.eval, Act.put]) ste ?_) | (refine wpl_load_g _ rfl (by first | rfl | simp [Region.wanted, yielded, *]) (by simp [Act.eval, Act.put]) lda ?_) | (go_at_call 12; refine hqa.mono ?_; rintro e1 x1 ⟨rfl, hx1⟩; refine Hid.out ?_))
    refine Lib.hid ?_
    clear lda hqa
    have g1 : Below We.heap.size We x1 := hx1
    have ldb := load_row (w := x1) (g := wbb.heap.size) (((g1).block wbb.heap.size (Nat.lt_of_lt_of_le (blk_lt HJb.out) Hmb.out.size)).trans ((Hmb.out.block wbb.heap.size (blk_lt HJb.out)).trans HJb.out)) Try.underlying32 rfl sib
    have hqb := hrb.out x1 (bel_trans (bel_trans Hvb.out Hmb.out) (g1))
    clear hx1
    go_wp2_with (first | (refine wpl_load_g _ rfl (by first | rfl | simp [Region.wanted, yielded, *]) (by simp [Act.eval, Act.put]) ldb ?_) | (go_at_call 15; refine hqb.mono ?_; rintro e2 x2 ⟨rfl, hx2⟩; refine Hid.out ?_))
    refine Lib.hid ?_
    clear ldb hqb
    have g2 := bel_trans g1 hx2
    have ldc := load_row (w := x2) (g := wcc.heap.size) (((g2).block wcc.heap.size (Nat.lt_of_lt_of_le (blk_lt HJc.out) Hmc.out.size)).trans ((Hmc.out.block wcc.heap.size (blk_lt HJc.out)).trans HJc.out)) Try.underlying47 rfl sic
    have hqc := hrc.out x2 (bel_trans (bel_trans Hvc.out Hmc.out) (g2))
    clear hx2 g1
    go_wp2_with (first | (refine wpl_load_g _ rfl (by first | rfl | simp [Region.wanted, yielded, *]) (by simp [Act.eval, Act.put]) ldc ?_) | (go_at_call 18; refine hqc.mono ?_; rintro e3 x3 ⟨rfl, hx3⟩; refine Hid.out ?_))
    refine Lib.hid ?_
    clear ldc hqc
    have g3 := bel_trans g2 hx3
    clear hx3 g2
    obtain ⟨U, hU⟩ : ∃ U, U = x3.alloc (.cells #[.int .i64 ca, .int .i64 cb, .int .i64 cc, .int .i64 cd, .int .i64 ce] 27) := ⟨_, rfl⟩
    obtain ⟨Y, hY⟩ : ∃ Y, x3.heap.size = Y := ⟨_, rfl⟩
    have jU : U.heap[Y]? = some (.cells #[.int .i64 ca, .int .i64 cb, .int .i64 cc, .int .i64 cd, .int .i64 ce] 27 (0, 0)) := by rw [hU, ← hY]; exact heap_alloc_new x3 _
    have g4 : Below We.heap.size We U := by rw [hU]; exact g3.alloc g3.size _
    have y0 : U.cell? ⟨Y, 0, none⟩ = some (.int .i64 ca) := cell_blk jU 0
    have y1 : U.cell? ⟨Y, 1, none⟩ = some (.int .i64 cb) := cell_blk jU 1
    have y2 : U.cell? ⟨Y, 2, none⟩ = some (.int .i64 cc) := cell_blk jU 2
    have y3 : U.cell? ⟨Y, 3, none⟩ = some (.int .i64 cd) := cell_blk jU 3
    have y4 : U.cell? ⟨Y, 4, none⟩ = some (.int .i64 ce) := cell_blk jU 4
    have HU := Lib.hid hU
    have HY := Lib.hid hY
    have HG4 := Lib.hid g4
    clear hU hY g3 jU g4
    go_upto_region 11 with fail
    rw [← HU.out, HY.out]
    go_loopw [80] (fun iv wr => ∃ k : Nat, k ≤ 5 ∧ iv = .int .i64 k ∧ wr = U) (fun iv _ => 5 - (intOf iv).toNat)
    case atStart => exact ⟨0, by omega, rfl, rfl⟩
    case round =>
      obtain ⟨k, hk, rfl, rfl⟩ := hrel
      by_cases hlt : k < 5
      · have h5 : k = 0 ∨ k = 1 ∨ k = 2 ∨ k = 3 ∨ k = 4 := by omega
        rcases h5 with rfl | rfl | rfl | rfl | rfl
        · rcases HCa.out with h | h
          · subst h
            go_wp2
            go_roundw
            case rel => exact ⟨1, by omega, by go_num, by first | trivial | rfl⟩
            case measure => simp [intOf]
          · subst h
            go_wp2
            go_roundw
            case rel => exact ⟨1, by omega, by go_num, by first | trivial | rfl⟩
            case measure => simp [intOf]
        · rcases HCb.out with h | h
          · subst h
            go_wp2
            go_roundw
            case rel => exact ⟨2, by omega, by go_num, by first | trivial | rfl⟩
            case measure => simp [intOf]
          · subst h
            go_wp2
            go_roundw
            case rel => exact ⟨2, by omega, by go_num, by first | trivial | rfl⟩
            case measure => simp [intOf]
        · rcases HCc.out with h | h
          · subst h
            go_wp2
            go_roundw
            case rel => exact ⟨3, by omega, by go_num, by first | trivial | rfl⟩
            case measure => simp [intOf]
          · subst h
            go_wp2
            go_roundw
            case rel => exact ⟨3, by omega, by go_num, by first | trivial | rfl⟩
            case measure => simp [intOf]
        · rcases HCd.out with h | h
          · subst h
            go_wp2
            go_roundw
            case rel => exact ⟨4, by omega, by go_num, by first | trivial | rfl⟩
            case measure => simp [intOf]
          · subst h
            go_wp2
            go_roundw
            case rel => exact ⟨4, by omega, by go_num, by first | trivial | rfl⟩
            case measure => simp [intOf]
        · rcases HCe.out with h | h
          · subst h
            go_wp2
            go_roundw
            case rel => exact ⟨5, by omega, by go_num, by first | trivial | rfl⟩
            case measure => simp [intOf]
          · subst h
            go_wp2
            go_roundw
            case rel => exact ⟨5, by omega, by go_num, by first | trivial | rfl⟩
            case measure => simp [intOf]
      · have hk5 : k = 5 := by omega
        subst hk5
        have ldd := load_row (w := wr) (g := wdd.heap.size) (((HG4.out).block wdd.heap.size (Nat.lt_of_lt_of_le (blk_lt HJd.out) Hmd.out.size)).trans ((Hmd.out.block wdd.heap.size (blk_lt HJd.out)).trans HJd.out)) Try.underlying62 rfl sid
        have hqd := hrd.out wr (bel_trans (bel_trans Hvd.out Hmd.out) (HG4.out))
        clear y0 y1 y2 y3 y4
        go_wp2_with (first | (refine wpl_load_g _ rfl (by first | rfl | simp [Region.wanted, yielded, *]) (by simp [Act.eval, Act.put]) ldd ?_) | (go_at_call 21; refine hqd.mono ?_; rintro e4 x4 ⟨rfl, hx4⟩; refine Hid.out ?_))
        refine Lib.hid ?_
        have g5 := bel_trans HG4.out hx4
        have lde := load_row (w := x4) (g := wee.heap.size) (((g5).block wee.heap.size (Nat.lt_of_lt_of_le (blk_lt HJe.out) Hme.out.size)).trans ((Hme.out.block wee.heap.size (blk_lt HJe.out)).trans HJe.out)) Try.underlying79 rfl sie
        have hqe := hre.out x4 (bel_trans (bel_trans Hve.out Hme.out) (g5))
        clear ldd hqd hx4
        go_wp2_with (first | (refine wpl_load_g _ rfl (by first | rfl | simp [Region.wanted, yielded, *]) (by simp [Act.eval, Act.put]) lde ?_) | (go_at_call 24; refine hqe.mono ?_; rintro e5 x5 ⟨rfl, hx5⟩; refine Hid.out ?_))
        refine Lib.hid ?_
        go_wp2
        go_ret
        exact ⟨rfl, bel_trans (bel_trans HBE.out g5) hx5⟩
end Go.Proofs.Ytjhgmncmcklnkaa
