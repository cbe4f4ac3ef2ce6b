import Derived.Test.YtkfnphhoebknnaaQEh
import Derived.Test.YtkfnphhoebknnaaQCl
import Derived.Test.YtkfnphhoebknnaaQSb
namespace Go.Proofs.Ytkfnphhoebknnaa
open Go.RowKit
def bindE (s : Sc) (L : List St) : Int × Int := if rightS s = true then bindAt (seenS s) 0 L else (0, 100)
def bindL (s : Sc) (L : List St) : List Bd := if (bindE s L).2 = 0 then L.map (oneB (seenS s)) else []
abbrev bdC (p : Bd × Value) : List Value := (bdA p.1 p.2).toList
theorem bdC_len (p : Bd × Value) : (bdC p).length = 11 := rfl
/-- Bounds in memory of their own, their values too. -/
def BO (w : World) (B : Nat) (L : List Bd) (v : Value) : Prop := ∃ P : List (Bd × Value), P.map Prod.fst = L ∧ w.ownsRow B 39 11 v P.length (P.flatMap bdC) ∧ ∀ p ∈ P, w.ownsRow B 37 3 p.2 p.1.vals.length (p.1.vals.flatMap vlL)
theorem BO.nil (w : World) (B : Nat) : BO w B [] (.slice none 0 0) := ⟨[], rfl, World.ownsRow_nil _ _ 39 11, fun _ h => by cases h⟩
theorem BO.below {w w' : World} {B : Nat} {L : List Bd} {v : Value} (h : BO w B L v) (hb : Below w.heap.size w w') : BO w' B L v := by
  obtain ⟨P, h1, h2, h3⟩ := h
  exact ⟨P, h1, own_below h2 hb, fun p hp => own_below (h3 p hp) hb⟩
theorem BO.mono {w : World} {B B' : Nat} {L : List Bd} {v : Value} (h : BO w B L v) (hB : B' ≤ B) : BO w B' L v := by
  obtain ⟨P, h1, h2, h3⟩ := h
  exact ⟨P, h1, own_mono h2 hB, fun p hp => own_mono (h3 p hp) hB⟩
theorem BO.shape {w : World} {B : Nat} {L : List Bd} {v : Value} (h : BO w B L v) : ∃ a c, v = .slice a L.length c := by
  obtain ⟨P, h1, h2, _⟩ := h
  obtain ⟨a, c, h⟩ := own_shape h2
  exact ⟨a, c, by rw [h, ← h1, List.length_map]⟩
/-- One more bound. -/
theorem BO.push {w : World} {B : Nat} {L : List Bd} {v : Value} (h : BO w B L v) (hB : B ≤ w.heap.size) (hn : L.length ≤ 1000000) {b : Bd} {ba : Option Addr} {bn bc : Nat} (hb : w.ownsRow B 37 3 (.slice ba bn bc) b.vals.length (b.vals.flatMap vlL)) : ∃ v' X', (Builtin.append_ #[28, 28] 28 #[v, .slice (some ⟨w.heap.size, 0, none⟩) 1 1]).run Try.prog (w.alloc (.cells (bdA b (.slice ba bn bc)) 39)) = .ok v' X' ∧ BO X' B (L ++ [b]) v' ∧ Below B w X' := by
  obtain ⟨P, h1, h2, h3⟩ := h
  have hal := bnew w (.cells (bdA b (.slice ba bn bc)) 39)
  have hj := heap_alloc_new w (.cells (bdA b (.slice ba bn bc)) 39)
  have hPL : P.length = L.length := by rw [← h1, List.length_map]
  obtain ⟨ad', cap', X', r1, r2, r3, r4⟩ := run_bd (m := 1) (c := 1) (news := bdC (b, .slice ba bn bc)) (own_below h2 hal) (Nat.le_trans hB hal.size) (.inr ⟨⟨w.heap.size, 0, none⟩, rfl, rfl, fun j u hu => by
    rw [add_at, Nat.zero_add, cell_blk hj j]
    simpa using hu⟩) (fun u hu => by
    simp only [bdC, List.mem_cons, List.not_mem_nil, or_false] at hu
    rcases hu with rfl | rfl | rfl | rfl | rfl | rfl | rfl | rfl | rfl | rfl | rfl <;> rfl) (by omega)
  have hown : ∀ k, v.ownBlock = some k → B ≤ k := fun k hk => (own_ge h2 k hk).1
  have hkeep : ∀ {vv : Value} {l : List Vl}, w.ownsRow B 37 3 vv l.length (l.flatMap vlL) → X'.ownsRow B 37 3 vv l.length (l.flatMap vlL) := fun {vv l} ho => by
    have ho' := own_below ho hal
    refine own_like ho' (fun k hk => ?_)
    obtain ⟨cs, hc⟩ := own_tag ho' k hk
    refine r3.block k (blk_lt hc) (fun q => ?_)
    obtain ⟨cs2, hc2⟩ := own_tag (own_below h2 hal) k q.symm
    rw [hc] at hc2
    simp only [Option.some.injEq, Obj.cells.injEq] at hc2
    exact absurd hc2.2.1 (by decide)
  refine ⟨_, X', r1, ⟨P ++ [(b, .slice ba bn bc)], by simp [h1], ?_, fun p hp => ?_⟩, ?_⟩
  · simpa using r2
  · rcases List.mem_append.1 hp with q | q
    · exact hkeep (h3 p q)
    · obtain rfl : p = (b, .slice ba bn bc) := by simpa using q
      exact hkeep hb
  · exact ((Below.refl B w).alloc hB _).grown r3 (Nat.le_trans hB hal.size) hown
theorem seen_few {t : Tb} (h : t.few) : (seenP t).few := ⟨Nat.le_trans (List.length_filter_le _ _) h.1, Nat.le_trans (List.length_filter_le _ _) h.2.1, Nat.le_trans (List.length_filter_le _ _) h.2.2⟩
abbrev zSA : Array Value := #[.int .i64 0, .string ⟨#[]⟩, .slice none 0 0, .string ⟨#[]⟩, .int .i64 0, .int .i64 0, .string ⟨#[]⟩, .string ⟨#[]⟩, .int .i64 0, .int .i64 0, .string ⟨#[]⟩, .int .i64 0, .string ⟨#[]⟩, .string ⟨#[]⟩, .string ⟨#[]⟩, .string ⟨#[]⟩, .bool false, .int .i64 0, .int .i64 0, .int .i64 0, .string ⟨#[]⟩, .slice none 0 0]
section
variable {w : World}
set_option maxHeartbeats 8000000 in
set_option maxRecDepth 100000 in
theorem bind_any {s : Sc} {tv lv : Value} {L : List St} (hL : Lr tbE 5 w s.tabs tv) (hI : ∀ t ∈ s.tabs, ∀ i ∈ idsT t, I64 i) (hS : Lr stmtE 22 w L lv) (hz : ∀ x ∈ L, x.vals.length ≤ 1000000) (hn : L.length ≤ 1000000) : Calls Try.prog 9 #[scV s tv, lv] w fun e w' => ∃ av, e = .returned (.tuple #[av, .int .i64 (bindE s L).1, .int .i64 (bindE s L).2]) ∧ BO w' w.heap.size (bindL s L) av ∧ Below w.heap.size w w' := by
  obtain ⟨la, lc, rfl, hSr⟩ := hS
  have hS : Lr stmtE 22 w L (.slice la L.length lc) := ⟨la, lc, rfl, hSr⟩
  obtain ⟨ta, tc, rfl, htr⟩ := hL
  have hL : Lr tbE 5 w s.tabs (.slice ta s.tabs.length tc) := ⟨ta, tc, rfl, htr⟩
  clear hSr htr
  have hmL := hS.at.2.1
  have hlm := hS.at.2.2.1
  obtain ⟨tn, htn⟩ : ∃ tn, s.tabs.length = tn := ⟨_, rfl⟩
  rw [htn] at hL
  unfold scV
  rw [htn]
  obtain ⟨n, hln⟩ : ∃ n, L.length = n := ⟨_, rfl⟩
  rw [hln] at hS ⊢
  have HTN := Lib.hid htn
  have HLN := Lib.hid hln
  have hn1 : (n : Int) ≤ 9223372036854775807 := by unfold maxLen at hmL; omega
  have HN6 : Hid (n ≤ 1000000) := Lib.hid (by omega)
  clear htn hln hmL hlm hn
  obtain ⟨W, hW⟩ : ∃ W, W = w.alloc (.cells (#[.int .i64 s.ver, .int .i64 s.last, .slice ta tn tc]) 24) := ⟨_, rfl⟩
  have hbW : Below w.heap.size w W := by
    rw [hW]
    exact bnew _ _
  obtain ⟨Y0, hY0⟩ : ∃ Y0, w.heap.size = Y0 := ⟨_, rfl⟩
  have j0 : W.heap[Y0]? = some (.cells (#[.int .i64 s.ver, .int .i64 s.last, .slice ta tn tc]) 24 (0, 0)) := by
    have := heap_alloc_new (w) (.cells (#[.int .i64 s.ver, .int .i64 s.last, .slice ta tn tc]) 24)
    rw [hW, ← hY0]
    exact this
  have HL := Lib.hid (hL.on tbE_held hbW)
  have HS := Lib.hid (hS.on stmtE_held hbW)
  have HW := Lib.hid hW
  have HB := Lib.hid hbW
  have HY0 := Lib.hid hY0
  have J0 := Lib.hid j0
  have HI := Lib.hid hI
  have HZ := Lib.hid hz
  have s0 : W.cell? ⟨Y0, 0, none⟩ = some (.int .i64 s.ver) := cell_blk j0 0
  have s1 : W.cell? ⟨Y0, 1, none⟩ = some (.int .i64 s.last) := cell_blk j0 1
  have s2 : W.cell? ⟨Y0, 2, none⟩ = some (.slice ta tn tc) := cell_blk j0 2
  have hcheck := checkS_any (w := W) (s := s) (tv := .slice ta tn tc) HL.out hI
  have HBE : Hid (bindE s L = if rightS s = true then bindAt (seenS s) 0 L else (0, 100)) := Lib.hid rfl
  clear hW hbW hY0 j0 hI hz hL hS
  unfold scV at hcheck
  cases hr : rightS s with
  | false =>
    rw [hr] at hcheck
    have HE : Hid (bindE s L = (0, 100)) := Lib.hid (by rw [HBE.out, hr]; rfl)
    clear hr
    go_enter Try.func9, Try.ntmps9
    go_upto_region 1 with fail
    rw [← HW.out, HY0.out]
    go_wp2_with (go_at_call 16; refine hcheck.mono ?_; rintro e w1 ⟨rfl, b1⟩; refine Hid.out ?_)
    refine Lib.hid ?_
    have HB1 := Lib.hid b1
    clear hcheck b1 s0 s1 s2
    go_wp2
    refine bodyPost_ret (v := .tuple #[.slice none 0 0, .int .i64 0, .int .i64 100]) (by simp [results, Try.results9, go_sem]) rfl ?_
    exact ⟨_, by rw [HE.out], by unfold bindL; rw [HE.out]; exact BO.nil _ _, bgo HB.out HB1.out⟩
  | true =>
    rw [hr] at hcheck
    have hrp := right_parts hr
    have hfew : Few s.tabs := ⟨by have := hrp.2.2.1; omega, fun t ht => (tab_few (hrp.2.2.2 t ht)).1⟩
    have HE : Hid (bindE s L = bindAt (seenS s) 0 L) := Lib.hid (by rw [HBE.out, hr]; rfl)
    have HFS : Hid (∀ t ∈ (seenS s).tabs, t.few) := Lib.hid (fun t ht => by
      obtain ⟨u, hu, rfl⟩ := List.mem_map.1 ht
      exact seen_few (hfew.2 u hu))
    have HFW := Lib.hid hfew
    clear hr hrp hfew
    go_enter Try.func9, Try.ntmps9
    go_upto_region 1 with fail
    rw [← HW.out, HY0.out]
    go_upto_region 4 with (go_at_call 16; refine hcheck.mono ?_; rintro e w1 ⟨rfl, b1⟩; refine Hid.out ?_)
    refine Lib.hid ?_
    have HB1 := Lib.hid b1
    have hseen := seen_any (w := w1) (s := s) (tv := .slice ta tn tc) (HL.out.on tbE_held b1) HFW.out
    unfold scV at hseen
    have s0' := cell_on b1 s0
    have s1' := cell_on b1 s1
    have s2' := cell_on b1 s2
    clear hcheck b1 s0 s1 s2
    go_upto_region 4 with fail
    go_upto_region 5 with (go_at_call 17; refine hseen.mono ?_; rintro e w2 ⟨G, tv', rfl, hG, hD, b2⟩; refine Hid.out ?_)
    refine Lib.hid ?_
    have HT := Lib.hid (show Lr tbE 5 w2 (seenS s).tabs tv' by have := hD.reads; rw [hG] at this; exact this)
    obtain ⟨ua, uc, hu, -⟩ := HT.out.shape
    subst hu
    obtain ⟨un, hun⟩ : ∃ un, (seenS s).tabs.length = un := ⟨_, rfl⟩
    rw [hun] at HT
    rw [hun]
    have HB2 := Lib.hid b2
    clear hseen hG hD b2 hun s0' s1' s2'
    obtain ⟨V, hV⟩ : ∃ V, V = w2.alloc (.cells #[.int .i64 s.ver, .int .i64 s.last, .slice ua un uc] 24) := ⟨_, rfl⟩
    obtain ⟨T, hT⟩ : ∃ T, w2.heap.size = T := ⟨_, rfl⟩
    have hbV : Below w2.heap.size w2 V := by rw [hV]; exact bnew _ _
    have jT : V.heap[T]? = some (.cells #[.int .i64 s.ver, .int .i64 s.last, .slice ua un uc] 24 (0, 0)) := by
      rw [hV, ← hT]; exact heap_alloc_new _ _
    have HV := Lib.hid hV
    have HT0 := Lib.hid hT
    have JT := Lib.hid jT
    have HBV : Hid (Below w.heap.size w V) := Lib.hid (bgo (bgo (bgo HB.out HB1.out) HB2.out) hbV)
    have HTV := Lib.hid (HT.out.on tbE_held hbV)
    have HSV := Lib.hid (HS.out.on stmtE_held (bgo (bgo HB1.out HB2.out) hbV))
    clear hV hT hbV jT
    go_upto_region 5 with fail
    rw [← HV.out, HT0.out]
    go_wp2
    go_loopw [9, 23] (fun av jv wr => ∃ i : Nat, i ≤ n ∧ jv = .int .i64 (i : Int) ∧ Hid (∀ j (hj : j < L.length), j < i → oneE (seenS s) L[j] = 0) ∧ Hid (BO wr V.heap.size ((L.take i).map (oneB (seenS s))) av) ∧ Below V.heap.size V wr) (fun _ jv _ => n - (intOf jv).toNat)
    case atStart => exact ⟨0, Nat.zero_le _, rfl, Lib.hid (fun j _ h => absurd h (by omega)), Lib.hid (BO.nil _ _), Below.refl _ _⟩
    case round =>
      obtain ⟨i, hi, rfl, HNO, HBO, hb⟩ := hrel
      obtain ⟨U, hU⟩ : ∃ U, U = wr := ⟨_, rfl⟩
      subst hU
      have HBU := Lib.hid hb
      by_cases hlt : i < n
      · have hlL : i < L.length := by rw [HLN.out]; exact hlt
        obtain ⟨sb, so, scs, el, hsb, hE, hrg⟩ := (HSV.out.on stmtE_held hb).at.2.2.2 i hlL
        subst el
        obtain ⟨va, vc, da, dc, ecs, hvl⟩ := hE
        subst ecs
        obtain ⟨x, hx⟩ : ∃ x, L[i] = x := ⟨_, rfl⟩
        rw [hx] at hrg hvl
        obtain ⟨vn, hvn⟩ : ∃ vn, x.vals.length = vn := ⟨_, rfl⟩
        obtain ⟨dn, hdn⟩ : ∃ dn, x.dd.cols.length = dn := ⟨_, rfl⟩
        rw [hvn, hdn] at hrg
        rw [hvn] at hvl
        have hxm : x.vals.length ≤ 1000000 := HZ.out x (by rw [← hx]; exact List.getElem_mem hlL)
        have hld : (Instr.loadAt 46 (.pointer (some ⟨sb, so + i * 22, none⟩))).run Try.prog U = .ok (.agg (stmtA x (.slice va vn vc) (.slice da dn dc))) U := run_loadAt_mid U sb (so + i * 22) 46 _ _ hrg Try.underlying46 rfl size46
        obtain ⟨Q, hQ⟩ : ∃ Q, U.heap.size = Q := ⟨_, rfl⟩
        obtain ⟨U1, hU1⟩ : ∃ U1, U1 = U.alloc (.cells zSA 46) := ⟨_, rfl⟩
        have jQ : U1.heap[Q]? = some (.cells zSA 46 (0, 0)) := by rw [hU1, ← hQ]; exact heap_alloc_new _ _
        have bU1 : Below U.heap.size U U1 := by rw [hU1]; exact bnew _ _
        obtain ⟨U2, hst, jQ2, fQ2⟩ := st_row jQ (us := stmtA x (.slice va vn vc) (.slice da dn dc)) rfl size46 (by simp [Value.oneCell'])
        have bU2 : Below U.heap.size U U2 := bU1.trans (fQ2.toBelow (fun k hk q => by omega) bU1.size)
        have HU1 := Lib.hid hU1
        have HQ := Lib.hid hQ
        have JQ2 := Lib.hid jQ2
        have HBU2 := Lib.hid bU2
        have hone := one_any (w := U2) (s := seenS s) (x := x) (tv := .slice ua un uc) (vv := .slice va vn vc) (dv := .slice da dn dc) (HTV.out.on tbE_held (bgo hb bU2)) HFS.out (hvl.on valsE_held bU2) hxm rfl
        unfold scV at hone
        have t0 : U2.cell? ⟨T, 0, none⟩ = some (.int .i64 s.ver) := cell_on (bgo hb bU2) (cell_blk JT.out 0)
        have t1 : U2.cell? ⟨T, 1, none⟩ = some (.int .i64 s.last) := cell_on (bgo hb bU2) (cell_blk JT.out 1)
        have t2 : U2.cell? ⟨T, 2, none⟩ = some (.slice ua un uc) := cell_on (bgo hb bU2) (cell_blk JT.out 2)
        have hld2 := load_row (ty := 46) jQ2 Try.underlying46 rfl size46
        obtain ⟨er, her⟩ : ∃ er, oneE (seenS s) x = er := ⟨_, rfl⟩
        rw [her] at hone
        have HER := Lib.hid her
        have HXI : Hid (∀ h : i < L.length, L[i] = x) := Lib.hid (fun _ => hx)
        have HLT := Lib.hid hlt
        have k0 : (0 : Int) ≤ (i : Int) := by omega
        have k1 : (i : Int) < (n : Int) := by omega
        have HI6 : Hid (i ≤ 1000000) := Lib.hid (by have := HN6.out; omega)
        clear hb hrg hvl hvn hdn hxm hQ hU1 jQ bU1 jQ2 fQ2 bU2 hsb hx hlL hlt her
        go_upto_region 9 with (first | (refine wpl_load _ rfl (by first | rfl | (simp [Act.eval]; done)) hld ?_) | (rw [← HU1.out, HQ.out]; refine wpl_store _ _ rfl (by first | rfl | (simp [Act.eval]; done)) (by first | rfl | (simp [Act.eval]; done)) hst ?_))
        go_upto_region 10 with (first | (go_at_call 18; refine hone.mono ?_; rintro e w5 ⟨b, ba, bn, bc, rfl, hbO, b5⟩; refine Hid.out ?_) | (refine wpl_load _ rfl (by first | rfl | (simp [Act.eval]; done)) hld2 ?_))
        refine Lib.hid ?_
        obtain ⟨w6, hw6⟩ : ∃ w6, w6 = w5.alloc (.cells (bdA b (.slice ba bn bc)) 39) := ⟨_, rfl⟩
        obtain ⟨M, hM⟩ : ∃ M, w5.heap.size = M := ⟨_, rfl⟩
        have b56 : Below w5.heap.size w5 w6 := by rw [hw6]; exact bnew _ _
        have j6 : w6.heap[M]? = some (.cells (bdA b (.slice ba bn bc)) 39 (0, 0)) := by rw [hw6, ← hM]; exact heap_alloc_new _ _
        have HW6 := Lib.hid hw6
        have HM := Lib.hid hM
        have J6 := Lib.hid j6
        have HB6 : Hid (Below U.heap.size U w6) := Lib.hid (bgo (bgo HBU2.out b5) b56)
        have HBO5 := Lib.hid hbO
        have HB56 := Lib.hid b56
        clear hone hbO b5 hw6 hM b56 j6 t0 t1 t2 hld2 hld hst
        go_upto_region 10 with fail
        rw [← HW6.out, HM.out]
        by_cases he0 : er = 0
        · subst he0
          have HNX : Hid (∀ j (hj : j < L.length), j < i + 1 → oneE (seenS s) L[j] = 0) := Lib.hid (fun j hj hji => by
            rcases Nat.lt_or_ge j i with q | q
            · exact HNO.out j hj q
            · obtain rfl : j = i := by omega
              rw [HXI.out hj]
              exact HER.out)
          obtain ⟨hbE, hbO⟩ := HBO5.out rfl
          have hbU6 : Below V.heap.size V w6 := bgo HBU.out HB6.out
          obtain ⟨v', X', hrun, hBX, hbX⟩ := (HBO.out.below HB6.out).push hbU6.size (by rw [List.length_map, List.length_take]; have := HI6.out; omega) (own_mono (own_below hbO HB56.out) (Nat.le_trans HBU.out.size HBU2.out.size))
          have hld3 := load_row (ty := 39) J6.out Try.underlying39 rfl size39
          have HBX : Hid (BO X' V.heap.size ((L.take (i + 1)).map (oneB (seenS s))) v') := Lib.hid (by
            have hlL : i < L.length := by rw [HLN.out]; exact HLT.out
            rw [List.take_add_one, List.getElem?_eq_getElem hlL, HXI.out hlL, List.map_append]
            rw [hbE] at hBX
            exact hBX)
          have HBX2 : Hid (Below V.heap.size V X') := Lib.hid (hbU6.trans hbX)
          clear hBX hbX hbO hbE hbU6
          go_wp2_with (first | (refine wpl_load _ rfl (by first | rfl | (simp [Act.eval]; done)) hld3 ?_) | (at_builtin; refine wpl_run2 _ _ rfl (by first | rfl | (simp [Act.eval]; done)) (by first | rfl | (simp [Act.eval]; done)) hrun ?_))
          go_roundw
          case rel => exact ⟨i + 1, HLT.out, by go_num, HNX, HBX, HBX2.out⟩
          case measure => simp [intOf]; omega
        · have g1 : (er == 0) = false := by rw [beq_eq_false_iff_ne]; exact he0
          have g2 : (er != 0) = true := by simpa using he0
          have HNE := Lib.hid he0
          clear he0
          go_wp2
          refine bodyPost_ret (v := .tuple #[.slice none 0 0, .int .i64 (i : Int), .int .i64 er]) (by simp [results, Try.results9, go_sem]) rfl ?_
          have hlL : i < L.length := by rw [HLN.out]; exact HLT.out
          have hE : bindE s L = ((i : Int), er) := by
            rw [HE.out, bindAt_stop (i := i) hlL HNO.out (by rw [HXI.out hlL, HER.out]; exact HNE.out), HXI.out hlL, HER.out, Nat.zero_add]
          exact ⟨_, by rw [hE], by unfold bindL; rw [hE, if_neg HNE.out]; exact BO.nil _ _, bgo (bgo HBV.out HBU.out) HB6.out⟩
      · have k1 : ¬ ((i : Int) < (n : Int)) := by omega
        obtain rfl : i = n := by omega
        have hE : bindE s L = (0, 0) := by rw [HE.out]; exact bindAt_end (fun j hj => HNO.out j hj (by rw [← HLN.out]; exact hj))
        have HEE := Lib.hid hE
        have HBF : Hid (BO U w.heap.size (bindL s L) u9) := Lib.hid (by
          have h1 := HBO.out.mono HBV.out.size
          rw [show L.take i = L from by rw [← HLN.out, List.take_length]] at h1
          unfold bindL
          rw [hE, if_pos rfl]
          exact h1)
        clear hb hlt hE
        go_wp2
        refine bodyPost_ret (v := .tuple #[u9, .int .i64 0, .int .i64 0]) (by simp [results, Try.results9, go_sem]) rfl ?_
        exact ⟨_, by rw [HEE.out], HBF.out, bgo HBV.out HBU.out⟩
end
end Go.Proofs.Ytkfnphhoebknnaa
