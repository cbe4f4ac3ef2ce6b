/- The walks of name and sign. -/
import Derived.Test.YtcmdpahchbbicaaDoorWh
namespace Go.Proofs.YtcmdpahchbbicaaDoor
open Go.RowKit
/-- What reading a word at k answers, and where the reader stands then. -/
def RdAns (w : World) (R : Nat) (s : ByteArray) (k : Nat) (o : Int ⊕ Wr) (e : Ending) (w' : World) : Prop := match o with
  | .inl er => e = .returned (.tuple #[.agg zW, .int .i64 er]) ∧ Fr w w' (fun j => j = R)
  | .inr (kd, t, v, m) => e = .returned (.tuple #[wdV kd k ⟨t.toArray⟩ v, .int .i64 0]) ∧ Rd w' R s (k + m) ∧ Fr w w' (fun j => j = R)
theorem ext_take (s : ByteArray) (k m : Nat) : s.extract k (k + m) = ⟨((s.data.toList.drop k).take m).toArray⟩ := by
  apply ByteArray.ext
  apply Array.toList_inj.1
  rw [Lib.extract_data]
  simp
theorem results_two {fn : Func} {t u : Tmp} {ty : TypeId} {ad : Addr} {v x : Value} {tmps : Array Value} {w : World} (h : fn.results = #[.cell t ty, .tmp u]) (ha : tmps.getD t undef = .pointer (some ad)) (hu : tmps.getD u undef = x) (hl : (loadVar ty ad).run Tryd.prog w = .ok v w) : (results fn tmps).run Tryd.prog w = .ok (.tuple #[v, x]) w := by
  have ha2 : tmps[t]?.getD undef = .pointer (some ad) := by simpa using ha
  have hu2 : tmps[u]?.getD undef = x := by simpa using hu
  simp [results, h, ha2, hu2, asAddr, hl]
/-- A row of four stored in a block of four. -/
theorem put_four {w : World} {A : Nat} {cs : Array Value} (hA : w.heap[A]? = some (.cells cs 31 (0, 0))) (hs : cs.size = 4) (us : Array Value) (h4 : us.size = 4) (h1 : us.all (·.oneCell') = true) : ∃ W, (Instr.storeAt 31 (.pointer (some ⟨A, 0, none⟩)) (.agg us)).run Tryd.prog w = .ok () W ∧ W.heap[A]? = some (.cells us 31 (0, 0)) ∧ Fr w W (fun j => j = A) ∧ (loadVar 31 ⟨A, 0, none⟩).run Tryd.prog W = .ok (.agg us) W := by
  obtain ⟨W, hW, j, f⟩ := sets_row hA us (by omega)
  have hi : (Tryd.prog.info? 31).map (·.size) = some us.size := by rw [h4]; kernel_rfl
  exact ⟨W, by rw [hW]; exact store_row hA (by omega) hi h1, j, f, load_var j Tryd.underlying31 rfl hi⟩
theorem isN_in : ∀ c, inS ⟨#[97, 98, 99, 100, 101, 102, 103, 104, 105, 106, 107, 108, 109, 110, 111, 112, 113, 114, 115, 116, 117, 118, 119, 120, 121, 122, 48, 49, 50, 51, 52, 53, 54, 55, 56, 57, 95]⟩ c = isN c := by
  intro c
  have h : ∀ n : Fin 256, inS ⟨#[97, 98, 99, 100, 101, 102, 103, 104, 105, 106, 107, 108, 109, 110, 111, 112, 113, 114, 115, 116, 117, 118, 119, 120, 121, 122, 48, 49, 50, 51, 52, 53, 54, 55, 56, 57, 95]⟩ (UInt8.ofNat n.val) = isN (UInt8.ofNat n.val) := by decide +kernel
  have := h ⟨c.toNat, c.toNat_lt⟩
  simpa using this
theorem isD_in : ∀ c, inS ⟨#[48, 49, 50, 51, 52, 53, 54, 55, 56, 57]⟩ c = isD c := by
  intro c
  have h : ∀ n : Fin 256, inS ⟨#[48, 49, 50, 51, 52, 53, 54, 55, 56, 57]⟩ (UInt8.ofNat n.val) = isD (UInt8.ofNat n.val) := by decide +kernel
  have := h ⟨c.toNat, c.toNat_lt⟩
  simpa using this
theorem isB_in : ∀ c, inS ⟨#[32, 9, 10]⟩ c = isB c := by
  intro c
  have h : ∀ n : Fin 256, inS ⟨#[32, 9, 10]⟩ (UInt8.ofNat n.val) = isB (UInt8.ofNat n.val) := by decide +kernel
  have := h ⟨c.toNat, c.toNat_lt⟩
  simpa using this
theorem cnt_room (p : UInt8 → Bool) (s : ByteArray) (k : Nat) (hk : k ≤ s.size) : k + cnt p (s.data.toList.drop k) ≤ s.size := by
  have := cnt_le p (s.data.toList.drop k)
  rw [List.length_drop, Array.length_toList] at this
  have e : s.data.size = s.size := rfl
  omega
set_option maxHeartbeats 2000000 in
set_option maxRecDepth 100000 in
theorem name_any {w : World} {R : Nat} {s : ByteArray} {k : Nat} (hR : Rd w R s k) (hs : s.size ≤ 1024) (hk : k < s.size) (hl : isL s[k] = true) :
    Calls Tryd.prog 18 #[.pointer (some ⟨R, 0, none⟩)] w (RdAns w R s k (wordL s[k] (s.data.toList.drop (k + 1)))) := by
  have hN : isN s[k] = true := by simp [isN, hl]
  have hcn : cnt isN (s.data.toList.drop k) = 1 + cnt isN (s.data.toList.drop (k + 1)) := by rw [drop_at s k hk, cnt_yes hN, Nat.add_comm]
  obtain ⟨m, hm⟩ : ∃ m, 1 + cnt isN (s.data.toList.drop (k + 1)) = m := ⟨_, rfl⟩
  have hroom := cnt_room isN s k (by omega)
  rw [hcn, hm] at hroom
  have hw : wordL s[k] (s.data.toList.drop (k + 1)) = if 16 < m then .inl 21 else .inr (1, (s.data.toList.drop k).take m, 0, m) := by
    unfold wordL
    rw [if_pos hl, hm, ← drop_at s k hk]
  rw [hw]
  obtain ⟨o, ho⟩ : ∃ o, (if 16 < m then .inl 21 else .inr (1, (s.data.toList.drop k).take m, 0, m) : Int ⊕ Wr) = o := ⟨_, rfl⟩
  rw [ho]
  have HO := Lib.hid ho
  clear ho
  have hext := ext_take s k m
  obtain ⟨T, hT⟩ : ∃ T, s.extract k (k + m) = T := ⟨_, rfl⟩
  rw [hT] at hext
  have hTz : T.size = m := by rw [← hT]; simp; omega
  obtain ⟨w0, hw0⟩ : ∃ w0, w0 = w.alloc (.cells zW 31) := ⟨_, rfl⟩
  obtain ⟨A, hA⟩ : ∃ A, w.heap.size = A := ⟨_, rfl⟩
  have hb0 : Below w.heap.size w w0 := by rw [hw0]; exact (Below.refl _ w).alloc (Nat.le_refl _) _
  have jR : Rd w0 R s k := (hb0.block R (blk_lt hR)).trans hR
  have jA : w0.heap[A]? = some (.cells zW 31 (0, 0)) := by rw [hw0, ← hA]; exact heap_alloc_new w _
  have hRA : R ≠ A := by have := blk_lt hR; omega
  have c1 : w0.cell? ⟨R, 1, none⟩ = some (.int .i64 k) := cell_blk jR 1
  have hp := past_any (k := k) (t := ⟨#[97, 98, 99, 100, 101, 102, 103, 104, 105, 106, 107, 108, 109, 110, 111, 112, 113, 114, 115, 116, 117, 118, 119, 120, 121, 122, 48, 49, 50, 51, 52, 53, 54, 55, 56, 57, 95]⟩) isN (cell_blk jR 0) isN_in (by omega) hs
  rw [hcn, hm] at hp
  have hu := upTo_any (m := k + m) 1 jR hs (by omega) (by omega)
  rw [hT] at hu
  have HP := Lib.hid hp
  have HU := Lib.hid hu
  have HW := Lib.hid hw0
  have HA := Lib.hid hA
  have HB := Lib.hid hb0
  have JA := Lib.hid jA
  have HE := Lib.hid hext
  clear hw0 hA hb0 jA hp hu hcn hm hw hN hl hR jR hext hT
  go_enter Tryd.func18, Tryd.ntmps18
  go_upto_region 1 with fail
  rw [← HW.out, HA.out]
  go_wp2_with (first | (go_at_call 13; refine (HP.out).mono ?_; rintro e w1 ⟨rfl, rfl⟩) | (go_at_call 27; refine (HU.out).mono ?_; rintro e w2 ⟨rfl, jR2, f2⟩; refine Hid.out ?_))
  refine Lib.hid ?_
  obtain ⟨W3, hW3⟩ : ∃ W3, W3 = w2.alloc (.cells #[.int .i64 1, .int .i64 k, .string T, .int .i64 0] 31) := ⟨_, rfl⟩
  obtain ⟨B, hB⟩ : ∃ B, w2.heap.size = B := ⟨_, rfl⟩
  have jB : W3.heap[B]? = some (.cells #[.int .i64 1, .int .i64 k, .string T, .int .i64 0] 31 (0, 0)) := by rw [hW3, ← hB]; exact heap_alloc_new w2 _
  have hb3 : Below w2.heap.size w2 W3 := by rw [hW3]; exact (Below.refl _ w2).alloc (Nat.le_refl _) _
  have jA2 : w2.heap[A]? = some (.cells zW 31 (0, 0)) := (f2.block A (blk_lt JA.out) (fun e => hRA e.symm)).trans JA.out
  have jA3 : W3.heap[A]? = some (.cells zW 31 (0, 0)) := (hb3.block A (blk_lt jA2)).trans jA2
  have jR3 : Rd W3 R s (k + m) := (hb3.block R (blk_lt jR2)).trans jR2
  have hAl := HA.out
  have f3 : Fr w W3 (fun j => j = R) := Fr.below ((Fr.ofBelow _ HB.out).trans f2) hb3
  have cB : W3.cell? ⟨B, 2, none⟩ = some (.string T) := cell_blk jB 2
  have hld := load_row (ty := 31) jB Tryd.underlying31 rfl (by kernel_rfl)
  obtain ⟨X1, st1, k1, g1, l1⟩ := put_four jA3 rfl zW rfl (by simp [Value.oneCell'])
  obtain ⟨X2, st2, k2, g2, l2⟩ := put_four jA3 rfl #[.int .i64 1, .int .i64 k, .string T, .int .i64 0] rfl (by simp [Value.oneCell'])
  have e1 : Fr w X1 (fun j => j = R) := f3.step g1 (fun j hj => .inr (by omega))
  have e2 : Fr w X2 (fun j => j = R) := f3.step g2 (fun j hj => .inr (by omega))
  have jR4 : Rd X2 R s (k + m) := (g2.block R (blk_lt jR3) hRA).trans jR3
  have HW3 := Lib.hid hW3
  have HBB := Lib.hid hB
  have L1 := Lib.hid l1
  have L2 := Lib.hid l2
  have E1 := Lib.hid e1
  have E2 := Lib.hid e2
  have JR4 := Lib.hid jR4
  clear hW3 hB jB hb3 jA2 jA3 jR3 hAl f3 k1 g1 l1 k2 g2 l2 e1 e2 jR4 f2 jR2
  go_upto_region 2 with fail
  rw [← HW3.out, HBB.out]
  by_cases h16 : 16 < m
  · have h16' : (16 : Int) < (T.size : Int) := by omega
    have HO2 : Hid (o = .inl 21) := by rw [← HO.out, if_pos h16]; rfl
    clear hTz h16 HO
    go_wp2_with (first | refine wpl_store _ _ rfl rfl rfl st1 ?_)
    exact bodyPost_ret (results_two rfl rfl rfl L1.out) rfl (by rw [HO2.out]; exact ⟨rfl, E1.out⟩)
  · have h16' : ¬ (16 : Int) < (T.size : Int) := by omega
    have HO2 : Hid (o = .inr (1, (s.data.toList.drop k).take m, 0, m)) := by rw [← HO.out, if_neg h16]; rfl
    clear hTz h16 HO
    go_wp2_with (first | refine wpl_load _ rfl rfl hld ?_ | refine wpl_store _ _ rfl rfl rfl st2 ?_)
    exact bodyPost_ret (results_two rfl rfl rfl L2.out) rfl (by rw [HO2.out]; exact ⟨by rw [← HE.out]; rfl, JR4.out, E2.out⟩)
set_option maxHeartbeats 2000000 in
set_option maxRecDepth 100000 in
theorem sign_any {w : World} {R : Nat} {s : ByteArray} {k : Nat} (hR : Rd w R s k) (hs : s.size ≤ 1024) (hk : k < s.size) (hl : isS s[k] = true) :
    Calls Tryd.prog 21 #[.pointer (some ⟨R, 0, none⟩)] w (RdAns w R s k (wordL s[k] (s.data.toList.drop (k + 1)))) := by
  have hw : wordL s[k] (s.data.toList.drop (k + 1)) = .inr (4, [s[k]], 0, 1) := by
    obtain ⟨h1, h2, h3⟩ := apart_all s[k]
    unfold wordL
    rw [if_neg (fun q => by rw [(h1 q).2.2] at hl; cases hl), if_neg (fun q => by rw [(h2 q).2] at hl; cases hl), if_neg (fun q => by rw [h3 q] at hl; cases hl), if_pos hl]
  rw [hw]
  have hext := ext_take s k 1
  rw [drop_at s k hk] at hext
  obtain ⟨T, hT⟩ : ∃ T, s.extract k (k + 1) = T := ⟨_, rfl⟩
  rw [hT] at hext
  obtain ⟨w0, hw0⟩ : ∃ w0, w0 = w.alloc (.cells zW 31) := ⟨_, rfl⟩
  obtain ⟨A, hA⟩ : ∃ A, w.heap.size = A := ⟨_, rfl⟩
  have hb0 : Below w.heap.size w w0 := by rw [hw0]; exact (Below.refl _ w).alloc (Nat.le_refl _) _
  have jR : Rd w0 R s k := (hb0.block R (blk_lt hR)).trans hR
  have jA : w0.heap[A]? = some (.cells zW 31 (0, 0)) := by rw [hw0, ← hA]; exact heap_alloc_new w _
  have hRA : R ≠ A := by have := blk_lt hR; omega
  have c1 : w0.cell? ⟨R, 1, none⟩ = some (.int .i64 k) := cell_blk jR 1
  have hu := upTo_any (m := k + 1) 4 jR hs (by omega) (by omega)
  rw [hT] at hu
  have hu2 : Calls Tryd.prog 27 #[.pointer (some ⟨R, 0, none⟩), .int .i64 ((k : Int) + 1), .int .i64 4] w0 _ := hu
  have HU := Lib.hid hu2
  have HW := Lib.hid hw0
  have HA := Lib.hid hA
  have HB := Lib.hid hb0
  have JA := Lib.hid jA
  have HE := Lib.hid hext
  clear hw0 hA hb0 jA hu hu2 hw hl hR jR hext hT
  go_enter Tryd.func21, Tryd.ntmps21
  go_upto_region 1 with fail
  rw [← HW.out, HA.out]
  go_wp2_with (go_at_call 27; refine (HU.out).mono ?_; rintro e w2 ⟨rfl, jR2, f2⟩; refine Hid.out ?_)
  refine Lib.hid ?_
  have jA2 : w2.heap[A]? = some (.cells zW 31 (0, 0)) := (f2.block A (blk_lt JA.out) (fun e => hRA e.symm)).trans JA.out
  have hAl := HA.out
  obtain ⟨X2, st2, k2, g2, l2⟩ := put_four jA2 rfl #[.int .i64 4, .int .i64 k, .string T, .int .i64 0] rfl (by simp [Value.oneCell'])
  have f3 : Fr w w2 (fun j => j = R) := (Fr.ofBelow _ HB.out).trans f2
  have e2 : Fr w X2 (fun j => j = R) := f3.step g2 (fun j hj => .inr (by omega))
  have jR4 : Rd X2 R s (k + 1) := (g2.block R (blk_lt jR2) hRA).trans jR2
  have L2 := Lib.hid l2
  have E2 := Lib.hid e2
  have JR4 := Lib.hid jR4
  clear jA2 hAl f3 k2 g2 l2 e2 jR4 f2 jR2
  go_wp2_with (first | refine wpl_store _ _ rfl rfl rfl st2 ?_)
  exact bodyPost_ret (results_two rfl rfl rfl L2.out) rfl ⟨by rw [HE.out]; rfl, JR4.out, E2.out⟩
end Go.Proofs.YtcmdpahchbbicaaDoor
