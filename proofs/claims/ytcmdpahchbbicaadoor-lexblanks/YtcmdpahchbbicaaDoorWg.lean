/- The walk of beginnings. -/
import Derived.Test.YtcmdpahchbbicaaDoorWf
namespace Go.Proofs.YtcmdpahchbbicaaDoor
open Go.RowKit
set_option maxHeartbeats 2000000 in
set_option maxRecDepth 100000 in
theorem begin_any (w : World) (R : Nat) : Calls Tryd.prog 12 #[.pointer (some ⟨R, 0, none⟩)] w fun e w' => (∃ cs, e = .returned (.agg cs) ∧ Tab R cs) ∧ Below w.heap.size w w' := by
  obtain ⟨w0, hw0⟩ : ∃ w0, w0 = (w.alloc (.cells Tryd.zeroCells42 42)).alloc (.cells Tryd.zeroCells42 42) := ⟨_, rfl⟩
  obtain ⟨A, hA⟩ : ∃ A, w.heap.size = A := ⟨_, rfl⟩
  obtain ⟨T, hT⟩ : ∃ T, w.heap.size + 1 = T := ⟨_, rfl⟩
  have jA : w0.heap[A]? = some (.cells Tryd.zeroCells42 42 (0, 0)) := by rw [hw0, ← hA, Below.heap_alloc _ _ _ (by simp)]; exact heap_alloc_new w _
  have jT : w0.heap[T]? = some (.cells Tryd.zeroCells42 42 (0, 0)) := by rw [hw0, ← hT]; have := heap_alloc_new (w.alloc (.cells Tryd.zeroCells42 42)) (.cells Tryd.zeroCells42 42); simpa using this
  have hb0 : Below w.heap.size w w0 := by rw [hw0]; exact ((Below.refl _ w).alloc (Nat.le_refl _) _).alloc (by simp) _
  have hAT : A ≠ T := by omega
  obtain ⟨C0, hC0⟩ : ∃ C0, Tryd.zeroCells42 = C0 := ⟨_, rfl⟩
  have hz0 : C0.size = 256 := by rw [← hC0]; exact zero_size
  have hok := tab_ok R
  obtain ⟨C1, hC1⟩ : ∃ C, setAll C0 letT.data.toList (rdF 18 R) = C := ⟨_, rfl⟩
  obtain ⟨C2, hC2⟩ : ∃ C, setAll C1 numT.data.toList (rdF 19 R) = C := ⟨_, rfl⟩
  obtain ⟨C3, hC3⟩ : ∃ C, setAll C2 quoT.data.toList (rdF 20 R) = C := ⟨_, rfl⟩
  obtain ⟨C4, hC4⟩ : ∃ C, setAll C3 sigT.data.toList (rdF 21 R) = C := ⟨_, rfl⟩
  rw [hC0, hC1, hC2, hC3, hC4] at hok
  have hz1 : C1.size = 256 := by rw [← hC1, setAll_size, hz0]
  have hz2 : C2.size = 256 := by rw [← hC2, setAll_size, hz1]
  have hz3 : C3.size = 256 := by rw [← hC3, setAll_size, hz2]
  have hz4 : C4.size = 256 := by rw [← hC4, setAll_size, hz3]
  have fill : ∀ (X : World) (cs D : Array Value) (t : ByteArray) (f : FuncId), X.heap[T]? = some (.cells cs 42 (0, 0)) → cs.size = 256 → t.size ≤ 1024 → setAll cs t.data.toList (rdF f R) = D → Calls Tryd.prog 17 #[.string t, rdF f R, .pointer (some ⟨T, 0, none⟩)] X fun e w' => e = .returned (.tuple #[]) ∧ w'.heap[T]? = some (.cells D 42 (0, 0)) ∧ Fr X w' (fun k => k = T) := by
    intro X cs D t f h1 h2 h3 h4
    rw [← h4]
    exact fill_any h1 h2 h3
  rw [hC0] at jA jT hw0
  have HW := Lib.hid hw0
  have HA := Lib.hid hA
  have HT := Lib.hid hT
  have HB := Lib.hid hb0
  have JA := Lib.hid jA
  have JT := Lib.hid jT
  have HK := Lib.hid hok
  have HC0 := Lib.hid hC0
  have H1 := Lib.hid hC1
  have H2 := Lib.hid hC2
  have H3 := Lib.hid hC3
  have H4 := Lib.hid hC4
  have FI := Lib.hid fill
  clear hw0 hA hT hb0 jA jT hok hC0 hC1 hC2 hC3 hC4 fill
  have hmf : ∀ (fn : Fn) (first cap : Array Value) (w : World), (Instr.makeFunc fn first cap).run Tryd.prog w = .ok (.func fn first cap) w := fun _ _ _ _ => rfl
  go_enter Tryd.func12, Tryd.ntmps12
  go_upto_region 2 with fail
  rw [HC0.out, ← HW.out, HT.out, HA.out]
  have k0 := FI.out w0 C0 C1 letT 18 JT.out hz0 (by decide) H1.out
  have K0 := Lib.hid k0
  clear k0
  go_wp2_with (go_at_call 17; refine (K0.out).mono ?_; rintro e w1 ⟨rfl, j1, f1⟩; refine Hid.out ?_)
  refine Lib.hid ?_
  have J1 := Lib.hid j1
  have F1 := Lib.hid f1
  clear j1 f1
  have k1 := FI.out w1 C1 C2 numT 19 J1.out hz1 (by decide) H2.out
  have K1 := Lib.hid k1
  clear k1
  go_wp2_with (go_at_call 17; refine (K1.out).mono ?_; rintro e w2 ⟨rfl, j2, f2⟩; refine Hid.out ?_)
  refine Lib.hid ?_
  have J2 := Lib.hid j2
  have F2 := Lib.hid (F1.out.trans f2)
  clear j2 f2 F1 J1
  have k2 := FI.out w2 C2 C3 quoT 20 J2.out hz2 (by decide) H3.out
  have K2 := Lib.hid k2
  clear k2
  go_wp2_with (go_at_call 17; refine (K2.out).mono ?_; rintro e w3 ⟨rfl, j3, f3⟩; refine Hid.out ?_)
  refine Lib.hid ?_
  have J3 := Lib.hid j3
  have F3 := Lib.hid (F2.out.trans f3)
  clear j3 f3 F2 J2
  have k3 := FI.out w3 C3 C4 sigT 21 J3.out hz3 (by decide) H4.out
  have K3 := Lib.hid k3
  clear k3
  go_wp2_with (go_at_call 17; refine (K3.out).mono ?_; rintro e w4 ⟨rfl, j4, f4⟩; refine Hid.out ?_)
  refine Lib.hid ?_
  have F4 := F3.out.trans f4
  clear f4 F3 J3
  have jA4 : w4.heap[A]? = some (.cells C0 42 (0, 0)) := (F4.block A (blk_lt JA.out) hAT).trans JA.out
  have hld := load_row (ty := 42) j4 Tryd.underlying42 rfl (by rw [hz4]; kernel_rfl)
  obtain ⟨W, hWe, hW1, hW2⟩ := sets_row jA4 C4 (by rw [hz4, hz0])
  have hst := store_row (ty := 42) jA4 (by rw [hz4, hz0]) (by rw [hz4]; kernel_rfl) HK.out.one
  rw [← hWe] at hst
  have hb4 : Below w.heap.size w W := by
    refine (HB.out.trans (F4.toBelow (fun k hk e => ?_) HB.out.size)).trans (hW2.toBelow (fun k hk e => ?_) (Nat.le_trans HB.out.size F4.size))
    · have := HT.out
      omega
    · have := HA.out
      omega
  have hlv := load_var (ty := 42) hW1 Tryd.underlying42 rfl (by rw [hz4]; kernel_rfl)
  have HLV := Lib.hid hlv
  have HB4 := Lib.hid hb4
  clear hWe hW1 hW2 hb4 F4 jA4 j4 hlv
  go_wp2_with (first | refine wpl_load _ rfl rfl hld ?_ | refine wpl_store _ _ rfl rfl rfl hst ?_)
  exact bodyPost_ret (v := .agg C4) (results_one rfl rfl HLV.out) rfl ⟨⟨C4, rfl, HK.out⟩, HB4.out⟩
end Go.Proofs.YtcmdpahchbbicaaDoor
