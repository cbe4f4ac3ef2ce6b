/- Bytes put on a tape; the walk of writeGroups. -/
import Derived.Test.YtjhgmncmcklnkaaKe
namespace Go.Proofs.Ytjhgmncmcklnkaa
open Go.RowKit

theorem step_run {P : Program} {w w' : World} {ops : Array Oper} {o : Oper} {a : Act} {K : Act → World → Prop} {Q : Exit → Act → World → Prop} {E : Prop} {t u ty : TypeId} {v1 v2 v' : Value} (s x : Operand) (hw : Region.wanted o (yielded ops a.tmps) = true)
    (ho : o.op = .call { callee := .builtin .append, args := #[s, x], argTypes := #[t, u] }) (hty : o.type = ty) (hs : a.eval s = v1) (hx : a.eval x = v2) (hrun : (Builtin.append_ #[t, u] ty #[v1, v2]).run P w = .ok v' w')
    (h : K (a.put o.dst v') w') : if Region.wanted o (yielded ops a.tmps) = true then Oper.wp P o a w K Q else E := by
  subst hty
  subst hs
  subst hx
  rw [if_pos hw]
  unfold Oper.wp execOp
  simp only [ho, resolve, invoke, builtin, Sem.run_bind, Sem.run_pure, Result.andThen_ok, List.map_toArray, List.map_cons, List.map_nil, hrun]
  exact h
theorem wpl_run {P : Program} {w w' : World} {ops : Array Oper} {rest : List Oper} {o : Oper} {a : Act} {Q : Exit → Act → World → Prop} {t u ty : TypeId} {v1 v2 v' : Value} {ds : Option Tmp} {ps : String} {af : Array Edge} (s x : Operand)
    (ho : o = ⟨ds, .call { callee := .builtin .append, args := #[s, x], argTypes := #[t, u] }, ty, ps, af, none⟩) (hs : a.eval s = v1) (hx : a.eval x = v2) (hrun : (Builtin.append_ #[t, u] ty #[v1, v2]).run P w = .ok v' w')
    (h : wpList P ops Q rest (a.put ds v') w') : wpList P ops Q (o :: rest) a w := by
  subst hs
  subst hx
  subst ho
  refine wpList_plain rfl fun K hK => ?_
  unfold Oper.wp execOp
  simp only [resolve, invoke, builtin, Sem.run_bind, Sem.run_pure, Result.andThen_ok, List.map_toArray, List.map_cons, List.map_nil, hrun]
  exact hK _ _ h
theorem infoByte : (Try.prog.info? 5).map (fun i => (i.zero, i.size, i.bytes)) = some (some (.int .u8 0), 1, 1) := by kernel_rfl
theorem byteCells_append (a b : List UInt8) : Lib.byteCells (a ++ b) = Lib.byteCells a ++ Lib.byteCells b := by simp [Lib.byteCells]
theorem news_one (w : World) (c : Value) (t : TypeId) : ∀ j u, [c][j]? = some u → (w.alloc (.cells #[c] t)).cell? ((⟨w.heap.size, 0, none⟩ : Addr).add j) = some u := by
  intro j u hj
  match j, hj with
  | 0, hj => simp at hj; subst hj; simp [Addr.add]
section
variable {w w' : World} {A : Nat} {S : Nat → Prop} {s : TS} {rv : Value}
/-- One byte more. -/
theorem Tv.push (h : Tv w A S s rv) (b : UInt8) (hz : s.wr.length ≤ 2000000000) : ∃ v2 w2, (Builtin.append_ #[130, 130] 130 #[rv, .slice (some ⟨w.heap.size, 0, none⟩) 1 1]).run Try.prog (w.alloc (.cells #[.int .u8 b.toNat] 5)) = .ok v2 w2 ∧ w2.ownsRow 0 5 1 v2 (s.wr ++ [b]).length (Lib.byteCells (s.wr ++ [b])) ∧ Fr w w2 S ∧ (∀ k, v2.ownBlock = some k → S k ∨ w.heap.size ≤ k) ∧ w2.heap[A]? = some (.cells (tpC s rv) 132 (0, 0)) := by
  obtain ⟨i0, hi, hz0, hz1, hz2⟩ := info_parts infoByte
  have hb : Below w.heap.size w (w.alloc (.cells #[.int .u8 b.toNat] 5)) := Below.alloc (Below.refl _ _) (Nat.le_refl _) _
  have hrow := own_below h.row hb
  obtain ⟨v', w', hr, ho', hg, _, hat⟩ := run_append_own_at (P := Try.prog) (w := w.alloc (.cells #[.int .u8 b.toNat] 5)) 0 130 130 5 i0 _ 1 1 Try.underlying130 hi hz0 hz1 hz2 rfl (by decide) rv _ _ hrow ⟨w.heap.size, 0, none⟩ 1 1 [.int .u8 b.toNat] rfl (news_one w _ 5) (by intro u hu; simp at hu; subst hu; rfl) (by unfold maxLen; omega) (by omega) (Nat.zero_le _)
  have hsz : (w.alloc (.cells #[.int .u8 b.toNat] 5)).heap.size = w.heap.size + 1 := by simp
  refine ⟨v', w', hr, ?_, ((Fr.refl w S).alloc _).grown hg (fun k hk => .inl (h.cov k hk)), fun k hk => ?_, ?_⟩
  · rw [byteCells_append, List.length_append]
    simpa [Lib.byteCells] using ho'
  · rcases hat with q | q
    · rw [q] at hk
      exact .inl (h.cov k hk)
    · rw [q] at hk
      simp only [Option.some.injEq] at hk
      rw [hsz] at hk
      exact .inr (by omega)
  · have hA : A < w.heap.size := h.lt A h.covA
    rw [hg.block A (by rw [hsz]; omega) (fun q => h.neA A q.symm rfl), hb.block A hA]
    exact h.ob
/-- What is put there is kept. -/
theorem Tv.kept {wr' : List UInt8} {v2 : Value} {w2 : World} (h : Tv w A S s rv) (ho : w2.ownsRow 0 5 1 v2 wr'.length (Lib.byteCells wr')) (hf : Fr w w2 S) (hn : ∀ k, v2.ownBlock = some k → S k ∨ w.heap.size ≤ k) (hob : w2.heap[A]? = some (.cells (tpC s rv) 132 (0, 0))) :
    Tv (w2.setCell ⟨A, 1, none⟩ v2) A (fun k => S k ∨ v2.ownBlock = some k) { s with wr := wr' } v2 ∧ Fr w (w2.setCell ⟨A, 1, none⟩ v2) S ∧ (∀ k, (S k ∨ v2.ownBlock = some k) → Gro S w (w2.setCell ⟨A, 1, none⟩ v2) k) := by
  have hA : A < w.heap.size := h.lt A h.covA
  have hsz : (w2.setCell ⟨A, 1, none⟩ v2).heap.size = w2.heap.size := by simp [World.setCell]
  have hne : ∀ k, v2.ownBlock = some k → k ≠ A := by
    intro k hk e
    subst e
    rcases ho.2 with ⟨hv, _⟩ | ⟨g, cap, cur, hv, _, hc, _⟩
    · subst hv; cases hk
    · subst hv
      have : g = k := by simpa [Value.ownBlock] using hk
      subst this
      rw [hob] at hc
      simp at hc
  refine ⟨⟨set_blk (i := 1) hob v2, own_like ho (fun k hk => set_other (a := ⟨A, 1, none⟩) _ (hne k hk)), fun k hk => .inr hk, .inl h.covA, fun k hk => ?_⟩, hf.set (a := ⟨A, 1, none⟩) (.inl h.covA) v2, fun k hk => ?_⟩
  · rw [hsz]
    rcases hk with hk | hk
    · exact Nat.lt_of_lt_of_le (h.lt k hk) hf.size
    · exact (ho.lt k hk).2
  · rcases hk with hk | hk
    · exact .inl hk
    · rcases hn k hk with q | q
      · exact .inl q
      · exact .inr ⟨q, by rw [hsz]; exact (ho.lt k hk).2⟩
end
/-- A step of the tape. -/
def Tt (w w' : World) (A : Nat) (S : Nat → Prop) (s' : TS) : Prop := ∃ S', Tp w' A S' s' ∧ (∀ k, S' k → Gro S w w' k) ∧ Fr w w' S
theorem Tt.comb {w w1 w2 : World} {A : Nat} {S S1 : Nat → Prop} {s2 : TS} (h2 : ∀ k, S1 k → Gro S w w1 k) (h3 : Fr w w1 S) (k : Tt w1 w2 A S1 s2) : Tt w w2 A S s2 := by
  obtain ⟨S2, k1, k2, k3⟩ := k
  have hz := h3.size
  have kz := k3.size
  refine ⟨S2, k1, fun j q => ?_, h3.step k3 (fun j q => ?_)⟩
  · rcases k2 j q with q | q
    · rcases h2 j q with q | q
      · exact .inl q
      · exact .inr ⟨q.1, by omega⟩
    · exact .inr ⟨by omega, q.2⟩
  · rcases h2 j q with q | q
    · exact .inl q
    · exact .inr q.1
theorem Tt.refl {w : World} {A : Nat} {S : Nat → Prop} {s : TS} (h : Tp w A S s) : Tt w w A S s := ⟨S, h, fun _ q => .inl q, Fr.refl _ _⟩
/-- What is done, and left, of a number's groups. -/
structure Wg (z : Nat) (d : List UInt8) (k y : Nat) : Prop where
  one : 1 ≤ k
  lt : y < 128 ^ k
  eq : grp z = d ++ grpN k y
theorem Wg.start {z : Nat} (h : U64 z) : Wg z [] 10 z := ⟨by omega, by unfold U64 at h; omega, rfl⟩
theorem Wg.next {z k y : Nat} {d : List UInt8} (h : Wg z d k y) (hy : 128 ≤ y) : ∃ k', Wg z (d ++ [UInt8.ofNat (y % 128 + 128)]) k' (y / 128) := by
  obtain ⟨j, rfl⟩ : ∃ j, k = j + 1 := ⟨k - 1, by have := h.one; omega⟩
  have hl := h.lt
  refine ⟨j, ?_, ?_, ?_⟩
  · rcases Nat.eq_zero_or_pos j with rfl | q
    · simp at hl; omega
    · exact q
  · rw [Nat.pow_succ] at hl
    exact Nat.div_lt_of_lt_mul (by rw [Nat.mul_comm]; exact hl)
  · rw [h.eq, grpN_step j y hy, List.append_assoc]
    rfl
theorem Wg.last {z k y : Nat} {d : List UInt8} (h : Wg z d k y) (hy : y < 128) : grp z = d ++ [UInt8.ofNat y] := by
  obtain ⟨j, rfl⟩ : ∃ j, k = j + 1 := ⟨k - 1, by have := h.one; omega⟩
  rw [h.eq, grpN_last j y hy]
set_option maxRecDepth 100000 in
theorem or_all : ∀ x : Fin 256, x.val ||| 128 = x.val % 128 + 128 := by decide
theorem or_more (y : Nat) : Go.bits .or .u8 ((y : Int) % 256) 128 = ((UInt8.ofNat (y % 128 + 128)).toNat : Int) := by
  have h := u8_or_nat (y % 256) 128 (by omega) (by omega)
  have h2 := or_all ⟨y % 256, by omega⟩
  simp only at h2
  rw [h2] at h
  rw [toNat_of (by omega), show (y : Int) % 256 = ((y % 256 : Nat) : Int) by omega]
  refine h.trans ?_
  omega
theorem or_last (y : Nat) (h : y < 128) : (y : Int) = ((UInt8.ofNat y).toNat : Int) := by rw [toNat_of (by omega)]
set_option maxHeartbeats 2000000 in
set_option maxRecDepth 100000 in
theorem writeGroups_any {w : World} {A : Nat} {S : Nat → Prop} {s : TS} (h : Tp w A S s) {z : Nat} (hz : U64 z) (hl : s.wr.length ≤ 1000000000) :
    Calls Try.prog 95 #[.pointer (some ⟨A, 0, none⟩), .int .u64 z] w fun e w' => e = .returned (.tuple #[]) ∧ Tt w w' A S { s with wr := s.wr ++ grp z } := by
  have HZ := Lib.hid (Wg.start hz)
  clear hz
  go_enter Try.func95, Try.ntmps95
  go_wp2
  go_loopw [1] (fun v wr => ∃ k y d, Hid (Wg z d k y) ∧ v = .int .u64 y ∧ Tt w wr A S { s with wr := s.wr ++ d }) (fun v _ => (intOf v).toNat)
  case atStart => exact ⟨10, z, [], HZ, rfl, by simpa using Tt.refl h⟩
  case round =>
    obtain ⟨k, y, d, HW, rfl, S', ⟨rv, hT⟩, hG, hF⟩ := hrel
    have hdl : d.length ≤ 10 := by
      have := congrArg List.length HW.out.eq
      have := grp_len z
      rw [List.length_append] at *
      omega
    have hwl : (s.wr ++ d).length ≤ 2000000000 := by rw [List.length_append]; omega
    have c1 : wr.cell? ⟨A, 1, none⟩ = some rv := cell_blk hT.ob 1
    by_cases hy : 128 ≤ y
    · have e1 := or_more y
      obtain ⟨b, hb⟩ : ∃ b, UInt8.ofNat (y % 128 + 128) = b := ⟨_, rfl⟩
      rw [hb] at e1
      obtain ⟨v2, w2, hrun, q1, q2, q3, q4⟩ := hT.push b hwl
      obtain ⟨N, hN⟩ : ∃ N, (s.wr ++ d ++ [b]).length = N := ⟨_, rfl⟩
      obtain ⟨ad2, cap2, rfl⟩ := own_shape q1
      obtain ⟨t1, t2, t3⟩ := hT.kept q1 q2 q3 q4
      have hstep : Tt w (w2.setCell ⟨A, 1, none⟩ (.slice ad2 _ cap2)) A S _ := Tt.comb hG hF ⟨_, ⟨_, t1⟩, t3, t2⟩
      rw [show (({ s with wr := s.wr ++ d } : TS).wr ++ [b]).length = N from hN] at hrun hstep
      have d1 : w2.cell? ⟨A, 1, none⟩ = some rv := cell_blk q4 1
      have f1 : w2.frozen? ⟨A, 1, none⟩ = false := frozen_blk q4 1
      have HS := Lib.hid hstep
      have HB := Lib.hid hb
      clear t1 t2 t3 q1 q2 q3 q4 hT hb hF hG hdl hwl h hN hstep
      go_wp2_with (at_builtin; refine wpl_run _ _ rfl (by simp [Act.eval]) (by simp [Act.eval]) hrun ?_)
      go_roundw
      case rel =>
        obtain ⟨k', hk'⟩ := HW.out.next hy
        refine ⟨k', y / 128, _, Lib.hid hk', by go_num, ?_⟩
        rw [HB.out, ← List.append_assoc]
        exact HS.out
      case measure => simp [intOf]; omega
    · have e1 := or_last y (by omega)
      have hlast := HW.out.last (by omega : y < 128)
      obtain ⟨b, hb⟩ : ∃ b, UInt8.ofNat y = b := ⟨_, rfl⟩
      rw [hb] at e1 hlast
      obtain ⟨v2, w2, hrun, q1, q2, q3, q4⟩ := hT.push b hwl
      obtain ⟨N, hN⟩ : ∃ N, (s.wr ++ d ++ [b]).length = N := ⟨_, rfl⟩
      obtain ⟨ad2, cap2, rfl⟩ := own_shape q1
      obtain ⟨t1, t2, t3⟩ := hT.kept q1 q2 q3 q4
      have hstep : Tt w (w2.setCell ⟨A, 1, none⟩ (.slice ad2 _ cap2)) A S _ := Tt.comb hG hF ⟨_, ⟨_, t1⟩, t3, t2⟩
      rw [show (({ s with wr := s.wr ++ d } : TS).wr ++ [b]).length = N from hN] at hrun hstep
      have d1 : w2.cell? ⟨A, 1, none⟩ = some rv := cell_blk q4 1
      have f1 : w2.frozen? ⟨A, 1, none⟩ = false := frozen_blk q4 1
      have HS := Lib.hid hstep
      have HL := Lib.hid hlast
      rw [← e1] at hrun
      have hy1 : y < 128 := by omega
      have hy2 : (y : Int) % 256 = y := by omega
      clear t1 t2 t3 q1 q2 q3 q4 hT hb hF hG hdl hwl h hN hstep e1 hlast
      go_wp2_with (at_builtin; refine wpl_run _ _ rfl (by simp [Act.eval]) (by simp [Act.eval]) hrun ?_)
      go_end0
      refine ⟨rfl, ?_⟩
      rw [HL.out, ← List.append_assoc]
      exact HS.out
end Go.Proofs.Ytjhgmncmcklnkaa
