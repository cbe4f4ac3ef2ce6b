/- Copies of lists of texts; a diary that is none; one drive with its diary. -/
import Derived.Test.YtoipmpaebngppaaEf
import Derived.Test.YtoipmpaebngppaaDLc
import Derived.Maps.AppendAt
namespace Go.Proofs.Ytoipmpaebngppaa
open Go.RowKit Go.Maps

theorem own_empty9 (w : World) : (w.alloc (.cells #[] 9)).ownsRow w.heap.size 9 1 (.slice (some ⟨w.heap.size, 0, none⟩) 0 0) 0 [] :=
  ⟨rfl, .inr ⟨w.heap.size, 0, #[], rfl, Nat.le_refl _, heap_alloc_new w _, Nat.le_refl _, by decide, rfl, rfl⟩⟩
section
variable {w w' w1 w2 : World} {A B X Y N M : Nat} {S T : Nat → Prop} {s : Ds} {n d : ByteArray} {L : List ByteArray} {ad : Option Addr} {cap : Nat}
/-- append(v, list...) -/
theorem strs_run {base m : Nat} {v : Value} {xs : List Value} (ho : w.ownsRow base 9 1 v m xs) (hL : Ls L ad w) (hb : base ≤ w.heap.size) (hz : (m + L.length) * 16 ≤ 140737488355328) :
    ∃ v' w', (Builtin.append_ #[32, 32] 32 #[v, .slice ad L.length cap]).run Try.prog w = .ok v' w' ∧ w'.ownsRow base 9 1 v' (m + L.length) (xs ++ L.map Value.string) ∧ w.grownBy w' v.ownBlock ∧ (v'.ownBlock = v.ownBlock ∨ v'.ownBlock = some w.heap.size) := by
  obtain ⟨i0, hi, hz0, hz1, hz2⟩ := info_parts infoStr
  cases ad with
  | none =>
    have hk : L = [] := by
      cases L with
      | nil => rfl
      | cons k ks =>
        obtain ⟨b, o, e, _⟩ := hL.at' 0 (by simp)
        cases e
    subst hk
    refine ⟨v, w, ?_, by simpa using ho, ⟨rfl, rfl, rfl, Nat.le_refl _, fun _ _ _ => rfl⟩, .inl rfl⟩
    rcases ho.2 with ⟨rfl, e⟩ | ⟨g, c, cur, rfl, _, _, hmc, _⟩
    · subst e
      simp [Builtin.append_, run_underlying Try.underlying32, sizeOf, typeInfo, hi, Builtin.lenOf, Builtin.firstCells]
    · have hno : ¬ c < m := by omega
      simp [Builtin.append_, run_underlying Try.underlying32, sizeOf, typeInfo, hi, Builtin.lenOf, Builtin.firstCells, storeCells, hno]
  | some a =>
    have hnews : ∀ j u, (L.map Value.string)[j]? = some u → w.cell? (a.add j) = some u := by
      intro j u hu
      have hj : j < L.length := by
        have := (List.getElem?_eq_some_iff.1 hu).1
        simpa using this
      obtain ⟨b, o, e, hlt, c⟩ := hL.at' j hj
      cases e
      have e : (⟨b, o, none⟩ : Addr).add j = ⟨b, o + j, none⟩ := by unfold Addr.add; split <;> simp_all
      rw [e, c]
      simpa [hj] using hu
    obtain ⟨v', w1, hrun, ho', hgr, _, hat⟩ := run_append_own_at (P := Try.prog) (w := w) base 32 32 9 i0 (.string ⟨#[]⟩) 1 16 Try.underlying32 hi hz0 hz1 hz2 rfl (by decide) v m xs ho a L.length cap (L.map Value.string) (by simp) hnews (by
      intro u hu
      obtain ⟨k, _, rfl⟩ := List.mem_map.1 hu
      rfl) (by unfold maxLen; omega) (by omega) hb
    exact ⟨v', w1, hrun, ho', hgr, hat⟩
/-- append([]string{}, list...) -/
theorem strs_copy (hL : Ls L ad w) (hz : L.length * 16 ≤ 140737488355328) :
    ∃ ad' cap' w', (Builtin.append_ #[32, 32] 32 #[.slice (some ⟨w.heap.size, 0, none⟩) 0 0, .slice ad L.length cap]).run Try.prog (w.alloc (.cells #[] 9)) = .ok (.slice ad' L.length cap') w' ∧ Ls L ad' w' ∧ w'.ownsRow w.heap.size 9 1 (.slice ad' L.length cap') L.length (L.map Value.string) ∧ Below w.heap.size w w' := by
  have hal : Below w.heap.size w (w.alloc (.cells #[] 9)) := (Below.refl _ w).alloc (Nat.le_refl _) _
  obtain ⟨v', w', hrun, ho, hgr, _⟩ := strs_run (cap := cap) (own_empty9 w) (hL.on hal) hal.size (by omega)
  simp only [Nat.zero_add, List.nil_append] at ho
  obtain ⟨ad', cap', rfl, hls, _, _⟩ := Ls.own ho
  exact ⟨ad', cap', w', hrun, hls, ho, hal.grown hgr hal.size (fun k hk => ((own_empty9 w).lt k hk).1)⟩

theorem pd_append_nil (v : Value) (w : World) : Calls Try.prog 12 #[.pointer none, v] w fun e w' => e = .returned (.int .i64 2) ∧ w' = w := by
  go_enter Try.func12, Try.ntmps12
  go_wp2
  go_ret
  exact ⟨rfl, rfl⟩
theorem pd_rewrite_nil (v : Value) (w : World) : Calls Try.prog 14 #[.pointer none, v] w fun e w' => e = .returned (.int .i64 2) ∧ w' = w := by
  go_enter Try.func14, Try.ntmps14
  go_wp2
  go_ret
  exact ⟨rfl, rfl⟩
theorem pd_open_nil (n : ByteArray) (w : World) : Calls Try.prog 10 #[.pointer none, .string n] w fun e w' => e = .returned (.tuple #[.pointer none, .slice none 0 0, .int .i64 2]) ∧ w' = w := by
  go_enter Try.func10, Try.ntmps10
  go_wp2_with fail
  refine (read_nil n w).mono ?_
  rintro e w1 ⟨rfl, rfl⟩
  go_wp2
  go_ret3
  exact ⟨rfl, rfl⟩
end

/-- A drive that was made since w0; one with a diary. -/
def DO (w0 w : World) (A N : Nat) (s : Ds) : Prop := ∃ S, PD w A S N s ∧ (∀ k, S k → w0.heap.size ≤ k) ∧ Below w0.heap.size w0 w
def DD (w0 w : World) (A X N : Nat) (s : Ds) (n : ByteArray) : Prop := ∃ S, PD w A S N s ∧ (∀ k, S k → w0.heap.size ≤ k) ∧ Below w0.heap.size w0 w ∧ w.heap[X]? = some (pdO A n) ∧ ¬ S X ∧ w0.heap.size ≤ X
section
variable {w0 w w' w1 w2 : World} {A B X Y N M : Nat} {S T : Nat → Prop} {s : Ds} {n d : ByteArray} {L : List ByteArray} {ad : Option Addr} {cap : Nat}
theorem DO.below (h : DO w0 w A N s) : Below w0.heap.size w0 w := by
  obtain ⟨S, _, _, hb⟩ := h
  exact hb
theorem DO.on (h : DO w0 w A N s) (hb : Below w.heap.size w w') : DO w0 w' A N s := by
  obtain ⟨S, h1, h2, h3⟩ := h
  exact ⟨S, h1.on hb, h2, h3.trans (hb.mono h3.size)⟩
theorem DD.out (h : DD w0 w A X N s n) : DO w0 w A N s := by
  obtain ⟨S, h1, h2, h3, _⟩ := h
  exact ⟨S, h1, h2, h3⟩
theorem DD.below (h : DD w0 w A X N s n) : Below w0.heap.size w0 w := h.out.below
theorem DD.lt (h : DD w0 w A X N s n) : X < w.heap.size := by
  obtain ⟨S, _, _, _, h4, _⟩ := h
  exact (Array.getElem?_eq_some_iff.1 h4).1
theorem DD.on (h : DD w0 w A X N s n) (hb : Below w.heap.size w w') : DD w0 w' A X N s n := by
  have hl := h.lt
  obtain ⟨S, h1, h2, h3, h4, h5, h6⟩ := h
  exact ⟨S, h1.on hb, h2, h3.trans (hb.mono h3.size), (hb.block X hl).trans h4, h5, h6⟩
theorem DD.turn {N' : Nat} {s' : Ds} {S' : Nat → Prop} (hl : X < w.heap.size) (h2 : ∀ k, S k → w0.heap.size ≤ k) (h3 : Below w0.heap.size w0 w) (h4 : w.heap[X]? = some (pdO A n)) (h5 : ¬ S X) (h6 : w0.heap.size ≤ X)
    (hp : PD w' A S' N' s') (hs : ∀ j, S' j → Gro S w w' j) (hf : Fr w w' S) : DD w0 w' A X N' s' n := by
  refine ⟨S', hp, fun k q => ?_, fr_below h2 h3 hf, (hf.block X hl h5).trans h4, fun q => ?_, h6⟩
  · exact gro_fresh h2 h3.size k (hs k q)
  · rcases hs X q with q | q
    · exact h5 q
    · omega
theorem do_new (hw : Below w0.heap.size w0 w) : Calls Try.prog 9 #[] w fun e w' => ∃ A, e = .returned (.pointer (some ⟨A, 0, none⟩)) ∧ DO w0 w' A 0 ⟨[], 0, false⟩ := by
  refine (new_any w).mono ?_
  rintro e w' ⟨rfl, hd, hb, _⟩
  refine ⟨_, rfl, _, ⟨_, _, hd⟩, fun k q => ?_, hw.trans (hb.mono hw.size)⟩
  have e : k = w.heap.size := q
  have := hw.size
  omega
theorem dd_append (h : DD w0 w A X N s n) (hL : Ls L ad w) (hz : sumS L ≤ 1000000000000) (hn : n.size ≤ maxLen) (ho : (oldF s.F n).data.size ≤ 1000000000000) (hN : N + 1 < 900000) :
    Calls Try.prog 12 #[.pointer (some ⟨X, 0, none⟩), .slice ad L.length cap] w fun e w' => e = .returned (.int .i64 (s.dApp n L).2) ∧ DD w0 w' A X (N + 2) (s.dApp n L).1 n := by
  have hl := h.lt
  obtain ⟨S, h1, h2, h3, h4, h5, h6⟩ := h
  refine (pd_append h1 h4 h5 hL hz hn ho hN).mono ?_
  rintro e w' ⟨rfl, hp, hf⟩
  exact ⟨rfl, DD.turn hl h2 h3 h4 h5 h6 hp (fun j q => q) hf⟩
theorem dd_rewrite (h : DD w0 w A X N s n) (hL : Ls L ad w) (hz : sumS L ≤ 1000000000000) (hn : n.size ≤ maxLen) (hN : N < 900000) :
    Calls Try.prog 14 #[.pointer (some ⟨X, 0, none⟩), .slice ad L.length cap] w fun e w' => e = .returned (.int .i64 (s.dRew n L).2) ∧ DD w0 w' A X (N + 1) (s.dRew n L).1 n := by
  have hl := h.lt
  obtain ⟨S, h1, h2, h3, h4, h5, h6⟩ := h
  refine (pd_rewrite h1 h4 hL hz hn hN).mono ?_
  rintro e w' ⟨rfl, hp, hf⟩
  exact ⟨rfl, DD.turn hl h2 h3 h4 h5 h6 hp (fun j q => q) hf⟩
theorem dd_arm (h : DD w0 w A X N s n) {m : Int} (hm : -9223372036854775808 ≤ m ∧ m ≤ 9223372036854775807) :
    Calls Try.prog 16 #[.pointer (some ⟨A, 0, none⟩), .int .i64 m] w fun e w' => e = .returned (.tuple #[]) ∧ DD w0 w' A X N (s.arm m) n := by
  have hl := h.lt
  obtain ⟨S, h1, h2, h3, h4, h5, h6⟩ := h
  refine (p_arm h1 hm).mono ?_
  rintro e w' ⟨rfl, hp, hf, _⟩
  exact ⟨rfl, DD.turn hl h2 h3 h4 h5 h6 hp (fun j q => .inl q) hf⟩
theorem dd_down (h : DD w0 w A X N s n) : Calls Try.prog 23 #[.pointer (some ⟨A, 0, none⟩)] w fun e w' => e = .returned (.bool s.down) ∧ w' = w := by
  obtain ⟨S, h1, _⟩ := h
  exact p_down h1
theorem do_read (h : DO w0 w A N s) (hn : n.size ≤ maxLen) : Calls Try.prog 21 #[.pointer (some ⟨A, 0, none⟩), .string n] w fun e w' => e = .returned (.tuple #[.string (s.text n), .int .i64 s.code]) ∧ DO w0 w' A N s := by
  have h0 := h
  obtain ⟨S, h1, _⟩ := h
  refine (p_read h1 hn).mono ?_
  rintro e w' ⟨rfl, hb⟩
  exact ⟨rfl, h0.on hb⟩
theorem do_crash (h : DO w0 w A N s) {kv : Value} {keep : List Int} (hk : Ints w kv keep) :
    Calls Try.prog 18 #[.pointer (some ⟨A, 0, none⟩), kv] w fun e w' => ∃ B, e = .returned (.pointer (some ⟨B, 0, none⟩)) ∧ DO w0 w' B N (s.crash keep) := by
  obtain ⟨S, h1, h2, h3⟩ := h
  have hA : S A := by
    obtain ⟨mv, loc, hd⟩ := h1
    exact hd.covA
  refine (p_crash h1 hk).mono ?_
  rintro e w' ⟨rfl, ⟨T, hp, hT⟩, _, hf⟩
  have hz := h3.size
  exact ⟨_, rfl, T, hp, fun k q => Nat.le_trans hz (hT k q), fr_below (T := fun k => k = A) (fun k q => by rw [q]; exact h2 A hA) h3 hf⟩
/-- What Open finds, with a drive of one's own. -/
theorem do_open (h : DO w0 w A N s) (hn : n.size ≤ maxLen) (ho : (s.text n).size ≤ 1000000000000) (hN : N < 900000) :
    Calls Try.prog 10 #[.pointer (some ⟨A, 0, none⟩), .string n] w fun e w' => ∃ ps k, Scans (s.text n).data.toList (lists ps) k ∧ k ≤ (s.text n).size ∧ 8 * ps.length ≤ (s.text n).size ∧
      (((s.dOpn n k).down = true ∧ e = .returned (.tuple #[.pointer none, .slice none 0 0, .int .i64 50]) ∧ DO w0 w' A (N + 1) (s.dOpn n k)) ∨
       ((s.dOpn n k).down = false ∧ ∃ X ad cap, e = .returned (.tuple #[.pointer (some ⟨X, 0, none⟩), .slice ad ps.length cap, .int .i64 0]) ∧ DD w0 w' A X (N + 1) (s.dOpn n k) n ∧ Ls ps ad w')) := by
  obtain ⟨S, h1, h2, h3⟩ := h
  refine (pd_open h1 hn ho hN).mono ?_
  rintro e w' ⟨ps, k, hsc, hk, hps, hf, S', hS', hp, hc⟩
  refine ⟨ps, k, hsc, hk, hps, ?_⟩
  have hfr : ∀ j, S' j → w0.heap.size ≤ j := fun j q => gro_fresh h2 h3.size j (hS' j q)
  have hbw := fr_below h2 h3 hf
  rcases hc with ⟨hd, rfl⟩ | ⟨hd, Y, v, rfl, hY, hSY, hwY, hown, _⟩
  · exact .inl ⟨hd, rfl, S', hp, hfr, hbw⟩
  · obtain ⟨ad, cap, rfl, hls, _, _⟩ := Ls.own hown
    exact .inr ⟨hd, Y, ad, cap, rfl, ⟨S', hp, hfr, hbw, hY, hSY, Nat.le_trans h3.size hwY⟩, hls⟩
end
end Go.Proofs.Ytoipmpaebngppaa
