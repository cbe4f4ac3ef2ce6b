/- The walk of readGroups. -/
import Derived.Test.YtjhgmncmcklnkaaKf
namespace Go.Proofs.Ytjhgmncmcklnkaa
open Go.RowKit

theorem and_all : ∀ x : Fin 256, x.val &&& 127 = x.val % 128 := fun x => nat_mask7 x.val
theorem andNot_at (c : Nat) (h : c < 256) : Go.bits .andNot .u8 (c : Int) 128 = ((c % 128 : Nat) : Int) := by
  have := u8_andNot_nat c 128 h (by omega)
  rw [show 255 - 128 = 127 from rfl, nat_mask7] at this
  exact this
theorem and_hi (c : Nat) (h : c < 256) (hc : 128 ≤ c) : Go.bits .and .u8 (c : Int) 128 = 128 := by
  have := u8_and_nat c 128 h (by omega)
  have e := nat_bit 7 c
  rw [show (2 : Nat) ^ 7 = 128 from rfl] at e
  rw [e, show c / 128 % 2 * 128 = 128 by omega] at this
  exact this
theorem and_lo (c : Nat) (hc : c < 128) : Go.bits .and .u8 (c : Int) 128 = 0 := by
  have := u8_and_nat c 128 (by omega) (by omega)
  have e := nat_bit 7 c
  rw [show (2 : Nat) ^ 7 = 128 from rfl] at e
  rw [e, show c / 128 % 2 * 128 = 0 by omega] at this
  exact this
theorem pow7 (k : Nat) : (2 : Nat) ^ (7 * k) = 128 ^ k := by rw [Nat.pow_mul]
theorem or_shift {a c k : Nat} (ha : a < 128 ^ k) (hc : c % 128 * 128 ^ k < 18446744073709551616) (hk : 128 ^ k < 18446744073709551616) : Go.bits .or .u64 (a : Int) (IntKind.u64.wrap ((c : Int) % 128 * 2 ^ (7 * k))) = ((a + c % 128 * 128 ^ k : Nat) : Int) := by
  have e : ((c : Int) % 128 * 2 ^ (7 * k)) = ((c % 128 * 128 ^ k : Nat) : Int) := by
    rw [← pow7]
    push_cast
    rfl
  rw [e, IntKind.wrap_u64]
  have e2 : ((c % 128 * 128 ^ k : Nat) : Int) % 18446744073709551616 = ((c % 128 * 128 ^ k : Nat) : Int) := by omega
  rw [e2, u64_or_nat _ _ (by omega) hc, Nat.or_comm, nat_join (7 * k) _ _ (by rw [pow7]; exact Nat.mul_mod_left _ _) (by rw [pow7]; exact ha)]
  omega
theorem pow_le9 {k : Nat} (h : k ≤ 9) : 128 ^ k ≤ 9223372036854775808 := by
  have : 128 ^ k ≤ 128 ^ 9 := Nat.pow_le_pow_right (by omega) h
  omega
theorem pow_le8 {k : Nat} (h : k ≤ 8) : 128 ^ k ≤ 72057594037927936 := by
  have : 128 ^ k ≤ 128 ^ 8 := Nat.pow_le_pow_right (by omega) h
  omega
theorem rdN_cons (k : Nat) (b : UInt8) (l : List UInt8) : rdN (k + 1) (b :: l) = if 128 ≤ b.toNat then (rdN k l).map fun p => (b.toNat - 128 + 128 * p.1, p.2) else if endK k b.toNat then some (b.toNat, l) else none := rfl
/-- What was read of the groups so far. -/
structure Rg (l : List UInt8) (k : Nat) (x : Int) : Prop where
  yes : k ≤ 9 → ∃ a : Nat, x = a ∧ a < 128 ^ k ∧ rdN 10 l = (rdN (10 - k) (l.drop k)).map fun p => (a + 128 ^ k * p.1, p.2)
  no : k = 10 → rdN 10 l = none
theorem Rg.start (l : List UInt8) : Rg l 0 0 := by
  refine ⟨fun _ => ⟨0, rfl, by simp, ?_⟩, fun h => by omega⟩
  show rdN 10 l = (rdN 10 l).map fun p => (0 + 128 ^ 0 * p.1, p.2)
  cases rdN 10 l with
  | none => rfl
  | some p => simp
section
variable {l : List UInt8} {k : Nat} {x : Int} {b : UInt8}
theorem Rg.cons (hk : k < l.length) (hb : l[k] = b) : l.drop k = b :: l.drop (k + 1) := by
  rw [List.drop_eq_getElem_cons hk, hb]
theorem Rg.more (h : Rg l k x) (hk : k < 10) (hl : k < l.length) (hb : l[k] = b) (hc : 128 ≤ b.toNat) : Rg l (k + 1) (Go.bits .or .u64 x (IntKind.u64.wrap ((b.toNat : Int) % 128 * 2 ^ (7 * k)))) := by
  obtain ⟨a, rfl, ha, e⟩ := h.yes (by omega)
  have hbl := b.toNat_lt
  obtain ⟨m, hm⟩ : ∃ m, 10 - k = m + 1 := ⟨9 - k, by omega⟩
  rw [hm, Rg.cons hl hb, rdN_cons, if_pos hc] at e
  refine ⟨fun h9 => ⟨a + b.toNat % 128 * 128 ^ k, ?_, ?_, ?_⟩, fun h9 => ?_⟩
  · have h8 := pow_le8 (k := k) (by omega)
    have : b.toNat % 128 * 128 ^ k ≤ 127 * 128 ^ k := Nat.mul_le_mul_right _ (by omega)
    exact or_shift ha (by omega) (by omega)
  · have : b.toNat % 128 * 128 ^ k ≤ 127 * 128 ^ k := Nat.mul_le_mul_right _ (by omega)
    rw [Nat.pow_succ]
    omega
  · rw [e, show 10 - (k + 1) = m by omega]
    cases rdN m (l.drop (k + 1)) with
    | none => rfl
    | some p =>
      simp only [Option.map_some, Option.some.injEq, Prod.mk.injEq, and_true]
      rw [Nat.pow_succ, Nat.mul_add, show b.toNat - 128 = b.toNat % 128 by omega, Nat.mul_comm (128 ^ k) (b.toNat % 128), Nat.mul_assoc, ← Nat.add_assoc]
  · have : m = 0 := by omega
    subst this
    rw [e]
    simp [rdN]
theorem Rg.fin (h : Rg l k x) (hk : k < 10) (hl : k < l.length) (hb : l[k] = b) (hc : ¬ 128 ≤ b.toNat) (he : endK (9 - k) b.toNat = true) : ∃ z : Nat, Go.bits .or .u64 x (IntKind.u64.wrap ((b.toNat : Int) % 128 * 2 ^ (7 * k))) = z ∧ rdN 10 l = some (z, l.drop (k + 1)) := by
  obtain ⟨a, rfl, ha, e⟩ := h.yes (by omega)
  obtain ⟨m, hm⟩ : ∃ m, 10 - k = m + 1 := ⟨9 - k, by omega⟩
  rw [hm, Rg.cons hl hb, rdN_cons, if_neg hc, show m = 9 - k by omega, if_pos he] at e
  have h9 := pow_le9 (k := k) (by omega)
  refine ⟨a + b.toNat % 128 * 128 ^ k, or_shift ha ?_ (by omega), ?_⟩
  · by_cases q : k ≤ 8
    · have h8 := pow_le8 q
      have : b.toNat % 128 * 128 ^ k ≤ 127 * 128 ^ k := Nat.mul_le_mul_right _ (by omega)
      omega
    · have : k = 9 := by omega
      subst this
      unfold endK at he
      split at he
      · rename_i h0
        rw [h0, Nat.zero_mod, Nat.zero_mul]
        omega
      · simp at he
        have : b.toNat % 128 * 128 ^ 9 ≤ 1 * 128 ^ 9 := Nat.mul_le_mul_right _ (by omega)
        omega
  · rw [e]
    simp only [Option.map_some, Option.some.injEq, Prod.mk.injEq, and_true]
    rw [show b.toNat % 128 = b.toNat by omega, Nat.mul_comm]
theorem Rg.bad (h : Rg l k x) (hk : k < 10) (hl : k < l.length) (hb : l[k] = b) (hc : ¬ 128 ≤ b.toNat) (he : ¬ endK (9 - k) b.toNat = true) : rdN 10 l = none := by
  obtain ⟨a, rfl, ha, e⟩ := h.yes (by omega)
  obtain ⟨m, hm⟩ : ∃ m, 10 - k = m + 1 := ⟨9 - k, by omega⟩
  rw [hm, Rg.cons hl hb, rdN_cons, if_neg hc, show m = 9 - k by omega, if_neg he] at e
  exact e
theorem Rg.short (h : Rg l k x) (hk : k ≤ 10) (hl : ¬ (k < 10 ∧ k < l.length)) : rdN 10 l = none := by
  by_cases q : k = 10
  · exact h.no q
  · obtain ⟨a, rfl, ha, e⟩ := h.yes (by omega)
    obtain ⟨m, hm⟩ : ∃ m, 10 - k = m + 1 := ⟨9 - k, by omega⟩
    rw [hm, List.drop_eq_nil_of_le (by omega)] at e
    simpa [rdN] using e
end
theorem txt_drop (l : List UInt8) (k : Nat) : (txt l).extract k (txt l).size = txt (l.drop k) := by
  apply ba_ext
  rw [txt_list]
  have : ((txt l).extract k (txt l).size).data.toList = (l.take l.length).drop k := by
    simp [txt, ByteArray.size]
    exact List.take_of_length_le (by simp)
  rw [this, List.take_length]
/-- What a reading leaves. -/
def Got (w w' : World) (A : Nat) (S : Nat → Prop) (s s' : TS) : Prop := Tp w' A S s' ∧ Fr w w' S ∧ w'.heap.size = w.heap.size ∧ (∀ k, k ≠ A → w'.heap[k]? = w.heap[k]?) ∧ s'.reads = s.reads
theorem Tv.rest {w : World} {A : Nat} {S : Nat → Prop} {s : TS} {rv : Value} (h : Tv w A S s rv) (r : List UInt8) : Got w (w.setCell ⟨A, 2, none⟩ (.string (txt r))) A S s { s with rest := r } := by
  have e := set_blk (i := 2) h.ob (.string (txt r))
  have hne : ∀ k, k ≠ A → (w.setCell ⟨A, 2, none⟩ (.string (txt r))).heap[k]? = w.heap[k]? := fun k hk => set_other (a := ⟨A, 2, none⟩) _ hk
  refine ⟨⟨rv, ⟨e, own_like h.row (fun k hk => hne k (h.neA k hk)), h.cov, h.covA, fun k hk => by simpa [World.setCell] using h.lt k hk⟩⟩, ?_, by simp [World.setCell], hne, rfl⟩
  exact ⟨rfl, rfl, rfl, by simp [World.setCell], fun k _ hk => hne k (fun e => hk (e ▸ h.covA))⟩
/-- The answer of readGroups. -/
def RdAns (w w' : World) (A : Nat) (S : Nat → Prop) (s : TS) (e : Ending) : Prop :=
  (∃ z r, rdN 10 s.rest = some (z, r) ∧ e = .returned (.int .u64 (z : Nat)) ∧ Got w w' A S s { s with rest := r }) ∨ (rdN 10 s.rest = none ∧ e = .returned (.int .u64 (0 : Nat)) ∧ Got w w' A S s { s with rest := [], bad := true })
set_option maxHeartbeats 2000000 in
set_option maxRecDepth 100000 in
theorem readGroups_any {w : World} {A : Nat} {S : Nat → Prop} {s : TS} (h : Tp w A S s) (hl : s.rest.length ≤ 1000000000) :
    Calls Try.prog 94 #[.pointer (some ⟨A, 0, none⟩)] w fun e w' => RdAns w w' A S s e := by
  have HT := Lib.hid h
  obtain ⟨rv, h⟩ := h
  have hob := h.ob
  have c2 : w.cell? ⟨A, 2, none⟩ = some (.string (txt s.rest)) := cell_blk hob 2
  have f2 : w.frozen? ⟨A, 2, none⟩ = false := frozen_blk hob 2
  obtain ⟨st, hst⟩ : ∃ st, txt s.rest = st := ⟨_, rfl⟩
  have hsz : st.size = s.rest.length := by rw [← hst, txt_size]
  rw [hst] at c2
  obtain ⟨L, hL⟩ : ∃ L, s.rest.length = L := ⟨_, rfl⟩
  rw [hL] at hsz hl
  have HH := Lib.hid h
  have HL := Lib.hid hL
  have HS := Lib.hid hst
  clear h hob hL hst
  have bad : rdN 10 s.rest = none → ∀ e w', (Tp w' A S { s with rest := [], bad := true } ∧ Fr w w' S ∧ w'.heap.size = w.heap.size ∧ ∀ k, k ≠ A → w'.heap[k]? = w.heap[k]?) → e = .returned (.int .u64 0) → RdAns w w' A S s e :=
    fun hn e w' q he => .inr ⟨hn, he, q.1, q.2.1, q.2.2.1, q.2.2.2, rfl⟩
  have HBAD := Lib.hid bad
  clear bad
  go_enter Try.func94, Try.ntmps94
  go_wp2
  go_loopw [3, 4, 5] (fun v i _ wr => ∃ (k : Nat) (x : Int), k ≤ 10 ∧ k ≤ L ∧ v = .int .u64 x ∧ i = .int .i64 k ∧ wr = w ∧ Hid (Rg s.rest k x)) (fun _ i _ _ => 11 - (intOf i).toNat)
  case atStart => exact ⟨0, 0, by omega, by omega, rfl, rfl, rfl, Lib.hid (Rg.start _)⟩
  case round =>
    obtain ⟨k, x, hk, hkL, rfl, rfl, rfl, HR⟩ := hrel
    by_cases h1 : k < 10 ∧ k < L
    · obtain ⟨h1, h2⟩ := h1
      have hks : k < st.size := by omega
      have hkr : k < s.rest.length := by rw [HL.out]; exact h2
      obtain ⟨b, hb⟩ : ∃ b, st[k] = b := ⟨_, rfl⟩
      have hbr : s.rest[k] = b := by
        rw [← hb]
        have e := HS.out
        subst e
        rfl
      have hbl := b.toNat_lt
      have e0 : (k : Int) < (st.size : Int) := by omega
      by_cases hq : 128 ≤ b.toNat
      · have HM := Lib.hid (HR.out.more h1 hkr hbr hq)
        clear hbr hkr
        obtain ⟨c, hc⟩ : ∃ c : Nat, b.toNat = c := ⟨_, rfl⟩
        rw [hc] at HM hbl hq
        have e1 := andNot_at c (by omega)
        have e2 := and_hi c (by omega) hq
        go_wp2
        go_roundw
        case rel => exact ⟨k + 1, _, by omega, by omega, rfl, by go_num, by trivial, HM⟩
        case measure => simp [intOf]; omega
      · have HE : ∀ w', Calls Try.prog 102 #[.int .u8 b.toNat, .int .i64 k] w' fun e w1 => e = .returned (.bool (endK (9 - k) b.toNat)) ∧ w1 = w' := fun w' => mayEnd_any b k h1 w'
        by_cases he : endK (9 - k) b.toNat = true
        · obtain ⟨z, hz, hfin⟩ := HR.out.fin h1 hkr hbr hq he
          rw [he] at HE
          have HF := Lib.hid hfin
          clear hbr hkr he hfin
          obtain ⟨c, hc⟩ : ∃ c : Nat, b.toNat = c := ⟨_, rfl⟩
          rw [hc] at hbl hq hz HE
          have e1 := andNot_at c (by omega)
          have e2 := and_lo c (by omega)
          obtain ⟨E, hE⟩ : ∃ E, st.extract (k + 1) L = E := ⟨_, rfl⟩
          have hEt : txt (s.rest.drop (k + 1)) = E := by
            rw [← txt_drop, ← hE, HS.out, hsz]
          have HG := Lib.hid (HH.out.rest (s.rest.drop (k + 1)))
          rw [hEt] at HG
          clear hEt
          have e3 : ((k : Int) + 1).toNat = k + 1 := by omega
          go_wp2_with (go_at_call 102; refine (HE _).mono ?_; rintro e w1 ⟨rfl, rfl⟩)
          go_ret
          refine .inl ⟨z, _, HF.out, rfl, HG.out⟩
        · have hbad := HR.out.bad h1 hkr hbr hq he
          have he' : endK (9 - k) b.toNat = false := by simpa using he
          rw [he'] at HE
          have HF := Lib.hid hbad
          clear hbr hkr he hbad he'
          obtain ⟨c, hc⟩ : ∃ c : Nat, b.toNat = c := ⟨_, rfl⟩
          rw [hc] at hbl hq HE
          have e1 := andNot_at c (by omega)
          have e2 := and_lo c (by omega)
          go_wp2_with (first | (go_at_call 102; refine (HE _).mono ?_; rintro e w1 ⟨rfl, rfl⟩) | (go_at_call 79; refine (fail_any HT.out).mono ?_; rintro e w1 ⟨rfl, q⟩; refine Hid.out ?_))
          refine Lib.hid ?_
          go_wp2
          go_ret
          exact HBAD.out HF.out _ _ q rfl
    · have hbad := HR.out.short hk (by rw [HL.out]; exact h1)
      have HF := Lib.hid hbad
      clear hbad
      by_cases h2 : k < L
      · have h3 : k = 10 := by omega
        subst h3
        go_wp2_with (go_at_call 79; refine (fail_any HT.out).mono ?_; rintro e w1 ⟨rfl, q⟩; refine Hid.out ?_)
        refine Lib.hid ?_
        go_wp2
        go_ret
        exact HBAD.out HF.out _ _ q rfl
      · clear h1
        go_wp2_with (go_at_call 79; refine (fail_any HT.out).mono ?_; rintro e w1 ⟨rfl, q⟩; refine Hid.out ?_)
        refine Lib.hid ?_
        go_wp2
        go_ret
        exact HBAD.out HF.out _ _ q rfl
end Go.Proofs.Ytjhgmncmcklnkaa
