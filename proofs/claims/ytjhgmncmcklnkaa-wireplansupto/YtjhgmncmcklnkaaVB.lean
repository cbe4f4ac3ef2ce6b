/- The walk of readGroups. -/
import Derived.Test.YtjhgmncmcklnkaaVA
import Derived.Shelf.Pu.Clone
import Derived.Lib.AppendStr
namespace Go.Proofs.Ytjhgmncmcklnkaa
open Go.RowKit

theorem and_all : ∀ x : Fin 256, x.val &&& 127 = x.val % 128 := fun x => nat_mask7 x.val
theorem andNot_at (c : Nat) (h : c < 256) : Go.bits .andNot .u8 (c : Int) 128 = ((c % 128 : Nat) : Int) := by
  have := u8_andNot_nat c 128 h (by omega)
  rw [show 255 - 128 = 127 from rfl, nat_mask7] at this
  exact this
theorem and_hi (c : Nat) (h : c < 256) (hc : 128 ≤ c) : Go.bits .and .u8 (c : Int) 128 = 128 := by
  have := u8_and_nat c 128 h (by omega)
  have e := nat_bit 7 c
  rw [show (2 : Nat) ^ 7 = 128 from rfl] at e
  rw [e, show c / 128 % 2 * 128 = 128 by omega] at this
  exact this
theorem and_lo (c : Nat) (hc : c < 128) : Go.bits .and .u8 (c : Int) 128 = 0 := by
  have := u8_and_nat c 128 (by omega) (by omega)
  have e := nat_bit 7 c
  rw [show (2 : Nat) ^ 7 = 128 from rfl] at e
  rw [e, show c / 128 % 2 * 128 = 0 by omega] at this
  exact this
theorem pow7 (k : Nat) : (2 : Nat) ^ (7 * k) = 128 ^ k := by rw [Nat.pow_mul]
theorem or_shift {a c k : Nat} (ha : a < 128 ^ k) (hc : c % 128 * 128 ^ k < 18446744073709551616) (hk : 128 ^ k < 18446744073709551616) : Go.bits .or .u64 (a : Int) (IntKind.u64.wrap ((c : Int) % 128 * 2 ^ (7 * k))) = ((a + c % 128 * 128 ^ k : Nat) : Int) := by
  have e : ((c : Int) % 128 * 2 ^ (7 * k)) = ((c % 128 * 128 ^ k : Nat) : Int) := by
    rw [← pow7]
    push_cast
    rfl
  rw [e, IntKind.wrap_u64]
  have e2 : ((c % 128 * 128 ^ k : Nat) : Int) % 18446744073709551616 = ((c % 128 * 128 ^ k : Nat) : Int) := by omega
  rw [e2, u64_or_nat _ _ (by omega) hc, Nat.or_comm, nat_join (7 * k) _ _ (by rw [pow7]; exact Nat.mul_mod_left _ _) (by rw [pow7]; exact ha)]
  omega
theorem pow_le9 {k : Nat} (h : k ≤ 9) : 128 ^ k ≤ 9223372036854775808 := by
  have : 128 ^ k ≤ 128 ^ 9 := Nat.pow_le_pow_right (by omega) h
  omega
theorem pow_le8 {k : Nat} (h : k ≤ 8) : 128 ^ k ≤ 72057594037927936 := by
  have : 128 ^ k ≤ 128 ^ 8 := Nat.pow_le_pow_right (by omega) h
  omega
theorem rdN_cons (k : Nat) (b : UInt8) (l : List UInt8) : rdN (k + 1) (b :: l) = if 128 ≤ b.toNat then (rdN k l).map fun p => (b.toNat - 128 + 128 * p.1, p.2) else if endK k b.toNat then some (b.toNat, l) else none := rfl
/-- What was read of the groups so far. -/
structure Rg (l : List UInt8) (k : Nat) (x : Int) : Prop where
  yes : k ≤ 9 → ∃ a : Nat, x = a ∧ a < 128 ^ k ∧ rdN 10 l = (rdN (10 - k) (l.drop k)).map fun p => (a + 128 ^ k * p.1, p.2)
  no : k = 10 → rdN 10 l = none
theorem Rg.start (l : List UInt8) : Rg l 0 0 := by
  refine ⟨fun _ => ⟨0, rfl, by simp, ?_⟩, fun h => by omega⟩
  show rdN 10 l = (rdN 10 l).map fun p => (0 + 128 ^ 0 * p.1, p.2)
  cases rdN 10 l with
  | none => rfl
  | some p => simp
section
variable {l : List UInt8} {k : Nat} {x : Int} {b : UInt8}
theorem Rg.cons (hk : k < l.length) (hb : l[k] = b) : l.drop k = b :: l.drop (k + 1) := by
  rw [List.drop_eq_getElem_cons hk, hb]
theorem Rg.more (h : Rg l k x) (hk : k < 10) (hl : k < l.length) (hb : l[k] = b) (hc : 128 ≤ b.toNat) : Rg l (k + 1) (Go.bits .or .u64 x (IntKind.u64.wrap ((b.toNat : Int) % 128 * 2 ^ (7 * k)))) := by
  obtain ⟨a, rfl, ha, e⟩ := h.yes (by omega)
  have hbl := b.toNat_lt
  obtain ⟨m, hm⟩ : ∃ m, 10 - k = m + 1 := ⟨9 - k, by omega⟩
  rw [hm, Rg.cons hl hb, rdN_cons, if_pos hc] at e
  refine ⟨fun h9 => ⟨a + b.toNat % 128 * 128 ^ k, ?_, ?_, ?_⟩, fun h9 => ?_⟩
  · have h8 := pow_le8 (k := k) (by omega)
    have : b.toNat % 128 * 128 ^ k ≤ 127 * 128 ^ k := Nat.mul_le_mul_right _ (by omega)
    exact or_shift ha (by omega) (by omega)
  · have : b.toNat % 128 * 128 ^ k ≤ 127 * 128 ^ k := Nat.mul_le_mul_right _ (by omega)
    rw [Nat.pow_succ]
    omega
  · rw [e, show 10 - (k + 1) = m by omega]
    cases rdN m (l.drop (k + 1)) with
    | none => rfl
    | some p =>
      simp only [Option.map_some, Option.some.injEq, Prod.mk.injEq, and_true]
      rw [Nat.pow_succ, Nat.mul_add, show b.toNat - 128 = b.toNat % 128 by omega, Nat.mul_comm (128 ^ k) (b.toNat % 128), Nat.mul_assoc, ← Nat.add_assoc]
  · have : m = 0 := by omega
    subst this
    rw [e]
    simp [rdN]
theorem Rg.fin (h : Rg l k x) (hk : k < 10) (hl : k < l.length) (hb : l[k] = b) (hc : ¬ 128 ≤ b.toNat) (he : endK (9 - k) b.toNat = true) : ∃ z : Nat, Go.bits .or .u64 x (IntKind.u64.wrap ((b.toNat : Int) % 128 * 2 ^ (7 * k))) = z ∧ rdN 10 l = some (z, l.drop (k + 1)) := by
  obtain ⟨a, rfl, ha, e⟩ := h.yes (by omega)
  obtain ⟨m, hm⟩ : ∃ m, 10 - k = m + 1 := ⟨9 - k, by omega⟩
  rw [hm, Rg.cons hl hb, rdN_cons, if_neg hc, show m = 9 - k by omega, if_pos he] at e
  have h9 := pow_le9 (k := k) (by omega)
  refine ⟨a + b.toNat % 128 * 128 ^ k, or_shift ha ?_ (by omega), ?_⟩
  · by_cases q : k ≤ 8
    · have h8 := pow_le8 q
      have : b.toNat % 128 * 128 ^ k ≤ 127 * 128 ^ k := Nat.mul_le_mul_right _ (by omega)
      omega
    · have : k = 9 := by omega
      subst this
      unfold endK at he
      split at he
      · rename_i h0
        rw [h0, Nat.zero_mod, Nat.zero_mul]
        omega
      · simp at he
        have : b.toNat % 128 * 128 ^ 9 ≤ 1 * 128 ^ 9 := Nat.mul_le_mul_right _ (by omega)
        omega
  · rw [e]
    simp only [Option.map_some, Option.some.injEq, Prod.mk.injEq, and_true]
    rw [show b.toNat % 128 = b.toNat by omega, Nat.mul_comm]
theorem Rg.bad (h : Rg l k x) (hk : k < 10) (hl : k < l.length) (hb : l[k] = b) (hc : ¬ 128 ≤ b.toNat) (he : ¬ endK (9 - k) b.toNat = true) : rdN 10 l = none := by
  obtain ⟨a, rfl, ha, e⟩ := h.yes (by omega)
  obtain ⟨m, hm⟩ : ∃ m, 10 - k = m + 1 := ⟨9 - k, by omega⟩
  rw [hm, Rg.cons hl hb, rdN_cons, if_neg hc, show m = 9 - k by omega, if_neg he] at e
  exact e
theorem Rg.short (h : Rg l k x) (hk : k ≤ 10) (hl : ¬ (k < 10 ∧ k < l.length)) : rdN 10 l = none := by
  by_cases q : k = 10
  · exact h.no q
  · obtain ⟨a, rfl, ha, e⟩ := h.yes (by omega)
    obtain ⟨m, hm⟩ : ∃ m, 10 - k = m + 1 := ⟨9 - k, by omega⟩
    rw [hm, List.drop_eq_nil_of_le (by omega)] at e
    simpa [rdN] using e
end
theorem txt_drop (l : List UInt8) (k : Nat) : (txt l).extract k (txt l).size = txt (l.drop k) := by
  apply ba_ext
  rw [txt_list]
  have : ((txt l).extract k (txt l).size).data.toList = (l.take l.length).drop k := by
    simp [txt, ByteArray.size]
    exact List.take_of_length_le (by simp)
  rw [this, List.take_length]
/-- What a reading leaves. -/
def Got (w w' : World) (A : Nat) (S : Nat → Prop) (s s' : TS) : Prop := Tp w' A S s' ∧ Fr w w' S ∧ w'.heap.size = w.heap.size ∧ (∀ k, k ≠ A → w'.heap[k]? = w.heap[k]?) ∧ s'.reads = s.reads
theorem Tv.rest {w : World} {A : Nat} {S : Nat → Prop} {s : TS} {rv : Value} (h : Tv w A S s rv) (r : List UInt8) : Got w (w.setCell ⟨A, 2, none⟩ (.string (txt r))) A S s { s with rest := r } := by
  have e := set_blk (i := 2) h.ob (.string (txt r))
  have hne : ∀ k, k ≠ A → (w.setCell ⟨A, 2, none⟩ (.string (txt r))).heap[k]? = w.heap[k]? := fun k hk => set_other (a := ⟨A, 2, none⟩) _ hk
  refine ⟨⟨rv, ⟨e, own_like h.row (fun k hk => hne k (h.neA k hk)), h.cov, h.covA, fun k hk => by simpa [World.setCell] using h.lt k hk⟩⟩, ?_, by simp [World.setCell], hne, rfl⟩
  exact ⟨rfl, rfl, rfl, by simp [World.setCell], fun k _ hk => hne k (fun e => hk (e ▸ h.covA))⟩
/-- The answer of readGroups. -/
def RdAns (w w' : World) (A : Nat) (S : Nat → Prop) (s : TS) (e : Ending) : Prop :=
  (∃ z r, rdN 10 s.rest = some (z, r) ∧ e = .returned (.int .u64 (z : Nat)) ∧ Got w w' A S s { s with rest := r }) ∨ (rdN 10 s.rest = none ∧ e = .returned (.int .u64 (0 : Nat)) ∧ Got w w' A S s { s with rest := [], bad := true })
set_option maxHeartbeats 2000000 in
set_option maxRecDepth 100000 in
theorem readGroups_any {w : World} {A : Nat} {S : Nat → Prop} {s : TS} (h : Tp w A S s) (hl : s.rest.length ≤ 1000000000) :
    Calls Try.prog 94 #[.pointer (some ⟨A, 0, none⟩)] w fun e w' => RdAns w w' A S s e := by
  have HT := Lib.hid h
  obtain ⟨rv, h⟩ := h
  have hob := h.ob
  have c2 : w.cell? ⟨A, 2, none⟩ = some (.string (txt s.rest)) := cell_blk hob 2
  have f2 : w.frozen? ⟨A, 2, none⟩ = false := frozen_blk hob 2
  obtain ⟨st, hst⟩ : ∃ st, txt s.rest = st := ⟨_, rfl⟩
  have hsz : st.size = s.rest.length := by rw [← hst, txt_size]
  rw [hst] at c2
  obtain ⟨L, hL⟩ : ∃ L, s.rest.length = L := ⟨_, rfl⟩
  rw [hL] at hsz hl
  have HH := Lib.hid h
  have HL := Lib.hid hL
  have HS := Lib.hid hst
  clear h hob hL hst
  have bad : rdN 10 s.rest = none → ∀ e w', (Tp w' A S { s with rest := [], bad := true } ∧ Fr w w' S ∧ w'.heap.size = w.heap.size ∧ ∀ k, k ≠ A → w'.heap[k]? = w.heap[k]?) → e = .returned (.int .u64 0) → RdAns w w' A S s e :=
    fun hn e w' q he => .inr ⟨hn, he, q.1, q.2.1, q.2.2.1, q.2.2.2, rfl⟩
  have HBAD := Lib.hid bad
  clear bad
  go_enter Try.func94, Try.ntmps94
  go_wp2
  go_loopw [3, 4, 5] (fun v i _ wr => ∃ (k : Nat) (x : Int), k ≤ 10 ∧ k ≤ L ∧ v = .int .u64 x ∧ i = .int .i64 k ∧ wr = w ∧ Hid (Rg s.rest k x)) (fun _ i _ _ => 11 - (intOf i).toNat)
  case atStart => exact ⟨0, 0, by omega, by omega, rfl, rfl, rfl, Lib.hid (Rg.start _)⟩
  case round =>
    obtain ⟨k, x, hk, hkL, rfl, rfl, rfl, HR⟩ := hrel
    by_cases h1 : k < 10 ∧ k < L
    · obtain ⟨h1, h2⟩ := h1
      have hks : k < st.size := by omega
      have hkr : k < s.rest.length := by rw [HL.out]; exact h2
      obtain ⟨b, hb⟩ : ∃ b, st[k] = b := ⟨_, rfl⟩
      have hbr : s.rest[k] = b := by
        rw [← hb]
        have e := HS.out
        subst e
        rfl
      have hbl := b.toNat_lt
      have e0 : (k : Int) < (st.size : Int) := by omega
      by_cases hq : 128 ≤ b.toNat
      · have HM := Lib.hid (HR.out.more h1 hkr hbr hq)
        clear hbr hkr
        obtain ⟨c, hc⟩ : ∃ c : Nat, b.toNat = c := ⟨_, rfl⟩
        rw [hc] at HM hbl hq
        have e1 := andNot_at c (by omega)
        have e2 := and_hi c (by omega) hq
        go_wp2
        go_roundw
        case rel => exact ⟨k + 1, _, by omega, by omega, rfl, by go_num, by trivial, HM⟩
        case measure => simp [intOf]; omega
      · have HE : ∀ w', Calls Try.prog 102 #[.int .u8 b.toNat, .int .i64 k] w' fun e w1 => e = .returned (.bool (endK (9 - k) b.toNat)) ∧ w1 = w' := fun w' => mayEnd_any b k h1 w'
        by_cases he : endK (9 - k) b.toNat = true
        · obtain ⟨z, hz, hfin⟩ := HR.out.fin h1 hkr hbr hq he
          rw [he] at HE
          have HF := Lib.hid hfin
          clear hbr hkr he hfin
          obtain ⟨c, hc⟩ : ∃ c : Nat, b.toNat = c := ⟨_, rfl⟩
          rw [hc] at hbl hq hz HE
          have e1 := andNot_at c (by omega)
          have e2 := and_lo c (by omega)
          obtain ⟨E, hE⟩ : ∃ E, st.extract (k + 1) L = E := ⟨_, rfl⟩
          have hEt : txt (s.rest.drop (k + 1)) = E := by
            rw [← txt_drop, ← hE, HS.out, hsz]
          have HG := Lib.hid (HH.out.rest (s.rest.drop (k + 1)))
          rw [hEt] at HG
          clear hEt
          have e3 : ((k : Int) + 1).toNat = k + 1 := by omega
          go_wp2_with (go_at_call 102; refine (HE _).mono ?_; rintro e w1 ⟨rfl, rfl⟩)
          go_ret
          refine .inl ⟨z, _, HF.out, rfl, HG.out⟩
        · have hbad := HR.out.bad h1 hkr hbr hq he
          have he' : endK (9 - k) b.toNat = false := by simpa using he
          rw [he'] at HE
          have HF := Lib.hid hbad
          clear hbr hkr he hbad he'
          obtain ⟨c, hc⟩ : ∃ c : Nat, b.toNat = c := ⟨_, rfl⟩
          rw [hc] at hbl hq HE
          have e1 := andNot_at c (by omega)
          have e2 := and_lo c (by omega)
          go_wp2_with (first | (go_at_call 102; refine (HE _).mono ?_; rintro e w1 ⟨rfl, rfl⟩) | (go_at_call 79; refine (fail_any HT.out).mono ?_; rintro e w1 ⟨rfl, q⟩; refine Hid.out ?_))
          refine Lib.hid ?_
          go_wp2
          go_ret
          exact HBAD.out HF.out _ _ q rfl
    · have hbad := HR.out.short hk (by rw [HL.out]; exact h1)
      have HF := Lib.hid hbad
      clear hbad
      by_cases h2 : k < L
      · have h3 : k = 10 := by omega
        subst h3
        go_wp2_with (go_at_call 79; refine (fail_any HT.out).mono ?_; rintro e w1 ⟨rfl, q⟩; refine Hid.out ?_)
        refine Lib.hid ?_
        go_wp2
        go_ret
        exact HBAD.out HF.out _ _ q rfl
      · clear h1
        go_wp2_with (go_at_call 79; refine (fail_any HT.out).mono ?_; rintro e w1 ⟨rfl, q⟩; refine Hid.out ?_)
        refine Lib.hid ?_
        go_wp2
        go_ret
        exact HBAD.out HF.out _ _ q rfl
end Go.Proofs.Ytjhgmncmcklnkaa
/- The walks of number and numbers. -/
namespace Go.Proofs.Ytjhgmncmcklnkaa
open Go.RowKit

theorem liesS_kinds {w : World} {S : Nat → Prop} {B : Nat} : ∀ {t : List Ty} {x : List At} {o : Nat}, hasS t x → liesS w S B o x → ∀ i (h : i < t.length), ∃ v, w.cell? ⟨B, o + i, none⟩ = some v ∧ t[i].kind v
  | [], _, _, _, _, i, h => by simp at h
  | t :: r, [], _, hs, _, _, _ => by simp [hasS] at hs
  | t :: r, a :: q, o, hs, hl, i, h => by
    unfold hasS at hs
    simp only [liesS] at hl
    cases i with
    | zero =>
      obtain ⟨⟨v, h1, h2⟩, _⟩ := hl
      exact ⟨v, h1, At.kind hs.1 h2⟩
    | succ i =>
      have := liesS_kinds hs.2 hl.2 i (by simpa using h)
      rw [show o + 1 + i = o + (i + 1) by omega] at this
      exact this
theorem hasS_one {t : Ty} {x : List At} (h : hasS [t] x) : ∃ a, x = [a] ∧ t.has a := by
  match x, h with
  | [a], h =>
    unfold hasS at h
    exact ⟨a, rfl, h.1⟩
  | [], h => simp [hasS] at h
  | _ :: _ :: _, h => simp [hasS] at h
theorem has_num {a : At} (h : Ty.num.has a) : ∃ n, a = .num n ∧ I64 n := by
  cases a <;> simp only [Ty.has] at h
  exact ⟨_, rfl, h⟩
theorem has_yes {a : At} (h : Ty.yes.has a) : ∃ b, a = .yes b := by
  cases a <;> simp only [Ty.has] at h
  exact ⟨_, rfl⟩
theorem has_text {a : At} (h : Ty.text.has a) : ∃ s, a = .text s ∧ s.data.toList.length ≤ 9223372036854775807 := by
  cases a <;> simp only [Ty.has] at h
  exact ⟨_, rfl, h⟩
theorem has_list {t : List Ty} {a : At} (h : (Ty.list t).has a) : ∃ l, a = .list l ∧ l.length ≤ 9223372036854775807 ∧ hasL t l := by
  cases a <;> simp only [Ty.has] at h
  exact ⟨_, rfl, h.1, h.2⟩
section
variable {w w' w1 w2 : World} {A : Nat} {S S1 : Nat → Prop} {s s1 : TS} {B o : Nat} {t u : List Ty} {x y : List At}
theorem Post.wrote (h : Pre w A S s B o t x) (hr : s.reads = false) (k : Tt w w' A S { s with wr := s.wr ++ encS x }) : Post w w' A S s B o t x := by
  obtain ⟨S', p1, p2, p3⟩ := k
  obtain ⟨cs, ty, h1, h2⟩ := h.blk
  have hb := p3.block B (blk_lt h1) h.nB
  refine ⟨S', _, p1, p2, p3.mono (fun _ q => .inl q), ⟨cs, cs, ty, h1, hb.trans h1, rfl, h2, fun _ _ => rfl, fun _ => rfl, fun i hi => ?_⟩, .inl ⟨hr, rfl⟩⟩
  have := liesS_kinds h.has h.lies i hi
  rwa [cell_blk h1] at this
/-- One field is read. -/
theorem Post.stored {t : Ty} {v : Value} (h : Pre w A S s B o [t] x) (hr : s.reads = true) (hT : Tp w1 A S s1) (hF : Fr w w1 S) (hv : t.kind v)
    (hout : (∃ y r, t.has y ∧ s.rest = y.enc ++ r ∧ s1 = { s with rest := r } ∧ y.lies (w1.setCell ⟨B, o, none⟩ v) (fun k => k < w.heap.size ∨ S k) v) ∨ (¬ Rd [t] s.rest ∧ s1 = { s with rest := [], bad := true })) :
    Post w (w1.setCell ⟨B, o, none⟩ v) A S s B o [t] x := by
  obtain ⟨cs, ty, h1, h2⟩ := h.blk
  simp only [List.length_cons, List.length_nil] at h2
  have hB : B < w.heap.size := blk_lt h1
  have hb1 : w1.heap[B]? = some (.cells cs ty (0, 0)) := (hF.block B hB h.nB).trans h1
  have hb2 := set_blk (i := o) hb1 v
  have hne : ∀ k, k ≠ B → (w1.setCell ⟨B, o, none⟩ v).heap[k]? = w1.heap[k]? := fun k hk => set_other (a := ⟨B, o, none⟩) _ hk
  have hz : (w1.setCell ⟨B, o, none⟩ v).heap.size = w1.heap.size := by simp [World.setCell]
  have hcell : (w1.setCell ⟨B, o, none⟩ v).cell? ⟨B, o, none⟩ = some v := by
    rw [cell_blk hb2]
    simp [Array.getElem?_setIfInBounds]
    omega
  refine ⟨S, s1, hT.like (fun k hk => hne k (fun e => h.nB (e ▸ hk))) (by rw [hz]; exact Nat.le_refl _), fun k hk => .inl hk, (hF.mono (fun _ q => .inl q)).set (a := ⟨B, o, none⟩) (.inl (.inr rfl)) v, ⟨cs, _, ty, h1, hb2, by simp, by simpa using h2, fun i hi => ?_, fun q => (by rw [hr] at q; cases q), fun i hi => ?_⟩, ?_⟩
  · simp only [List.length_cons, List.length_nil] at hi
    rw [Array.getElem?_setIfInBounds_ne (by omega)]
  · have : i = 0 := by simpa using hi
    subst this
    refine ⟨v, ?_, hv⟩
    rw [cell_blk hb2] at hcell
    simpa using hcell
  · rcases hout with ⟨y, r, q1, q2, q3, q4⟩ | q
    · refine .inr (.inl ⟨hr, [y], r, by unfold hasS; exact ⟨q1, by simp [hasS]⟩, by simpa [encS] using q2, q3, ?_⟩)
      simp only [liesS, and_true]
      exact ⟨v, hcell, q4⟩
    · exact .inr (.inr ⟨hr, q⟩)
theorem rd_num {l r : List UInt8} {z : Nat} (h : rdN 10 l = some (z, r)) : I64 (zag z) ∧ l = num (zag z) ++ r ∧ U64 z := by
  obtain ⟨h1, h2⟩ := (rd_iff l r z).1 h
  refine ⟨zag_in h1, ?_, h1⟩
  unfold num
  rw [zig_zag]
  exact h2
theorem rd_no {l : List UInt8} (h : rdN 10 l = none) : ∀ n r, I64 n → l ≠ num n ++ r := by
  intro n r hn e
  have := (rd_iff l r (zig n)).2 ⟨zig_lt hn, e⟩
  rw [h] at this
  cases this
theorem Got.tape (h : Got w w' A S s s1) : Tp w' A S s1 ∧ Fr w w' S := ⟨h.1, h.2.1⟩
set_option maxHeartbeats 2000000 in
set_option maxRecDepth 100000 in
theorem number_any (h : Pre w A S s B o [.num] x) : Calls Try.prog 78 #[.pointer (some ⟨A, 0, none⟩), .pointer (some ⟨B, o, none⟩)] w fun e w' => e = .returned (.tuple #[]) ∧ Post w w' A S s B o [.num] x := by
  obtain ⟨a, rfl, ha⟩ := hasS_one h.has
  obtain ⟨n, rfl, hn⟩ := has_num ha
  have hl := h.lies
  simp only [liesS, At.lies, and_true] at hl
  obtain ⟨v, hc, rfl⟩ := hl
  have c0 : w.cell? ⟨A, 0, none⟩ = some (.bool s.reads) := by
    obtain ⟨rv, hT⟩ := h.tp
    exact cell_blk hT.ob 0
  have HH := Lib.hid h
  cases hr : s.reads with
  | false =>
    rw [hr] at c0
    have hw := h.lenW hr
    have HN := Lib.hid hn
    have HR := Lib.hid hr
    clear h ha hn hr
    simp only [encS, At.enc, List.append_nil] at hw
    go_enter Try.func78, Try.ntmps78
    go_wp2_with (first | (go_at_call 96; refine (fold_any _ _ HN.out).mono ?_; rintro e w1 ⟨rfl, rfl⟩) | (go_at_call 95; refine (writeGroups_any HH.out.tp (zig_lt HN.out) (by omega)).mono ?_; rintro e w2 ⟨rfl, q⟩; refine Hid.out ?_))
    refine Lib.hid ?_
    go_wp2
    go_end0
    refine ⟨rfl, Post.wrote HH.out HR.out ?_⟩
    simpa [encS, At.enc, num] using q
  | true =>
    rw [hr] at c0
    have hRd := readGroups_any h.tp h.lenR
    obtain ⟨cs, ty, hb, hs⟩ := h.blk
    have HR := Lib.hid hr
    have HB := Lib.hid hb
    have HSZ := Lib.hid hs
    clear h ha hn hr hb hs
    go_enter Try.func78, Try.ntmps78
    go_wp2_with (go_at_call 94; refine hRd.mono ?_; rintro e w1 q; rcases q with ⟨z, r, q1, rfl, q2⟩ | ⟨q1, rfl, q2⟩ <;> refine Hid.out ?_)
    · refine Lib.hid ?_
      obtain ⟨g1, g2, g3⟩ := rd_num q1
      have hb1 : w1.heap[B]? = some (.cells cs ty (0, 0)) := (q2.2.1.block B (blk_lt HB.out) HH.out.nB).trans HB.out
      have d0 : ∃ u, w1.cell? ⟨B, o, none⟩ = some u := by
        rw [cell_blk hb1]
        exact ⟨_, Array.getElem?_eq_getElem (by have := HSZ.out; simp at this; omega)⟩
      obtain ⟨u, d0⟩ := d0
      have f0 : w1.frozen? ⟨B, o, none⟩ = false := frozen_blk hb1 o
      have HQ := Lib.hid q2
      have H1 := Lib.hid g1
      have H2 := Lib.hid g2
      have H3 := Lib.hid g3
      clear q1 q2 g1 g2 g3 hb1 hRd
      go_wp2_with (go_at_call 93; refine (unfold_any _ _ H3.out).mono ?_; rintro e w2 ⟨rfl, rfl⟩)
      refine bodyPost_ret (results_none rfl _ _ _) rfl ?_
      refine ⟨rfl, Post.stored HH.out HR.out HQ.out.tape.1 HQ.out.tape.2 ⟨_, rfl⟩ (.inl ⟨.num (zag z), r, by simpa only [Ty.has] using H1.out, by simpa only [At.enc] using H2.out, rfl, by simp only [At.lies]⟩)⟩
    · refine Lib.hid ?_
      have g2 := rd_no q1
      have hb1 : w1.heap[B]? = some (.cells cs ty (0, 0)) := (q2.2.1.block B (blk_lt HB.out) HH.out.nB).trans HB.out
      have d0 : ∃ u, w1.cell? ⟨B, o, none⟩ = some u := by
        rw [cell_blk hb1]
        exact ⟨_, Array.getElem?_eq_getElem (by have := HSZ.out; simp at this; omega)⟩
      obtain ⟨u, d0⟩ := d0
      have f0 : w1.frozen? ⟨B, o, none⟩ = false := frozen_blk hb1 o
      have HQ := Lib.hid q2
      have H2 := Lib.hid g2
      clear q1 q2 g2 hb1 hRd
      go_wp2_with (go_at_call 93; refine (unfold_any 0 _ (by unfold U64; omega)).mono ?_; rintro e w2 ⟨rfl, rfl⟩)
      refine bodyPost_ret (results_none rfl _ _ _) rfl ?_
      refine ⟨rfl, Post.stored HH.out HR.out HQ.out.tape.1 HQ.out.tape.2 ⟨_, rfl⟩ (.inr ⟨?_, rfl⟩)⟩
      rintro ⟨y, r, hy, e⟩
      obtain ⟨b, rfl, hb⟩ := hasS_one hy
      obtain ⟨m, rfl, hm⟩ := has_num hb
      exact H2.out m r hm (by simpa [encS, At.enc] using e)
end
end Go.Proofs.Ytjhgmncmcklnkaa
/- The walk of numbers. -/
namespace Go.Proofs.Ytjhgmncmcklnkaa
open Go.RowKit

theorem set_same {cs : Array Value} {o : Nat} {v : Value} (h : cs[o]? = some v) : cs.setIfInBounds o v = cs := by
  apply Array.ext_getElem?
  intro i
  rw [Array.getElem?_setIfInBounds]
  split
  · rename_i e
    subst e
    obtain ⟨h1, h2⟩ := Array.getElem?_eq_some_iff.1 h
    rw [if_pos h1, h]
  · rfl
section
variable {w w' w1 w2 : World} {A : Nat} {S S1 : Nat → Prop} {s s1 : TS} {B o : Nat} {t u : List Ty} {x y : List At}
/-- A number is copied, gone through, and put back. -/
theorem Pre.via {n : Int} (h : Pre w A S s B o [.num] [.num n]) {ty : TypeId} : Pre (w.alloc (.cells #[.int .i64 n] ty)) A S s w.heap.size 0 [.num] [.num n] := by
  have hb : Below w.heap.size w (w.alloc (.cells #[.int .i64 n] ty)) := Below.alloc (Below.refl _ _) (Nat.le_refl _) _
  have hN : (w.alloc (.cells #[.int .i64 n] ty)).heap[w.heap.size]? = some (.cells #[.int .i64 n] ty (0, 0)) := heap_alloc_new w _
  refine ⟨h.tp.on hb, fun q => ?_, ⟨_, _, hN, by simp⟩, h.has, ?_, fun q => ⟨(h.zero q).1, fun i hi => ?_⟩, h.rb, h.wb, h.lenW, h.lenR⟩
  · have := h.tp.lt _ q
    omega
  · simp only [liesS, At.lies, and_true]
    exact ⟨_, cell_blk hN 0, rfl⟩
  · have : i = 0 := by simpa using hi
    subst this
    have e := (h.zero q).1
    simp only [zeroS, List.map_cons, List.map_nil, Ty.zero, List.cons.injEq, At.num.injEq, and_true] at e
    rw [cell_blk hN]
    simp [Ty.zv, e]
theorem Post.via {n : Int} (h : Pre w A S s B o [.num] [.num n]) {ty : TypeId} (k : Post (w.alloc (.cells #[.int .i64 n] ty)) w1 A S s w.heap.size 0 [.num] [.num n]) : ∃ m, w1.cell? ⟨w.heap.size, 0, none⟩ = some (.int .i64 m) ∧ w1.frozen? ⟨B, o, none⟩ = false ∧ (∃ u, w1.cell? ⟨B, o, none⟩ = some u) ∧ Post w (w1.setCell ⟨B, o, none⟩ (.int .i64 m)) A S s B o [.num] [.num n] := by
  obtain ⟨S', s', p1, p2, p3, ⟨c0, c1, ty', b1, b2, b3, b4, b5, b6, b7⟩, p5⟩ := k
  have hN : (w.alloc (.cells #[.int .i64 n] ty)).heap[w.heap.size]? = some (.cells #[.int .i64 n] ty (0, 0)) := heap_alloc_new w _
  have hsz : (w.alloc (.cells #[.int .i64 n] ty)).heap.size = w.heap.size + 1 := by simp
  rw [hN] at b1
  simp only [Option.some.injEq, Obj.cells.injEq] at b1
  obtain ⟨rfl, rfl, _⟩ := b1
  obtain ⟨v, hv, m, rfl⟩ := b7 0 (by simp)
  obtain ⟨cs, tb, h1, h2⟩ := h.blk
  simp only [List.length_cons, List.length_nil] at h2
  have hB : B < w.heap.size := blk_lt h1
  have hold : ∀ k, k < w.heap.size → (w.alloc (.cells #[.int .i64 n] ty)).heap[k]? = w.heap[k]? := fun k hk => Below.heap_alloc w _ k hk
  have hb1 : w1.heap[B]? = some (.cells cs tb (0, 0)) := by
    rw [p3.block B (by omega) (fun q => by rcases q with q | q; exact h.nB q; omega), hold B hB]
    exact h1
  have hb2 := set_blk (i := o) hb1 (.int .i64 m)
  have hne : ∀ k, k ≠ B → (w1.setCell ⟨B, o, none⟩ (.int .i64 m)).heap[k]? = w1.heap[k]? := fun k hk => set_other (a := ⟨B, o, none⟩) _ hk
  have hz : (w1.setCell ⟨B, o, none⟩ (.int .i64 m)).heap.size = w1.heap.size := by simp [World.setCell]
  have hp3 := p3.size
  have hcell : (w1.setCell ⟨B, o, none⟩ (.int .i64 m)).cell? ⟨B, o, none⟩ = some (.int .i64 m) := by
    rw [cell_blk hb2]
    simp [Array.getElem?_setIfInBounds]
    omega
  have nB' : ¬ S' B := fun q => by
    rcases p2 B q with q | q
    · exact h.nB q
    · omega
  have hcm : w1.cell? ⟨w.heap.size, 0, none⟩ = some (.int .i64 m) := by rw [cell_blk b2]; exact hv
  refine ⟨m, hcm, frozen_blk hb1 o, ⟨_, by rw [cell_blk hb1]; exact Array.getElem?_eq_getElem (by omega)⟩, S', s', p1.like (fun k hk => hne k (fun e => nB' (e ▸ hk))) (by rw [hz]; exact Nat.le_refl _), fun k hk => ?_, ⟨p3.os, p3.tape, p3.output, by rw [hz]; omega, fun k hk hs => ?_⟩, ⟨cs, _, tb, h1, hb2, by simp, by simpa using h2, fun i hi => ?_, fun q => ?_, fun i hi => ?_⟩, ?_⟩
  · rcases p2 k hk with q | q
    · exact .inl q
    · exact .inr ⟨by omega, by rw [hz]; exact q.2⟩
  · rw [hne k (fun e => hs (.inr e)), p3.block k (by omega) (fun q => by rcases q with q | q; exact hs (.inl q); omega), hold k hk]
  · simp only [List.length_cons, List.length_nil] at hi
    rw [Array.getElem?_setIfInBounds_ne (by omega)]
  · have e := b6 q
    subst e
    simp at hv
    subst hv
    have hl := h.lies
    simp only [liesS, At.lies, and_true] at hl
    obtain ⟨v, hc, rfl⟩ := hl
    rw [cell_blk h1] at hc
    exact set_same hc
  · have : i = 0 := by simpa using hi
    subst this
    refine ⟨.int .i64 m, ?_, ⟨m, rfl⟩⟩
    rw [cell_blk hb2] at hcell
    simpa using hcell
  · rcases p5 with q | ⟨q0, y, r, q1, q2, q3, q4⟩ | q
    · exact .inl q
    · refine .inr (.inl ⟨q0, y, r, q1, q2, q3, ?_⟩)
      obtain ⟨a, rfl, ha⟩ := hasS_one q1
      obtain ⟨m', rfl, hm'⟩ := has_num ha
      simp only [liesS, At.lies, and_true] at q4 ⊢
      obtain ⟨v, g1, rfl⟩ := q4
      rw [hcm] at g1
      simp only [Option.some.injEq] at g1
      exact ⟨_, hcell, g1⟩
    · exact .inr (.inr q)
/-- What is still to do of some numbers. -/
def Todo (w wr : World) (A : Nat) (S : Nat → Prop) (s : TS) (B o m : Nat) (x : List At) (i : Nat) : Prop :=
  (i < m ∧ ∃ S' s' y, (∀ k, S' k → Gro S w wr k) ∧ Pre wr A S' s' B (o + i) (List.replicate (m - i) .num) y ∧ ∀ w2, Post wr w2 A S' s' B (o + i) (List.replicate (m - i) .num) y → Post w w2 A S s B o (List.replicate m .num) x) ∨
  (i = m ∧ Post w wr A S s B o (List.replicate m .num) x)
theorem Todo.start {m : Nat} (hm : 0 < m) (h : Pre w A S s B o (List.replicate m .num) x) : Todo w w A S s B o m x 0 := .inl ⟨hm, S, s, x, fun _ q => .inl q, h, fun _ q => q⟩
theorem Todo.next {m i : Nat} (h : Todo w w1 A S s B o m x i) (hi : i < m) (hz : w.heap.size ≤ w1.heap.size) : ∃ S' s' n, (∀ k, S' k → Gro S w w1 k) ∧ Pre w1 A S' s' B (o + i) [.num] [.num n] ∧ ∀ w2, Post w1 w2 A S' s' B (o + i) [.num] [.num n] → Todo w w2 A S s B o m x (i + 1) := by
  rcases h with ⟨_, S', s', y, g1, g2, g3⟩ | ⟨q, _⟩
  · by_cases he : m - i = 1
    · rw [he] at g2 g3
      obtain ⟨a, rfl, ha⟩ := hasS_one g2.has
      obtain ⟨n, rfl, hn⟩ := has_num ha
      exact ⟨S', s', n, g1, g2, fun w2 q => .inr ⟨by omega, g3 w2 q⟩⟩
    · have e : List.replicate (m - i) Ty.num = [Ty.num] ++ List.replicate (m - (i + 1)) Ty.num := by
        obtain ⟨j, hj⟩ : ∃ j, m - i = j + 1 := ⟨m - i - 1, by omega⟩
        rw [hj, show m - (i + 1) = j by omega]
        rfl
      rw [e] at g2 g3
      obtain ⟨p, q, rfl, P1, N1⟩ := g2.cons (by simp; omega)
      obtain ⟨a, rfl, ha⟩ := hasS_one P1.has
      obtain ⟨n, rfl, hn⟩ := has_num ha
      refine ⟨S', s', n, g1, P1, fun w2 Q => .inl ⟨by omega, ?_⟩⟩
      obtain ⟨S2, s2, ⟨G2, F2⟩, P2, C2⟩ := N1 w2 Q
      have hz2 := F2.size
      refine ⟨S2, s2, q, fun k hk => ?_, ?_, fun w3 Q3 => ?_⟩
      · rcases G2 k hk with q | q
        · rcases g1 k q with q | q
          · exact .inl q
          · exact .inr ⟨q.1, by omega⟩
        · exact .inr ⟨by omega, q.2⟩
      · exact P2
      · exact g3 w3 (C2 w3 Q3)
  · omega
/-- Pointers to numbers, one behind the other. -/
def Ptrs (w : World) (F B o m : Nat) : Prop := ∃ cs ty, w.heap[F]? = some (.cells cs ty (0, 0)) ∧ ∀ i, i < m → cs[i]? = some (.pointer (some ⟨B, o + i, none⟩))
set_option maxHeartbeats 2000000 in
set_option maxRecDepth 100000 in
theorem numbers_any {F m : Nat} (hm : 0 < m) (hm2 : m ≤ 100) (h : Pre w A S s B o (List.replicate m .num) x) (hF : Ptrs w F B o m) (nF : ¬ S F) (hFB : F ≠ B) : Calls Try.prog 52 #[.pointer (some ⟨A, 0, none⟩), .slice (some ⟨F, 0, none⟩) m m] w fun e w' => e = .returned (.tuple #[]) ∧ Post w w' A S s B o (List.replicate m .num) x := by
  obtain ⟨cs, ty, hF1, hF2⟩ := hF
  have HT := Lib.hid (Todo.start hm h)
  have hFl : F < w.heap.size := blk_lt hF1
  clear h
  go_enter Try.func52, Try.ntmps52
  go_wp2
  go_loopw [9] (fun iv wr => ∃ i : Nat, i ≤ m ∧ iv = .int .i64 i ∧ Hid (Todo w wr A S s B o m x i) ∧ wr.heap[F]? = some (.cells cs ty (0, 0)) ∧ w.heap.size ≤ wr.heap.size) (fun iv _ => m - (intOf iv).toNat)
  case atStart => exact ⟨0, by omega, rfl, HT, hF1, Nat.le_refl _⟩
  case round =>
    obtain ⟨i, hi, rfl, HD, hFr, hz⟩ := hrel
    clear HT hF1
    by_cases hlt : i < m
    · obtain ⟨S', s', n, G, P, N⟩ := HD.out.next hlt hz
      have nF' : ¬ S' F := fun q => by
        rcases G F q with q | q
        · exact nF q
        · omega
      have cF : wr.cell? ⟨F, i, none⟩ = some (.pointer (some ⟨B, o + i, none⟩)) := (cell_blk hFr i).trans (hF2 i hlt)
      have hl := P.lies
      simp only [liesS, At.lies, and_true] at hl
      obtain ⟨v, cB, rfl⟩ := hl
      have hnum := number_any (P.via (ty := 2))
      have hFb : (wr.alloc (.cells #[.int .i64 n] 2)).heap[F]? = some (.cells cs ty (0, 0)) := (Below.heap_alloc wr _ F (by omega)).trans hFr
      have HP := Lib.hid P
      have HN := Lib.hid N
      have HNF := Lib.hid nF'
      have HFb := Lib.hid hFb
      clear P N nF' hFb G HD
      go_wp2_with (go_at_call 78; refine hnum.mono ?_; rintro e w1 ⟨rfl, Q⟩; refine Hid.out ?_)
      refine Lib.hid ?_
      obtain ⟨k, d1, d2, ⟨u, d3⟩, d4⟩ := Post.via HP.out Q
      have hF3 : (w1.setCell ⟨B, o + i, none⟩ (.int .i64 k)).heap[F]? = some (.cells cs ty (0, 0)) := by
        obtain ⟨S'', s'', _, _, p3, _⟩ := Q
        rw [set_other (a := ⟨B, o + i, none⟩) _ hFB, p3.block F (blk_lt HFb.out) (fun q => by rcases q with q | q; exact HNF.out q; omega)]
        exact HFb.out
      have hz3 : w.heap.size ≤ (w1.setCell ⟨B, o + i, none⟩ (.int .i64 k)).heap.size := by
        obtain ⟨S'', s'', _, _, p3, _⟩ := d4
        exact Nat.le_trans hz p3.size
      have HT := Lib.hid (HN.out _ d4)
      have HF3 := Lib.hid hF3
      have HZ3 := Lib.hid hz3
      clear d4 hF3 hz3 Q
      go_wp2
      go_roundw
      case rel => exact ⟨i + 1, by omega, by go_num, HT, HF3.out, HZ3.out⟩
      case measure => simp [intOf]; omega
    · have hiF : i = m := by omega
      subst hiF
      go_wp2
      go_end0
      rcases HD.out with ⟨q, _⟩ | ⟨_, q⟩
      · omega
      · exact ⟨rfl, q⟩
end
end Go.Proofs.Ytjhgmncmcklnkaa
/- The walk of count. -/
namespace Go.Proofs.Ytjhgmncmcklnkaa
open Go.RowKit

/-- What count leaves. -/
def CAns (w w' : World) (A : Nat) (S : Nat → Prop) (s : TS) (B : Nat) (n : Int) : Prop := ∃ S' s' m, Tp w' A S' s' ∧ (∀ k, S' k → Gro S w w' k) ∧ Fr w w' (fun k => S k ∨ k = B) ∧ w'.cell? ⟨B, 0, none⟩ = some (.int .i64 m) ∧
  ((s.reads = false ∧ m = n ∧ s' = { s with wr := s.wr ++ num n }) ∨
   (s.reads = true ∧ ∃ (c : Nat) (r : List UInt8), m = (c : Int) ∧ c ≤ r.length ∧ s.rest = num (c : Int) ++ r ∧ s' = { s with rest := r }) ∨
   (s.reads = true ∧ m = 0 ∧ (∀ (c : Nat) (r : List UInt8), c ≤ r.length → I64 (c : Int) → s.rest ≠ num (c : Int) ++ r) ∧ s' = { s with rest := [], bad := true }))
section
variable {w w' w1 w2 : World} {A : Nat} {S S1 : Nat → Prop} {s s1 : TS} {B o : Nat} {t u : List Ty} {x y : List At}
theorem ptrs_one (w : World) (B : Nat) (ty : TypeId) : Ptrs (w.alloc (.cells #[.pointer (some ⟨B, 0, none⟩)] ty)) w.heap.size B 0 1 := by
  refine ⟨_, _, heap_alloc_new w _, fun i hi => ?_⟩
  have : i = 0 := by omega
  subst this
  rfl
theorem CAns.from {n : Int} (hb : Below w.heap.size w w1) (h : CAns w1 w2 A S s B n) : CAns w w2 A S s B n := by
  obtain ⟨S', s', m, h1, h2, h3, h4⟩ := h
  have hz := hb.size
  refine ⟨S', s', m, h1, fun k hk => ?_, (Fr.ofBelow (fun k => S k ∨ k = B) hb).trans h3, h4⟩
  rcases h2 k hk with q | q
  · exact .inl q
  · exact .inr ⟨by omega, q.2⟩
theorem CAns.drew {n : Int} (h : CAns w w1 A S s B n) (k : Nat) : CAns w (w1.drewN k) A S s B n := by
  obtain ⟨S', s', m, ⟨rv, h1⟩, h2, h3, h4, h5⟩ := h
  exact ⟨S', s', m, ⟨rv, ⟨h1.ob, h1.row, h1.cov, h1.covA, h1.lt⟩⟩, h2, h3.drewN k, h4, h5⟩
theorem Tp.drew (h : Tp w A S s) (k : Nat) : Tp (w.drewN k) A S s := by
  obtain ⟨rv, h1⟩ := h
  exact ⟨rv, ⟨h1.ob, h1.row, h1.cov, h1.covA, h1.lt⟩⟩
theorem Fr.undrew {k : Nat} (h : Fr (w.drewN k) w1 S) : Fr w w1 S := ⟨h.os, h.tape, h.output, h.size, h.block⟩
set_option maxHeartbeats 2000000 in
set_option maxRecDepth 100000 in
theorem count_any {n : Int} (h : Pre w A S s B 0 [.num] [.num n]) : Calls Try.prog 80 #[.pointer (some ⟨A, 0, none⟩), .pointer (some ⟨B, 0, none⟩)] w fun e w' => e = .returned (.tuple #[]) ∧ CAns w w' A S s B n := by
  have hB := h.lt
  have hSl := h.tp.lt
  have hb : Below w.heap.size w (w.alloc (.cells #[.pointer (some ⟨B, 0, none⟩)] 135)) := Below.alloc (Below.refl _ _) (Nat.le_refl _) _
  have hnum := numbers_any (F := w.heap.size) (m := 1) (by omega) (by omega) (h.on hb) (ptrs_one w B 135) (fun q => by have := hSl _ q; omega) (by omega)
  have HFR : Hid (∀ w', Post (w.alloc (.cells #[.pointer (some ⟨B, 0, none⟩)] 135)) w' A S s B 0 [.num] [.num n] → Post w w' A S s B 0 [.num] [.num n]) := fun w' q => Post.from hb hB q
  have HH := Lib.hid h
  clear h hb hSl
  go_enter Try.func80, Try.ntmps80
  go_wp2_with (go_at_call 52; refine hnum.mono ?_; rintro e w1 ⟨rfl, Q⟩; refine Hid.out ?_)
  refine Lib.hid ?_
  obtain ⟨S1, s1, p1, p2, p3, ⟨c0, c1, ty', b1, b2, b3, b4, b5, b6, b7⟩, p5⟩ := HFR.out w1 Q
  obtain ⟨v, hv, m, rfl⟩ := b7 0 (by simp)
  have cm : w1.cell? ⟨B, 0, none⟩ = some (.int .i64 m) := by rw [cell_blk b2]; simpa using hv
  have fm : w1.frozen? ⟨B, 0, none⟩ = false := frozen_blk b2 0
  have HT := Lib.hid p1
  obtain ⟨rv, hT⟩ := p1
  have t0 : w1.cell? ⟨A, 0, none⟩ = some (.bool s1.reads) := cell_blk hT.ob 0
  have t2 : w1.cell? ⟨A, 2, none⟩ = some (.string (txt s1.rest)) := cell_blk hT.ob 2
  have hr1 : s1.reads = s.reads := by
    rcases p5 with ⟨_, q⟩ | ⟨_, _, _, _, _, q, _⟩ | ⟨_, _, q⟩ <;> rw [q]
  rw [hr1] at t0
  have nBA : B ≠ A := fun e => HH.out.nB (e ▸ HH.out.tp.covA)
  have nB1 : ¬ S1 B := fun q => by
    rcases p2 B q with q | q
    · exact HH.out.nB q
    · omega
  have HNB := Lib.hid nB1
  -- where the count is set to none
  have none : ∀ w2, Tp w2 A S1 { s1 with rest := [], bad := true } → Fr w1 w2 S1 → (∀ (c : Nat) (r : List UInt8), c ≤ r.length → I64 (c : Int) → s.rest ≠ num (c : Int) ++ r) → s.reads = true → ({ s1 with rest := [], bad := true } : TS) = { s with rest := [], bad := true } → w2.frozen? ⟨B, 0, none⟩ = false ∧ (∃ u, w2.cell? ⟨B, 0, none⟩ = some u) ∧ CAns w (w2.setCell ⟨B, 0, none⟩ (.int .i64 0)) A S s B n := by
    intro w2 hT2 hF2 hno hr es
    have hb2 : w2.heap[B]? = some (.cells c1 ty' (0, 0)) := (hF2.block B (blk_lt b2) nB1).trans b2
    have hne : ∀ k, k ≠ B → (w2.setCell ⟨B, 0, none⟩ (.int .i64 0)).heap[k]? = w2.heap[k]? := fun k hk => set_other (a := ⟨B, 0, none⟩) _ hk
    have hz : (w2.setCell ⟨B, 0, none⟩ (.int .i64 0)).heap.size = w2.heap.size := by simp [World.setCell]
    have hz2 := hF2.size
    have hlen : 0 < c1.size := by simp at b4; omega
    refine ⟨frozen_blk hb2 0, ⟨_, by rw [cell_blk hb2]; exact Array.getElem?_eq_getElem hlen⟩, S1, _, 0, hT2.like (fun k hk => hne k (fun e => nB1 (e ▸ hk))) (by rw [hz]; exact Nat.le_refl _), fun k hk => ?_, ?_, ?_, .inr (.inr ⟨hr, rfl, hno, es⟩)⟩
    · rcases p2 k hk with q | q
      · exact .inl q
      · exact .inr ⟨q.1, by rw [hz]; omega⟩
    · refine Fr.set (a := ⟨B, 0, none⟩) (p3.step hF2 (fun k hk => ?_)) (.inl (.inr rfl)) _
      rcases p2 k hk with q | q
      · exact .inl (.inl q)
      · exact .inr q.1
    · rw [cell_blk (set_blk (i := 0) hb2 _)]
      simp [hlen]
  have HN := Lib.hid none
  have keep : ((s.reads = false ∧ m = n ∧ s1 = { s with wr := s.wr ++ num n }) ∨
   (s.reads = true ∧ ∃ (c : Nat) (r : List UInt8), m = (c : Int) ∧ c ≤ r.length ∧ s.rest = num (c : Int) ++ r ∧ s1 = { s with rest := r }) ∨
   (s.reads = true ∧ m = 0 ∧ (∀ (c : Nat) (r : List UInt8), c ≤ r.length → I64 (c : Int) → s.rest ≠ num (c : Int) ++ r) ∧ s1 = { s with rest := [], bad := true })) → CAns w w1 A S s B n :=
    fun q => ⟨S1, s1, m, HT.out, p2, p3, cm, q⟩
  have HK := Lib.hid keep
  have H5 := Lib.hid p5
  have H6 : Hid (s.reads = false → m = n) := fun q => by
    have e := b6 q
    have hl := HH.out.lies
    simp only [liesS, At.lies, and_true] at hl
    obtain ⟨v, hc, rfl⟩ := hl
    rw [cell_blk b1, ← e] at hc
    simp only [Nat.add_zero] at hv
    rw [hv] at hc
    simpa using hc
  have HP4 := Lib.hid b4
  clear none keep p5 p2 p3 b1 b2 b3 b4 b5 b6 b7 hv Q hT hr1 nB1
  have hx1 : s1.rest.length ≤ 1000000000 := by
    have := HH.out.lenR
    rcases H5.out with ⟨_, q⟩ | ⟨_, y, r, _, q2, q, _⟩ | ⟨_, _, q⟩
    · rw [q]; exact this
    · rw [q]
      rw [q2, List.length_append] at this
      show r.length ≤ _
      omega
    · rw [q]; simp
  cases hr : s.reads with
  | false =>
    rw [hr] at t0
    have HR := Lib.hid hr
    clear hr
    go_wp2
    go_quiet (fail)
    go_wp2
    go_end0
    refine ⟨rfl, CAns.drew (HK.out (.inl ⟨HR.out, H6.out HR.out, ?_⟩)) _⟩
    rcases H5.out with ⟨_, q⟩ | ⟨q, _⟩ | ⟨q, _⟩
    · simpa [encS, At.enc] using q
    · rw [HR.out] at q; cases q
    · rw [HR.out] at q; cases q
  | true =>
    rw [hr] at t0
    have HR := Lib.hid hr
    clear hr
    obtain ⟨st, hst⟩ : ∃ st, txt s1.rest = st := ⟨_, rfl⟩
    obtain ⟨L, hL⟩ : ∃ L, s1.rest.length = L := ⟨_, rfl⟩
    have hsz : st.size = L := by rw [← hst, txt_size, hL]
    rw [hst] at t2
    have HL := Lib.hid hL
    rw [hL] at hx1
    clear hst hL
    -- what was read, if it is no count
    have hno : (m < 0 ∨ (L : Int) < m) → (∀ (c : Nat) (r : List UInt8), c ≤ r.length → I64 (c : Int) → s.rest ≠ num (c : Int) ++ r) ∧ ({ s1 with rest := [], bad := true } : TS) = { s with rest := [], bad := true } := by
      intro hm
      rcases H5.out with ⟨q, _⟩ | ⟨_, y, r, q1, q2, q3, q4⟩ | ⟨_, q1, q2⟩
      · rw [HR.out] at q; cases q
      · obtain ⟨a, rfl, ha⟩ := hasS_one q1
        obtain ⟨m', rfl, hm'⟩ := has_num ha
        simp only [liesS, At.lies, and_true] at q4
        obtain ⟨v, g1, rfl⟩ := q4
        rw [cm] at g1
        simp only [Option.some.injEq, Value.int.injEq, true_and] at g1
        subst g1
        refine ⟨fun c r' hc hi e => ?_, by rw [q3]⟩
        simp only [encS, At.enc, List.append_nil] at q2
        rw [q2] at e
        obtain ⟨e1, e2⟩ := num_pre hm' hi e
        have e3 : r.length = L := by rw [← HL.out, q3]
        rw [e2] at e3
        omega
      · refine ⟨fun c r hc hi e => q1 ⟨[.num c], r, ?_, ?_⟩, by rw [q2]⟩
        · unfold hasS; exact ⟨by simpa only [Ty.has] using hi, by simp [hasS]⟩
        · simpa [encS, At.enc] using e
    have HNO := Lib.hid hno
    clear hno
    by_cases h1 : m < 0
    · have hfail : ∀ k, Calls Try.prog 79 #[.pointer (some ⟨A, 0, none⟩)] (w1.drewN k) fun e w2 => e = .returned (.tuple #[]) ∧ Tp w2 A S1 { s1 with rest := [], bad := true } ∧ Fr w1 w2 S1 := fun k => (fail_any (HT.out.drew k)).mono (fun e w2 q => ⟨q.1, q.2.1, q.2.2.1.undrew⟩)
      go_wp2
      go_quiet (fail)
      go_wp2_with (go_at_call 79; refine (hfail _).mono ?_; rintro e w2 ⟨rfl, q1, q2⟩; refine Hid.out ?_)
      refine Lib.hid ?_
      obtain ⟨e1, e2⟩ := HNO.out (.inl h1)
      obtain ⟨d1, ⟨u, d2⟩, d3⟩ := HN.out w2 q1 q2 e1 HR.out e2
      have HD := Lib.hid d3
      clear d3 q1 q2 e1 e2
      go_wp2
      go_end0
      exact ⟨rfl, HD.out⟩
    · by_cases h2 : (L : Int) < m
      · have hfail : ∀ k, Calls Try.prog 79 #[.pointer (some ⟨A, 0, none⟩)] (w1.drewN k) fun e w2 => e = .returned (.tuple #[]) ∧ Tp w2 A S1 { s1 with rest := [], bad := true } ∧ Fr w1 w2 S1 := fun k => (fail_any (HT.out.drew k)).mono (fun e w2 q => ⟨q.1, q.2.1, q.2.2.1.undrew⟩)
        go_wp2
        go_quiet (fail)
        go_wp2_with (go_at_call 79; refine (hfail _).mono ?_; rintro e w2 ⟨rfl, q1, q2⟩; refine Hid.out ?_)
        refine Lib.hid ?_
        obtain ⟨e1, e2⟩ := HNO.out (.inr h2)
        obtain ⟨d1, ⟨u, d2⟩, d3⟩ := HN.out w2 q1 q2 e1 HR.out e2
        have HD := Lib.hid d3
        clear d3 q1 q2 e1 e2
        go_wp2
        go_end0
        exact ⟨rfl, HD.out⟩
      · go_wp2
        go_quiet (fail)
        go_wp2
        go_end0
        refine ⟨rfl, CAns.drew (HK.out (.inr ?_)) _⟩
        rcases H5.out with ⟨q, _⟩ | ⟨_, y, r, q1, q2, q3, q4⟩ | ⟨_, q1, q2⟩
        · rw [HR.out] at q; cases q
        · obtain ⟨a, rfl, ha⟩ := hasS_one q1
          obtain ⟨m', rfl, hm'⟩ := has_num ha
          simp only [liesS, At.lies, and_true] at q4
          obtain ⟨v, g1, rfl⟩ := q4
          rw [cm] at g1
          simp only [Option.some.injEq, Value.int.injEq, true_and] at g1
          subst g1
          have e3 : r.length = L := by rw [← HL.out, q3]
          refine .inl ⟨HR.out, m.toNat, r, by omega, by omega, ?_, q3⟩
          rw [show ((m.toNat : Nat) : Int) = m by omega]
          simpa [encS, At.enc] using q2
        · have e3 : L = 0 := by rw [← HL.out, q2]; rfl
          refine .inr ⟨HR.out, by omega, fun c r hc hi e => q1 ⟨[.num c], r, ?_, ?_⟩, q2⟩
          · unfold hasS; exact ⟨by simpa only [Ty.has] using hi, by simp [hasS]⟩
          · simpa [encS, At.enc] using e
end
end Go.Proofs.Ytjhgmncmcklnkaa
/- The library's contract on internal/stringslite.Clone, laid at this program; strings.Clone; a text's bytes put on a tape. -/
namespace Go.Proofs.Ytjhgmncmcklnkaa
open Go.RowKit Go.Shelf Go.Lib

def ren : Ren := ⟨fun | 25 => 97 | n => n, fun | 37 => 130 | 47 => 257 | n => n, fun n => n⟩
theorem lays25 : LaysPu.n25 Try.prog ren := {
  mixed := by kernel_rfl
  f25 := Try.func97.trans (congrArg some (by kernel_rfl))
  t0 := Try.underlying0
  a0 := Try.isAgg0
  z0 := Try.sizeOf0
  v0 := Try.zeroValue0
  i0 := by kernel_rfl
  t3 := Try.underlying3
  a3 := Try.isAgg3
  z3 := Try.sizeOf3
  v3 := Try.zeroValue3
  i3 := by kernel_rfl
  t4 := Try.underlying4
  a4 := Try.isAgg4
  z4 := Try.sizeOf4
  v4 := Try.zeroValue4
  i4 := by kernel_rfl
  t5 := Try.underlying5
  a5 := Try.isAgg5
  z5 := Try.sizeOf5
  v5 := Try.zeroValue5
  i5 := by kernel_rfl
  t9 := Try.underlying9
  a9 := Try.isAgg9
  z9 := Try.sizeOf9
  v9 := Try.zeroValue9
  i9 := by kernel_rfl
  t37 := Try.underlying130
  a37 := Try.isAgg130
  z37 := Try.sizeOf130
  v37 := Try.zeroValue130
  i37 := by kernel_rfl
  t47 := Try.underlying257
  a47 := Try.isAgg257
  z47 := Try.sizeOf257
  v47 := Try.zeroValue257
  i47 := by kernel_rfl }

theorem lite_any (s : ByteArray) (w : World) (h : s.size ≤ 281474976710656) :
    Calls Try.prog 97 #[.string s] w fun e w' => e = .returned (.string s) ∧ Below w.heap.size w w' := AnyPu.stringslite_Clone lays25 s w h
theorem clone_any (s : ByteArray) (w : World) (h : s.size ≤ 281474976710656) :
    Calls Try.prog 81 #[.string s] w fun e w' => e = .returned (.string s) ∧ Below w.heap.size w w' := by
  go_enter Try.func81, Try.ntmps81
  go_wp2_with (go_at_call 97; refine (lite_any s _ h).mono ?_; rintro e w1 ⟨rfl, hb1⟩)
  go_ret
  exact ⟨rfl, hb1⟩
theorem strCells_eq (s : ByteArray) : strCells s = Lib.byteCells s.data.toList := rfl
section
variable {w w' w1 w2 : World} {A : Nat} {S S1 : Nat → Prop} {s s1 : TS} {B o : Nat} {t u : List Ty} {x y : List At} {rv : Value}
theorem str_run {l : List UInt8} (hown : w.ownsRow 0 5 1 rv l.length (Lib.byteCells l)) (str : ByteArray) (hz : l.length + str.size ≤ 2000000000) : ∃ v' w', (Builtin.append_ #[130, 9] 130 #[rv, .string str]).run Try.prog w = .ok v' w' ∧ w'.ownsRow 0 5 1 v' (l ++ str.data.toList).length (Lib.byteCells (l ++ str.data.toList)) ∧ w.grownBy w' rv.ownBlock ∧ (v'.ownBlock = rv.ownBlock ∨ v'.ownBlock = some w.heap.size) := by
  obtain ⟨i0, hi, hz0, hz1, hz2⟩ := info_parts infoByte
  obtain ⟨v', w', hr, ho, hg, _⟩ := run_append_own_string (P := Try.prog) (w := w) 0 130 9 130 5 i0 Try.underlying130 Try.underlying9 hi hz0 hz1 hz2 rv _ _ hown str (by unfold maxLen; omega) (by omega) (Nat.zero_le _)
  refine ⟨v', w', hr, ?_, hg, ?_⟩
  · rw [byteCells_append, List.length_append]
    simpa [strCells_eq] using ho
  · have hxl : (Lib.byteCells l).length = l.length := by simpa using hown.1
    rcases hown.2 with ⟨rfl, hl0⟩ | ⟨g, cap, cur, rfl, hbg, hgg, hnc, hcm, hcs, htake⟩
    · by_cases hm : str.size = 0
      · have hf := run_firstCells_string (P := Try.prog) w 1 str
        rw [hm] at hf
        have hr2 : (Builtin.append_ #[130, 9] 130 #[.slice none 0 0, .string str]).run Try.prog w = .ok (.slice none 0 0) w := by
          simp [Builtin.append_, run_underlying Try.underlying130, run_underlying Try.underlying9, sizeOf, typeInfo, hi, hz1, Builtin.lenOf, hm, hf]
        rw [hr] at hr2
        simp only [Result.ok.injEq] at hr2
        rw [hr2.1]
        exact .inl rfl
      · have hr2 := run_append_nil_string (P := Try.prog) w 130 9 130 5 i0 (.int .u8 0) Try.underlying130 Try.underlying9 hi hz0 str (by omega) (by omega) (by rw [hz2]; omega)
        rw [hr] at hr2
        simp only [Result.ok.injEq] at hr2
        rw [hr2.1]
        exact .inr rfl
    · by_cases hroom : l.length + str.size ≤ cap
      · have hr2 := run_append_room_string (P := Try.prog) w 130 9 130 5 i0 Try.underlying130 Try.underlying9 hi hz1 g l.length cap cur hgg str hroom (by simp at hcs; omega)
        rw [hr] at hr2
        simp only [Result.ok.injEq] at hr2
        rw [hr2.1]
        exact .inl rfl
      · have holds : ∀ j u, (Lib.byteCells l)[j]? = some u → w.cell? ((⟨g, 0, none⟩ : Addr).add j) = some u := hown.cells (g := g) rfl
        have hr2 := run_append_grow_string (P := Try.prog) w 130 9 130 5 i0 (.int .u8 0) Try.underlying130 Try.underlying9 hi hz0 ⟨g, 0, none⟩ l.length cap (Lib.byteCells l) (by rw [hz1]; simpa using hxl) holds str (by omega) (by omega) (by rw [hz2]; exact growslice_fits (by omega) (by omega))
        rw [hr] at hr2
        simp only [Result.ok.injEq] at hr2
        rw [hr2.1]
        exact .inr rfl
/-- A text's bytes more. -/
theorem Tv.pushS (h : Tv w A S s rv) (str : ByteArray) (hz : s.wr.length + str.size ≤ 2000000000) : ∃ v2 w2, (Builtin.append_ #[130, 9] 130 #[rv, .string str]).run Try.prog w = .ok v2 w2 ∧ w2.ownsRow 0 5 1 v2 (s.wr ++ str.data.toList).length (Lib.byteCells (s.wr ++ str.data.toList)) ∧ Fr w w2 S ∧ (∀ k, v2.ownBlock = some k → S k ∨ w.heap.size ≤ k) ∧ w2.heap[A]? = some (.cells (tpC s rv) 132 (0, 0)) := by
  obtain ⟨v', w', hr, ho', hg, hat⟩ := str_run h.row str hz
  refine ⟨v', w', hr, ho', (Fr.refl w S).grown hg (fun k hk => .inl (h.cov k hk)), fun k hk => ?_, ?_⟩
  · rcases hat with q | q
    · rw [q] at hk
      exact .inl (h.cov k hk)
    · rw [q] at hk
      simp only [Option.some.injEq] at hk
      exact .inr (by omega)
  · rw [hg.block A (h.lt A h.covA) (fun q => h.neA A q.symm rfl)]
    exact h.ob
/-- One field is put. -/
theorem Post.put {t : Ty} {v : Value} (h : Pre w A S s B o [t] x) (hT : Tp w1 A S1 s1) (hG : ∀ k, S1 k → Gro S w w1 k) (hF : Fr w w1 S) (hv : t.kind v)
    (hout : (s.reads = false ∧ w.cell? ⟨B, o, none⟩ = some v ∧ s1 = { s with wr := s.wr ++ encS x }) ∨ (s.reads = true ∧ ((∃ y r, t.has y ∧ s.rest = y.enc ++ r ∧ s1 = { s with rest := r } ∧ y.lies (w1.setCell ⟨B, o, none⟩ v) (fun k => k < w.heap.size ∨ S1 k) v) ∨ (¬ Rd [t] s.rest ∧ s1 = { s with rest := [], bad := true })))) :
    w1.frozen? ⟨B, o, none⟩ = false ∧ (∃ u, w1.cell? ⟨B, o, none⟩ = some u) ∧ Post w (w1.setCell ⟨B, o, none⟩ v) A S s B o [t] x := by
  obtain ⟨cs, ty, h1, h2⟩ := h.blk
  simp only [List.length_cons, List.length_nil] at h2
  have hB : B < w.heap.size := blk_lt h1
  have hb1 : w1.heap[B]? = some (.cells cs ty (0, 0)) := (hF.block B hB h.nB).trans h1
  have hb2 := set_blk (i := o) hb1 v
  have hne : ∀ k, k ≠ B → (w1.setCell ⟨B, o, none⟩ v).heap[k]? = w1.heap[k]? := fun k hk => set_other (a := ⟨B, o, none⟩) _ hk
  have hz : (w1.setCell ⟨B, o, none⟩ v).heap.size = w1.heap.size := by simp [World.setCell]
  have hcell : (w1.setCell ⟨B, o, none⟩ v).cell? ⟨B, o, none⟩ = some v := by
    rw [cell_blk hb2]
    simp [Array.getElem?_setIfInBounds]
    omega
  have nB1 : ¬ S1 B := fun q => by
    rcases hG B q with q | q
    · exact h.nB q
    · omega
  refine ⟨frozen_blk hb1 o, ⟨_, by rw [cell_blk hb1]; exact Array.getElem?_eq_getElem (by omega)⟩, S1, s1, hT.like (fun k hk => hne k (fun e => nB1 (e ▸ hk))) (by rw [hz]; exact Nat.le_refl _), fun k hk => ?_, (hF.mono (fun _ q => .inl q)).set (a := ⟨B, o, none⟩) (.inl (.inr rfl)) v, ⟨cs, _, ty, h1, hb2, by simp, by simpa using h2, fun i hi => ?_, fun q => ?_, fun i hi => ?_⟩, ?_⟩
  · rcases hG k hk with q | q
    · exact .inl q
    · exact .inr ⟨q.1, by rw [hz]; exact q.2⟩
  · simp only [List.length_cons, List.length_nil] at hi
    rw [Array.getElem?_setIfInBounds_ne (by omega)]
  · rcases hout with ⟨_, q2, _⟩ | ⟨q1, _⟩
    · rw [cell_blk h1] at q2
      exact set_same q2
    · rw [q] at q1; cases q1
  · have : i = 0 := by simpa using hi
    subst this
    refine ⟨v, ?_, hv⟩
    rw [cell_blk hb2] at hcell
    simpa using hcell
  · rcases hout with ⟨q1, _, q2⟩ | ⟨hr, ⟨y, r, q1, q2, q3, q4⟩ | q⟩
    · exact .inl ⟨q1, q2⟩
    · refine .inr (.inl ⟨hr, [y], r, by unfold hasS; exact ⟨q1, by simp [hasS]⟩, by simpa [encS] using q2, q3, ?_⟩)
      simp only [liesS, and_true]
      exact ⟨v, hcell, q4⟩
    · exact .inr (.inr ⟨hr, q⟩)
/-- A number of one's own beside it. -/
theorem Pre.num {n : Int} (h : Pre w A S s B o t x) (hn : I64 n) (h0 : s.reads = true → n = 0) (hl : s.reads = false → s.wr.length + (Ytjhgmncmcklnkaa.num n).length ≤ 1000000000) {ty : TypeId} : Pre (w.alloc (.cells #[.int .i64 n] ty)) A S s w.heap.size 0 [.num] [.num n] := by
  have hb : Below w.heap.size w (w.alloc (.cells #[.int .i64 n] ty)) := Below.alloc (Below.refl _ _) (Nat.le_refl _) _
  have hN : (w.alloc (.cells #[.int .i64 n] ty)).heap[w.heap.size]? = some (.cells #[.int .i64 n] ty (0, 0)) := heap_alloc_new w _
  refine ⟨h.tp.on hb, fun q => ?_, ⟨_, _, hN, by simp⟩, by unfold hasS; exact ⟨by simpa only [Ty.has] using hn, by simp [hasS]⟩, ?_, fun q => ⟨?_, fun i hi => ?_⟩, h.rb, h.wb, fun q => (by simpa [encS, At.enc] using hl q), h.lenR⟩
  · have := h.tp.lt _ q
    omega
  · simp only [liesS, At.lies, and_true]
    exact ⟨_, cell_blk hN 0, rfl⟩
  · rw [h0 q]
    rfl
  · have : i = 0 := by simpa using hi
    subst this
    rw [cell_blk hN]
    simp [Ty.zv, h0 q]
/-- What was new and one's own is no part of the frame. -/
theorem Fr.fresh1 {c : Obj} (h : Fr (w.alloc c) w1 (fun k => S k ∨ k = w.heap.size)) : Fr w w1 S := by
  have hz := h.size
  have hsz : (w.alloc c).heap.size = w.heap.size + 1 := by simp
  exact ⟨h.os, h.tape, h.output, by omega, fun k hk hs => (h.block k (by omega) (fun q => by rcases q with q | q; exact hs q; omega)).trans (Below.heap_alloc w c k hk)⟩
theorem Gro.fresh1 {c : Obj} {S' : Nat → Prop} (h : ∀ k, S' k → Gro S (w.alloc c) w1 k) : ∀ k, S' k → Gro S w w1 k := by
  intro k hk
  have hsz : (w.alloc c).heap.size = w.heap.size + 1 := by simp
  rcases h k hk with q | q
  · exact .inl q
  · exact .inr ⟨by omega, q.2⟩
end
end Go.Proofs.Ytjhgmncmcklnkaa
/- The walks of yes and errno. -/
namespace Go.Proofs.Ytjhgmncmcklnkaa
open Go.RowKit

section
variable {w w' w1 w2 : World} {A : Nat} {S S1 : Nat → Prop} {s s1 : TS} {B o : Nat} {t u : List Ty} {x y : List At} {rv : Value}
/-- What a walk along one number leaves. -/
theorem Post.one {n : Int} {c : Obj} (h : Post (w.alloc c) w1 A S s w.heap.size 0 [.num] [.num n]) (hc : ∃ ty, c = .cells #[.int .i64 n] ty (0, 0)) : ∃ S1 s1 m, Tp w1 A S1 s1 ∧ (∀ k, S1 k → Gro S w w1 k) ∧ Fr w w1 S ∧ w1.cell? ⟨w.heap.size, 0, none⟩ = some (.int .i64 m) ∧
    ((s.reads = false ∧ m = n ∧ s1 = { s with wr := s.wr ++ num n }) ∨ (s.reads = true ∧ I64 m ∧ ∃ r, s.rest = num m ++ r ∧ s1 = { s with rest := r }) ∨ (s.reads = true ∧ (∀ m r, I64 m → s.rest ≠ num m ++ r) ∧ s1 = { s with rest := [], bad := true })) := by
  obtain ⟨ty, rfl⟩ := hc
  obtain ⟨S', s', p1, p2, p3, ⟨c0, c1, ty', b1, b2, b3, b4, b5, b6, b7⟩, p5⟩ := h
  have hN : (w.alloc (.cells #[.int .i64 n] ty)).heap[w.heap.size]? = some (.cells #[.int .i64 n] ty (0, 0)) := heap_alloc_new w _
  rw [hN] at b1
  simp only [Option.some.injEq, Obj.cells.injEq] at b1
  obtain ⟨rfl, rfl, _⟩ := b1
  obtain ⟨v, hv, m, rfl⟩ := b7 0 (by simp)
  have cm : w1.cell? ⟨w.heap.size, 0, none⟩ = some (.int .i64 m) := by rw [cell_blk b2]; simpa using hv
  refine ⟨S', s', m, p1, Gro.fresh1 p2, p3.fresh1, cm, ?_⟩
  rcases p5 with ⟨q1, q2⟩ | ⟨q0, y, r, q1, q2, q3, q4⟩ | ⟨q1, q2, q3⟩
  · refine .inl ⟨q1, ?_, by simpa [encS, At.enc] using q2⟩
    have e := b6 q1
    subst e
    simpa using hv.symm
  · obtain ⟨a, rfl, ha⟩ := hasS_one q1
    obtain ⟨m', rfl, hm'⟩ := has_num ha
    simp only [liesS, At.lies, and_true] at q4
    obtain ⟨v, g1, rfl⟩ := q4
    rw [cm] at g1
    simp only [Option.some.injEq, Value.int.injEq, true_and] at g1
    subst g1
    exact .inr (.inl ⟨q0, hm', r, by simpa [encS, At.enc] using q2, q3⟩)
  · refine .inr (.inr ⟨q1, fun m' r hm' e => q2 ⟨[.num m'], r, ?_, ?_⟩, q3⟩)
    · unfold hasS; exact ⟨by simpa only [Ty.has] using hm', by simp [hasS]⟩
    · simpa [encS, At.enc] using e
theorem yes_ok {m : Int} {b : Bool} (hm : m = 0 ∨ m = 1) (hc : w.cell? ⟨B, o, none⟩ = some (.bool b))
    (h : (s.reads = false ∧ m = yesN b ∧ s1 = { s with wr := s.wr ++ num (yesN b) }) ∨ (s.reads = true ∧ I64 m ∧ ∃ r, s.rest = num m ++ r ∧ s1 = { s with rest := r }) ∨ (s.reads = true ∧ (∀ m r, I64 m → s.rest ≠ num m ++ r) ∧ s1 = { s with rest := [], bad := true })) :
    (s.reads = false ∧ w.cell? ⟨B, o, none⟩ = some (.bool (m == 1)) ∧ s1 = { s with wr := s.wr ++ encS [.yes b] }) ∨ (s.reads = true ∧ ((∃ y r, Ty.yes.has y ∧ s.rest = y.enc ++ r ∧ s1 = { s with rest := r } ∧ y.lies w2 S (.bool (m == 1))) ∨ (¬ Rd [.yes] s.rest ∧ s1 = { s with rest := [], bad := true }))) := by
  rcases h with ⟨h1, h2, h3⟩ | ⟨h1, h2, r, h3, h4⟩ | ⟨h1, h2, h3⟩
  · refine .inl ⟨h1, ?_, by simpa [encS, At.enc] using h3⟩
    rw [hc, h2]
    cases b <;> rfl
  · refine .inr ⟨h1, .inl ⟨.yes (m == 1), r, by simp [Ty.has], ?_, h4, by simp only [At.lies]⟩⟩
    rw [h3]
    simp only [At.enc]
    rcases hm with rfl | rfl <;> rfl
  · refine .inr ⟨h1, .inr ⟨?_, h3⟩⟩
    rintro ⟨y, r, hy, e⟩
    obtain ⟨a, rfl, ha⟩ := hasS_one hy
    obtain ⟨b', rfl⟩ := has_yes ha
    exact h2 _ r (yes_in b') (by simpa [encS, At.enc] using e)
theorem yes_bad {m : Int} {b : Bool} (hm : ¬ (m = 0 ∨ m = 1))
    (h : (s.reads = false ∧ m = yesN b ∧ s1 = { s with wr := s.wr ++ num (yesN b) }) ∨ (s.reads = true ∧ I64 m ∧ ∃ r, s.rest = num m ++ r ∧ s1 = { s with rest := r }) ∨ (s.reads = true ∧ (∀ m r, I64 m → s.rest ≠ num m ++ r) ∧ s1 = { s with rest := [], bad := true })) :
    s.reads = true ∧ ¬ Rd [.yes] s.rest ∧ ({ s1 with rest := [], bad := true } : TS) = { s with rest := [], bad := true } := by
  rcases h with ⟨h1, h2, h3⟩ | ⟨h1, h2, r, h3, h4⟩ | ⟨h1, h2, h3⟩
  · exact absurd (by rw [h2]; cases b <;> simp [yesN]) hm
  · refine ⟨h1, ?_, by rw [h4]⟩
    rintro ⟨y, r', hy, e⟩
    obtain ⟨a, rfl, ha⟩ := hasS_one hy
    obtain ⟨b', rfl⟩ := has_yes ha
    rw [h3] at e
    obtain ⟨e1, _⟩ := num_pre h2 (yes_in b') (by simpa [encS, At.enc] using e)
    exact hm (by rw [e1]; cases b' <;> simp [yesN])
  · refine ⟨h1, ?_, by rw [h3]⟩
    rintro ⟨y, r, hy, e⟩
    obtain ⟨a, rfl, ha⟩ := hasS_one hy
    obtain ⟨b', rfl⟩ := has_yes ha
    exact h2 _ r (yes_in b') (by simpa [encS, At.enc] using e)
set_option maxHeartbeats 2000000 in
set_option maxRecDepth 100000 in
theorem yes_any (h : Pre w A S s B o [.yes] x) : Calls Try.prog 53 #[.pointer (some ⟨A, 0, none⟩), .pointer (some ⟨B, o, none⟩)] w fun e w' => e = .returned (.tuple #[]) ∧ Post w w' A S s B o [.yes] x := by
  obtain ⟨a, rfl, ha⟩ := hasS_one h.has
  obtain ⟨b, rfl⟩ := has_yes ha
  have hl := h.lies
  simp only [liesS, At.lies, and_true] at hl
  obtain ⟨v, hc, rfl⟩ := hl
  have hlen : s.reads = false → s.wr.length + (num (yesN b)).length ≤ 1000000000 := fun q => by
    have hlen := h.lenW q
    simpa only [encS, At.enc, List.append_nil] using hlen
  have h0 : s.reads = true → yesN b = 0 := fun q => by
    have e := (h.zero q).1
    simp only [zeroS, List.map_cons, List.map_nil, Ty.zero, List.cons.injEq, At.yes.injEq, and_true] at e
    rw [e]
    rfl
  have hnum := number_any (h.num (yes_in b) h0 hlen (ty := 2))
  have fin : ∀ w1, Post (w.alloc (.cells #[.int .i64 (yesN b)] 2)) w1 A S s w.heap.size 0 [.num] [.num (yesN b)] → ∃ m S1 s1, Tp w1 A S1 s1 ∧ w1.cell? ⟨w.heap.size, 0, none⟩ = some (.int .i64 m) ∧ ((m = 0 ∨ m = 1) → w1.frozen? ⟨B, o, none⟩ = false ∧ (∃ u, w1.cell? ⟨B, o, none⟩ = some u) ∧ Post w (w1.setCell ⟨B, o, none⟩ (.bool (m == 1))) A S s B o [.yes] [.yes b]) ∧
      (¬ (m = 0 ∨ m = 1) → ∀ w2, Tp w2 A S1 { s1 with rest := [], bad := true } → Fr w1 w2 S1 → (∀ k, k ≠ A → w2.heap[k]? = w1.heap[k]?) → w2.cell? ⟨w.heap.size, 0, none⟩ = some (.int .i64 m) ∧ w2.frozen? ⟨B, o, none⟩ = false ∧ (∃ u, w2.cell? ⟨B, o, none⟩ = some u) ∧ Post w (w2.setCell ⟨B, o, none⟩ (.bool false)) A S s B o [.yes] [.yes b]) := by
    intro w1 Q
    obtain ⟨S1, s1, m, q1, q2, q3, q4, q5⟩ := Q.one ⟨2, rfl⟩
    refine ⟨m, S1, s1, q1, q4, fun hm => Post.put h q1 q2 q3 ⟨_, rfl⟩ (yes_ok hm hc q5), fun hm w2 g1 g2 g3 => ?_⟩
    obtain ⟨r1, r2, r3⟩ := yes_bad hm q5
    have hz := g2.size
    refine ⟨?_, Post.put h g1 (fun k hk => ?_) (q3.step g2 (fun k hk => ?_)) ⟨_, rfl⟩ (.inr ⟨r1, .inr ⟨r2, r3⟩⟩)⟩
    · have hA := h.tp.lt A h.tp.covA
      rw [World.cell?_of_block (g3 w.heap.size (by omega))]
      exact q4
    · rcases q2 k hk with q | q
      · exact .inl q
      · exact .inr ⟨q.1, by omega⟩
    · rcases q2 k hk with q | q
      · exact .inl q
      · exact .inr q.1
  have HF := Lib.hid fin
  have hc2 : (w.alloc (.cells #[.int .i64 0] 2)).cell? ⟨B, o, none⟩ = some (.bool b) := (World.cell?_of_block (Below.heap_alloc w _ B h.lt)).trans hc
  clear fin h ha h0 hlen hc
  cases b with
  | false =>
    have e0 : yesN false = 0 := rfl
    rw [e0] at hnum HF
    go_enter Try.func53, Try.ntmps53
    go_wp2_with (go_at_call 78; refine hnum.mono ?_; rintro e w1 ⟨rfl, Q⟩; refine Hid.out ?_)
    refine Lib.hid ?_
    obtain ⟨m, S1, s1, q1, cm, f1, f2⟩ := HF.out w1 Q
    by_cases hm : m = 0 ∨ m = 1
    · obtain ⟨d1, ⟨u, d2⟩, d3⟩ := f1 hm
      have HD := Lib.hid d3
      clear d3 f1 f2 Q q1
      rcases hm with rfl | rfl
      · go_wp2
        go_end0
        exact ⟨rfl, HD.out⟩
      · go_wp2
        go_end0
        exact ⟨rfl, HD.out⟩
    · have hm0 : (m != 0) = true := by simpa using fun q => hm (.inl q)
      have hm1 : (m != 1) = true := by simpa using fun q => hm (.inr q)
      have hm2 : (m == 1) = false := by simpa using fun q => hm (.inr q)
      have HF2 := Lib.hid (f2 hm)
      have hfail := fail_any q1
      clear f1 f2 Q q1 hm
      go_wp2_with (go_at_call 79; refine hfail.mono ?_; rintro e w2 ⟨rfl, g1, g2, _, g3⟩; refine Hid.out ?_)
      refine Lib.hid ?_
      obtain ⟨d0, d1, ⟨u, d2⟩, d3⟩ := HF2.out w2 g1 g2 g3
      have HD := Lib.hid d3
      clear d3 g1 g2 g3
      go_wp2
      go_end0
      exact ⟨rfl, HD.out⟩
  | true =>
    have e0 : yesN true = 1 := rfl
    rw [e0] at hnum HF
    go_enter Try.func53, Try.ntmps53
    go_wp2_with (go_at_call 78; refine hnum.mono ?_; rintro e w1 ⟨rfl, Q⟩; refine Hid.out ?_)
    refine Lib.hid ?_
    obtain ⟨m, S1, s1, q1, cm, f1, f2⟩ := HF.out w1 Q
    by_cases hm : m = 0 ∨ m = 1
    · obtain ⟨d1, ⟨u, d2⟩, d3⟩ := f1 hm
      have HD := Lib.hid d3
      clear d3 f1 f2 Q q1
      rcases hm with rfl | rfl
      · go_wp2
        go_end0
        exact ⟨rfl, HD.out⟩
      · go_wp2
        go_end0
        exact ⟨rfl, HD.out⟩
    · have hm0 : (m != 0) = true := by simpa using fun q => hm (.inl q)
      have hm1 : (m != 1) = true := by simpa using fun q => hm (.inr q)
      have hm2 : (m == 1) = false := by simpa using fun q => hm (.inr q)
      have HF2 := Lib.hid (f2 hm)
      have hfail := fail_any q1
      clear f1 f2 Q q1 hm
      go_wp2_with (go_at_call 79; refine hfail.mono ?_; rintro e w2 ⟨rfl, g1, g2, _, g3⟩; refine Hid.out ?_)
      refine Lib.hid ?_
      obtain ⟨d0, d1, ⟨u, d2⟩, d3⟩ := HF2.out w2 g1 g2 g3
      have HD := Lib.hid d3
      clear d3 g1 g2 g3
      go_wp2
      go_end0
      exact ⟨rfl, HD.out⟩
set_option maxHeartbeats 2000000 in
set_option maxRecDepth 100000 in
theorem errno_any (h : Pre w A S s B o [.num] x) : Calls Try.prog 63 #[.pointer (some ⟨A, 0, none⟩), .pointer (some ⟨B, o, none⟩)] w fun e w' => e = .returned (.tuple #[]) ∧ Post w w' A S s B o [.num] x := by
  obtain ⟨a, rfl, ha⟩ := hasS_one h.has
  obtain ⟨n, rfl, hn⟩ := has_num ha
  have hl := h.lies
  simp only [liesS, At.lies, and_true] at hl
  obtain ⟨v, hc, rfl⟩ := hl
  have hP := h.via (ty := 3)
  obtain ⟨W, hW⟩ : ∃ W, W = w.alloc (.cells #[.int .i64 n] 3) := ⟨_, rfl⟩
  have hWz : W.heap.size = w.heap.size + 1 := by rw [hW]; simp
  rw [← hW] at hP
  have hb : Below W.heap.size W (W.alloc (.cells #[.pointer (some ⟨w.heap.size, 0, none⟩)] 135)) := Below.alloc (Below.refl _ _) (Nat.le_refl _) _
  have hSl := hP.tp.lt
  have hnum := numbers_any (F := W.heap.size) (m := 1) (by omega) (by omega) (hP.on hb) (ptrs_one W w.heap.size 135) (fun q => by have := hSl _ q; omega) (by omega)
  have HFR : Hid (∀ w', Post (W.alloc (.cells #[.pointer (some ⟨w.heap.size, 0, none⟩)] 135)) w' A S s w.heap.size 0 [.num] [.num n] → ∃ m, w'.cell? ⟨w.heap.size, 0, none⟩ = some (.int .i64 m) ∧ w'.frozen? ⟨B, o, none⟩ = false ∧ (∃ u, w'.cell? ⟨B, o, none⟩ = some u) ∧ Post w (w'.setCell ⟨B, o, none⟩ (.int .i64 m)) A S s B o [.num] [.num n]) := fun w' q => by
    have q' := Post.from hb hP.lt q
    rw [hW] at q'
    exact Post.via h q'
  rw [hWz, hW] at hnum
  rw [hW] at HFR
  clear h ha hn hP hb hSl hWz hW
  go_enter Try.func63, Try.ntmps63
  go_wp2_with (go_at_call 52; refine hnum.mono ?_; rintro e w1 ⟨rfl, Q⟩; refine Hid.out ?_)
  refine Lib.hid ?_
  obtain ⟨m, d1, d2, ⟨u, d3⟩, d4⟩ := HFR.out w1 Q
  have HD := Lib.hid d4
  clear d4 Q hnum
  go_wp2
  go_end0
  exact ⟨rfl, HD.out⟩
end
end Go.Proofs.Ytjhgmncmcklnkaa
/- The walk of text. -/
namespace Go.Proofs.Ytjhgmncmcklnkaa
open Go.RowKit

section
variable {w w' w1 w2 : World} {A : Nat} {S S1 : Nat → Prop} {s s1 : TS} {B o : Nat} {t u : List Ty} {x y : List At} {rv : Value}
/-- One field is read, whatever came behind. -/
theorem Post.fin {t : Ty} {v : Value} {cs : Array Value} {ty : TypeId} (h : Pre w A S s B o [t] x) (hb : w.heap[B]? = some (.cells cs ty (0, 0))) (hT : Tp w' A S1 s1) (hG : ∀ k, S1 k → Gro S w w' k) (hF : Fr w w' (fun k => S k ∨ k = B)) (hb2 : w'.heap[B]? = some (.cells (cs.setIfInBounds o v) ty (0, 0))) (hv : t.kind v)
    (hr : s.reads = true) (hout : (∃ y r, t.has y ∧ s.rest = y.enc ++ r ∧ s1 = { s with rest := r } ∧ y.lies w' (fun k => k < w.heap.size ∨ S1 k) v) ∨ (¬ Rd [t] s.rest ∧ s1 = { s with rest := [], bad := true })) :
    Post w w' A S s B o [t] x := by
  have h2 : o + 1 ≤ cs.size := by
    obtain ⟨cs', ty', h1, h2⟩ := h.blk
    rw [hb] at h1
    simp only [Option.some.injEq, Obj.cells.injEq] at h1
    obtain ⟨rfl, rfl, _⟩ := h1
    simpa using h2
  have hcell : w'.cell? ⟨B, o, none⟩ = some v := by
    rw [cell_blk hb2]
    simp [Array.getElem?_setIfInBounds]
    omega
  refine ⟨S1, s1, hT, hG, hF, ⟨cs, _, ty, hb, hb2, by simp, by simpa using h2, fun i hi => ?_, fun q => (by rw [hr] at q; cases q), fun i hi => ?_⟩, ?_⟩
  · simp only [List.length_cons, List.length_nil] at hi
    rw [Array.getElem?_setIfInBounds_ne (by omega)]
  · have : i = 0 := by simpa using hi
    subst this
    refine ⟨v, ?_, hv⟩
    rw [cell_blk hb2] at hcell
    simpa using hcell
  · rcases hout with ⟨y, r, q1, q2, q3, q4⟩ | q
    · refine .inr (.inl ⟨hr, [y], r, by unfold hasS; exact ⟨q1, by simp [hasS]⟩, by simpa [encS] using q2, q3, ?_⟩)
      simp only [liesS, and_true]
      exact ⟨v, hcell, q4⟩
    · exact .inr (.inr ⟨hr, q⟩)
theorem Post.drewN (h : Post w w' A S s B o t x) (n : Nat) : Post w (w'.drewN n) A S s B o t x := by
  obtain ⟨S', s', h1, h2, h3, h4, h5⟩ := h
  refine ⟨S', s', h1.drew n, h2, h3.drewN n, h4, ?_⟩
  rcases h5 with q | ⟨q1, y, r, q2, q3, q4, q5⟩ | q
  · exact .inl q
  · exact .inr (.inl ⟨q1, y, r, q2, q3, q4, liesS_keeps (w := w') (w' := w'.drewN n) ⟨Nat.le_refl _, fun k _ hk => ⟨rfl, hk⟩⟩ y B o (fun _ _ _ => rfl) q5⟩)
  · exact .inr (.inr q)
theorem Post.drew (h : Post w w' A S s B o t x) : Post w w'.drew A S s B o t x := h.drewN 1
theorem txt_take (l : List UInt8) (k : Nat) : (txt l).extract 0 k = txt (l.take k) := by
  apply ba_ext
  rw [txt_list]
  simp [txt]
theorem text_no {l : List UInt8} (h : ∀ (c : Nat) (r : List UInt8), c ≤ r.length → I64 (c : Int) → l ≠ num (c : Int) ++ r) : ¬ Rd [.text] l := by
  rintro ⟨y, r, hy, e⟩
  obtain ⟨a, rfl, ha⟩ := hasS_one hy
  obtain ⟨st, rfl, hs⟩ := has_text ha
  refine h st.data.toList.length (st.data.toList ++ r) (by simp) (len_in hs) ?_
  simpa [encS, At.enc] using e
set_option maxHeartbeats 4000000 in
set_option maxRecDepth 100000 in
theorem text_any (h : Pre w A S s B o [.text] x) : Calls Try.prog 56 #[.pointer (some ⟨A, 0, none⟩), .pointer (some ⟨B, o, none⟩)] w fun e w' => e = .returned (.tuple #[]) ∧ Post w w' A S s B o [.text] x := by
  obtain ⟨a, rfl, ha⟩ := hasS_one h.has
  obtain ⟨str, rfl, hst⟩ := has_text ha
  have hl := h.lies
  simp only [liesS, At.lies, and_true] at hl
  obtain ⟨v, hc, rfl⟩ := hl
  have hB := h.lt
  have hlen : s.reads = false → s.wr.length + ((num (str.data.toList.length : Int)).length + str.data.toList.length) ≤ 1000000000 := fun q => by
    have hlen := h.lenW q
    simpa only [encS, At.enc, List.append_nil, List.length_append] using hlen
  have h0 : s.reads = true → ((str.data.toList.length : Nat) : Int) = 0 := fun q => by
    have e := (h.zero q).1
    simp only [zeroS, List.map_cons, List.map_nil, Ty.zero, List.cons.injEq, At.text.injEq, and_true] at e
    rw [e]
    rfl
  have hcnt := count_any (h.num (len_in hst) h0 (fun q => (by have := hlen q; omega)) (ty := 3))
  obtain ⟨n, hn⟩ : ∃ n : Nat, str.data.toList.length = n := ⟨_, rfl⟩
  have hsn : str.size = n := by rw [← hn, Array.length_toList]; rfl
  rw [hn] at hcnt hlen
  have HH := Lib.hid h
  have HNN := Lib.hid hn
  clear h ha hst h0 hn
  go_enter Try.func56, Try.ntmps56
  go_wp2_with (go_at_call 80; refine hcnt.mono ?_; rintro e w1 ⟨rfl, Q⟩; refine Hid.out ?_)
  refine Lib.hid ?_
  obtain ⟨S1, s1, m, q1, q2, q3, cm, q5⟩ := Q
  have hF := q3.fresh1
  have hG := Gro.fresh1 q2
  clear q2 q3
  obtain ⟨rv, hT⟩ := q1
  have t0 : w1.cell? ⟨A, 0, none⟩ = some (.bool s1.reads) := cell_blk hT.ob 0
  have t1 : w1.cell? ⟨A, 1, none⟩ = some rv := cell_blk hT.ob 1
  have t2 : w1.cell? ⟨A, 2, none⟩ = some (.string (txt s1.rest)) := cell_blk hT.ob 2
  have hc1 : w1.cell? ⟨B, o, none⟩ = some (.string str) := (World.cell?_of_block (hF.block B hB HH.out.nB)).trans hc
  rcases q5 with ⟨r1, r2, r3⟩ | r5
  · have hr1 : s1.reads = false := by rw [r3]; exact r1
    rw [hr1] at t0
    have hw1 : s1.wr.length + str.size ≤ 2000000000 := by have := hlen r1; rw [r3, hsn]; simp only [List.length_append]; omega
    have hTd : Tv w1.drew A S1 s1 rv := ⟨hT.ob, hT.row, hT.cov, hT.covA, hT.lt⟩
    obtain ⟨v2, w2, hrun, g1, g2, g3, g4⟩ := hTd.pushS str hw1
    obtain ⟨N, hN⟩ : ∃ N, (s1.wr ++ str.data.toList).length = N := ⟨_, rfl⟩
    obtain ⟨ad2, cap2, rfl⟩ := own_shape g1
    obtain ⟨k1, k2, k3⟩ := hTd.kept g1 g2 g3 g4
    have hstep : Tt w (w2.setCell ⟨A, 1, none⟩ (.slice ad2 _ cap2)) A S _ := Tt.comb hG hF ⟨_, ⟨_, k1⟩, k3, ⟨k2.os, k2.tape, k2.output, k2.size, k2.block⟩⟩
    have e5 : ({ s1 with wr := s1.wr ++ str.data.toList } : TS) = { s with wr := s.wr ++ encS [.text str] } := by
      rw [r3]
      simp [encS, At.enc, HNN.out]
    rw [e5] at hstep
    have hpost := Post.wrote HH.out r1 hstep
    rw [hN] at hrun hpost
    have d1 : w2.cell? ⟨A, 1, none⟩ = some rv := cell_blk g4 1
    have f1 : w2.frozen? ⟨A, 1, none⟩ = false := frozen_blk g4 1
    have HP := Lib.hid hpost
    clear hpost hstep k1 k2 k3 g1 g2 g3 g4 hTd hT e5 hN hF hG r3 hw1 hr1 hcnt
    go_wp2
    go_region_law (refine step_run (.tmp 37) (.tmp 40) rfl rfl rfl (by simp [Act.eval]) (by simp [Act.eval]) hrun ?_)
    all_goals
      go_wp2
      go_end0
      exact ⟨rfl, HP.out⟩
  · have hr : s.reads = true := by rcases r5 with ⟨q, _⟩ | ⟨q, _⟩ <;> exact q
    have hr1 : s1.reads = true := by rcases r5 with ⟨_, c, r, _, _, _, q⟩ | ⟨_, _, _, q⟩ <;> rw [q] <;> exact hr
    rw [hr1] at t0
    -- how many bytes there are
    obtain ⟨c, hmc, hcl⟩ : ∃ c : Nat, m = c ∧ c ≤ s1.rest.length := by
      rcases r5 with ⟨_, c, r, q1, q2, _, q⟩ | ⟨_, q1, _, q⟩
      · exact ⟨c, q1, by rw [q]; exact q2⟩
      · exact ⟨0, by rw [q1]; rfl, Nat.zero_le _⟩
    subst hmc
    have hR1 : s1.rest.length ≤ 1000000000 := by
      have := HH.out.lenR
      rcases r5 with ⟨_, c, r, q1, q2, q3, q⟩ | ⟨_, q1, _, q⟩
      · rw [q]
        rw [q3, List.length_append] at this
        show r.length ≤ _
        omega
      · rw [q]; simp
    obtain ⟨E, hE⟩ : ∃ E, txt (s1.rest.take c) = E := ⟨_, rfl⟩
    obtain ⟨D, hD⟩ : ∃ D, txt (s1.rest.drop c) = D := ⟨_, rfl⟩
    obtain ⟨st, hst⟩ : ∃ st, txt s1.rest = st := ⟨_, rfl⟩
    obtain ⟨L, hL⟩ : ∃ L, s1.rest.length = L := ⟨_, rfl⟩
    have hsz : st.size = L := by rw [← hst, txt_size, hL]
    have eE : st.extract 0 c = E := by rw [← hst, txt_take, hE]
    have eD : st.extract c L = D := by rw [← hst, ← hL, ← txt_size, txt_drop, hD]
    have hEs : E.size ≤ 281474976710656 := by rw [← hE, txt_size, List.length_take]; omega
    rw [hst] at t2
    rw [hL] at hcl hR1
    obtain ⟨cs, ty, hb0, hs0⟩ := HH.out.blk
    have hb1 : w1.heap[B]? = some (.cells cs ty (0, 0)) := (hF.block B hB HH.out.nB).trans hb0
    have nB1 : ¬ S1 B := fun q => by
      rcases hG B q with q | q
      · exact HH.out.nB q
      · omega
    have nBA : A ≠ B := fun e => nB1 (e ▸ hT.covA)
    have hclo : ∀ k, Calls Try.prog 81 #[.string E] (w1.drewN k) fun e w2 => e = .returned (.string E) ∧ w2.cell? ⟨B, o, none⟩ = some (.string str) ∧ w2.frozen? ⟨B, o, none⟩ = false ∧ Hid (Fr w1 (w2.setCell ⟨B, o, none⟩ (.string E)) (fun k => k = B) ∧ (w2.setCell ⟨B, o, none⟩ (.string E)).heap[B]? = some (.cells (cs.setIfInBounds o (.string E)) ty (0, 0))) := by
      intro k
      refine (clone_any E (w1.drewN k) hEs).mono ?_
      rintro e w2 ⟨rfl, hbb⟩
      have hBb : w2.heap[B]? = some (.cells cs ty (0, 0)) := (hbb.block B (blk_lt hb1)).trans hb1
      refine ⟨rfl, (World.cell?_of_block (hBb.trans hb1.symm)).trans hc1, frozen_blk hBb o, ?_, set_blk (i := o) hBb _⟩
      have hf : Fr w1 w2 (fun k => k = B) := ⟨hbb.os, hbb.tape, hbb.output, hbb.size, fun k hk _ => hbb.block k hk⟩
      exact hf.set (a := ⟨B, o, none⟩) (.inl rfl) _
    have HT := Lib.hid hT
    have HFF := Lib.hid hF
    have HGG := Lib.hid hG
    have H5 := Lib.hid r5
    have HB0 := Lib.hid hb0
    have HNB := Lib.hid nB1
    have HED := Lib.hid hD
    have HEE := Lib.hid hE
    have HRR := Lib.hid hr
    clear hb1 hb0 hT hF hG r5 hs0 nB1 hr hr1 hD hE hEs hL hst hcnt
    go_wp2
    go_cut [] (fun wx => Fr w1 wx (fun k => k = B) ∧ wx.heap[B]? = some (.cells (cs.setIfInBounds o (.string E)) ty (0, 0)))
    case first =>
      go_region_with (go_at_call 81; refine (hclo _).mono ?_; rintro e w2 ⟨rfl, k1, k2, k3⟩)
      all_goals
        go_wp2_with fail
        go_meet
        exact k3.out
    case rest =>
      obtain ⟨F2, B2⟩ := hcut
      have hT := HT.out
      have hAlt : A < w1.heap.size := hT.lt A hT.covA
      have hA2 : wc.heap[A]? = some (.cells (tpC s1 rv) 132 (0, 0)) := (F2.block A hAlt nBA).trans hT.ob
      have hT2 : Tv wc A S1 s1 rv := hT.like (fun k hk => F2.block k (hT.lt k hk) (fun e => HNB.out (e ▸ hk))) F2.size
      have u2 : wc.cell? ⟨A, 2, none⟩ = some (.string st) := by
        rw [cell_blk hA2, ← cell_blk hT.ob]
        exact t2
      have f2 : wc.frozen? ⟨A, 2, none⟩ = false := frozen_blk hA2 2
      have hNlt : w.heap.size < w1.heap.size := by
        have : ∃ o, w1.heap[w.heap.size]? = some o := by
          rcases hq : w1.heap[w.heap.size]? with _ | o
          · simp [World.cell?, hq] at cm
          · exact ⟨o, rfl⟩
        obtain ⟨ob, hob⟩ := this
        exact blk_lt hob
      have un : wc.cell? ⟨w.heap.size, 0, none⟩ = some (.int .i64 c) := (World.cell?_of_block (F2.block _ hNlt (fun e => by have e' : w.heap.size = B := e; omega))).trans cm
      have hGot := hT2.rest (s1.rest.drop c)
      rw [HED.out] at hGot
      have hpost : Post w (wc.setCell ⟨A, 2, none⟩ (.string D)) A S s B o [.text] [.text str] := by
        obtain ⟨z1, z2, z3, z4, _⟩ := hGot
        have hF := HFF.out
        have hG := HGG.out
        have hzz := F2.size
        have hz1 := hF.size
        refine Post.fin HH.out HB0.out z1 (fun k hk => ?_) ?_ ((z4 B nBA.symm).trans B2) ⟨_, rfl⟩ HRR.out ?_
        · rcases hG k hk with q | q
          · exact .inl q
          · exact .inr ⟨q.1, by omega⟩
        · refine ((hF.mono (fun _ q => .inl q)).step F2 (fun k hk => .inl (.inr hk))).step z2 (fun k hk => ?_)
          rcases hG k hk with q | q
          · exact .inl (.inl q)
          · exact .inr q.1
        · rcases H5.out with ⟨_, c', r, q1, q2, q3, q⟩ | ⟨_, q1, q2, q⟩
          · have ec : c = c' := by omega
            subst ec
            refine .inl ⟨.text E, r.drop c, ?_, ?_, ?_, by simp only [At.lies]⟩
            · simp only [Ty.has]
              rw [← HEE.out, txt_list, q, List.length_take]
              show min c r.length ≤ _
              have := HH.out.lenR
              rw [q3, List.length_append] at this
              omega
            · simp only [At.enc]
              rw [← HEE.out, txt_list, q]
              show s.rest = num _ ++ List.take c r ++ List.drop c r
              rw [List.length_take, Nat.min_eq_left q2, List.append_assoc, List.take_append_drop]
              exact q3
            · rw [q]
          · refine .inr ⟨text_no q2, ?_⟩
            rw [q]
            simp
      have HP := Lib.hid hpost
      clear hpost hGot hT hT2 hA2 B2 F2 hNlt
      go_wp2
      go_region
      all_goals
        go_wp2
        refine bodyPost_ret (results_none rfl _ _ _) rfl ?_
        exact ⟨rfl, HP.out.drew⟩
end
end Go.Proofs.Ytjhgmncmcklnkaa
