/- Plain: what a diary keeps, wherever the power goes. -/
import Derived.Test.YtoipmpaebngppaaEk
namespace Go.Proofs.Ytoipmpaebngppaa
open Go.RowKit Go.Maps

/-- There is the one file at most, with these bytes, of which so many are safe. -/
def Fil (F : List Fl) (D : ByteArray) (c : Nat) : Prop := (F = [] ∧ D = ⟨#[]⟩ ∧ c = 0) ∨ F = [⟨nF, D, c⟩]
theorem Fil.old {F : List Fl} {D : ByteArray} {c : Nat} (h : Fil F D c) : oldF F nF = ⟨nF, D, c⟩ := by
  rcases h with ⟨rfl, rfl, rfl⟩ | rfl <;> rfl
theorem Fil.app {F : List Fl} {D : ByteArray} {c : Nat} (h : Fil F D c) (d : ByteArray) : appF F nF d = [⟨nF, D ++ d, c⟩] := by
  rcases h with ⟨rfl, rfl, rfl⟩ | rfl <;> rfl
theorem Fil.swp {F : List Fl} {D : ByteArray} {c : Nat} (h : Fil F D c) (d : ByteArray) : swpF F nF d = [⟨nF, d, d.size⟩] := by
  rcases h with ⟨rfl, rfl, rfl⟩ | rfl <;> rfl
theorem syn_one (D : ByteArray) (c : Nat) : synF [⟨nF, D, c⟩] nF = [⟨nF, D, D.size⟩] := rfl
theorem Fil.crash {F : List Fl} {D : ByteArray} {c : Nat} (h : Fil F D c) (hc : c ≤ D.size) (keep : List Int) : ∃ c', c ≤ c' ∧ c' ≤ D.size ∧ Fil (crashF F keep) (D.extract 0 c') c' := by
  rcases h with ⟨rfl, rfl, rfl⟩ | rfl
  · exact ⟨0, Nat.le_refl _, Nat.le_refl _, .inl ⟨by cases keep <;> rfl, rfl, rfl⟩⟩
  · have hk : ∀ k : Int, c ≤ keptN ⟨nF, D, c⟩ k ∧ keptN ⟨nF, D, c⟩ k ≤ D.size := by
      intro k
      unfold keptN
      show c ≤ c + (min k ((D.size : Int) - c)).toNat ∧ c + (min k ((D.size : Int) - c)).toNat ≤ D.size
      omega
    cases keep with
    | nil => exact ⟨_, (hk 0).1, (hk 0).2, .inr rfl⟩
    | cons k ks => exact ⟨_, (hk k).1, (hk k).2, .inr rfl⟩

/-- What is put, how much of it is sure, and the drive. -/
structure Kp (s : Ds) (put : List ByteArray) (sure : Nat) : Prop where
  small : ∀ p ∈ put, p.size ≤ 65536
  le : sure ≤ put.length
  file : ∃ D c, Fil s.F D c ∧ D.data.toList <+: recs (lists put) ∧ ends (lists put) sure ≤ c ∧ c ≤ D.size ∧ (s.down = false → D = recsB put ∧ c = D.size ∧ sure = put.length)
theorem pre_same (put : List ByteArray) {D : ByteArray} (h : D = recsB put) : D.data.toList <+: recs (lists put) := by
  rw [h, recsB_list]
  exact List.prefix_refl _
theorem ends_recsB (put : List ByteArray) : ends (lists put) put.length = (recsB put).size := by
  have := ends_all (lists put)
  rw [show (lists put).length = put.length by simp [lists]] at this
  rw [this, ← recsB_list, len_size]
theorem Kp.start : Kp ⟨[], 0, false⟩ [] 0 :=
  ⟨fun p h => (by cases h), Nat.le_refl _, ⟨#[]⟩, 0, .inl ⟨rfl, rfl, rfl⟩, pre_same [] rfl, Nat.le_refl _, Nat.le_refl _, fun _ => ⟨rfl, rfl, rfl⟩⟩
theorem Kp.size {s : Ds} {put : List ByteArray} {sure : Nat} (h : Kp s put sure) : (oldF s.F nF).data.size ≤ sumS put := by
  obtain ⟨D, c, hf, hp, _⟩ := h.file
  rw [hf.old]
  have := hp.length_le
  rw [len_size, ← recsB_list, len_size] at this
  exact this
theorem ends_append (a b : List ByteArray) (k : Nat) (h : k ≤ a.length) : ends (lists (a ++ b)) k = ends (lists a) k := by
  unfold ends
  have e : (lists (a ++ b)).take k = (lists a).take k := by
    rw [show lists (a ++ b) = lists a ++ lists b by simp [lists], List.take_append_of_le_length (by simpa [lists] using h)]
  rw [e]
theorem pre_append {a : List ByteArray} {D : List UInt8} (h : D <+: recs (lists a)) (b : List ByteArray) : D <+: recs (lists (a ++ b)) := by
  rw [show lists (a ++ b) = lists a ++ lists b by simp [lists], recs_append]
  exact h.trans (List.prefix_append _ _)
theorem small_append {a b : List ByteArray} (ha : ∀ p ∈ a, p.size ≤ 65536) (hb : bigL b = false) : ∀ p ∈ a ++ b, p.size ≤ 65536 := by
  intro p hp
  rcases List.mem_append.1 hp with q | q
  · exact ha p q
  · exact small_of hb p q
/-- All is safe. -/
theorem Kp.sure {F : List Fl} {left : Int} {down : Bool} {put : List ByteArray} {D : ByteArray} {c : Nat} (hs : ∀ p ∈ put, p.size ≤ 65536) (hf : Fil F D c) (hD : D = recsB put) (hc : c = D.size) : Kp ⟨F, left, down⟩ put put.length := by
  refine ⟨hs, Nat.le_refl _, D, c, hf, pre_same put hD, ?_, Nat.le_of_eq hc, fun _ => ⟨hD, hc, rfl⟩⟩
  rw [ends_recsB, hc, hD]
  exact Nat.le_refl _
/-- More is put, that may be lost. -/
theorem Kp.wider {s : Ds} {put : List ByteArray} {sure : Nat} (h : Kp s put sure) (hd : s.down = true) {L : List ByteArray} (hb : bigL L = false) : Kp s (put ++ L) sure := by
  obtain ⟨D, c, hf, hp, he, hc, _⟩ := h.file
  refine ⟨small_append h.small hb, ?_, D, c, hf, pre_append hp L, ?_, hc, fun q => by rw [hd] at q; cases q⟩
  · have := h.le
    rw [List.length_append]
    omega
  · rw [ends_append put L sure h.le]
    exact he
theorem Kp.off {s s' : Ds} {put : List ByteArray} {sure : Nat} (h : Kp s put sure) (hF : s'.F = s.F) (hd : s'.down = true) : Kp s' put sure := by
  obtain ⟨D, c, hf, hp, he, hc, _⟩ := h.file
  exact ⟨h.small, h.le, D, c, by rw [hF]; exact hf, hp, he, hc, fun q => by rw [hd] at q; cases q⟩
theorem Kp.same {s s' : Ds} {put : List ByteArray} {sure : Nat} (h : Kp s put sure) (hF : s'.F = s.F) (hd : s'.down = s.down) : Kp s' put sure := by
  obtain ⟨D, c, hf, hp, he, hc, hu⟩ := h.file
  exact ⟨h.small, h.le, D, c, by rw [hF]; exact hf, hp, he, hc, fun q => hu (by rw [← hd]; exact q)⟩
theorem Kp.arm {s : Ds} {put : List ByteArray} {sure : Nat} (h : Kp s put sure) (m : Int) : Kp (s.arm m) put sure := by
  refine h.same ?_ ?_
  · unfold Ds.arm
    split <;> rfl
  · unfold Ds.arm
    split
    · rfl
    · rename_i q
      simpa using q
theorem Kp.append {s : Ds} {put : List ByteArray} {sure : Nat} (h : Kp s put sure) {L : List ByteArray} (hb : bigL L = false) :
    ((s.dApp nF L).1.down = false → (s.dApp nF L).2 = 0 ∧ Kp (s.dApp nF L).1 (put ++ L) (put ++ L).length) ∧
    ((s.dApp nF L).1.down = true → ((s.dApp nF L).2 = 0 ∨ (s.dApp nF L).2 = 50) ∧ Kp (s.dApp nF L).1 (put ++ L) sure ∧ (s.down = true → Kp (s.dApp nF L).1 put sure) ∧ (s.down = false → put.length = sure)) := by
  obtain ⟨F, left, down⟩ := s
  have hfile := h.file
  obtain ⟨D, c, hf, hp, he, hc, hu⟩ := hfile
  have hf' : Fil F D c := hf
  by_cases h0 : L.length = 0
  · have hL : L = [] := List.length_eq_zero_iff.1 h0
    subst hL
    have e1 : Ds.dApp ⟨F, left, down⟩ nF [] = (⟨F, left, down⟩, 0) := rfl
    rw [e1, List.append_nil]
    refine ⟨fun q => ⟨rfl, ?_⟩, fun q => ⟨.inl rfl, h, fun _ => h, fun q2 => ?_⟩⟩
    · obtain ⟨a, b, e⟩ := hu q
      rw [← e]
      exact h
    · have q' : down = true := q
      have q2' : down = false := q2
      rw [q'] at q2'
      cases q2'
  · cases down with
    | true =>
      have e1 : Ds.dApp ⟨F, left, true⟩ nF L = (⟨F, left, true⟩, 50) := by simp [Ds.dApp, hb, h0, Ds.app]
      rw [e1]
      exact ⟨fun q => (by cases q), fun _ => ⟨.inr rfl, h.wider rfl hb, fun _ => h, fun q => (by cases q)⟩⟩
    | false =>
      obtain ⟨hD, hcD, hsure⟩ := hu rfl
      have hDL : D ++ recsB L = recsB (put ++ L) := by rw [hD, recsB_append]
      have ea : Ds.app ⟨F, left, false⟩ nF (recsB L) = ⟨[⟨nF, recsB (put ++ L), c⟩], leftB left, downB left false⟩ := by
        show (⟨appF F nF (recsB L), leftB left, downB left false⟩ : Ds) = _
        rw [hf'.app, hDL]
      have hnot : ∀ (l : Int), Kp ⟨[⟨nF, recsB (put ++ L), c⟩], l, true⟩ (put ++ L) sure := by
        intro l
        refine ⟨small_append h.small hb, ?_, _, c, .inr rfl, pre_same _ rfl, ?_, ?_, fun q => by cases q⟩
        · have := h.le
          rw [List.length_append]
          omega
        · rw [ends_append put L sure h.le]
          exact he
        · rw [← hDL, ByteArray.size_append]
          omega
      cases h1 : downB left false with
      | true =>
        have e1 : Ds.dApp ⟨F, left, false⟩ nF L = (⟨[⟨nF, recsB (put ++ L), c⟩], leftB left, true⟩, 50) := by simp [Ds.dApp, hb, h0, ea, h1]
        rw [e1]
        exact ⟨fun q => (by cases q), fun _ => ⟨.inr rfl, hnot _, fun q => (by cases q), fun _ => hsure.symm⟩⟩
      | false =>
        cases h2 : downB (leftB left) false with
        | true =>
          have e1 : Ds.dApp ⟨F, left, false⟩ nF L = (⟨[⟨nF, recsB (put ++ L), c⟩], leftB (leftB left), true⟩, 50) := by simp [Ds.dApp, hb, h0, ea, h1, Ds.syn, h2, Ds.code, pw]
          rw [e1]
          exact ⟨fun q => (by cases q), fun _ => ⟨.inr rfl, hnot _, fun q => (by cases q), fun _ => hsure.symm⟩⟩
        | false =>
          have e1 : Ds.dApp ⟨F, left, false⟩ nF L = (⟨[⟨nF, recsB (put ++ L), (recsB (put ++ L)).size⟩], leftB (leftB left), false⟩, 0) := by simp [Ds.dApp, hb, h0, ea, h1, Ds.syn, h2, Ds.code, pw, syn_one]
          rw [e1]
          exact ⟨fun _ => ⟨rfl, Kp.sure (small_append h.small hb) (.inr rfl) rfl rfl⟩, fun q => (by cases q)⟩
theorem Kp.rewrite {s : Ds} {put : List ByteArray} {sure : Nat} (h : Kp s put sure) (L : List ByteArray) :
    ((s.dRew nF L).2 = 0 ∧ Kp (s.dRew nF L).1 L L.length) ∨ ((s.dRew nF L).2 ≠ 0 ∧ Kp (s.dRew nF L).1 put sure) := by
  cases hb : bigL L with
  | true =>
    have e1 : s.dRew nF L = (s, 30) := by simp [Ds.dRew, hb]
    rw [e1]
    exact .inr ⟨show (30 : Int) ≠ 0 by decide, h⟩
  | false =>
    have e1 : s.dRew nF L = (s.swp nF (recsB L), (s.swp nF (recsB L)).code) := by simp [Ds.dRew, hb]
    rw [e1]
    obtain ⟨F, left, down⟩ := s
    obtain ⟨D, c, hf, _⟩ := h.file
    have hf' : Fil F D c := hf
    cases down with
    | true => exact .inr ⟨show (50 : Int) ≠ 0 by decide, h⟩
    | false =>
      cases h1 : downB left false with
      | true =>
        have e2 : Ds.swp ⟨F, left, false⟩ nF (recsB L) = ⟨F, leftB left, true⟩ := by simp [Ds.swp, h1]
        rw [e2]
        exact .inr ⟨show (50 : Int) ≠ 0 by decide, h.off rfl rfl⟩
      | false =>
        have e2 : Ds.swp ⟨F, left, false⟩ nF (recsB L) = ⟨[⟨nF, recsB L, (recsB L).size⟩], leftB left, false⟩ := by
          simp only [Ds.swp, h1, Bool.false_eq_true, if_false]
          rw [hf'.swp]
        rw [e2]
        exact .inl ⟨rfl, Kp.sure (small_of hb) (.inr rfl) rfl rfl⟩
/-- Where a cut lies. -/
theorem cut_at (ps : List (List UInt8)) (c : Nat) : ∀ m a : Nat, ps.length - a = m → a ≤ ps.length → ends ps a ≤ c → ∃ j, a ≤ j ∧ j ≤ ps.length ∧ ends ps j ≤ c ∧ (j = ps.length ∨ (j < ps.length ∧ c < ends ps (j + 1)))
  | 0, a, hm, ha, h => ⟨a, Nat.le_refl _, ha, h, .inl (by omega)⟩
  | m + 1, a, hm, ha, h => by
    by_cases hc : c < ends ps (a + 1)
    · exact ⟨a, Nat.le_refl _, ha, h, .inr ⟨by omega, hc⟩⟩
    · obtain ⟨j, h1, h2, h3, h4⟩ := cut_at ps c m (a + 1) (by omega) (by omega) (by omega)
      exact ⟨j, by omega, h2, h3, h4⟩
theorem lists_take (put : List ByteArray) (j : Nat) : lists (put.take j) = (lists put).take j := by simp [lists]
theorem Kp.crash {s : Ds} {put : List ByteArray} {sure : Nat} (h : Kp s put sure) (keep : List Int) {ps : List ByteArray} {k : Nat} (hsc : Scans ((s.crash keep).text nF).data.toList (lists ps) k) :
    ((s.crash keep).dOpn nF k).down = false ∧ (∃ j, sure ≤ j ∧ j ≤ put.length ∧ ps = put.take j) ∧ Kp ((s.crash keep).dOpn nF k) ps ps.length := by
  obtain ⟨D, c, hf, hp, he, hc, _⟩ := h.file
  obtain ⟨c', hc1, hc2, hf'⟩ := hf.crash hc keep
  have et : (s.crash keep).text nF = D.extract 0 c' := by
    show (oldF (crashF s.F keep) nF).data = _
    rw [hf'.old]
  have hts : (D.extract 0 c').size = c' := by rw [ext_size _ _ _ hc2]; omega
  have hDt : D.data.toList = (recs (lists put)).take D.size := by
    obtain ⟨r, hr⟩ := hp
    rw [← hr, List.take_append_of_le_length (by rw [len_size]; exact Nat.le_refl _), List.take_of_length_le (by rw [len_size]; exact Nat.le_refl _)]
  have htl : (D.extract 0 c').data.toList = (recs (lists put)).take c' := by
    rw [ext_list, List.drop_zero, hDt, List.take_take]
    congr 1
    omega
  have hln : (lists put).length = put.length := by simp [lists]
  obtain ⟨j, h1, h2, h3, h4⟩ := cut_at (lists put) c' _ sure rfl (by rw [hln]; exact h.le) (Nat.le_trans he hc1)
  have hsm : ∀ p ∈ lists put, p.length ≤ 65536 := by
    intro q hq
    obtain ⟨p, hp, rfl⟩ := List.mem_map.1 hq
    rw [len_size]
    exact h.small p hp
  have hcut := scans_cut (lists put) c' j hsm h2 h3 h4
  rw [et, htl] at hsc
  obtain ⟨e1, e2⟩ := scans_one hsc hcut
  rw [← lists_take] at e1
  have e3 := lists_inj e1
  subst e3
  rw [hln] at h2
  have hsm' : ∀ p ∈ put.take j, p.size ≤ 65536 := fun p hp => h.small p (List.mem_of_mem_take hp)
  have hrk : (recs (lists put)).take k = recs (lists (put.take j)) := by
    rw [e2, lists_take]
    unfold ends
    have e4 : recs (lists put) = recs ((lists put).take j) ++ recs ((lists put).drop j) := by rw [← recs_append, List.take_append_drop]
    rw [e4, List.take_append_of_le_length (Nat.le_refl _), List.take_of_length_le (Nat.le_refl _)]
  by_cases hkc : k < c'
  · have eo : (s.crash keep).dOpn nF k = ⟨[⟨nF, (D.extract 0 c').extract 0 k, ((D.extract 0 c').extract 0 k).size⟩], 0, false⟩ := by
      rw [opn_cut (by rw [et, hts]; exact hkc), et]
      show (⟨swpF (crashF s.F keep) nF _, 0, false⟩ : Ds) = _
      rw [hf'.swp]
    rw [eo]
    refine ⟨rfl, ⟨j, h1, h2, rfl⟩, Kp.sure hsm' (.inr rfl) ?_ rfl⟩
    apply same_bytes
    rw [ext_list, List.drop_zero, htl, List.take_take, recsB_list, ← hrk]
    congr 1
    omega
  · have hk' : k = c' := by omega
    have eo : (s.crash keep).dOpn nF k = s.crash keep := opn_all (by rw [et, hts]; exact hkc)
    rw [eo]
    refine ⟨rfl, ⟨j, h1, h2, rfl⟩, Kp.sure hsm' hf' ?_ hts.symm⟩
    apply same_bytes
    rw [htl, recsB_list, ← hrk, hk']
end Go.Proofs.Ytoipmpaebngppaa
