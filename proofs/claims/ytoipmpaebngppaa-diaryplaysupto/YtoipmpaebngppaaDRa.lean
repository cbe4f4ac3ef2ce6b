/- The document's drive in memory; the walks of Stands, begin and at. -/
import Derived.Test.YtoipmpaebngppaaDLa
import Derived.Deep.QuietTactic
import Derived.BigQuiet
namespace Go.Proofs.Ytoipmpaebngppaa
open Go.RowKit Go.Maps

theorem below_drewN {B : Nat} {w w' : World} (h : Below B w w') (k : Nat) : Below B w (w'.drewN k) := ⟨h.os, h.tape, h.output, h.size, h.block⟩
theorem cb_end1 (a b : List UInt8) (h : a = []) (h2 : b ≠ []) : Lib.compareBytes a b = -1 := by
  subst h
  cases b with
  | nil => exact absurd rfl h2
  | cons x y => rfl
theorem cb_end2 (a b : List UInt8) (h : b = []) (h2 : a ≠ []) : Lib.compareBytes a b = 1 := by
  subst h
  cases a with
  | nil => exact absurd rfl h2
  | cons x y => rfl
theorem drop_atS (s : ByteArray) (k : Nat) (h : k < s.size) : s.data.toList.drop k = s[k] :: s.data.toList.drop (k + 1) := by
  rw [List.drop_eq_getElem_cons (by simpa using h)]; rfl
theorem drop_nil (s : ByteArray) (k : Nat) (h : ¬ k < s.size) : s.data.toList.drop k = [] := List.drop_eq_nil_of_le (by simp; omega)
theorem drop_ne (s : ByteArray) (k : Nat) (h : k < s.size) : s.data.toList.drop k ≠ [] := by rw [drop_atS s k h]; exact List.cons_ne_nil _ _

set_option maxHeartbeats 1000000 in
set_option maxRecDepth 100000 in
theorem stands_any (a b : ByteArray) (w : World) (ha : a.size ≤ maxLen) (hb : b.size ≤ maxLen) :
    Calls Try.prog 52 #[.string a, .string b] w fun e w' => e = .returned (.int .i64 (Lib.compareBytes a.data.toList b.data.toList)) ∧ Below w.heap.size w w' := by
  unfold maxLen at ha hb
  go_enter Try.func52, Try.ntmps52
  go_wp2
  go_loopw [5] (fun i wr => ∃ k : Nat, k ≤ a.size ∧ k ≤ b.size ∧ i = .int .i64 k ∧ Hid (Lib.compareBytes (a.data.toList.drop k) (b.data.toList.drop k) = Lib.compareBytes a.data.toList b.data.toList) ∧ Below w.heap.size w wr) (fun i _ => a.size - (intOf i).toNat)
  case atStart => exact ⟨0, by omega, by omega, rfl, rfl, Below.refl _ _⟩
  case round =>
    obtain ⟨k, hka, hkb, rfl, H, hw⟩ := hrel
    by_cases h1 : k < a.size
    · by_cases h2 : k < b.size
      · have e1 := drop_atS a k h1
        have e2 := drop_atS b k h2
        by_cases c1 : (a[k].toNat : Int) < (b[k].toNat : Int)
        · have HR : Hid (Lib.compareBytes a.data.toList b.data.toList = -1) := by
            have h := H.out
            rw [e1, e2, Lib.compareBytes, if_pos (UInt8.lt_iff_toNat_lt.2 (by omega))] at h
            exact h.symm
          clear e1 e2 H
          go_wp2
          go_quiet (fail)
          go_wp2
          go_ret
          rw [HR.out]
          exact ⟨rfl, below_drewN hw _⟩
        · by_cases c2 : (b[k].toNat : Int) < (a[k].toNat : Int)
          · have HR : Hid (Lib.compareBytes a.data.toList b.data.toList = 1) := by
              have h := H.out
              rw [e1, e2, Lib.compareBytes, if_neg (by rw [UInt8.lt_iff_toNat_lt]; omega), if_pos (UInt8.lt_iff_toNat_lt.2 (by omega))] at h
              exact h.symm
            clear e1 e2 H
            go_wp2
            go_quiet (fail)
            go_wp2
            go_quiet (fail)
            go_wp2
            go_ret
            rw [HR.out]
            exact ⟨rfl, below_drewN (below_drewN hw _) _⟩
          · have HR : Hid (Lib.compareBytes (a.data.toList.drop (k + 1)) (b.data.toList.drop (k + 1)) = Lib.compareBytes a.data.toList b.data.toList) := by
              have h := H.out
              rw [e1, e2, Lib.compareBytes, if_neg (by rw [UInt8.lt_iff_toNat_lt]; omega), if_neg (by rw [UInt8.lt_iff_toNat_lt]; omega)] at h
              exact h
            clear e1 e2 H
            go_wp2
            go_quiet (fail)
            go_wp2
            go_quiet (fail)
            go_wp2
            exact ⟨⟨k + 1, by omega, by omega, by go_num, HR, below_drewN hw _⟩, by simp [intOf]; omega⟩
      · have HR : Hid (Lib.compareBytes a.data.toList b.data.toList = 1) := by
          have h := H.out
          rw [cb_end2 _ _ (drop_nil b k h2) (drop_ne a k h1)] at h
          exact h.symm
        clear H
        go_wp2
        go_ret
        rw [HR.out]
        exact ⟨rfl, hw⟩
    · by_cases h2 : k < b.size
      · have HR : Hid (Lib.compareBytes a.data.toList b.data.toList = -1) := by
          have h := H.out
          rw [cb_end1 _ _ (drop_nil a k h1) (drop_ne b k h2)] at h
          exact h.symm
        clear H
        go_wp2
        go_ret
        rw [HR.out]
        exact ⟨rfl, hw⟩
      · have HR : Hid (Lib.compareBytes a.data.toList b.data.toList = 0) := by
          have h := H.out
          rw [drop_nil a k h1, drop_nil b k h2] at h
          exact h.symm
        clear H
        go_wp2
        go_ret
        rw [HR.out]
        exact ⟨rfl, hw⟩

theorem two_boxes (w : World) (o1 o2 : Obj) : Below w.heap.size w ((w.alloc o1).alloc o2) := ((Below.refl _ w).alloc (Nat.le_refl _) _).alloc (by simp) _

def flat3 (F : List Fl) : List Value := F.flatMap fun f => [.string f.name, .string f.data, .int .i64 f.safe]
theorem flat3_len (F : List Fl) : (flat3 F).length = F.length * 3 := by
  induction F with
  | nil => rfl
  | cons t F ih => simp [flat3] at *; omega
theorem flat3_append (a b : List Fl) : flat3 (a ++ b) = flat3 a ++ flat3 b := by simp [flat3]
theorem flat3_get (F : List Fl) : ∀ (k : Nat) (h : k < F.length), (flat3 F)[k * 3]? = some (.string F[k].name) ∧ (flat3 F)[k * 3 + 1]? = some (.string F[k].data) ∧ (flat3 F)[k * 3 + 2]? = some (.int .i64 F[k].safe) := by
  induction F with
  | nil => intro k h; simp at h
  | cons t F ih =>
    intro k h
    have e : flat3 (t :: F) = [.string t.name, .string t.data, .int .i64 t.safe] ++ flat3 F := by simp [flat3]
    rw [e]
    cases k with
    | zero => simp
    | succ k =>
      have h' : k < F.length := by simpa using h
      obtain ⟨a, b, c⟩ := ih k h'
      have e1 : (k + 1) * 3 = k * 3 + 3 := by omega
      have e3 : [Value.string t.name, .string t.data, .int .i64 t.safe].length = 3 := rfl
      rw [e1]
      refine ⟨?_, ?_, ?_⟩
      · rw [List.getElem?_append_right (by simp), e3, show k * 3 + 3 - 3 = k * 3 by omega]
        simpa using a
      · rw [List.getElem?_append_right (by simp), e3, show k * 3 + 3 + 1 - 3 = k * 3 + 1 by omega]
        simpa using b
      · rw [List.getElem?_append_right (by simp), e3, show k * 3 + 3 + 2 - 3 = k * 3 + 2 by omega]
        simpa using c

abbrev rfO (v : Value) (off : Bool) (left : Int) : Obj := .cells #[v, .bool off, .int .i64 left] 30 (0, 0)
/-- The document's drive at block B, its blocks among T: its files are F. -/
structure Rv (w : World) (B : Nat) (T : Nat → Prop) (F : List Fl) (left : Int) (off : Bool) (v : Value) : Prop where
  ob : w.heap[B]? = some (rfO v off left)
  own : w.ownsRow 0 78 3 v F.length (flat3 F)
  rise : Rise F
  safe : ∀ f ∈ F, f.safe ≤ f.data.size
  big : ∀ f ∈ F, f.data.size ≤ 140737488355328
  nm : ∀ f ∈ F, f.name.size ≤ maxLen
  covB : T B
  covR : ∀ k, v.ownBlock = some k → T k
  lt : ∀ k, T k → k < w.heap.size
  few : F.length ≤ 900000
  int : 0 ≤ left ∧ left ≤ 9223372036854775807
def Rd (w : World) (B : Nat) (T : Nat → Prop) (F : List Fl) (left : Int) (off : Bool) : Prop := ∃ v, Rv w B T F left off v
section
variable {w w' : World} {B : Nat} {T : Nat → Prop} {F : List Fl} {left : Int} {off : Bool} {v : Value} {n : ByteArray}
theorem Rv.stays {S : Nat → Prop} (h : Rv w B T F left off v) (k : Fr w w' S) (hd : ∀ b, T b → ¬ S b) : Rv w' B T F left off v :=
  ⟨(k.block B (h.lt B h.covB) (hd B h.covB)).trans h.ob, own_like h.own (fun b hb => k.block b (h.lt b (h.covR b hb)) (hd b (h.covR b hb))), h.rise, h.safe, h.big, h.nm, h.covB, h.covR, fun b hb => Nat.lt_of_lt_of_le (h.lt b hb) k.size, h.few, h.int⟩
theorem Rd.stays {S : Nat → Prop} (h : Rd w B T F left off) (k : Fr w w' S) (hd : ∀ b, T b → ¬ S b) : Rd w' B T F left off := by
  obtain ⟨v, h⟩ := h
  exact ⟨v, h.stays k hd⟩
theorem Rv.on (h : Rv w B T F left off v) (k : Below w.heap.size w w') : Rv w' B T F left off v := h.stays (S := fun _ => False) (Fr.ofBelow _ k) (fun _ _ q => q)
theorem Rv.wider (h : Rv w B T F left off v) {S : Nat → Prop} (hT : ∀ k, T k → S k) (hl : ∀ k, S k → k < w.heap.size) : Rv w B S F left off v :=
  ⟨h.ob, h.own, h.rise, h.safe, h.big, h.nm, hT B h.covB, fun k hk => hT k (h.covR k hk), hl, h.few, h.int⟩
theorem Rv.c0 (h : Rv w B T F left off v) : w.cell? ⟨B, 0, none⟩ = some v := by rw [cell_blk h.ob]; rfl
theorem Rv.c1 (h : Rv w B T F left off v) : w.cell? ⟨B, 1, none⟩ = some (.bool off) := by rw [cell_blk h.ob]; rfl
theorem Rv.c2 (h : Rv w B T F left off v) : w.cell? ⟨B, 2, none⟩ = some (.int .i64 left) := by rw [cell_blk h.ob]; rfl
theorem Rv.neR (h : Rv w B T F left off v) {k : Nat} (e : v.ownBlock = some k) : B ≠ k := by
  rcases h.own.2 with ⟨rfl, _⟩ | ⟨g, cap, cur, rfl, _, hg, _⟩
  · cases e
  · cases e
    exact tag_ne h.ob hg (by decide)
theorem Rv.shape (h : Rv w B T F left off v) : ∃ ad cap, v = .slice ad F.length cap := by
  rcases h.own.2 with ⟨rfl, e⟩ | ⟨g', cap', cur, rfl, _⟩
  · exact ⟨none, 0, by rw [e]⟩
  · exact ⟨_, _, rfl⟩
theorem Rv.form (h : Rv w B T F left off v) (hn : 0 < F.length) : ∃ g cap, v = .slice (some ⟨g, 0, none⟩) F.length cap := by
  rcases h.own.2 with ⟨_, h0⟩ | ⟨g, cap, cur, rfl, _⟩
  · omega
  · exact ⟨g, cap, rfl⟩
theorem Rv.at' {g cap k : Nat} (h : Rv w B T F left off (.slice (some ⟨g, 0, none⟩) F.length cap)) (hk : k < F.length) :
    w.cell? ⟨g, k * 3, none⟩ = some (.string F[k].name) ∧ w.cell? ⟨g, k * 3 + 1, none⟩ = some (.string F[k].data) ∧ w.cell? ⟨g, k * 3 + 2, none⟩ = some (.int .i64 F[k].safe) := by
  obtain ⟨a, b, c⟩ := flat3_get F k hk
  exact ⟨(h.own.cellAt _ (by omega)).trans a, (h.own.cellAt _ (by omega)).trans b, (h.own.cellAt _ (by omega)).trans c⟩
/-- A number or the switch is set. -/
theorem Rv.turn (h : Rv w B T F left off v) {left' : Int} {off' : Bool} (hw : Fr w w' (fun k => k = B)) (hb : w'.heap[B]? = some (rfO v off' left')) (hi : 0 ≤ left' ∧ left' ≤ 9223372036854775807) : Rv w' B T F left' off' v :=
  ⟨hb, own_like h.own (fun k hk => hw.block k (h.lt k (h.covR k hk)) (fun q => h.neR hk q.symm)), h.rise, h.safe, h.big, h.nm, h.covB, h.covR, fun k hk => Nat.lt_of_lt_of_le (h.lt k hk) hw.size, h.few, hi⟩

set_option maxHeartbeats 1000000 in
theorem begin_off (h : Rv w B T F left true v) : Calls Try.prog 43 #[.pointer (some ⟨B, 0, none⟩)] w fun e w' => e = .returned (.tuple #[.int .i64 50, .bool false]) ∧ w' = w := by
  have h1 := h.c1
  go_enter Try.func43, Try.ntmps43
  go_wp2
  go_ret2
  exact ⟨rfl, rfl⟩
set_option maxHeartbeats 1000000 in
theorem begin_goes (h : Rv w B T F 1 false v) : Calls Try.prog 43 #[.pointer (some ⟨B, 0, none⟩)] w fun e w' => e = .returned (.tuple #[.int .i64 50, .bool true]) ∧ Rv w' B T F 1 true v ∧ Fr w w' T ∧ w'.heap.size = w.heap.size := by
  have h1 := h.c1
  have h2 := h.c2
  have f1 := frozen_blk h.ob 1
  go_enter Try.func43, Try.ntmps43
  go_wp2
  go_ret2
  have hfr : Fr w (w.setCell ⟨B, 1, none⟩ (.bool true)) (fun j => j = B) := Fr.set (S := fun j => j = B) (Fr.refl w _) (.inl rfl) _
  exact ⟨rfl, h.turn hfr (by rw [set_blk h.ob]; rfl) (by omega), hfr.mono (fun k q => by rw [q]; exact h.covB), by simp⟩
set_option maxHeartbeats 1000000 in
theorem begin_on (h : Rv w B T F left false v) (hl : left ≠ 1) : Calls Try.prog 43 #[.pointer (some ⟨B, 0, none⟩)] w fun e w' => e = .returned (.tuple #[.int .i64 0, .bool false]) ∧ Rv w' B T F (leftB left) false v ∧ Fr w w' T ∧ w'.heap.size = w.heap.size := by
  have h1 := h.c1
  have h2 := h.c2
  have f2 := frozen_blk h.ob 2
  have hi := h.int
  by_cases hp : 0 < left
  · rw [show leftB left = left - 1 from if_pos hp]
    go_enter Try.func43, Try.ntmps43
    go_wp2
    go_ret2
    have hfr : Fr w (w.setCell ⟨B, 2, none⟩ (.int .i64 (left - 1))) (fun j => j = B) := Fr.set (S := fun j => j = B) (Fr.refl w _) (.inl rfl) _
    exact ⟨rfl, h.turn hfr (by rw [set_blk h.ob]; rfl) (by omega), hfr.mono (fun k q => by rw [q]; exact h.covB), by simp⟩
  · rw [show leftB left = left from if_neg hp]
    go_enter Try.func43, Try.ntmps43
    go_wp2
    go_ret2
    exact ⟨rfl, h, Fr.refl _ _, rfl⟩

theorem place_eq {F : List Fl} {n : ByteArray} {k : Nat} (hk : k ≤ F.length) (h1 : ∀ i (h : i < F.length), i < k → cmpN F[i].name n < 0) (h2 : ∀ h : k < F.length, 0 ≤ cmpN F[k].name n) : placeF F n = k := by
  have hle := place_le F n
  rcases Nat.lt_trichotomy (placeF F n) k with q | q | q
  · have := h1 (placeF F n) (by omega) q
    have := place_at F n (by omega)
    omega
  · exact q
  · have := h2 (by omega)
    have := place_front F n k (by omega) q
    omega
theorem found_eq {F : List Fl} (hr : Rise F) (n : ByteArray) : (fileF F n).isSome = if h : placeF F n < F.length then decide (cmpN F[placeF F n].name n = 0) else false := by
  rw [file_place hr n]
  by_cases h : placeF F n < F.length
  · simp only [h, dite_true]
    by_cases q : cmpN F[placeF F n].name n = 0 <;> simp [q]
  · simp [h]

set_option maxHeartbeats 2000000 in
set_option maxRecDepth 100000 in
theorem at_any (h : Rv w B T F left off v) (hn : n.size ≤ maxLen) : Calls Try.prog 38 #[.pointer (some ⟨B, 0, none⟩), .string n] w fun e w' => e = .returned (.tuple #[.int .i64 (placeF F n), .bool (fileF F n).isSome]) ∧ Below w.heap.size w w' := by
  obtain ⟨ad, cap, rfl⟩ := h.shape
  have hs := h.few
  have hs' : (F.length : Int) ≤ 900000 := by omega
  have hle := place_le F n
  obtain ⟨p, hp⟩ : ∃ p, placeF F n = p := ⟨_, rfl⟩
  obtain ⟨q, hq⟩ : ∃ q, (fileF F n).isSome = q := ⟨_, rfl⟩
  rw [hp, hq]
  have HP := Lib.hid hp
  have HQ := Lib.hid hq
  clear hp hq hle
  go_enter Try.func38, Try.ntmps38
  go_wp2
  go_loopw [6] (fun i wr => ∃ k : Nat, i = .int .i64 k ∧ k ≤ F.length ∧ Hid (∀ i (h : i < F.length), i < k → cmpN F[i].name n < 0) ∧ Below w.heap.size w wr) (fun i _ => F.length - (intOf i).toNat)
  case atStart => exact ⟨0, rfl, Nat.zero_le _, fun i _ hi => by omega, Below.refl _ _⟩
  case round =>
    obtain ⟨k, rfl, hk, H, hb⟩ := hrel
    have hr := h.on hb
    have hcl := hr.c0
    by_cases hlt : k < F.length
    · have q1 : (k : Int) < F.length := by omega
      have q0 : (0 : Int) ≤ k := by omega
      obtain ⟨g, cap', e⟩ := hr.form (by omega)
      simp only [Value.slice.injEq] at e
      obtain ⟨rfl, _, rfl⟩ := e
      obtain ⟨c0, _, _⟩ := hr.at' hlt
      have hmem : F[k] ∈ F := List.getElem_mem hlt
      have hnm := h.nm _ hmem
      have hst := stands_any F[k].name n wr hnm hn
      obtain ⟨nm, hnm'⟩ : ∃ nm, F[k].name = nm := ⟨_, rfl⟩
      rw [hnm'] at c0 hst
      obtain ⟨c, hc⟩ : ∃ c, Lib.compareBytes nm.data.toList n.data.toList = c := ⟨_, rfl⟩
      rw [hc] at hst
      have HC : Hid (cmpN F[k].name n = c) := by
        show _ = _
        rw [hnm']
        exact hc
      clear hc hnm' hmem hnm hr
      go_wp2_with fail
      refine hst.mono ?_
      rintro e w1 ⟨rfl, hb1⟩
      have hb2 := hb.trans (hb1.mono hb.size)
      by_cases hcc : 0 ≤ c
      · have hpk : p = k := by
          rw [← HP.out]
          exact place_eq hk H.out (fun _ => by rw [HC.out]; exact hcc)
        have hqk : q = decide (c = 0) := by
          rw [← HQ.out, found_eq h.rise]
          have e1 : placeF F n = k := HP.out.trans hpk
          simp only [e1, hlt, dite_true, HC.out]
        subst hpk
        go_wp2
        go_ret2
        refine ⟨?_, hb2⟩
        rw [hqk]
        rfl
      · have hcn : c < 0 := by omega
        go_wp2
        go_roundw
        case rel =>
          refine ⟨k + 1, by go_num, by omega, ?_, hb2⟩
          intro i hi hik
          by_cases e : i = k
          · subst e
            rw [HC.out]
            exact hcn
          · exact H.out i hi (by omega)
        case measure => simp [intOf]; omega
    · have e : k = F.length := by omega
      have q1 : (F.length : Int) ≤ k := by omega
      have hpk : p = F.length := by
        rw [← HP.out]
        exact place_eq (Nat.le_refl _) (fun i hi _ => H.out i hi (by omega)) (fun hh => by omega)
      have hqk : q = false := by
        rw [← HQ.out, found_eq h.rise]
        have e1 : placeF F n = F.length := HP.out.trans hpk
        simp [e1]
      have HPK := Lib.hid hpk
      have HQK := Lib.hid hqk
      clear hpk hqk
      go_wp2
      go_ret2
      rw [HPK.out, HQK.out]
      exact ⟨rfl, hb⟩
end
end Go.Proofs.Ytoipmpaebngppaa
