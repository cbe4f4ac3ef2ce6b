/- The statements' own set: an agenda with things set behind one another, and of how many things. -/
import Derived.Test.YtmehdhjelggkpaaOa
namespace Go.Proofs.Ytmehdhjelggkpaa
open Go.RowKit Go.Maps

/-- The map[int]bool at block M has the m numbers of P. -/
def Bm (w : World) (M N m : Nat) (P : Int → Prop) : Prop := ∃ D : DataW Unit, w.ownsMap Try.prog 3 (plainElem Try.prog 4) M N D ∧ (∀ k, inI k → (has D (key k) = true ↔ P k)) ∧ size D = m
section
variable {w w' : World} {M N m : Nat} {P Q : Int → Prop}
theorem Bm.made (w : World) : Bm (w.alloc (.map #[] 0)) w.heap.size 0 0 (fun _ => False) := ⟨.map [], World.ownsMap_made _ _ _ _, fun k _ => by simp [has], rfl⟩
theorem Bm.stays (h : Bm w M N m P) (he : w'.heap[M]? = w.heap[M]?) : Bm w' M N m P := by
  obtain ⟨D, ho, r⟩ := h
  exact ⟨D, own_map ho he, r⟩
theorem Bm.lt (h : Bm w M N m P) : M < w.heap.size := by
  obtain ⟨D, ho, _⟩ := h
  exact ho.lt
theorem Bm.block (h : Bm w M N m P) : ∃ es clock, w.heap[M]? = some (.map es clock) := by
  obtain ⟨D, ⟨es, clock, hb, _⟩, _⟩ := h
  exact ⟨es, clock, hb⟩
theorem Bm.len (h : Bm w M N m P) (ty : TypeId) : (Builtin.len_ #[36] ty #[.map (some M)]).run Try.prog w = .ok (.int .i64 m) w := by
  obtain ⟨D, ho, _, rfl⟩ := h
  exact ho.len Try.underlying36 ty
theorem Bm.no (h : Bm w M N m P) {k : Int} (hi : inI k) (hk : ¬ P k) : (Instr.lookup 36 (.map (some M)) (.int .i64 k) false).run Try.prog w = .ok (.bool false) w := by
  obtain ⟨D, ho, hP, _⟩ := h
  obtain ⟨v, ps, hrun, hv⟩ := ho.lookup law3 Try.underlying36 (zero4 w) (plainElem_bool Try.underlying4 false) (key3 hi)
  have hh : has D (key k) = false := by
    cases e : has D (key k) with
    | false => rfl
    | true => exact absurd ((hP k hi).1 e) hk
  rw [atKey_of_not_has hh] at hv
  rw [hrun]
  have : v = .bool false := by
    unfold plainElem at hv
    rw [Try.underlying4] at hv
    cases v <;> simp at hv
    obtain ⟨rfl, _⟩ := hv
    rfl
  rw [this]
theorem Bm.put (h : Bm w M N m P) {k : Int} (hi : inI k) (hN : N < maxLen) {m' : Nat} (hm : (P k ∧ m' = m) ∨ (¬ P k ∧ m' = m + 1)) (hQ : ∀ j, Q j ↔ P j ∨ j = k) :
    ∃ w', (Instr.mapUpdate 36 (.map (some M)) (.int .i64 k) (.bool true)).run Try.prog w = .ok () w' ∧ Bm w' M (N + 1) m' Q ∧ w.grownBy w' (some M) := by
  obtain ⟨D, ho, hP, hs⟩ := h
  obtain ⟨w', hrun, ho', ht⟩ := ho.store law3 Try.underlying36 hN (key3 hi) (plainElem_bool Try.underlying4 true)
  refine ⟨w', hrun, ⟨_, ho', ?_, ?_⟩, ht.grown⟩
  · intro j hj
    rw [hQ]
    by_cases e : j = k
    · subst e
      rw [has_put_same ho.isMap isKey]
      simp
    · have ne : key j ≠ key k := fun q => e (by simpa [key] using q)
      rw [has_put_other ne, hP j hj]
      constructor
      · exact .inl
      · rintro (q | q)
        · exact q
        · exact absurd q e
  · rw [size_put (ho.tidy law3)]
    rcases hm with ⟨p, rfl⟩ | ⟨p, rfl⟩
    · rw [if_pos ((hP k hi).2 p), hs]
    · rw [if_neg (fun q => p ((hP k hi).1 q)), hs]
end

def sets (L : List O) : List Ti := L.foldl (fun R o => setL R o.what o.due) []
theorem sets_snoc (L : List O) (o : O) : sets (L ++ [o]) = setL (sets L) o.what o.due := by simp [sets, List.foldl_append]
theorem sets_take (L : List O) (k : Nat) (h : k < L.length) : sets (L.take (k + 1)) = setL (sets (L.take k)) L[k].what L[k].due := by
  rw [List.take_succ_eq_append_getElem h, sets_snoc]
theorem setL_whats {R : List Ti} {w d v : Int} : v ∈ whats (setL R w d) ↔ v ∈ whats R ∨ v = w := by
  unfold setL
  rw [show whats (dropL R w ++ [⟨w, d⟩]) = whats (dropL R w) ++ [w] by simp [whats]]
  rw [List.mem_append, dropL_whats]
  simp
  constructor
  · rintro (⟨a, _⟩ | a)
    · exact .inl a
    · exact .inr a
  · rintro (a | a)
    · by_cases e : v = w
      · exact .inr e
      · exact .inl ⟨a, e⟩
    · exact .inr a
theorem setL_len {R : List Ti} (h : (whats R).Nodup) (w d : Int) : (w ∈ whats R ∧ (setL R w d).length = R.length) ∨ (w ∉ whats R ∧ (setL R w d).length = R.length + 1) := by
  by_cases e : w ∈ whats R
  · left
    have := drop_len h e
    exact ⟨e, by simp [setL]; omega⟩
  · right
    exact ⟨e, by simp [setL, dropL_none e]⟩
theorem Agd.alloc {w : World} {A c : Nat} {S : Nat → Prop} {R : List Ti} (h : Agd w A S c R) (o : Obj) : Agd (w.alloc o) A S c R := h.stays (T := fun _ => False) ((Fr.refl w _).alloc o) (fun _ _ q => q)
theorem Agd.once {w : World} {A c : Nat} {S : Nat → Prop} {R : List Ti} (h : Agd w A S c R) : (whats R).Nodup := by
  obtain ⟨_, _, _, _, _, h⟩ := h
  exact h.rep.once

set_option maxHeartbeats 2000000 in
set_option maxRecDepth 100000 in
theorem setf_any (L : List O) (ad : Option Addr) (cap B : Nat) (w : World) (hL : Li L ad B w) (hf : Fits L) (hB : B ≤ w.heap.size) (hl : L.length ≤ 400) :
    Calls Try.prog 12 #[.slice ad L.length cap] w fun e w' => ∃ A, e = .returned (.tuple #[.pointer (some ⟨A, 0, none⟩), .int .i64 (sets L).length]) ∧ Own w.heap.size w' A L.length (sets L) ∧ Below w.heap.size w w' := by
  have hmm := @run_makeMap Try.prog
  go_enter Try.func12, Try.ntmps12
  go_wp2_with fail
  refine (new_any w).mono ?_
  rintro e w1 ⟨rfl, h1, b1, s1⟩
  have hM0 := Bm.made w1
  have hb0 : Below w.heap.size w (w1.alloc (.map #[] 0)) := b1.alloc b1.size _
  obtain ⟨M, hMe⟩ : ∃ M, M = w1.heap.size := ⟨_, rfl⟩
  have hlt0 : w.heap.size < M := by omega
  rw [← hMe] at hM0
  have HE := Lib.hid hMe
  clear s1 hMe
  go_wp2
  rw [← HE.out]
  go_loopw [12] (fun t wr => ∃ (k : Nat) (S : Nat → Prop), t = .int .i64 k ∧ k ≤ L.length ∧ Agd wr w.heap.size S k (sets (L.take k)) ∧ (∀ j, S j → w.heap.size ≤ j) ∧ ¬ S M ∧ Bm wr M k (sets (L.take k)).length (fun v => v ∈ whats (sets (L.take k))) ∧ Below w.heap.size w wr) (fun t _ => L.length - (intOf t).toNat)
  case atStart => exact ⟨0, _, rfl, Nat.zero_le _, h1.alloc _, fun j hj => by rw [hj]; exact Nat.le_refl _, by omega, by simpa [sets, whats] using hM0, hb0⟩
  case round =>
    obtain ⟨k, S, rfl, hk, ha, hS, hSM, hM, hb⟩ := hrel
    by_cases hlt : k < L.length
    · have q1 : (k : Int) < L.length := by omega
      have q0 : (0 : Int) ≤ k := by omega
      have q2 : (L.length : Int) ≤ 400 := by omega
      obtain ⟨b, o, rfl, hbB, c0, c1, c2⟩ := (hL.on (hb.mono hB)).at' k hlt
      have hin := hf.at' L[k] (List.getElem_mem hlt)
      have hst := sets_take L k hlt
      obtain ⟨x, hx⟩ : ∃ x, x = L[k] := ⟨_, rfl⟩
      rw [← hx] at c0 c1 c2 hin hst
      have HS := Lib.hid hst
      clear hx hst
      have hlen := setL_len ha.once x.what x.due
      have HLn := Lib.hid hlen
      clear hlen
      go_wp2_with fail
      refine (set_any (ha.alloc _) (by omega) hin).mono ?_
      rintro e w3 ⟨rfl, ha3, hf3⟩
      have hSlt := ha.1
      have hMlt := hM.lt
      have hbx : w3.heap[wr.heap.size]? = some (.cells #[.int .i64 x.kind, .int .i64 x.what, .int .i64 x.due] 31 (0, 0)) := (hf3.block _ (by simp) (fun q => by have := hSlt _ q; omega)).trans (heap_alloc_new wr _)
      have hbc : w3.cell? ⟨wr.heap.size, 1, none⟩ = some (.int .i64 x.what) := by rw [cell_blk hbx]; rfl
      have hM3 : Bm w3 M k (sets (L.take k)).length (fun v => v ∈ whats (sets (L.take k))) := hM.stays ((hf3.block M (by simp; omega) hSM).trans (Below.heap_alloc wr _ M hMlt))
      obtain ⟨w4, hrun, hM4, hg4⟩ := hM3.put (Q := fun v => v ∈ whats (setL (sets (L.take k)) x.what x.due)) hin (by unfold maxLen; omega) HLn.out (fun j => setL_whats)
      have ha4 := ha3.stays (T := fun j => j = M) ((Fr.refl w3 _).grown hg4 (fun j hj => .inl (by cases hj; rfl))) (fun j hj e => by
        subst e
        rcases hj with q | q
        · exact hSM q
        · have := q.1
          simp at this
          omega)
      have hb4 : Below w.heap.size w w4 := by
        have f1 : Fr w w3 (fun j => w.heap.size ≤ j) := (((Fr.ofBelow _ ⟨hb.os, hb.tape, hb.output, hb.size, hb.block⟩).alloc _).trans (hf3.mono hS))
        have f2 := f1.grown hg4 (fun j hj => .inl (by cases hj; omega))
        exact f2.toBelow (fun j hj q => by omega) (Nat.le_refl _)
      go_wp2
      go_roundw
      case rel =>
        refine ⟨k + 1, _, by go_num, by omega, by rw [HS.out]; exact ha4, ?_, ?_, by rw [HS.out]; exact hM4, hb4⟩
        · rintro j (q | q)
          · exact hS j q
          · have := q.1
            have := hb.size
            simp at *
            omega
        · rintro (q | q)
          · exact hSM q
          · have := q.1
            simp at this
            omega
      case measure => simp [intOf]; omega
    · have hkl : k = L.length := by omega
      rw [hkl, List.take_of_length_le (Nat.le_refl _)] at ha hM
      subst hkl
      have hlen := hM.len 3
      go_wp2
      go_ret2
      exact ⟨_, rfl, ⟨hb.size, ha.wider (fun j hj => ⟨hS j hj, ha.1 j hj⟩) (fun j q => q.2)⟩, hb⟩
end Go.Proofs.Ytmehdhjelggkpaa
