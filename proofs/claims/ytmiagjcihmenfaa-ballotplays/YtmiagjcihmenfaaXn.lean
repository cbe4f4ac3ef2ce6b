/- How far a ballot grows, call by call. -/
import Derived.Test.YtmiagjcihmenfaaXk
import Derived.Maps.OwnSet
import Derived.Maps.OwnOps
import Derived.Maps.Views
import Derived.Test.YtmiagjcihmenfaaXRf
namespace Go.Proofs.Ytmiagjcihmenfaa
open Go.RowKit

/-- So far a ballot has grown at most. -/
structure Bd (b : Bs) (N : Nat) : Prop where
  log : b.log.length ≤ N
  last : b.last ≤ 1099511627776 + N
  term : b.term ≤ 1099511627776 + N
section
variable {b b' : Bs} {N M : Nat}
theorem Bd.up (h : Bd b N) (hM : N ≤ M) : Bd b M := ⟨Nat.le_trans h.log hM, by have := h.last; omega, by have := h.term; omega⟩
theorem Bd.so (h : Bd b N) (so : Bs.So b b') : Bd b' N := by
  unfold Bs.So at so
  rw [so]
  exact ⟨h.log, h.last, h.term⟩
theorem Bd.put (h : Bd b N) {i : Int} (l : List En) : Bd (b.put i l) (N + l.length) := by
  have h1 := h.log
  have h2 := h.last
  have h3 := h.term
  unfold Bs.last at h2
  refine ⟨?_, ?_, ?_⟩
  · simp only [Bs.put, List.length_append, List.length_take]
    omega
  · simp only [Bs.last, Bs.put, List.length_append, List.length_take]
    omega
  · show b.term ≤ _
    omega
theorem Bd.settle (h : Bd b N) : Bd b.settle N := by
  unfold Bs.settle
  split
  · exact Bd.so (b := { b with commit := b.best (b.last - b.commit).toNat }) ⟨h.log, h.last, h.term⟩ (Bs.so_feedAll _)
  · exact h
theorem Bd.count (h : Bd b N) : Bd b.count (N + 1) := by
  unfold Bs.count
  split
  · exact h.up (Nat.le_succ N)
  · have h1 : Bd b.leads N := ⟨h.log, h.last, h.term⟩
    exact ((h1.put (i := b.last + 1) [⟨b.term, 0, 0, noT⟩]).so (Bs.so_feedAll _)).settle
theorem Bd.timeout (h : Bd b N) : Bd b.timeout.1 (N + 2) := by
  unfold Bs.timeout
  split
  · exact h.up (by omega)
  · have h1 : Bd b.stand (N + 1) := ⟨Nat.le_succ_of_le h.log, by have := h.last; show b.last ≤ _; omega, by have := h.term; show b.term + 1 ≤ _; omega⟩
    exact ((h1.so (Bs.so_askTo _ _)).count).so (Bs.so_sent _)
theorem Bd.beat (h : Bd b N) : Bd b.beat.1 N := by
  unfold Bs.beat
  split
  · exact (h.so (Bs.so_feedAll _)).so (Bs.so_sent _)
  · exact h.so (Bs.so_sent _)
theorem Bd.propose (h : Bd b N) (x y : Int) (t : ByteArray) : Bd (b.propose x y t).2.1 (N + 1) := by
  unfold Bs.propose
  split
  · exact (((h.put (i := b.last + 1) [⟨b.term, x, y, t⟩]).so (Bs.so_feedAll _)).settle).so (Bs.so_sent _)
  · exact h.up (Nat.le_succ N)
theorem Bd.newer (h : Bd b N) {m : Ms} (hm : m.term ≤ 1099511627776) : Bd (b.newer m) N := by
  unfold Bs.newer
  split
  · exact ⟨h.log, h.last, by show m.term ≤ _; omega⟩
  · exact h
theorem Bd.lay (h : Bd b N) : ∀ (l : List En) (i : Int), Bd (b.lay i l) (N + l.length)
  | [], i => h.up (Nat.le_add_right _ _)
  | e :: l, i => by
    unfold Bs.lay
    split
    · exact h.put _
    · exact (Bd.lay h l (i + 1)).up (by simp only [List.length_cons]; omega)
theorem Bd.reach (h : Bd b N) (c : Int) : Bd (b.reach c) N := by
  unfold Bs.reach
  split
  · exact ⟨h.log, h.last, h.term⟩
  · exact h
theorem Bd.entries (h : Bd b N) (m : Ms) : Bd (b.entries m) (N + m.list.length) := by
  unfold Bs.entries
  split
  · exact h.up (Nat.le_add_right _ _)
  · have h1 : Bd { b with role := 0, lead := m.fr } N := ⟨h.log, h.last, h.term⟩
    simp only
    split
    · exact (h1.so (Bs.so_send _ _)).up (Nat.le_add_right _ _)
    · split
      · exact (h1.so (Bs.so_send _ _)).up (Nat.le_add_right _ _)
      · exact ((h1.lay m.list (m.index + 1)).reach _).so (Bs.so_send _ _)
theorem Bd.heard (h : Bd b N) (m : Ms) : Bd (b.heard m) N := by
  have h1 : Bd (b.more m.fr.toNat m.index) N := ⟨h.log, h.last, h.term⟩
  have h2 : Bd (b.less m.fr.toNat m.index) N := ⟨h.log, h.last, h.term⟩
  unfold Bs.heard
  split
  · split
    · split
      · exact h1.settle.so (Bs.so_feed _ _)
      · exact h1.settle
    · exact h2.so (Bs.so_feed _ _)
  · exact h
theorem Bd.given (h : Bd b N) {m : Ms} (hm : m.index ≤ 1099511627776) (hi : b.base ≤ b.commit) : Bd (b.given m) N := by
  unfold Bs.given
  split
  · exact h
  · simp only
    split
    · refine Bd.so (b := { ({ b with role := 0, lead := m.fr } : Bs).rebase m.index m.prev m.snap (if b.termAt m.index = m.prev then b.log.drop (m.index - b.base).toNat else []) with commit := m.index }) ?_ (Bs.so_send _ _)
      have h1 := h.log
      have h2 := h.last
      unfold Bs.last at h2
      refine ⟨?_, ?_, h.term⟩
      · show (if b.termAt m.index = m.prev then b.log.drop (m.index - b.base).toNat else []).length ≤ N
        split
        · rw [List.length_drop]; omega
        · exact Nat.zero_le _
      · show m.index + ((if b.termAt m.index = m.prev then b.log.drop (m.index - b.base).toNat else []).length : Nat) ≤ _
        split
        · rw [List.length_drop]; omega
        · simp only [List.length_nil]; omega
    · exact Bd.so (b := { b with role := 0, lead := m.fr }) ⟨h.log, h.last, h.term⟩ (Bs.so_send _ _)
theorem Bd.vote (h : Bd b N) (m : Ms) : Bd (b.vote' m) (N + 1) := by
  unfold Bs.vote'
  split
  · exact Bd.count (b := { b with has := b.has.set m.fr.toNat true }) ⟨h.log, h.last, h.term⟩
  · exact h.up (Nat.le_succ N)
theorem Bd.ask (h : Bd b N) (m : Ms) : Bd (b.ask m) N := by
  unfold Bs.ask
  split
  · exact Bd.so (b := { b with vote := m.fr, touched := true }) ⟨h.log, h.last, h.term⟩ (Bs.so_send _ _)
  · exact h.so (Bs.so_send _ _)
theorem Bd.take (h : Bd b N) (hI : b.Inv) (m : Ms) : Bd (b.take m).1 (N + 1 + m.list.length) := by
  unfold Bs.take
  split
  · exact h.up (by omega)
  · rename_i hs
    have hs := hs
    have ht : m.term ≤ 1099511627776 := by
      by_cases q : 1099511627776 < m.term
      · exact absurd (by unfold Bs.strange; omega) hs
      · omega
    have hi : m.index ≤ 1099511627776 := by
      by_cases q : 1099511627776 < m.index
      · exact absurd (by unfold Bs.strange; omega) hs
      · omega
    have h1 := h.newer ht
    have i1 := (Bs.newer_stays (m := m) hI).2.1
    split
    · exact ((h1.so (Bs.old_so _ m)).so (Bs.so_sent _)).up (by omega)
    · refine Bd.so ?_ (Bs.so_sent _)
      unfold Bs.act
      split
      · exact (h1.ask m).up (by omega)
      · split
        · exact (h1.vote m).up (by omega)
        · split
          · exact (h1.entries m).up (by omega)
          · split
            · exact (h1.heard m).up (by omega)
            · exact (h1.given hi i1.bc).up (by omega)
theorem Bd.cut (h : Bd b N) (hI : b.Inv) (i : Int) (t : ByteArray) : Bd (b.cut i t).2 N := by
  unfold Bs.cut
  split
  · rename_i hi
    have h1 := h.log
    have h2 := h.last
    unfold Bs.last at h2
    refine ⟨?_, ?_, h.term⟩
    · show (b.log.drop (i - b.base).toNat).length ≤ N
      rw [List.length_drop]; omega
    · show i + ((b.log.drop (i - b.base).toNat).length : Nat) ≤ _
      rw [List.length_drop]
      have := hI.cl
      unfold Bs.last at this
      omega
  · exact h
theorem Bd.did (h : Bd b N) (hI : b.Inv) (o : Op) : Bd (didR b o).1 (N + 2 + o.m.list.length) := by
  unfold didR
  split
  · exact h.timeout.up (by omega)
  · split
    · exact h.beat.up (by omega)
    · split
      · exact (h.propose _ _ _).up (by omega)
      · split
        · exact (h.take hI _).up (by omega)
        · split
          · exact (h.cut hI _ _).up (by omega)
          · exact h.up (by omega)
theorem did_stays (hI : b.Inv) (o : Op) : Bs.Stays b (didR b o).1 := by
  unfold didR
  split
  · exact (Bs.timeout_stays hI).1
  · split
    · exact (Bs.beat_stays hI).1
    · split
      · exact (Bs.propose_stays hI _ _ _).1
      · split
        · exact (Bs.take_stays hI _).1
        · split
          · exact (Bs.cut_stays hI _ _).1
          · exact Bs.Stays.refl b
end
end Go.Proofs.Ytmiagjcihmenfaa
/- The map from numbers to entries that the law keeps. -/
namespace Go.Proofs.Ytmiagjcihmenfaa
open Go.RowKit Go.Maps

/-- An element reads as itself. -/
def itself (v : Value) : Option (DataW Value × List MemPlace) := some (.held v, [])
theorem key3 : Keyed Try.prog 3 := int_keyed Try.underlying3
theorem zero49 (w : World) : (zeroValue 49).run Try.prog w = .ok (enV en0) w := by kernel_rfl
theorem isKey (i : Int) : WideAt.IsKeyLit (.int .i64 i) := by first | trivial | exact Or.inr (Or.inl ⟨_, _, rfl⟩) | simp [WideAt.IsKeyLit]
theorem key_of {i : Int} (h : I64 i) : keyOf Try.prog 3 (.int .i64 i) = some (.int .i64 i) := keyOf_int_mk Try.underlying3 (WalkArith.wf_i64 (by omega))
/-- Block B is a map of at most n entries that holds what f says. -/
def Wm (w : World) (B n : Nat) (f : Int → Option En) : Prop := ∃ D : DataW Value, w.ownsMap Try.prog 3 itself B n D ∧ ∀ i, has D (.int .i64 i) = (f i).isSome ∧ ∀ e, f i = some e → ∀ z, D.atKey (.int .i64 i) z = .held (enV e)
section
variable {w w' : World} {B n : Nat} {f : Int → Option En}
theorem Wm.made (w : World) : Wm (w.alloc (.map #[] 0)) w.heap.size 0 (fun _ => none) :=
  ⟨_, World.ownsMap_made w _ _ _, fun i => ⟨rfl, fun e h => by cases h⟩⟩
theorem Wm.lt (h : Wm w B n f) : B < w.heap.size := by
  obtain ⟨D, h1, _⟩ := h
  exact h1.lt
theorem Wm.like (h : Wm w B n f) (hb : w'.heap[B]? = w.heap[B]?) : Wm w' B n f := by
  obtain ⟨D, ⟨es, clock, h1, h2⟩, h3⟩ := h
  exact ⟨D, ⟨es, clock, hb.trans h1, h2⟩, h3⟩
theorem Wm.on (h : Wm w B n f) (hb : Below w.heap.size w w') : Wm w' B n f := h.like (hb.block _ h.lt)
/-- What is looked up. -/
theorem Wm.look (h : Wm w B n f) {i : Int} (hi : I64 i) : (Instr.lookup 66 (.map (some B)) (.int .i64 i) true).run Try.prog w = .ok (.tuple #[enV ((f i).getD en0), .bool (f i).isSome]) w := by
  obtain ⟨D, h1, h2⟩ := h
  obtain ⟨v, ps, hr, hv⟩ := h1.look_ok key3 Try.underlying66 (zero49 w) (zd := .held (enV en0)) (zp := []) rfl (key_of hi)
  rw [hr, (h2 i).1]
  have hv : DataW.held v = D.atKey (.int .i64 i) (.held (enV en0)) := by
    have := congrArg (Option.map Prod.fst) hv
    simpa [itself] using this
  cases hf : f i with
  | none =>
    have h3 := (h2 i).1
    rw [hf] at h3
    rw [atKey_of_not_has h3] at hv
    cases hv
    rfl
  | some e =>
    rw [(h2 i).2 e hf] at hv
    cases hv
    rfl
/-- What is put. -/
theorem Wm.put (h : Wm w B n f) (hn : n < maxLen) {i : Int} (hi : I64 i) (e : En) : ∃ w', (Instr.mapUpdate 66 (.map (some B)) (.int .i64 i) (enV e)).run Try.prog w = .ok () w' ∧ Wm w' B (n + 1) (fun j => if j = i then some e else f j) ∧ w.grownBy w' (some B) := by
  obtain ⟨D, h1, h2⟩ := h
  obtain ⟨w', hr, h3, h4⟩ := h1.update key3 Try.underlying66 hn (val := enV e) (d := .held (enV e)) (ps := []) (key_of hi) rfl
  refine ⟨w', hr, ⟨_, h3, fun j => ?_⟩, h4⟩
  dsimp only
  by_cases hj : j = i
  · subst hj
    rw [if_pos rfl]
    refine ⟨has_put_same h1.isMap (isKey j) _, fun e' he z => ?_⟩
    cases he
    exact atKey_put_same h1.isMap (isKey j) _ z
  · rw [if_neg hj]
    have hne : (Lit.int .i64 j) ≠ .int .i64 i := fun q => hj (by injection q)
    refine ⟨by rw [has_put_other hne]; exact (h2 j).1, fun e' he z => ?_⟩
    rw [atKey_put_other hne]
    exact (h2 j).2 e' he z
end
end Go.Proofs.Ytmiagjcihmenfaa
/- The walk of the law's great. -/
namespace Go.Proofs.Ytmiagjcihmenfaa
open Go.RowKit

/-- How much a call counts. -/
def szO (p : Oq) : Nat := 1 + p.1.text.size + p.1.m.list.length + p.1.m.snap.size
def szL (L : List Oq) : Nat := (L.map szO).sum
theorem szL_take (L : List Oq) (k : Nat) (h : k < L.length) : szL (L.take (k + 1)) = szL (L.take k) + szO L[k] := by
  unfold szL
  rw [List.take_add_one, List.map_append, List.sum_append, List.getElem?_eq_getElem h]
  simp
theorem szL_all (L : List Oq) {k : Nat} (h : k = L.length) : szL (L.take k) = szL L := by rw [h, List.take_of_length_le (Nat.le_refl _)]
/-- What great answers. -/
def GreatAns (L : List Oq) (w : World) (e : Ending) (w' : World) : Prop := ∃ g, e = .returned (.bool g) ∧ (g = false → L.length ≤ 200 ∧ szL L ≤ 16384) ∧ Below w.heap.size w w'
section
variable {w : World} {L : List Oq} {ad : Option Addr} {cap : Nat}
set_option maxHeartbeats 4000000 in
set_option maxRecDepth 100000 in
theorem great_p (hL : Lo w L ad) (hc : L.length ≤ cap) (hm : cap ≤ maxLen) :
    Calls Try.prog 10 #[.slice ad L.length cap] w fun e w' => GreatAns L w e w' := by
  have l1 : (L.length : Int) ≤ 9223372036854775807 := by unfold maxLen at hm; omega
  go_enter Try.func10, Try.ntmps10
  go_wp2
  go_loopw [3, 8] (fun a i wr => ∃ k r : Nat, k ≤ L.length ∧ i = .int .i64 k ∧ a = .int .i64 r ∧ r ≤ 16384 ∧ Hid (r = szL (L.take k)) ∧ Below w.heap.size w wr) (fun _ i _ => L.length - (intOf i).toNat)
  case atStart => exact ⟨0, 0, Nat.zero_le _, rfl, rfl, Nat.zero_le _, Lib.hid rfl, Below.refl _ _⟩
  case round =>
    obtain ⟨k, r, hk, rfl, rfl, hr, HU, hb⟩ := hrel
    by_cases hlt : k < L.length
    · obtain ⟨b, o, rfl, hbl, c0, c1, c2, c3, c4, c5, c6, c7, c8, c9, c10, c11, c12, c13⟩ := (hL.on hb).at' k hlt
      have hs := hL.sz _ (List.getElem_mem hlt)
      have hks := szL_take L k hlt
      obtain ⟨x, hx⟩ : ∃ x, L[k] = x := ⟨_, rfl⟩
      rw [hx] at c0 c1 c2 c3 c4 c5 c6 c7 c8 c9 c10 c11 c12 c13 hs hks
      have k0 : (0 : Int) ≤ k := by omega
      have k1 : (k : Int) < L.length := by omega
      have r0 : (0 : Int) ≤ r := by omega
      have r1 : (r : Int) ≤ 16384 := by omega
      have s1 := hs.text
      have s2 := hs.list
      have s3 := hs.snap
      have g1 : (x.1.text.size : Int) ≤ 140737488355328 := by omega
      have g2 : (x.1.m.list.length : Int) ≤ 140737488355328 := by omega
      have g3 : (x.1.m.snap.size : Int) ≤ 140737488355328 := by omega
      have HS : Hid (r + szO x = szL (L.take (k + 1))) := by
        show _ = _
        have := HU.out
        omega
      obtain ⟨r', hr'⟩ : ∃ r', r + szO x = r' := ⟨_, rfl⟩
      have hsum : (r : Int) + (1 + (x.1.text.size : Int) + (x.1.m.list.length : Int) + (x.1.m.snap.size : Int)) = (r' : Int) := by
        rw [← hr']
        unfold szO
        omega
      rw [hr'] at HS
      have hal := hb.alloc hb.size (.cells #[.int .i64 x.1.kind, .int .i64 x.1.a, .int .i64 x.1.b, .string x.1.text, .int .i64 x.1.m.kind, .int .i64 x.1.m.fr, .int .i64 x.1.m.tgt, .int .i64 x.1.m.term, .int .i64 x.1.m.index, .int .i64 x.1.m.prev, .int .i64 x.1.m.commit, .bool x.1.m.good, .slice x.2.1 x.1.m.list.length x.2.2, .string x.1.m.snap] 36)
      have HA := Lib.hid hal
      clear hx hks hr' hs hal s1 s2 s3
      by_cases hg : 16384 < r'
      · have hgi : (16384 : Int) < r' := by omega
        go_wp2
        go_ret
        exact ⟨true, rfl, (fun h => by cases h), HA.out⟩
      · have hgi : ¬ (16384 : Int) < r' := by omega
        go_wp2
        go_roundw
        case rel => exact ⟨k + 1, r', hlt, by go_num, rfl, by omega, HS, HA.out⟩
        case measure => simp [intOf]; omega
    · have k1 : ¬ (k : Int) < L.length := by omega
      have e1 := szL_all L (k := k) (by omega)
      rw [← HU.out] at e1
      have HE := Lib.hid e1
      clear e1
      go_wp2
      go_ret
      refine ⟨_, rfl, fun h => ⟨?_, ?_⟩, hb⟩
      · have h' := of_decide_eq_false h
        omega
      · have := HE.out
        omega
end
end Go.Proofs.Ytmiagjcihmenfaa
/- What the law BallotStays keeps from call to call. -/
namespace Go.Proofs.Ytmiagjcihmenfaa
open Go.RowKit Go.Maps

/-- A ballot, and the map of what was committed. -/
structure St (w0 w : World) (A B : Nat) (b : Bs) (f : Int → Option En) (n : Nat) (S : Nat → Prop) : Prop where
  pb : Pb w A S b
  ok : Ok b
  mp : Wm w B n f
  nB : ¬ S B
  lo : ∀ k, S k → w0.heap.size ≤ k
  loB : w0.heap.size ≤ B
  bel : Below w0.heap.size w0 w
  is : ∀ i e, f i = some e → i ≤ b.commit ∧ (b.base < i → b.at? i = some e)
section
variable {w0 w w' : World} {A B n : Nat} {b : Bs} {f : Int → Option En} {S : Nat → Prop}
theorem St.on (h : St w0 w A B b f n S) (hb : Below w.heap.size w w') : St w0 w' A B b f n S :=
  ⟨h.pb.on hb, h.ok, h.mp.on hb, h.nB, h.lo, h.loB, h.bel.trans (hb.mono h.bel.size), h.is⟩
theorem St.alloc (h : St w0 w A B b f n S) (o : Obj) : St w0 (w.alloc o) A B b f n S := h.on ((Below.refl _ w).alloc (Nat.le_refl _) _)
theorem below_fr (hb : Below w0.heap.size w0 w) (hf : Fr w w' S) (lo : ∀ k, S k → w0.heap.size ≤ k) : Below w0.heap.size w0 w' := by
  have f1 : Fr w0 w' (fun _ => False) := (Fr.ofBelow (fun _ => False) hb).step hf (fun j q => .inr (lo j q))
  exact f1.fresh (fun _ q => q.elim)
/-- Behind a call. -/
theorem St.did (h : St w0 w A B b f n S) (o : Op) {M : List Ms} {ov : Value} (q : Po w w' A S (didR b o).1 M ov) : ∃ S', St w0 w' A B (didR b o).1 f n S' ∧ Fr w w' S ∧ (∀ k, S' k → Gro S w w' k) := by
  obtain ⟨S', B', O, k1, k2, k3, _⟩ := q
  have hs := did_stays h.ok.inv o
  refine ⟨S', ⟨k1, did_ok h.ok o, h.mp.like (k3.block _ h.mp.lt h.nB), fun z => ?_, fun k z => ?_, h.loB, below_fr h.bel k3 h.lo, fun i e he => ?_⟩, k3, k2⟩
  · rcases k2 _ z with z | z
    · exact h.nB z
    · have := h.mp.lt
      omega
  · rcases k2 _ z with z | z
    · exact h.lo k z
    · have := h.bel.size
      omega
  · obtain ⟨i1, i2⟩ := h.is i e he
    have c1 := hs.commit
    have c2 := hs.base
    refine ⟨by omega, fun hi => ?_⟩
    rw [hs.log i hi i1]
    exact i2 (by omega)
/-- An entry is kept. -/
theorem St.put (h : St w0 w A B b f n S) {i : Int} {e : En} (hi : i ≤ b.commit) (hb : b.base < i) (he : b.at? i = some e) (hn : n < 1000000000) :
    ∃ w', (Instr.mapUpdate 66 (.map (some B)) (.int .i64 i) (enV e)).run Try.prog w = .ok () w' ∧ St w0 w' A B b (fun j => if j = i then some e else f j) (n + 1) S ∧ w.grownBy w' (some B) := by
  have h0 := h.ok.inv.b0
  have hl := h.ok.inv.cl
  obtain ⟨lv, pf, hv⟩ := h.pb
  have h1 := hv.b1
  have h2 := hv.len
  unfold Bs.last at hl
  obtain ⟨w', r1, r2, r3⟩ := h.mp.put (by unfold maxLen; omega) (i := i) ⟨by omega, by omega⟩ e
  have hf : Fr w w' (fun k => k = B) := ⟨r3.os, r3.tape, r3.output, r3.size, fun k hk hne => r3.block k hk (fun q => hne (by injection q))⟩
  refine ⟨w', r1, ⟨h.pb.stays hf (fun k q e => h.nB (e ▸ q)), h.ok, r2, h.nB, h.lo, h.loB, below_fr h.bel hf (fun k q => by rw [q]; exact h.loB), fun j e' hj => ?_⟩, r3⟩
  have hj : (if j = i then some e else f j) = some e' := hj
  by_cases q : j = i
  · rw [if_pos q] at hj
    cases hj
    rw [q]
    exact ⟨hi, fun _ => he⟩
  · rw [if_neg q] at hj
    exact h.is j e' hj
theorem at_some {b : Bs} {i : Int} (h1 : b.base < i) (h2 : i ≤ b.last) : ∃ e, b.at? i = some e := by
  unfold Bs.at? Bs.last at *
  rw [if_pos h1]
  have hl : (i - b.base - 1).toNat < b.log.length := by omega
  exact ⟨_, List.getElem?_eq_getElem hl⟩
theorem St.span (h : St w0 w A B b f n S) : b.base ≤ b.commit ∧ b.commit ≤ b.last ∧ 0 ≤ b.base ∧ b.base ≤ 4398046511104 ∧ b.last ≤ b.base + 900000 := by
  have h0 := h.ok.inv.b0
  have h1 := h.ok.inv.bc
  have h2 := h.ok.inv.cl
  obtain ⟨lv, pf, hv⟩ := h.pb
  have h3 := hv.b1
  have h4 := hv.len
  refine ⟨h1, h2, h0, h3, ?_⟩
  unfold Bs.last
  omega
theorem wpl_put {ops : Array Oper} {rest : List Oper} {d : Option Tmp} {ty : TypeId} {ps : String} {af : Array Edge} {a : Act} {Q : Exit → Act → World → Prop} (m x v : Operand) {i : Int} {e : En}
    (hm : a.eval m = .map (some B)) (hx : a.eval x = .int .i64 i) (hv : a.eval v = enV e) (hrun : (Instr.mapUpdate 66 (.map (some B)) (.int .i64 i) (enV e)).run Try.prog w = .ok () w')
    (hK : wpList Try.prog ops Q rest (a.put d undef) w') : wpList Try.prog ops Q (⟨d, Op.mapUpdate 66 m x v, ty, ps, af, none⟩ :: rest) a w := by
  refine wpList_plain rfl fun K' hK' => ?_
  unfold Oper.wp
  simp [execOp, hm, hx, hv, hrun, Result.andThen]
  exact hK' _ _ hK
theorem str_self (s : ByteArray) : (s.toList == s.toList) = true := by simp
end
end Go.Proofs.Ytmiagjcihmenfaa
