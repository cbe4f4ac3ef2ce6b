/- The walk of the program's adopt. -/
import Derived.Test.YtmiagjcihmenfaaQm
namespace Go.Proofs.Ytmiagjcihmenfaa
open Go.RowKit

section
variable {w w' : World} {A : Nat} {S T : Nat → Prop} {b : Bs} {lv : Value} {pf : Int}
theorem Es.dropped {L : List En} {bk o cap k : Nat} (h : Es w S L (.slice (some ⟨bk, o, none⟩) L.length cap)) (hk : k ≤ L.length) : Es w S (L.drop k) (.slice (some ⟨bk, o + k * 4, none⟩) (L.length - k) (cap - k)) := by
  obtain ⟨ad', cap', e, h0, h1, h2, h3⟩ := h
  cases e
  refine ⟨some ⟨bk, o + k * 4, none⟩, cap - k, (by rw [List.length_drop]), (fun q => by cases q), (by rw [List.length_drop]; omega), (by omega), fun i hi => ?_⟩
  rw [List.length_drop] at hi
  obtain ⟨bk', o', ha, hl, hS, c0, c1, c2, c3⟩ := h3 (k + i) (by omega)
  cases ha
  have e : (L.drop k)[i]'(by rw [List.length_drop]; exact hi) = L[k + i] := List.getElem_drop ..
  rw [e]
  refine ⟨bk, o + k * 4, rfl, hl, hS, ?_, ?_, ?_, ?_⟩
  · rw [show o + k * 4 + i * 4 = o + (k + i) * 4 by omega]; exact c0
  · rw [show o + k * 4 + i * 4 + 1 = o + (k + i) * 4 + 1 by omega]; exact c1
  · rw [show o + k * 4 + i * 4 + 2 = o + (k + i) * 4 + 2 by omega]; exact c2
  · rw [show o + k * 4 + i * 4 + 3 = o + (k + i) * 4 + 3 by omega]; exact c3
def AD (X : Bs) (st : Int) (l : List En) (w wr : World) (iv : Value) : Prop := ∃ k : Nat, k ≤ l.length ∧ iv = .int .i64 (k : Nat) ∧ Below w.heap.size w wr ∧ st + k ≤ X.last ∧ X.lay (st + 1) l = X.lay (st + 1 + k) (l.drop k)
set_option maxHeartbeats 1000000 in
set_option maxRecDepth 100000 in
theorem adopt_p {X : Bs} (h : Pb w A S X) {l : List En} {ad : Option Addr} {cap : Nat} (hl : Es w S l (.slice ad l.length cap)) {st : Int} (h1 : X.base ≤ X.commit) (h2 : X.commit ≤ st) (h3 : st ≤ X.last) (hz : X.log.length + l.length ≤ 900000) :
    Calls Try.prog 84 #[.pointer (some ⟨A, 0, none⟩), .int .i64 st, .slice ad l.length cap] w fun e w' => e = .returned (.tuple #[]) ∧ Pt w w' A S (X.lay (st + 1) l) := by
  have hlt := h.lt
  obtain ⟨l1, b0, b1⟩ := h.len
  have hll : X.last ≤ 4398047411104 := by unfold Bs.last; omega
  have hlc : l.length ≤ cap := by
    obtain ⟨_, cap', e, q, _⟩ := hl.shape
    cases e
    exact q
  have HH := Lib.hid h
  have HL := Lib.hid hl
  clear h hl
  go_enter Try.func84, Try.ntmps84
  go_wp2
  go_loopw [11] (fun iv wr => AD X st l w wr iv) (fun iv _ => l.length - (intOf iv).toNat)
  case atStart => exact ⟨0, Nat.zero_le _, rfl, Below.refl _ _, by omega, by simp⟩
  case round =>
    obtain ⟨k, hk, rfl, hb, hkl, hlay⟩ := hrel
    have hP := HH.out.on hb
    have hE := HL.out.on hb
    by_cases hlt2 : k < l.length
    · have k0 : (0 : Int) ≤ k := by omega
      have k1 : (k : Int) < l.length := by omega
      obtain ⟨ad', cp', e, _, _, _, h3'⟩ := hE
      cases e
      obtain ⟨bk, o, rfl, hbl, hbS, x0, x1, x2, x3⟩ := h3' k hlt2
      have hE := HL.out.on hb
      obtain ⟨en, hen⟩ : ∃ en, l[k] = en := ⟨_, rfl⟩
      rw [hen] at x0 x1 x2 x3
      have hdr : l.drop k = en :: l.drop (k + 1) := by rw [List.drop_eq_getElem_cons hlt2, hen]
      obtain ⟨i, hi⟩ : ∃ i, st + 1 + (k : Int) = i := ⟨_, rfl⟩
      rw [hi, hdr] at hlay
      have hal : Below wr.heap.size wr (wr.alloc (enO en)) := (Below.refl _ wr).alloc (Nat.le_refl _) _
      have hhas := has_any (hP.on hal) i en.term
      have w1 : IntKind.i64.wrap (st + 1) = st + 1 := by rw [IntKind.wrap_i64]; omega
      have w1' : wrap64 (st + 1) = st + 1 := IntWalk.wrap64_in _ ⟨by omega, by omega⟩
      have w2 : IntKind.i64.wrap (st + 1 + (k : Int)) = i := by rw [IntKind.wrap_i64]; omega
      have w2' : wrap64 (st + 1 + (k : Int)) = i := (IntWalk.wrap64_in _ ⟨by omega, by omega⟩).trans hi
      by_cases hh : X.base ≤ i ∧ i ≤ X.last ∧ X.termAt i = en.term
      · rw [decide_eq_true hh] at hhas
        have HN : Hid (∀ n, AD X st l w ((wr.alloc (enO en)).drewN n) (.int .i64 ((k : Int) + 1))) := by
          intro n
          refine ⟨k + 1, hlt2, by simp, below_draw (hb.trans (hal.mono hb.size)) n, by omega, ?_⟩
          rw [hlay]
          have : X.lay i (en :: l.drop (k + 1)) = X.lay (i + 1) (l.drop (k + 1)) := by
            show (if X.commit < i ∧ (X.last < i ∨ X.termAt i ≠ en.term) then _ else _) = _
            rw [if_neg (fun q => by rcases q.2 with z | z; omega; exact z hh.2.2)]
          rw [this, ← hi]
          congr 1
          simp
          omega
        clear hP hE h3' hlay hdr hen hal hb hbl hbS hi hh
        go_wp2_with fail
        refine hhas.mono ?_
        rintro e1 w2 ⟨rfl, n2, rfl⟩
        clear hhas
        go_wp2
        exact ⟨HN.out n2, by simp [intOf]; omega⟩
      · rw [decide_eq_false hh] at hhas
        have hcap2 : ¬ cap = k := by omega
        have hput : ∀ n, Calls Try.prog 70 #[.pointer (some ⟨A, 0, none⟩), .int .i64 i, .slice (some ⟨bk, o + k * 4, none⟩) (l.length - k) (cap - k)] ((wr.alloc (enO en)).drewN n) fun e w' => e = .returned (.tuple #[]) ∧ Pt w w' A S (X.lay (st + 1) l) := by
          intro n
          have hbn : Below wr.heap.size wr ((wr.alloc (enO en)).drewN n) := below_draw hal n
          have hd := (hE.dropped (k := k) hk).on hbn
          have hld : (l.drop k).length = l.length - k := by simp
          rw [← hld] at hd ⊢
          refine (put_p (i := i) (l := l.drop k) (hP.on hbn) (by omega) (by omega) hd (by rw [hld]; omega)).mono ?_
          rintro e w' ⟨rfl, hT⟩
          refine ⟨rfl, ?_⟩
          have : X.lay i (en :: l.drop (k + 1)) = X.put i (l.drop k) := by
            show (if X.commit < i ∧ (X.last < i ∨ X.termAt i ≠ en.term) then X.put i (en :: l.drop (k + 1)) else _) = _
            rw [hdr, if_pos ⟨by omega, by
              by_cases z : X.last < i
              · exact .inl z
              · exact .inr (fun y => hh ⟨by omega, by omega, y⟩)⟩]
          rw [hlay, this]
          exact Pt.from (hb.trans (hbn.mono hb.size)) hT
        have HP := Lib.hid hput
        have kc : (k : Int) ≤ cap := by omega
        have kc2 : k ≤ cap := by omega
        have kl2 : k ≤ l.length := hk
        have kli : (k : Int) ≤ l.length := by omega
        clear hP hE h3' hlay hdr hen hal hb hbl hbS hi hh hput
        go_wp2_with fail
        refine hhas.mono ?_
        rintro e1 w2 ⟨rfl, n2, rfl⟩
        clear hhas
        go_wp2_with fail
        refine (HP.out _).mono ?_
        rintro e2 w3 ⟨rfl, hT⟩
        have HT := Lib.hid hT
        clear hT HP
        go_wp2
        refine bodyPost_ret (results_none rfl _ _ _) rfl ?_
        exact ⟨rfl, HT.out⟩
    · have k1 : ¬ (k : Int) < l.length := by omega
      have ek : k = l.length := by omega
      have HT : Hid (Pt w wr A S (X.lay (st + 1) l)) := by
        rw [hlay, ek, List.drop_length]
        exact Pt.same HH.out hb
      clear hP hE hlay hb
      go_wp2
      go_end0
      exact ⟨rfl, HT.out⟩
end
end Go.Proofs.Ytmiagjcihmenfaa
