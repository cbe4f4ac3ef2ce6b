/- What the law BallotStays keeps from call to call. -/
import Derived.Test.YtmiagjcihmenfaaTa
import Derived.Test.YtmiagjcihmenfaaTb
import Derived.Test.YtmiagjcihmenfaaTc
import Derived.Test.YtmiagjcihmenfaaRf
namespace Go.Proofs.Ytmiagjcihmenfaa
open Go.RowKit Go.Maps

/-- A ballot, and the map of what was committed. -/
structure St (w0 w : World) (A B : Nat) (b : Bs) (f : Int → Option En) (n : Nat) (S : Nat → Prop) : Prop where
  pb : Pb w A S b
  ok : Ok b
  mp : Wm w B n f
  nB : ¬ S B
  lo : ∀ k, S k → w0.heap.size ≤ k
  loB : w0.heap.size ≤ B
  bel : Below w0.heap.size w0 w
  is : ∀ i e, f i = some e → i ≤ b.commit ∧ (b.base < i → b.at? i = some e)
section
variable {w0 w w' : World} {A B n : Nat} {b : Bs} {f : Int → Option En} {S : Nat → Prop}
theorem St.on (h : St w0 w A B b f n S) (hb : Below w.heap.size w w') : St w0 w' A B b f n S :=
  ⟨h.pb.on hb, h.ok, h.mp.on hb, h.nB, h.lo, h.loB, h.bel.trans (hb.mono h.bel.size), h.is⟩
theorem St.alloc (h : St w0 w A B b f n S) (o : Obj) : St w0 (w.alloc o) A B b f n S := h.on ((Below.refl _ w).alloc (Nat.le_refl _) _)
theorem below_fr (hb : Below w0.heap.size w0 w) (hf : Fr w w' S) (lo : ∀ k, S k → w0.heap.size ≤ k) : Below w0.heap.size w0 w' := by
  have f1 : Fr w0 w' (fun _ => False) := (Fr.ofBelow (fun _ => False) hb).step hf (fun j q => .inr (lo j q))
  exact f1.fresh (fun _ q => q.elim)
/-- Behind a call. -/
theorem St.did (h : St w0 w A B b f n S) (o : Op) {M : List Ms} {ov : Value} (q : Po w w' A S (didR b o).1 M ov) : ∃ S', St w0 w' A B (didR b o).1 f n S' ∧ Fr w w' S ∧ (∀ k, S' k → Gro S w w' k) := by
  obtain ⟨S', B', O, k1, k2, k3, _⟩ := q
  have hs := did_stays h.ok.inv o
  refine ⟨S', ⟨k1, did_ok h.ok o, h.mp.like (k3.block _ h.mp.lt h.nB), fun z => ?_, fun k z => ?_, h.loB, below_fr h.bel k3 h.lo, fun i e he => ?_⟩, k3, k2⟩
  · rcases k2 _ z with z | z
    · exact h.nB z
    · have := h.mp.lt
      omega
  · rcases k2 _ z with z | z
    · exact h.lo k z
    · have := h.bel.size
      omega
  · obtain ⟨i1, i2⟩ := h.is i e he
    have c1 := hs.commit
    have c2 := hs.base
    refine ⟨by omega, fun hi => ?_⟩
    rw [hs.log i hi i1]
    exact i2 (by omega)
/-- An entry is kept. -/
theorem St.put (h : St w0 w A B b f n S) {i : Int} {e : En} (hi : i ≤ b.commit) (hb : b.base < i) (he : b.at? i = some e) (hn : n < 1000000000) :
    ∃ w', (Instr.mapUpdate 66 (.map (some B)) (.int .i64 i) (enV e)).run Try.prog w = .ok () w' ∧ St w0 w' A B b (fun j => if j = i then some e else f j) (n + 1) S ∧ w.grownBy w' (some B) := by
  have h0 := h.ok.inv.b0
  have hl := h.ok.inv.cl
  obtain ⟨lv, pf, hv⟩ := h.pb
  have h1 := hv.b1
  have h2 := hv.len
  unfold Bs.last at hl
  obtain ⟨w', r1, r2, r3⟩ := h.mp.put (by unfold maxLen; omega) (i := i) ⟨by omega, by omega⟩ e
  have hf : Fr w w' (fun k => k = B) := ⟨r3.os, r3.tape, r3.output, r3.size, fun k hk hne => r3.block k hk (fun q => hne (by injection q))⟩
  refine ⟨w', r1, ⟨h.pb.stays hf (fun k q e => h.nB (e ▸ q)), h.ok, r2, h.nB, h.lo, h.loB, below_fr h.bel hf (fun k q => by rw [q]; exact h.loB), fun j e' hj => ?_⟩, r3⟩
  have hj : (if j = i then some e else f j) = some e' := hj
  by_cases q : j = i
  · rw [if_pos q] at hj
    cases hj
    rw [q]
    exact ⟨hi, fun _ => he⟩
  · rw [if_neg q] at hj
    exact h.is j e' hj
theorem at_some {b : Bs} {i : Int} (h1 : b.base < i) (h2 : i ≤ b.last) : ∃ e, b.at? i = some e := by
  unfold Bs.at? Bs.last at *
  rw [if_pos h1]
  have hl : (i - b.base - 1).toNat < b.log.length := by omega
  exact ⟨_, List.getElem?_eq_getElem hl⟩
theorem St.span (h : St w0 w A B b f n S) : b.base ≤ b.commit ∧ b.commit ≤ b.last ∧ 0 ≤ b.base ∧ b.base ≤ 4398046511104 ∧ b.last ≤ b.base + 900000 := by
  have h0 := h.ok.inv.b0
  have h1 := h.ok.inv.bc
  have h2 := h.ok.inv.cl
  obtain ⟨lv, pf, hv⟩ := h.pb
  have h3 := hv.b1
  have h4 := hv.len
  refine ⟨h1, h2, h0, h3, ?_⟩
  unfold Bs.last
  omega
theorem wpl_put {ops : Array Oper} {rest : List Oper} {o : Oper} {a : Act} {Q : Exit → Act → World → Prop} (hg : o.guard = none) (m x v : Operand) (hop : o.op = Op.mapUpdate 66 m x v) {i : Int} {e : En}
    (hm : a.eval m = .map (some B)) (hx : a.eval x = .int .i64 i) (hv : a.eval v = enV e) (hrun : (Instr.mapUpdate 66 (.map (some B)) (.int .i64 i) (enV e)).run Try.prog w = .ok () w')
    (hK : wpList Try.prog ops Q rest (a.put o.dst undef) w') : wpList Try.prog ops Q (o :: rest) a w := by
  refine wpList_plain hg fun K' hK' => ?_
  unfold Oper.wp
  simp [execOp, hop, hm, hx, hv, hrun, Result.andThen]
  exact hK' _ _ hK
theorem str_self (s : ByteArray) : (s.toList == s.toList) = true := by simp
end
end Go.Proofs.Ytmiagjcihmenfaa
