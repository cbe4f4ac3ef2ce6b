/- Arguments, opened: fields, lists, structs; how much they hold. -/
import Derived.Test.YtjhgmncmcklnkaaVD
import Derived.Test.YtjhgmncmcklnkaaRows
import Derived.ProofKit
import Derived.SizedLaws
import Derived.OpenShut
import Derived.Deep.Slices
import Derived.Lib.SmallJoins
namespace Go.Proofs.Ytjhgmncmcklnkaa
open Go.ChangeShapes Go.WideShapes Go.ChangeAt Go.WideMaps Go.WideElems Go.RowKit Go.Joins Go.Deep

theorem own : ownKnob Try.prog.godebug = none := by kernel_rfl
theorem laidOut : laidOutB Try.prog = true := by kernel_rfl
theorem cells3 : Try.prog.cellsOf 3 = 1 := by kernel_rfl
theorem cells2 : Try.prog.cellsOf 2 = 1 := by kernel_rfl
theorem cells4 : Try.prog.cellsOf 4 = 1 := by kernel_rfl
theorem cells9 : Try.prog.cellsOf 9 = 1 := by kernel_rfl
theorem cells27 : Try.prog.cellsOf 27 = 1 := by kernel_rfl
theorem valsS_append {w : World} {S : Nat → Prop} : ∀ {x y : List At} {vs us : List Value}, valsS w S x vs → valsS w S y us → valsS w S (x ++ y) (vs ++ us)
  | [], _, [], _, _, k => k
  | _ :: _, _, _ :: _, _, h, k => ⟨h.1, valsS_append h.2 k⟩
  | [], _, _ :: _, _, h, _ => h.elim
  | _ :: _, _, [], _, h, _ => h.elim
/-- The cells read as fields of these types, which take so many bytes at most. -/
def FOk (w : World) (t : List Ty) (cs : List Value) (n : Nat) : Prop := ∃ y, hasS t y ∧ valsS w NoS y cs ∧ (encS y).length ≤ 10 * n
theorem FOk.join {w : World} {t u : List Ty} {cs ds : List Value} {n m : Nat} (h : FOk w t cs n) (k : FOk w u ds m) : FOk w (t ++ u) (cs ++ ds) (n + m) := by
  obtain ⟨y, h1, h2, h3⟩ := h
  obtain ⟨z, k1, k2, k3⟩ := k
  exact ⟨y ++ z, hasS_append h1 k1, valsS_append h2 k2, by rw [encS_append, List.length_append]; omega⟩
theorem FOk.nil (w : World) : FOk w [] [] 0 := ⟨[], by simp [hasS], trivial, by simp [encS]⟩
theorem FOk.more {w : World} {t : List Ty} {cs : List Value} {n m : Nat} (h : FOk w t cs n) (hm : n ≤ m) : FOk w t cs m := by
  obtain ⟨y, h1, h2, h3⟩ := h
  exact ⟨y, h1, h2, by omega⟩
theorem bulk_one {H : Type} (d : DataW H) : 1 ≤ Rows.uptoBulk d := by
  cases d with
  | lit l => cases l <;> simp [Rows.uptoBulk]
  | _ => simp [Rows.uptoBulk]
section
variable {H : Type} {enc : TypeId × Value → H} {W : World} {fuel : Nat} {cs : List Value} {x : DataW H × List MemPlace}
theorem num_ok {tn : TypeId} (hu : Try.prog.underlying tn = some (.int .i64)) (hf : DataW.trod enc Try.prog W 0 (fun _ => true) true fuel tn cs = some x) : ∃ k : Int, cs = [.int .i64 k] ∧ FOk W [.num] [.int .i64 k] (Rows.uptoBulk x.1) := by
  obtain ⟨k, f, _, b⟩ := DataW.trod_int hu hf
  have hb := bounds_i64 b
  refine ⟨k, f, [.num k], ?_, ?_, ?_⟩
  · unfold hasS
    exact ⟨by simp only [Ty.has]; exact hb, by simp [hasS]⟩
  · simp [valsS, At.lies]
  · have := num_len k
    have := bulk_one x.1
    simp only [encS, At.enc, List.append_nil]
    omega
theorem yes_ok' (hf : DataW.trod enc Try.prog W 0 (fun _ => true) true fuel 4 cs = some x) : ∃ k : Bool, cs = [.bool k] ∧ FOk W [.yes] [.bool k] (Rows.uptoBulk x.1) := by
  obtain ⟨k, f, _⟩ := DataW.trod_bool Try.underlying4 hf
  refine ⟨k, f, [.yes k], by simp [hasS, Ty.has], by simp [valsS, At.lies], ?_⟩
  have := num_len (yesN k)
  have := bulk_one x.1
  simp only [encS, At.enc, List.append_nil]
  omega
theorem text_ok (hf : DataW.trod enc Try.prog W 0 (fun _ => true) true fuel 9 cs = some x) : ∃ k : ByteArray, cs = [.string k] ∧ FOk W [.text] [.string k] (Rows.uptoBulk x.1) := by
  obtain ⟨s, f, hd, hs⟩ := DataW.trod_string Try.underlying9 hf
  have hmx : maxLen ≤ 9223372036854775807 := by decide
  have hsl : s.data.toList.length = s.size := by rw [Array.length_toList]; rfl
  refine ⟨s, f, [.text s], ?_, by simp [valsS, At.lies], ?_⟩
  · unfold hasS
    exact ⟨by simp only [Ty.has]; omega, by simp [hasS]⟩
  · have := num_len (s.data.toList.length : Int)
    rw [hd]
    simp only [encS, At.enc, List.append_nil, List.length_append, Rows.uptoBulk]
    omega
/-- A list, by its items. -/
theorem list_ok {st et : TypeId} {t : List Ty} (hu : Try.prog.underlying st = some (.slice et)) (hc : Try.prog.cellsOf et = t.length) (hpos : 0 < t.length)
    (item : ∀ {fuel : Nat} {cs : List Value} {x : DataW H × List MemPlace}, cs.length = t.length → DataW.trod enc Try.prog W 0 (fun _ => true) true fuel et cs = some x → FOk W t cs (Rows.uptoBulk x.1))
    (hf : DataW.trod enc Try.prog W 0 (fun _ => true) true fuel st cs = some x) : ∃ ad n cap, cs = [.slice ad n cap] ∧ FOk W [.list t] [.slice ad n cap] (Rows.uptoBulk x.1) := by
  rcases open_slice hu hf with ⟨hcs, hx⟩ | ⟨a, len, cap, m, n, D, Pl, rfl, _, hl, hm, hmm, hx, hel⟩
  · subst hcs
    refine ⟨none, 0, 0, rfl, [.list []], by simp [hasS, Ty.has, hasL], ?_, ?_⟩
    · simp only [valsS, At.lies, and_true]
      exact ⟨none, 0, rfl, Nat.le_refl _, Nat.zero_le _, .inl (by trivial)⟩
    · have := num_len (([] : List (List At)).length : Int)
      have := bulk_one x.1
      simp only [encS, At.enc, encL, List.append_nil]
      omega
  · simp only [if_true] at hmm
    subst hmm
    have each : ∀ i, i < len → ∃ q : List At, hasS t q ∧ (encS q).length ≤ 10 * Rows.uptoBulk (D i) ∧ ∃ vs : List Value, valsS W NoS q vs ∧ ∀ j, j < t.length → W.cell? (a.add (i * t.length + j)) = vs[j]? := by
      intro i hi
      obtain ⟨cs', h1, h2⟩ := hel i (by omega)
      rw [hc] at h1
      obtain ⟨_, hlen, hcell⟩ := World.cells?_some h1
      obtain ⟨y, y1, y2, y3⟩ := item hlen h2
      refine ⟨y, y1, y3, cs', y2, fun j hj => ?_⟩
      have := hcell j (by omega)
      rw [add_add] at this
      rw [this, List.getElem?_eq_getElem (by omega)]
    have hinh : Inhabited (List At) := ⟨[]⟩
    obtain ⟨q, hq⟩ := choose_lt each
    have hlen : ((List.range len).map q).length = len := by simp
    have hsum : ∀ L : List Nat, (∀ i ∈ L, i < len) → (encL (L.map q)).length ≤ 10 * Rows.uptoBulkAll (L.map D) := by
      intro L
      induction L with
      | nil => intro _; simp [encL, Rows.uptoBulkAll]
      | cons i L ih =>
        intro hL
        have h1 := ih (fun j hj => hL j (List.mem_cons_of_mem _ hj))
        have h2 := (hq i (hL i List.mem_cons_self)).2.1
        simp only [List.map_cons, encL, List.length_append, Rows.uptoBulkAll]
        omega
    have hsum := hsum (List.range len) (fun i hi => List.mem_range.1 hi)
    have hmx : maxLen ≤ 9223372036854775807 := by decide
    refine ⟨some a, len, m, rfl, [.list ((List.range len).map q)], ?_, ?_, ?_⟩
    · unfold hasS
      refine ⟨?_, by simp [hasS]⟩
      simp only [Ty.has]
      refine ⟨by rw [hlen]; omega, hasL_of (fun y hy => ?_)⟩
      obtain ⟨i, hi, rfl⟩ := List.mem_map.1 hy
      exact (hq i (List.mem_range.1 hi)).1
    · simp only [valsS, At.lies, and_true]
      refine ⟨some a, m, by rw [hlen], by rw [hlen]; exact hl, hm, ?_⟩
      by_cases h0 : len = 0
      · exact .inl (by subst h0; rfl)
      · obtain ⟨b, o, sp⟩ := a
        have hcell0 : ∃ v, W.cell? ((⟨b, o, sp⟩ : Addr).add 0) = some v := by
          obtain ⟨q1, _, vs, q3, q4⟩ := hq 0 (by omega)
          have hvl := valsS_len q3
          have hql := hasS_len q1
          have := q4 0 hpos
          rw [Nat.zero_mul, Nat.zero_add, List.getElem?_eq_getElem (by omega)] at this
          exact ⟨_, this⟩
        obtain ⟨v, hv⟩ := hcell0
        have hsp : sp = none := by
          have := World.cell?_spot hv
          simpa [Addr.add] using this
        subst hsp
        have hbl : b < W.heap.size := by
          rw [add_at] at hv
          exact World.block_lt_of_cell? W _ hv
        refine .inr ⟨b, o, rfl, hbl, fun h => h, liesL_of (m := t.length) _ _ (fun y hy => ?_) (fun i hi => ?_)⟩
        · obtain ⟨i, hi, rfl⟩ := List.mem_map.1 hy
          exact hasS_len (hq i (List.mem_range.1 hi)).1
        · rw [hlen] at hi
          obtain ⟨q1, _, vs, q3, q4⟩ := hq i hi
          have hql := hasS_len q1
          have e : ((List.range len).map q)[i]'(by rw [hlen]; exact hi) = q i := by simp
          rw [e]
          refine liesS_of q3 (fun j hj => ?_)
          have := q4 j (by omega)
          rw [add_at] at this
          rw [Nat.add_assoc]
          exact this
    · rw [hx]
      have := num_len (((List.range len).map q).length : Int)
      simp only [encS, At.enc, List.append_nil, List.length_append, Rows.uptoBulk]
      omega
theorem agg_ok {t : List Ty} {l : List (DataW H)} (h : FOk W t cs (Rows.uptoBulkAll l)) (hx : x.1 = .agg l) : FOk W t cs (Rows.uptoBulk x.1) := by
  rw [hx]
  exact h.more (by simp [Rows.uptoBulk])
end
end Go.Proofs.Ytjhgmncmcklnkaa
