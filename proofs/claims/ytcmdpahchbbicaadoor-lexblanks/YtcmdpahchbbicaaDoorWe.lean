/- The table of beginnings. -/
import Derived.Test.YtcmdpahchbbicaaDoorWd
namespace Go.Proofs.YtcmdpahchbbicaaDoor
open Go.RowKit

/-- A table in which all bytes of l have f. -/
def setAll (cs : Array Value) (l : List UInt8) (f : Value) : Array Value := l.foldl (fun a c => a.setIfInBounds c.toNat f) cs
theorem setAll_size (f : Value) : ∀ (l : List UInt8) (cs : Array Value), (setAll cs l f).size = cs.size
  | [], cs => rfl
  | c :: r, cs => by
    show (setAll (cs.setIfInBounds c.toNat f) r f).size = cs.size
    rw [setAll_size f r]
    simp
theorem setAll_snoc (cs : Array Value) (l : List UInt8) (c : UInt8) (f : Value) : setAll cs (l ++ [c]) f = (setAll cs l f).setIfInBounds c.toNat f := by simp [setAll]
theorem setAll_get (f : Value) (b : UInt8) : ∀ (l : List UInt8) (cs : Array Value), cs.size = 256 → (setAll cs l f)[b.toNat]? = if l.any (fun c => c == b) = true then some f else cs[b.toNat]?
  | [], cs, _ => rfl
  | c :: r, cs, h => by
    show (setAll (cs.setIfInBounds c.toNat f) r f)[b.toNat]? = _
    rw [setAll_get f b r _ (by simp [h])]
    by_cases hr : r.any (fun c => c == b) = true
    · rw [if_pos hr, if_pos (by simp [hr])]
    · rw [if_neg hr]
      by_cases hc : c = b
      · subst hc
        have : c.toNat < cs.size := by rw [h]; exact c.toNat_lt
        rw [if_pos (by simp)]
        simp [this]
      · have hne : c.toNat ≠ b.toNat := fun e => hc (UInt8.toNat_inj.1 e)
        rw [if_neg (by simp [hc]; simpa using hr)]
        rw [Array.getElem?_setIfInBounds_ne hne]
set_option maxHeartbeats 1000000 in
set_option maxRecDepth 100000 in
theorem fill_any {w : World} {T : Nat} {cs : Array Value} {t : ByteArray} {fn : Fn} {a b : Array Value} (hT : w.heap[T]? = some (.cells cs 42 (0, 0))) (hc : cs.size = 256) (ht : t.size ≤ 1024) :
    Calls Tryd.prog 17 #[.string t, .func fn a b, .pointer (some ⟨T, 0, none⟩)] w fun e w' => e = .returned (.tuple #[]) ∧ w'.heap[T]? = some (.cells (setAll cs t.data.toList (.func fn a b)) 42 (0, 0)) ∧ Fr w w' (fun k => k = T) := by
  obtain ⟨D, hD⟩ : ∃ D, setAll cs t.data.toList (.func fn a b) = D := ⟨_, rfl⟩
  rw [hD]
  have HD := Lib.hid hD
  clear hD
  go_enter Tryd.func17, Tryd.ntmps17
  go_wp2
  go_loopw [8] (fun i wr => ∃ (j : Nat), j ≤ t.size ∧ i = .int .i64 j ∧ Hid (wr.heap[T]? = some (.cells (setAll cs (t.data.toList.take j) (.func fn a b)) 42 (0, 0))) ∧ Hid (Fr w wr (fun k => k = T))) (fun i _ => t.size - (intOf i).toNat)
  case atStart => exact ⟨0, by omega, rfl, hT, Fr.refl _ _⟩
  case round =>
    obtain ⟨j, hj, rfl, HT, HF⟩ := hrel
    by_cases hlt : j < t.size
    · have hlt' : (j : Int) < (t.size : Int) := by omega
      obtain ⟨C, hC⟩ : ∃ C, setAll cs (t.data.toList.take j) (.func fn a b) = C := ⟨_, rfl⟩
      have hz : C.size = 256 := by rw [← hC, setAll_size]; exact hc
      have hq := HT.out
      rw [hC] at hq
      have hx : t[j].toNat < 256 := t[j].toNat_lt
      have hx' : (t[j].toNat : Int) < 256 := by omega
      have c1 : ∃ u, wr.cell? ⟨T, t[j].toNat, none⟩ = some u := by
        rw [cell_blk hq, Array.getElem?_eq_getElem (by omega)]
        exact ⟨_, rfl⟩
      obtain ⟨u, c1⟩ := c1
      have f1 := frozen_blk hq t[j].toNat
      have hs := set_blk (i := t[j].toNat) hq (.func fn a b)
      have hn : C.setIfInBounds t[j].toNat (.func fn a b) = setAll cs (t.data.toList.take (j + 1)) (.func fn a b) := by
        rw [List.take_add_one, List.getElem?_eq_getElem (by simpa using hlt)]
        show _ = setAll cs (_ ++ [t[j]]) _
        rw [setAll_snoc, hC]
      rw [hn] at hs
      have HS := Lib.hid hs
      have hfr := HF.out.set (a := ⟨T, t[j].toNat, none⟩) (.inl rfl) (.func fn a b)
      have HFR := Lib.hid hfr
      clear hs hn hq HT HF hC hfr
      go_wp2
      exact ⟨⟨j + 1, by omega, by go_num, HS, HFR⟩, by simp [intOf]; omega⟩
    · have hlt' : ¬ (j : Int) < (t.size : Int) := by omega
      have hq := HT.out
      rw [List.take_of_length_le (by simp; omega), HD.out] at hq
      have HQ := Lib.hid hq
      clear hq HT
      go_wp2
      refine bodyPost_end (results_none rfl _ _ _) rfl ?_
      exact ⟨rfl, HQ.out, HF.out⟩
end Go.Proofs.YtcmdpahchbbicaaDoor
