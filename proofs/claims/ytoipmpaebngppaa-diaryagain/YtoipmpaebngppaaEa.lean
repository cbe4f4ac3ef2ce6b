/- Plain: the records of a list of payloads; the walk of the document's records. -/
import Derived.Test.YtoipmpaebngppaaSWg
import Derived.Test.YtoipmpaebngppaaDRh
namespace Go.Proofs.Ytoipmpaebngppaa
open Go.RowKit

def recsB (L : List ByteArray) : ByteArray := ⟨(recs (lists L)).toArray⟩
theorem recsB_list (L : List ByteArray) : (recsB L).data.toList = recs (lists L) := by simp [recsB]
theorem recsB_nil : recsB [] = ⟨#[]⟩ := rfl
theorem recsB_snoc (L : List ByteArray) (p : ByteArray) : recsB (L ++ [p]) = recsB L ++ recB p := by
  apply same_bytes
  rw [app_list, recsB_list, recsB_list, recB_list, ← recs_snoc]
  simp [lists]
theorem recsB_append (L M : List ByteArray) : recsB (L ++ M) = recsB L ++ recsB M := by
  apply same_bytes
  rw [app_list, recsB_list, recsB_list, recsB_list, ← recs_append]
  simp [lists]
/-- Bytes of the records. -/
def sumS (L : List ByteArray) : Nat := (recsB L).size
theorem sumS_nil : sumS [] = 0 := rfl
theorem sumS_snoc (L : List ByteArray) (p : ByteArray) : sumS (L ++ [p]) = sumS L + (8 + p.size) := by
  unfold sumS
  rw [recsB_snoc, ByteArray.size_append, recB_size]
theorem sumS_append (L M : List ByteArray) : sumS (L ++ M) = sumS L + sumS M := by
  unfold sumS
  rw [recsB_append, ByteArray.size_append]
theorem sumS_take (L : List ByteArray) (k : Nat) : sumS (L.take k) ≤ sumS L := by
  have := sumS_append (L.take k) (L.drop k)
  rw [List.take_append_drop] at this
  omega
theorem sumS_cons (p : ByteArray) (L : List ByteArray) : sumS (p :: L) = 8 + p.size + sumS L := by
  have := sumS_append [p] L
  have h1 := sumS_snoc [] p
  rw [sumS_nil] at h1
  simp only [List.nil_append] at h1
  rw [List.singleton_append] at this
  omega
theorem sumS_len : ∀ L : List ByteArray, 8 * L.length ≤ sumS L
  | [] => by simp [sumS_nil]
  | p :: L => by
    have := sumS_len L
    rw [sumS_cons, List.length_cons]
    omega
theorem sumS_mem : ∀ {L : List ByteArray} {p : ByteArray}, p ∈ L → p.size ≤ sumS L
  | q :: L, p, h => by
    rw [sumS_cons]
    rcases List.mem_cons.1 h with rfl | h
    · omega
    · have := sumS_mem h
      omega

/-- Is one of them too great? -/
def bigL (L : List ByteArray) : Bool := L.any (fun p => decide (65536 < p.size))
def outB (L : List ByteArray) : ByteArray := if bigL L then ⟨#[]⟩ else recsB L
def codeB (L : List ByteArray) : Int := if bigL L then 30 else 0
theorem big_of {L : List ByteArray} {k : Nat} (hk : k < L.length) (h : 65536 < L[k].size) : bigL L = true := by
  unfold bigL
  rw [List.any_eq_true]
  exact ⟨L[k], List.getElem_mem hk, by simpa using h⟩
theorem not_big {L : List ByteArray} (h : ∀ k (hk : k < L.length), L[k].size ≤ 65536) : bigL L = false := by
  unfold bigL
  rw [List.any_eq_false]
  intro p hp
  obtain ⟨k, hk, rfl⟩ := List.getElem_of_mem hp
  have := h k hk
  simp
  omega
theorem small_of {L : List ByteArray} (h : bigL L = false) : ∀ p ∈ L, p.size ≤ 65536 := by
  unfold bigL at h
  rw [List.any_eq_false] at h
  intro p hp
  have := h p hp
  simp at this
  omega
theorem take_snocB (L : List ByteArray) (k : Nat) (h : k < L.length) : L.take (k + 1) = L.take k ++ [L[k]] := by
  simp

set_option maxHeartbeats 2000000 in
set_option maxRecDepth 100000 in
theorem refRecords_any (L : List ByteArray) (ad : Option Addr) (cap : Nat) (w : World) (hL : Ls L ad w) (hz : sumS L ≤ 1000000000000) :
    Calls Try.prog 31 #[.slice ad L.length cap] w fun e w' => e = .returned (.tuple #[.string (outB L), .int .i64 (codeB L)]) ∧ Below w.heap.size w w' := by
  have hlen := sumS_len L
  go_enter Try.func31, Try.ntmps31
  go_wp2
  go_loopw [4, 5] (fun s i wr => ∃ k : Nat, ∃ S, k ≤ L.length ∧ i = .int .i64 k ∧ s = .string S ∧ Hid (S = recsB (L.take k)) ∧ Hid (∀ j (hj : j < k) (hl : j < L.length), L[j].size ≤ 65536) ∧ Below w.heap.size w wr) (fun _ i _ => L.length - (intOf i).toNat)
  case atStart => exact ⟨0, ⟨#[]⟩, Nat.zero_le _, rfl, rfl, Lib.hid rfl, Lib.hid (fun j hj => absurd hj (by omega)), Below.refl _ _⟩
  case round =>
    obtain ⟨k, S, hk, rfl, rfl, HS, HB, hb⟩ := hrel
    by_cases hkl : k < L.length
    · have hki : (k : Int) < L.length := by omega
      obtain ⟨b, o, rfl, hbl, c0⟩ := (hL.on hb).at' k hkl
      have hm := sumS_mem (List.getElem_mem hkl)
      by_cases hbg : 65536 < L[k].size
      · have HG : Hid (bigL L = true) := big_of hkl hbg
        go_wp2_with (go_at_call 40; refine (refPut_big _ _ (by unfold maxLen; omega) hbg).mono ?_; rintro e w1 ⟨rfl, hb1⟩; refine Hid.out ?_)
        refine Lib.hid ?_
        go_wp2
        go_ret2
        unfold outB codeB
        rw [HG.out]
        exact ⟨rfl, hb.trans (hb1.mono hb.size)⟩
      · have HE : Hid (S ++ recB L[k] = recsB (L.take (k + 1))) := by
          show _ = _
          rw [take_snocB L k hkl, recsB_snoc, HS.out]
        have hsz : (S ++ recB L[k]).size ≤ 1000000000000 := by
          rw [HE.out]
          exact Nat.le_trans (sumS_take L (k + 1)) hz
        have hs1 : S.size + (recB L[k]).size ≤ 1000000000000 := by rw [ByteArray.size_append] at hsz; exact hsz
        go_wp2_with (go_at_call 40; refine (refPut_any _ _ (by omega)).mono ?_; rintro e w1 ⟨rfl, hb1⟩; refine Hid.out ?_)
        refine Lib.hid ?_
        go_wp2
        refine ⟨⟨k + 1, _, hkl, by go_num, rfl, HE, Lib.hid (fun j hj hl => ?_), hb.trans (hb1.mono hb.size)⟩, by simp [intOf]; omega⟩
        rcases Nat.lt_or_ge j k with h | h
        · exact HB.out j h hl
        · have : j = k := by omega
          subst this
          omega
    · have : k = L.length := by omega
      subst this
      have HG : Hid (bigL L = false) := not_big (fun j hj => HB.out j hj hj)
      go_wp2
      go_ret2
      unfold outB codeB
      rw [HG.out, HS.out, List.take_of_length_le (Nat.le_refl _)]
      exact ⟨rfl, hb⟩
end Go.Proofs.Ytoipmpaebngppaa
