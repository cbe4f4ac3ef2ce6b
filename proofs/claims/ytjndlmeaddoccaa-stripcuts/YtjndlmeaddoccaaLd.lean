/- The walk of written: records of payloads, one behind the other, and where each ends. -/
import Derived.Test.YtjndlmeaddoccaaPa
import Derived.Test.YtjndlmeaddoccaaLb
namespace Go.Proofs.Ytjndlmeaddoccaa
open Go.RowKit

theorem infoInt : (Try.prog.info? 3).map (fun i => (i.zero, i.size, i.bytes)) = some (some (.int .i64 0), 1, 8) := by kernel_rfl

/-- The cells of the ends, up to the record k. -/
def endCells (L : List ByteArray) (k : Nat) : List Value := (List.range (k + 1)).map (fun j => Value.int .i64 (ends (lists L) j))
theorem endCells_succ (L : List ByteArray) (k : Nat) : endCells L (k + 1) = endCells L k ++ [Value.int .i64 (ends (lists L) (k + 1))] := by
  unfold endCells
  rw [List.range_succ, List.map_append]
  rfl
theorem endCells_len (L : List ByteArray) (k : Nat) : (endCells L k).length = k + 1 := by simp [endCells]
theorem endCells_at (L : List ByteArray) (k j : Nat) (h : j ≤ k) : (endCells L k)[j]? = some (Value.int .i64 (ends (lists L) j)) := by
  unfold endCells
  rw [List.getElem?_map, List.getElem?_range (by omega)]
  rfl

/-- What has been written of the list. -/
structure Wr (L : List ByteArray) (k : Nat) (S : ByteArray) : Prop where
  text : S.data.toList = recs (lists (L.take k))
  size : S.size ≤ 69640
  small : ∀ p ∈ L.take k, p.size ≤ 4096
theorem Wr.nil (L : List ByteArray) : Wr L 0 ⟨#[]⟩ := ⟨by simp [recs, lists], by decide, by simp⟩
theorem Wr.ends {L : List ByteArray} {k : Nat} {S : ByteArray} (h : Wr L k S) : S.size = ends (lists L) k := by
  rw [← len_size, h.text]
  simp [Ytjndlmeaddoccaa.ends, lists, List.map_take]
theorem Wr.step {L : List ByteArray} {k : Nat} {S : ByteArray} (h : Wr L k S) (hk : k < L.length) (hs : S.size ≤ 65536) (hp : L[k].size ≤ 4096) : Wr L (k + 1) (S ++ recB L[k]) := by
  have e : L.take (k + 1) = L.take k ++ [L[k]] := List.take_succ_eq_append_getElem hk
  refine ⟨?_, ?_, ?_⟩
  · rw [e]
    have e2 : lists (L.take k ++ [L[k]]) = lists (L.take k) ++ [L[k].data.toList] := List.map_append
    rw [e2, recs_snoc, ← h.text, ← recB_list]
    simp
  · rw [ByteArray.size_append, recB_size]
    omega
  · rw [e]
    intro q hq
    rcases List.mem_append.1 hq with hq | hq
    · exact h.small q hq
    · simp at hq
      subst hq
      exact hp
theorem Wr.count {L : List ByteArray} {k : Nat} {S : ByteArray} (h : Wr L k S) (hk : k ≤ L.length) : 8 * k ≤ S.size := by
  have := recs_count (lists (L.take k))
  rw [← h.text, len_size] at this
  simpa [lists, Nat.min_eq_left hk] using this

set_option maxHeartbeats 4000000 in
set_option maxRecDepth 100000 in
theorem written_any (L : List ByteArray) (ad : Option Addr) (cap : Nat) (w : World) (hL : Ls L ad w) (hz : Sz L) (hmax : L.length ≤ 9223372036854775806) :
    Calls Try.prog 17 #[.slice ad L.length cap] w fun e w' => Below w.heap.size w w' ∧ (e = .returned (.tuple #[.string ⟨#[]⟩, .slice none 0 0, .bool false]) ∨ ∃ S v, e = .returned (.tuple #[.string S, v, .bool true]) ∧ Wr L L.length S ∧ w'.ownsRow w.heap.size 3 1 v (L.length + 1) (endCells L L.length)) := by
  obtain ⟨inf, hi, hz0, hz1, hz2⟩ := info_parts infoInt
  go_enter Try.func17, Try.ntmps17
  go_wp2
  go_loopw [5, 6, 14] (fun s v i wr => ∃ k : Nat, ∃ S, k ≤ L.length ∧ i = .int .i64 k ∧ s = .string S ∧ Hid (Wr L k S) ∧ wr.ownsRow w.heap.size 3 1 v (k + 1) (endCells L k) ∧ Below w.heap.size w wr) (fun _ _ i _ => L.length - (intOf i).toNat)
  case atStart => exact ⟨0, _, Nat.zero_le _, rfl, rfl, Wr.nil L, World.ownsRow_lit w #[.int .i64 0] 1 (Nat.le_refl _) (by decide) rfl, (Below.refl _ _).alloc (Nat.le_refl _) _⟩
  case round =>
    obtain ⟨k, S, hk, rfl, rfl, HW, hown, hb⟩ := hrel
    have hSz := HW.out.size
    have hcount := HW.out.count hk
    by_cases hlt : k < L.length
    · obtain ⟨b, o, rfl, hbl, c0⟩ := (hL.on hb).at' k hlt
      obtain ⟨p, hp⟩ : ∃ p, L[k] = p := ⟨_, rfl⟩
      have hpm : p.size ≤ 9223372036854775807 := by rw [← hp]; exact hz.at' _ (List.getElem_mem hlt)
      rw [hp] at c0
      have z1 : (k : Int) < (L.length : Int) := by omega
      by_cases h1 : 4096 < p.size
      · have h1' : (4096 : Int) < p.size := by omega
        clear hp
        go_wp2
        exact bodyPost_ret (v := .tuple #[.string ⟨#[]⟩, .slice none 0 0, .bool false]) (by simp [results, Try.results17, go_sem]) rfl ⟨hb, .inl rfl⟩
      · by_cases h2 : 65536 < S.size
        · have h1' : (p.size : Int) ≤ 4096 := by omega
          have h2' : (65536 : Int) < S.size := by omega
          clear hp
          go_wp2
          exact bodyPost_ret (v := .tuple #[.string ⟨#[]⟩, .slice none 0 0, .bool false]) (by simp [results, Try.results17, go_sem]) rfl ⟨hb, .inl rfl⟩
        · have h1' : (p.size : Int) ≤ 4096 := by omega
          have h2' : (S.size : Int) ≤ 65536 := by omega
          have HS : Hid (Wr L (k + 1) (S ++ recB p)) := by
            rw [← hp]
            exact HW.out.step hlt (by omega) (by rw [hp]; omega)
          have HC := Lib.hid (endCells_succ L k)
          have hrs := recB_size p
          obtain ⟨T, eT⟩ : ∃ T, recB p = T := ⟨_, rfl⟩
          rw [eT] at hrs HS
          have hE : (S ++ T).size = S.size + T.size := ByteArray.size_append
          have hEe := HS.out.ends
          rw [hE] at hEe
          have HE := Lib.hid hEe
          have HT := Lib.hid eT
          have hTz : T.size ≤ 4104 := by omega
          clear hp hEe eT hrs hE
          go_wp2_with (go_at_call 12; refine (put_any p _ (by omega)).mono ?_; rintro e w1 ⟨rfl, hb1⟩; rw [HT.out]; refine Hid.out ?_)
          have hown1 := own_below hown hb1
          have hbb : Below w.heap.size w w1 := hb.trans (hb1.mono hb.size)
          have hsz := hbb.size
          refine Lib.hid ?_
          go_wp2_with (at_builtin; refine wpList_append_own _ rfl _ _ 35 rfl w.heap.size 3 inf (.int .i64 0) 1 8 Try.underlying35 hi hz0 hz1 hz2 rfl (by decide) _ _ _ rfl (hown1.alloc _) ⟨w1.heap.size, 0, none⟩ 1 1 [Value.int .i64 _] rfl rfl (news_one _ _ _) (by intro u' hu'; simp at hu'; subst hu'; rfl) (by unfold maxLen; omega) (by omega) (by simp; omega) ?_; intro v3 w3 hown3 hgrow3 _; refine Hid.out ?_)
          refine Lib.hid ?_
          have hb3 : Below w.heap.size w w3 := (hbb.alloc hsz _).grown hgrow3 (by simp; omega) (fun k hk => (hown1.lt k hk).1)
          go_wp2
          refine ⟨⟨k + 1, S ++ T, by omega, by go_num, rfl, HS, ?_, hb3⟩, by simp [intOf]; omega⟩
          rw [HC.out, ← HE.out]
          exact hown3
    · have hk' : k = L.length := by omega
      subst hk'
      go_wp2
      exact bodyPost_ret (v := .tuple #[.string S, _, .bool true]) (by simp [results, Try.results17, go_sem]; first | rfl | skip) rfl ⟨hb, .inr ⟨S, _, rfl, HW.out, hown⟩⟩
end Go.Proofs.Ytjndlmeaddoccaa
