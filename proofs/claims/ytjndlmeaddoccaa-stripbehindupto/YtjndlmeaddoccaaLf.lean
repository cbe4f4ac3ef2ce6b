/- The walk of the statement StripBehind, where what comes behind is not too long for its records' list. -/
import Derived.Test.YtjndlmeaddoccaaLe
namespace Go.Proofs.Ytjndlmeaddoccaa
open Go.RowKit

set_option maxHeartbeats 2000000 in
set_option maxRecDepth 100000 in
theorem behind_any (L : List ByteArray) (ad : Option Addr) (cap : Nat) (M : ByteArray) (w : World) (hL : Ls L ad w) (hz : Sz L) (hmax : L.length ≤ 9223372036854775806) (hM : M.size ≤ 1048576) :
    Calls Try.prog 7 #[.slice ad L.length cap, .string M] w fun e w' => e = .returned (.bool true) ∧ Below w.heap.size w w' := by
  go_enter Try.func7, Try.ntmps7
  go_wp2_with (go_at_call 17; refine (written_any L ad cap _ hL hz hmax).mono ?_; rintro e w1 ⟨hb1, he⟩; rcases he with rfl | ⟨S, v, rfl, hW, hown⟩ <;> refine Hid.out ?_)
  · refine Lib.hid ?_
    go_wp2_with (go_at_call 9; refine (awake_any _).mono ?_; rintro e w2 ⟨rfl, hb2⟩; refine Hid.out ?_)
    refine Lib.hid ?_
    go_wp2_with (go_at_call 9; refine (awake_any _).mono ?_; rintro e w3 ⟨rfl, hb3⟩; refine Hid.out ?_)
    refine Lib.hid ?_
    go_wp2
    go_ret
    exact ⟨rfl, (hb1.trans (hb2.mono hb1.size)).trans (hb3.mono (Nat.le_trans hb1.size hb2.size))⟩
  · obtain ⟨g, capv, rfl⟩ := own_form hown (by omega)
    have hSs := hW.size
    have hcount := hW.count (Nat.le_refl _)
    have hends := hW.ends
    have hall : ∀ p ∈ lists L, p.length ≤ 65536 := by
      intro q hq
      obtain ⟨p, hp, rfl⟩ := List.mem_map.1 hq
      have := hW.small p (by rw [List.take_of_length_le (Nat.le_refl _)]; exact hp)
      rw [len_size]
      omega
    have htext : S.data.toList = recs (lists L) := by
      have := hW.text
      rw [List.take_of_length_le (Nat.le_refl _)] at this
      exact this
    have c1 := hown.cellAt L.length (by omega)
    rw [endCells_at L L.length L.length (Nat.le_refl _), ← hends] at c1
    obtain ⟨E, hE⟩ : ∃ E, S ++ M = E := ⟨_, rfl⟩
    have sE : E.size = S.size + M.size := by rw [← hE]; exact ByteArray.size_append
    have sE' : E.size ≤ 1000000000000 := by omega
    have lE : E.data.toList = recs (lists L) ++ M.data.toList := by rw [← hE, ← htext]; simp
    have HA := Lib.hid hall
    have HL := Lib.hid lE
    have HZ := Lib.hid sE
    have HT := Lib.hid htext
    clear hall htext hW hends lE sE
    refine Lib.hid ?_
    go_wp2_with (go_at_call 9; refine (awake_any _).mono ?_; rintro e w2 ⟨rfl, hb2⟩; refine Hid.out ?_)
    have z1 := hb1.size
    have z2 := hb2.size
    have hb12 : Below w.heap.size w w2 := hb1.trans (hb2.mono z1)
    have hL2 := hL.on hb12
    have hg1 := (hown.lt g rfl).2
    have c2 : w2.cell? ⟨g, L.length, none⟩ = some (.int .i64 S.size) := by rw [(bcell hb2).1 _ _ hg1]; exact c1
    clear hb1 hb2 hown c1
    refine Lib.hid ?_
    go_wp2_with (go_at_call 14; refine (scan_any E _ sE').mono ?_; rintro e w5 ⟨v, ps, n, rfl, hown5, hsc, hn, _, hb5⟩; refine Hid.out ?_)
    have hsc' := hsc
    rw [HL.out] at hsc'
    obtain ⟨t, ht, hn1, hn2⟩ := scans_behind HA.out hsc'
    have hn3 : S.size ≤ n := by rw [← len_size, HT.out]; exact hn1
    have hn4 : n ≤ S.size + M.size := by rw [← HZ.out]; exact hn
    have hlen : L.length ≤ ps.length := by
      have := congrArg List.length ht
      simp [lists] at this
      omega
    have htk : ps.take L.length = L := by
      apply lists_inj
      have h2 : lists (ps.take L.length) = (lists ps).take L.length := List.map_take
      rw [h2, ht, List.take_append_of_le_length (by simp [lists]), List.take_of_length_le (by simp [lists])]
    obtain ⟨adl, capl, rfl, hls, hcl, hnl⟩ := Ls.own hown5
    have hls' := hls.take L.length
    rw [htk] at hls'
    have hL5 := hL2.on hb5
    have z6 := hb5.size
    have c3 : w5.cell? ⟨g, L.length, none⟩ = some (.int .i64 S.size) := by rw [(bcell hb5).1 _ _ (by omega)]; exact c2
    have hbe : Below w.heap.size w w5 := hb12.trans (hb5.mono (by omega))
    have k1 : (L.length : Int) ≤ (ps.length : Int) := by omega
    have k2 : (L.length : Int) ≤ (capl : Int) := by omega
    have k3 : (S.size : Int) ≤ (n : Int) := by omega
    have k4 : (n : Int) ≤ (S.size : Int) + (M.size : Int) := by omega
    clear htk ht hn1 hn2 hsc hsc' hls c2 hL2 hb5 hown5
    rcases adl with _ | a
    · have hcap := hnl rfl
      subst hcap
      clear hnl
      refine Lib.hid ?_
      go_wp2_with (go_at_call 16; refine (same_t L _ _ _ _ _ hls' hL5 hmax).mono ?_; rintro e w6 ⟨rfl, hb6⟩; refine Hid.out ?_)
      have c4 : w6.cell? ⟨g, L.length, none⟩ = some (.int .i64 S.size) := by rw [(bcell hb6).1 _ _ (by omega)]; exact c3
      refine Lib.hid ?_
      go_wp2
      go_ret
      exact ⟨rfl, hbe.trans (hb6.mono hbe.size)⟩
    · clear hnl
      refine Lib.hid ?_
      go_wp2_with (go_at_call 16; refine (same_t L _ _ _ _ _ hls' hL5 hmax).mono ?_; rintro e w6 ⟨rfl, hb6⟩; refine Hid.out ?_)
      have c4 : w6.cell? ⟨g, L.length, none⟩ = some (.int .i64 S.size) := by rw [(bcell hb6).1 _ _ (by omega)]; exact c3
      refine Lib.hid ?_
      go_wp2
      go_ret
      exact ⟨rfl, hbe.trans (hb6.mono hbe.size)⟩

theorem bulk_one {H : Type} (d : DataW H) : 1 ≤ Rows.uptoBulk d := by
  cases d with
  | lit l => cases l <;> simp [Rows.uptoBulk]
  | _ => simp [Rows.uptoBulk]
theorem bulk_len {H : Type} (l : List (DataW H)) : l.length ≤ Rows.uptoBulkAll l := by
  induction l with
  | nil => simp [Rows.uptoBulkAll]
  | cons x r ih => have := bulk_one x; simp only [Rows.uptoBulkAll, List.length_cons]; omega
theorem bulk_slice {H : Type} (elems spare : List (DataW H)) : elems.length + spare.length + 1 ≤ Rows.uptoBulk (.slice elems spare) := by
  have h1 := bulk_len elems
  have h2 := bulk_len spare
  simp only [Rows.uptoBulk]
  omega
end Go.Proofs.Ytjndlmeaddoccaa
