/- The walk of strip.Scan. -/
import Derived.Test.YtoipmpaebngppaaSWc
namespace Go.Proofs.Ytoipmpaebngppaa
open Go.RowKit

theorem own_below {B : Nat} {e : TypeId} {k : Nat} {v : Value} {n : Nat} {xs : List Value} {w w' : World} (h : w.ownsRow B e k v n xs) (hb : Below w.heap.size w w') : w'.ownsRow B e k v n xs := by
  refine ⟨h.1, ?_⟩
  rcases h.2 with h | ⟨g, cap, cur, hv, hg, hc, hr⟩
  · exact .inl h
  · refine .inr ⟨g, cap, cur, hv, hg, ?_, hr⟩
    have hlt : g < w.heap.size := by
      rcases Nat.lt_or_ge g w.heap.size with h | h
      · exact h
      · rw [Array.getElem?_eq_none h] at hc; cases hc
    rw [hb.block g hlt]
    exact hc

abbrev lists (ps : List ByteArray) : List (List UInt8) := ps.map (fun p => p.data.toList)

/-- How far a strip has been told. -/
structure At (s : ByteArray) (ps : List ByteArray) (n : Nat) : Prop where
  cut : s.data.toList = recs (lists ps) ++ s.data.toList.drop n
  len : n = (recs (lists ps)).length
  le : n ≤ s.size
  small : ∀ p ∈ ps, p.size ≤ 65536
theorem At.nil (s : ByteArray) : At s [] 0 := ⟨by simp [recs], rfl, Nat.zero_le _, by simp⟩
theorem tail_list (s : ByteArray) (n : Nat) : (s.extract n s.size).data.toList = s.data.toList.drop n := by
  rw [ext_list, List.take_of_length_le (by simp)]
theorem At.step {s : ByteArray} {ps : List ByteArray} {n : Nat} (h : At s ps n) {p : ByteArray} (hp : p.size ≤ 65536) (hl : 8 + p.size ≤ (s.extract n s.size).size) (hr : (s.extract n s.size).data.toList = recL p.data.toList ++ (s.extract n s.size).data.toList.drop (8 + p.size)) : At s (ps ++ [p]) (n + (8 + p.size)) := by
  have hc := h.cut
  have hn := h.le
  rw [tail_list, List.drop_drop] at hr
  have hz : (s.extract n s.size).size = s.size - n := ext_size _ _ _ (Nat.le_refl _)
  have hm : lists (ps ++ [p]) = lists ps ++ [p.data.toList] := by simp [lists]
  refine ⟨?_, ?_, by omega, ?_⟩
  · rw [hm, recs_snoc, List.append_assoc, ← hr]
    exact hc
  · rw [hm, recs_snoc, List.length_append, rec_len, len_size, ← h.len]
  · intro q hq
    rcases List.mem_append.1 hq with hq | hq
    · exact h.small q hq
    · simp at hq
      subst hq
      exact hp
theorem At.done {s : ByteArray} {ps : List ByteArray} {n : Nat} (h : At s ps n) (hno : NoRec (s.extract n s.size).data.toList) : Scans s.data.toList (lists ps) n := by
  rw [tail_list] at hno
  refine ⟨_, h.cut, h.len, ?_, hno⟩
  intro q hq
  obtain ⟨p, hp, rfl⟩ := List.mem_map.1 hq
  rw [len_size]
  exact h.small p hp
theorem recs_count : ∀ ps : List (List UInt8), 8 * ps.length ≤ (recs ps).length
  | [] => by simp
  | p :: r => by
    have := recs_count r
    show 8 * (r.length + 1) ≤ (recL p ++ recs r).length
    rw [List.length_append, rec_len]
    omega
theorem At.count {s : ByteArray} {ps : List ByteArray} {n : Nat} (h : At s ps n) : 8 * ps.length ≤ n := by
  have := recs_count (lists ps)
  rw [← h.len] at this
  simpa [lists] using this

theorem infoStr : (Try.prog.info? 9).map (fun i => (i.zero, i.size, i.bytes)) = some (some (.string ⟨#[]⟩), 1, 16) := by kernel_rfl
theorem news_one (w : World) (c : Value) (t : TypeId) : ∀ j u, [c][j]? = some u → (w.alloc (.cells #[c] t)).cell? ((⟨w.heap.size, 0, none⟩ : Addr).add j) = some u := by
  intro j u hj
  match j, hj with
  | 0, hj => simp at hj; subst hj; simp [Addr.add]

set_option maxHeartbeats 2000000 in
set_option maxRecDepth 100000 in
theorem scan_any (s : ByteArray) (w : World) (hs : s.size ≤ 1000000000000) :
    Calls Try.prog 26 #[.string s] w fun e w' => ∃ v ps, ∃ n : Nat, e = .returned (.tuple #[v, .int .i64 n]) ∧ w'.ownsRow w.heap.size 9 1 v ps.length (ps.map Value.string) ∧ Scans s.data.toList (lists ps) n ∧ n ≤ s.size ∧ 8 * ps.length ≤ s.size ∧ Below w.heap.size w w' := by
  obtain ⟨i0, hi, hz0, hz1, hz2⟩ := info_parts infoStr
  go_enter Try.func26, Try.ntmps26
  go_wp2
  go_loopw [4, 5] (fun v i wr => ∃ n : Nat, ∃ ps, i = .int .i64 n ∧ n ≤ s.size ∧ Hid (At s ps n) ∧ wr.ownsRow w.heap.size 9 1 v ps.length (ps.map Value.string) ∧ Below w.heap.size w wr) (fun _ i _ => s.size - (intOf i).toNat)
  case atStart => exact ⟨0, [], rfl, Nat.zero_le _, At.nil s, World.ownsRow_nil _ _ _ _, Below.refl _ _⟩
  case round =>
    obtain ⟨n, ps, rfl, hn, HA, hown, hb⟩ := hrel
    have hcount := HA.out.count
    obtain ⟨E, eE⟩ : ∃ E, s.extract n s.size = E := ⟨_, rfl⟩
    have hEs : E.size = s.size - n := by rw [← eE]; exact ext_size _ _ _ (Nat.le_refl _)
    rcases first_any E wr (by unfold maxLen; omega) with ⟨hno, q, hc⟩ | ⟨p, hp, hpl, hpr, hc⟩
    · have HD : Hid (Scans s.data.toList (lists ps) n) := HA.out.done (by rw [eE]; exact hno)
      clear hno
      go_wp2_with (go_at_call 41; refine hc.mono ?_; rintro e w1 ⟨rfl, hb1⟩; refine Hid.out ?_)
      refine Lib.hid ?_
      go_wp2
      go_ret2
      exact ⟨_, ps, n, rfl, own_below hown hb1, HD.out, hn, by omega, hb.trans (hb1.mono hb.size)⟩
    · have HD : Hid (At s (ps ++ [p]) (n + (8 + p.size))) := HA.out.step hp (by rw [eE]; exact hpl) (by rw [eE]; exact hpr)
      have hpi : (p.size : Int) ≤ 65536 := by omega
      have hno := HD.out.le
      clear hpr
      go_wp2_with (first | (go_at_call 41; refine hc.mono ?_; rintro e w1 ⟨rfl, hb1⟩; refine Hid.out ?_) | (go_at_call 42; refine (strClone_any p _ (by omega)).mono ?_; rintro e w2 ⟨rfl, hb2⟩; refine Hid.out ?_))
      refine Lib.hid ?_
      go_wp2_with (go_at_call 42; refine (strClone_any p _ (by omega)).mono ?_; rintro e w2 ⟨rfl, hb2⟩; refine Hid.out ?_)
      refine Lib.hid ?_
      have hown2 := own_below (own_below hown hb1) hb2
      have hbb : Below w.heap.size w w2 := (hb.trans (hb1.mono hb.size)).trans (hb2.mono (Nat.le_trans hb.size hb1.size))
      have hsz := hbb.size
      go_wp2_with (at_builtin; refine wpList_append_own _ rfl _ _ 32 rfl w.heap.size 9 i0 (.string ⟨#[]⟩) 1 16 Try.underlying32 hi hz0 hz1 hz2 rfl (by decide) _ _ _ rfl (hown2.alloc _) ⟨w2.heap.size, 0, none⟩ 1 1 [Value.string p] rfl rfl (news_one _ _ _) (by intro u' hu'; simp at hu'; subst hu'; rfl) (by unfold maxLen; omega) (by omega) (by simp; omega) ?_; intro v3 w3 hown3 hgrow3 _; refine Hid.out ?_)
      refine Lib.hid ?_
      have hb3 : Below w.heap.size w w3 := (hbb.alloc hsz _).grown hgrow3 (by simp; omega) (fun k hk => (hown2.lt k hk).1)
      go_wp2
      refine ⟨⟨n + (8 + p.size), ps ++ [p], by go_num, by omega, HD, ?_, hb3⟩, by simp [intOf]; omega⟩
      have e1 : (ps ++ [p]).length = ps.length + 1 := by simp
      have e2 : (ps ++ [p]).map Value.string = ps.map Value.string ++ [Value.string p] := by simp
      rw [e1, e2]
      exact hown3
end Go.Proofs.Ytoipmpaebngppaa
