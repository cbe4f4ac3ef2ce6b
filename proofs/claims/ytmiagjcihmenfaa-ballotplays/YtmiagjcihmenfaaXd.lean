/- The walk of the document's feed. -/
import Derived.Test.YtmiagjcihmenfaaXa
namespace Go.Proofs.Ytmiagjcihmenfaa
open Go.RowKit

section
variable {w w' : World} {A : Nat} {S T : Nat → Prop} {b : Bs} {lv ov : Value} {O : List (Ms × Value)}
theorem Rv.nextc (h : Rv w A S b lv ov O) {k : Nat} (hk : k < 5) : w.cell? ⟨A, 15 + k, none⟩ = some (.int .i64 (b.next.getD k 0)) := by
  rw [h.cell]
  have : k = 0 ∨ k = 1 ∨ k = 2 ∨ k = 3 ∨ k = 4 := by omega
  rcases this with rfl | rfl | rfl | rfl | rfl <;> rfl
theorem Rv.matc (h : Rv w A S b lv ov O) {k : Nat} (hk : k < 5) : w.cell? ⟨A, 20 + k, none⟩ = some (.int .i64 (b.mat.getD k 0)) := by
  rw [h.cell]
  have : k = 0 ∨ k = 1 ∨ k = 2 ∨ k = 3 ∨ k = 4 := by omega
  rcases this with rfl | rfl | rfl | rfl | rfl <;> rfl
theorem Rv.hasc (h : Rv w A S b lv ov O) {k : Nat} (hk : k < 5) : w.cell? ⟨A, 10 + k, none⟩ = some (.bool (b.has.getD k false)) := by
  rw [h.cell]
  have : k = 0 ∨ k = 1 ∨ k = 2 ∨ k = 3 ∨ k = 4 := by omega
  rcases this with rfl | rfl | rfl | rfl | rfl <;> rfl
set_option maxHeartbeats 4000000 in
set_option maxRecDepth 100000 in
theorem feed_give (h : Rb w A S b) {k : Nat} (hk : k < 5) (hf : b.out.length < 900000) (hn : b.next.getD k 0 ≤ b.base) :
    Calls Try.prog 80 #[.pointer (some ⟨A, 0, none⟩), .int .i64 k] w fun e w' => e = .returned (.tuple #[]) ∧ Rb w' A (Gro S w w') (b.feed k) ∧ Fr w w' S := by
  have hsend := send_any (m := { ms0 with kind := 5, tgt := k, index := b.base, prev := b.baseTerm, snap := b.snap }) (mv := .slice none 0 0) (h.drewN 1) (Es.nil _ _) hf
  have em : b.feedM k = { ms0 with kind := 5, tgt := k, index := b.base, prev := b.baseTerm, snap := b.snap } := by unfold Bs.feedM; rw [if_pos hn]
  have eb : b.feed k = b.send { ms0 with kind := 5, tgt := k, index := b.base, prev := b.baseTerm, snap := b.snap } := by unfold Bs.feed; rw [em]
  rw [eb]
  obtain ⟨lv, ov, O, h⟩ := h
  have cn := h.nextc hk
  have c6 : w.cell? ⟨A, 6, none⟩ = some (.int .i64 b.base) := h.cell 6
  have c7 : w.cell? ⟨A, 7, none⟩ = some (.int .i64 b.baseTerm) := h.cell 7
  have c8 : w.cell? ⟨A, 8, none⟩ = some (.string b.snap) := h.cell 8
  have k0 : (0 : Int) ≤ k := by omega
  have k5 : (k : Int) < 5 := by omega
  obtain ⟨x, hx⟩ : ∃ x, b.next.getD k 0 = x := ⟨_, rfl⟩
  rw [hx] at cn hn
  clear h em eb hx
  go_enter Try.func80, Try.ntmps80
  go_wp2
  go_region_with (go_at_call 55; refine hsend.mono ?_; rintro e w2 ⟨rfl, hd2, hf2⟩)
  all_goals
    go_wp2
    refine bodyPost_ret (results_none rfl _ _ _) rfl ?_
    exact ⟨rfl, hd2, ⟨hf2.os, hf2.tape, hf2.output, hf2.size, hf2.block⟩⟩
end
end Go.Proofs.Ytmiagjcihmenfaa
/- The walk of the document's feed where entries go. -/
namespace Go.Proofs.Ytmiagjcihmenfaa
open Go.RowKit

section
variable {w w' w1 : World} {A : Nat} {S T : Nat → Prop} {b : Bs} {lv ov : Value} {O : List (Ms × Value)}
theorem Rb.lt (h : Rb w A S b) : ∀ k, S k → k < w.heap.size := by
  obtain ⟨_, _, _, h⟩ := h
  exact h.lt
theorem Rb.ltU (h : Rb w A S b) : ∀ k, Un S b.av k → k < w.heap.size := by
  obtain ⟨_, _, _, h⟩ := h
  intro k q
  rcases q with q | q
  · exact h.lt k q
  · exact h.avl k q
theorem Rb.len (h : Rb w A S b) : b.log.length ≤ 900000 ∧ 0 ≤ b.base ∧ b.base ≤ 4398046511104 := by
  obtain ⟨_, _, _, h⟩ := h
  exact ⟨h.len, h.b0, h.b1⟩
theorem one_en (w : World) (e : En) : ∀ j u, (enC [e])[j]? = some u → (w.alloc (.cells #[.int .i64 e.term, .int .i64 e.at', .int .i64 e.born, .string e.text] 49)).cell? ((⟨w.heap.size, 0, none⟩ : Addr).add j) = some u := by
  intro j u hu
  rw [add_at, Nat.zero_add, cell_blk (heap_alloc_new w _)]
  simpa [enC] using hu
/-- A step of the ballot at A: it is b' then; what it writes are blocks of S and new ones. -/
def Rt (w w' : World) (A : Nat) (S : Nat → Prop) (b' : Bs) : Prop := ∃ S', Rb w' A S' b' ∧ (∀ k, S' k → Gro S w w' k) ∧ Fr w w' S
theorem Rt.of (h : Rb w' A (Gro S w w') b) (hf : Fr w w' S) : Rt w w' A S b := ⟨_, h, fun _ q => q, hf⟩
theorem Rt.same (h : Rb w A S b) (hb : Below w.heap.size w w') : Rt w w' A S b := ⟨S, h.on hb, fun _ q => .inl q, Fr.ofBelow _ hb⟩
theorem Rt.then {w1 : World} {b1 b2 : Bs} (h : Rt w w1 A S b1) (k : ∀ S1, Rb w1 A S1 b1 → Rt w1 w' A S1 b2) : Rt w w' A S b2 := by
  obtain ⟨S1, h1, h2, h3⟩ := h
  obtain ⟨S2, k1, k2, k3⟩ := k S1 h1
  have hz := h3.size
  have kz := k3.size
  refine ⟨S2, k1, fun j q => ?_, h3.step k3 (fun j q => ?_)⟩
  · rcases k2 j q with q | q
    · rcases h2 j q with q | q
      · exact .inl q
      · exact .inr ⟨q.1, by omega⟩
    · exact .inr ⟨by omega, q.2⟩
  · rcases h2 j q with q | q
    · exact .inl q
    · exact .inr q.1
theorem Rt.from (hb : Below w.heap.size w w1) (h : Rt w1 w' A S b) : Rt w w' A S b := by
  obtain ⟨S2, k1, k2, k3⟩ := h
  have hz := hb.size
  refine ⟨S2, k1, fun j q => ?_, (Fr.ofBelow S hb).step k3 (fun j q => .inl q)⟩
  rcases k2 j q with q | q
  · exact .inl q
  · exact .inr ⟨by omega, q.2⟩
/-- Worlds that differ in what was drawn alone. -/
def Sa (w V : World) : Prop := V.heap = w.heap ∧ V.os = w.os ∧ V.tape = w.tape ∧ V.output = w.output
theorem Sa.below {w V : World} (h : Sa w V) : Below w.heap.size w V := ⟨h.2.1, h.2.2.1, h.2.2.2, by rw [h.1]; exact Nat.le_refl _, fun k _ => by rw [h.1]⟩
/-- What the loop keeps: the first j of the entries from d on. -/
def FL (b : Bs) (w wr : World) (d : Nat) (x : Int) (v i : Value) : Prop := ∃ j : Nat, j ≤ 8 ∧ (j = 0 ∨ d + j ≤ b.log.length) ∧ i = .int .i64 (x + (j : Nat)) ∧ wr.ownsRow w.heap.size 49 4 v ((b.log.drop d).take j).length (enC ((b.log.drop d).take j)) ∧ Below w.heap.size w wr

set_option maxHeartbeats 4000000 in
set_option maxRecDepth 100000 in
theorem feed_list (h : Rb w A S b) {k : Nat} (hk : k < 5) (hf : b.out.length < 900000) (hn : ¬ b.next.getD k 0 ≤ b.base) (hn2 : b.next.getD k 0 ≤ 8796093022208) :
    Calls Try.prog 80 #[.pointer (some ⟨A, 0, none⟩), .int .i64 k] w fun e w' => e = .returned (.tuple #[]) ∧ Rt w w' A S (b.feed k) := by
  have H0 := Lib.hid h
  obtain ⟨l1, b0, b1⟩ := h.len
  obtain ⟨lv, ov, O, h⟩ := h
  have cn := h.nextc hk
  have c6 : w.cell? ⟨A, 6, none⟩ = some (.int .i64 b.base) := h.cell 6
  have k0 : (0 : Int) ≤ k := by omega
  have k5 : (k : Int) < 5 := by omega
  have hS := h.lt
  obtain ⟨x, hx⟩ : ∃ x, b.next.getD k 0 = x := ⟨_, rfl⟩
  have em : b.feed k = b.send { ms0 with kind := 3, tgt := k, index := x - 1, prev := b.termAt (x - 1), commit := b.commit, list := (b.log.drop (x - b.base - 1).toNat).take 8 } := by
    unfold Bs.feed Bs.feedM
    rw [if_neg hn, hx]
  rw [em]
  rw [hx] at cn hn hn2
  obtain ⟨d, hd⟩ : ∃ d, (x - b.base - 1).toNat = d := ⟨_, rfl⟩
  rw [hd]
  have hxd : x = b.base + 1 + d := by omega
  have HXD := Lib.hid hxd
  clear h em hx hd hxd
  have HSL := Lib.hid hS
  clear hS
  go_enter Try.func80, Try.ntmps80
  go_wp2
  go_loopw [5, 6] (fun v i wr => FL b w wr d x v i) (fun _ i _ => (x + 8 - intOf i).toNat)
  case atStart => exact ⟨0, Nat.zero_le _, .inl rfl, by simp, by rw [List.take_zero]; exact World.ownsRow_nil _ _ _ _, Below.refl _ _⟩
  case round =>
    obtain ⟨j, hj, hjl, rfl, ho, hb⟩ := hrel
    have hRb := H0.out.on hb
    have hlast := last_any hRb
    by_cases hgo : d + j < b.log.length ∧ j < 8
    · have g1 : x + j ≤ b.last := by have := HXD.out; unfold Bs.last; omega
      have g2 : x + j < x + 8 := by omega
      obtain ⟨e, he⟩ : ∃ e, b.log[d + j]'hgo.1 = e := ⟨_, rfl⟩
      go_wp2_with fail
      refine hlast.mono ?_
      rintro e9 w9 ⟨rfl, n1, rfl⟩
      clear hlast
      obtain ⟨W1, hW1⟩ : ∃ W1, W1 = wr.drewN n1 := ⟨_, rfl⟩
      rw [← hW1]
      have hb1 : Below w.heap.size w W1 := by rw [hW1]; exact below_draw hb n1
      have hR1 : Rb W1 A S b := by rw [hW1]; exact hRb.drewN n1
      have ho1 := own_like (w' := W1) ho (fun q _ => by rw [hW1]; rfl)
      have hM : (b.log.drop d).take (j + 1) = (b.log.drop d).take j ++ [e] := by
        have hlt : j < (b.log.drop d).length := by simp; omega
        rw [List.take_succ_eq_append_getElem hlt, List.getElem_drop, he]
      have hlen : ((b.log.drop d).take j).length = j := by simp; omega
      obtain ⟨lv1, ov1, O1, h1⟩ := hR1
      have d6 : W1.cell? ⟨A, 6, none⟩ = some (.int .i64 b.base) := h1.cell 6
      have d9 : W1.cell? ⟨A, 9, none⟩ = some lv1 := h1.cell 9
      have hal : Below W1.heap.size W1.drew (W1.drew.alloc (enO e)) := (Below.refl _ W1.drew).alloc (Nat.le_refl _) _
      have hz := hb1.size
      have hRa : Rv (W1.drew.alloc (enO e)) A S b lv1 ov1 O1 := h1.stays (Fr.ofBelow (fun _ => False) (w' := W1.drew.alloc (enO e)) ⟨hal.os, hal.tape, hal.output, hal.size, hal.block⟩) (fun _ _ q => q) (h1.log.on ⟨hal.os, hal.tape, hal.output, hal.size, hal.block⟩) (fun p hp => (h1.ls p hp).on ⟨hal.os, hal.tape, hal.output, hal.size, hal.block⟩)
      have x6 : (W1.alloc (.cells #[.int .i64 e.term, .int .i64 e.at', .int .i64 e.born, .string e.text] 49)).cell? ⟨A, 6, none⟩ = some (.int .i64 b.base) := hRa.cell 6
      have x9 : (W1.alloc (.cells #[.int .i64 e.term, .int .i64 e.at', .int .i64 e.born, .string e.text] 49)).cell? ⟨A, 9, none⟩ = some lv1 := hRa.cell 9
      obtain ⟨lad, lcap, rfl, _, q1, q2, q3⟩ := h1.log
      obtain ⟨g, o, rfl, _, _, y0, y1, y2, y3⟩ := q3 (d + j) hgo.1
      rw [he] at y0 y1 y2 y3
      have hoW := own_below (w' := W1.drew.alloc (enO e)) ho1 ⟨hal.os, hal.tape, hal.output, hal.size, hal.block⟩
      obtain ⟨v', w3, hrun, ho3, hg3, hat3⟩ := ens_run (ad := some ⟨W1.drew.heap.size, 0, none⟩) (m := 1) (c := 1) (news := enC [e]) hoW (Nat.le_trans hz hal.size) (.inr ⟨_, rfl, by rw [enC_len]; rfl, one_en W1.drew e⟩) (enC_one _) (by omega)
      have hb3 : Below w.heap.size w w3 := ((hb1.drew).alloc hz (enO e)).grown hg3 (Nat.le_trans hz hal.size) (fun q hq => (hoW.lt q hq).1)
      have ho4 : w3.ownsRow w.heap.size 49 4 v' ((b.log.drop d).take (j + 1)).length (enC ((b.log.drop d).take (j + 1))) := by
        rw [hM, List.length_append, enC_append]
        exact ho3
      have hxd := HXD.out
      obtain ⟨p, hp⟩ : ∃ p, d + j = p := ⟨_, rfl⟩
      obtain ⟨p1, hp1⟩ : ∃ p1, p + 1 = p1 := ⟨_, rfl⟩
      rw [hp] at y0 y1 y2 y3
      have i1 : IntKind.i64.wrap (x + j - b.base) = (p1 : Int) := by rw [IntKind.wrap_i64]; omega
      have i5 : IntKind.i64.wrap ((p1 : Int) - 1) = (p : Int) := by rw [IntKind.wrap_i64]; omega
      have i2 : (0 : Int) ≤ (p : Int) := by omega
      have i3 : (p : Int) < b.log.length := by omega
      have i4 : d + (j + 1) ≤ b.log.length ∧ j + 1 ≤ 8 := by omega
      have HI4 := Lib.hid i4
      clear i4 hp hp1
      have HO := Lib.hid ho4
      have HB := Lib.hid hb3
      clear ho4 hb3 ho3 hg3 hat3 hoW q3 h1 hRa hal ho ho1 hb hb1 hRb hM hlen he hjl hxd hW1 hgo
      go_wp2
      go_region_law (refine step_run (.tmp 48) (.tmp 62) rfl rfl hrun ?_)
      all_goals
        go_wp2
        refine ⟨⟨j + 1, HI4.out.2, .inr HI4.out.1, by first | go_num | (congr 1; omega), HO.out, HB.out⟩, by simp [intOf]; omega⟩
    · have hL8 : (b.log.drop d).take j = (b.log.drop d).take 8 := by
        by_cases q : d + j < b.log.length
        · have : j = 8 := by omega
          rw [this]
        · rw [List.take_of_length_le (by simp; omega), List.take_of_length_le (by simp; omega)]
      rw [hL8] at ho
      have hends : (¬ x + j ≤ b.last) ∨ (x + j ≤ b.last ∧ ¬ x + j < x + 8) := by
        have := HXD.out
        unfold Bs.last
        omega
      have hl8 : ((b.log.drop d).take 8).length ≤ 8 := by simp; omega
      obtain ⟨adl, capl, rfl⟩ := own_shape ho
      have hS := HSL.out
      have hE : Es wr S ((b.log.drop d).take 8) _ := Es.own ho (fun q hq hs => by have := hS q hs; have := (ho.lt q hq).1; omega)
      have hterm : ∀ n, Calls Try.prog 56 #[.pointer (some ⟨A, 0, none⟩), .int .i64 (x - 1)] (wr.drewN n) fun e w' => e = .returned (.int .i64 (b.termAt (x - 1))) ∧ ∃ n, w' = wr.drewN n := fun n => by
        refine (term_any (hRb.drewN n) (x - 1)).mono ?_
        rintro e w' ⟨rfl, n', rfl⟩
        exact ⟨rfl, _, World.drewN_drewN ..⟩
      have hsend : ∀ n, Calls Try.prog 55 #[.pointer (some ⟨A, 0, none⟩), msV { ms0 with kind := 3, tgt := k, index := x - 1, prev := b.termAt (x - 1), commit := b.commit, list := (b.log.drop d).take 8 } (.slice adl ((b.log.drop d).take 8).length capl)] (wr.drewN n) fun e w' => e = .returned (.tuple #[]) ∧ Rt w w' A S (b.send { ms0 with kind := 3, tgt := k, index := x - 1, prev := b.termAt (x - 1), commit := b.commit, list := (b.log.drop d).take 8 }) := by
        intro n
        have hV : Below wr.heap.size wr (wr.drewN n) := below_draw (Below.refl _ _) n
        have hbV := hb.trans (hV.mono hb.size)
        refine (send_any (m := { ms0 with kind := 3, tgt := k, index := x - 1, prev := b.termAt (x - 1), commit := b.commit, list := (b.log.drop d).take 8 }) (hRb.on hV) (hE.on hV) hf).mono ?_
        rintro e w' ⟨rfl, h3, hf3⟩
        exact ⟨rfl, Rt.from hbV (Rt.of h3 hf3)⟩
      obtain ⟨l9, o9, O9, h9⟩ := hRb
      have c25 : wr.cell? ⟨A, 25, none⟩ = some (.int .i64 b.commit) := h9.cell 25
      obtain ⟨tm, htm⟩ : ∃ tm, b.termAt (x - 1) = tm := ⟨_, rfl⟩
      rw [htm] at hterm hsend
      have HE := Lib.hid htm
      obtain ⟨x1, hx1⟩ : ∃ x1, x - 1 = x1 := ⟨_, rfl⟩
      have hw1 : IntKind.i64.wrap (x - 1) = x1 := by rw [IntKind.wrap_i64]; omega
      have HX1 := Lib.hid hx1
      rw [hx1] at hterm hsend
      clear hx1
      obtain ⟨L8, hLL⟩ : ∃ L8, (b.log.drop d).take 8 = L8 := ⟨_, rfl⟩
      have HL8 := Lib.hid hLL
      rw [hLL] at hsend hl8 ⊢
      obtain ⟨n8, hn8⟩ : ∃ n8, L8.length = n8 := ⟨_, rfl⟩
      rw [hn8] at hsend hl8 ⊢
      clear h9 ho hE hb hL8 hjl htm hgo hLL hn8
      rcases hends with g1 | ⟨g1, g2⟩
      all_goals
        go_wp2_with fail
        refine hlast.mono ?_
        rintro e9 w9 ⟨rfl, n1, rfl⟩
        clear hlast
        go_wp2
        go_region_with (first | (go_at_call 56; refine (hterm _).mono ?_; rintro e7 w7 ⟨rfl, n2, rfl⟩) | (go_at_call 55; refine (hsend _).mono ?_; rintro e8 w8 ⟨rfl, h8⟩))
        all_goals
          go_wp2
          go_end0
          rw [HE.out, HL8.out, HX1.out]
          exact ⟨rfl, h8⟩
end
end Go.Proofs.Ytmiagjcihmenfaa
/- The walk of the document's feedAll. -/
namespace Go.Proofs.Ytmiagjcihmenfaa
open Go.RowKit

/-- The numbers of a ballot are far from an int's ends. -/
def Nb (b : Bs) : Prop := ∀ k, b.next.getD k 0 ≤ 8796093022208
section
variable {w w' w1 : World} {A : Nat} {S T : Nat → Prop} {b : Bs}
theorem feed_any (h : Rb w A S b) {k : Nat} (hk : k < 5) (hf : b.out.length < 900000) (hn : Nb b) :
    Calls Try.prog 80 #[.pointer (some ⟨A, 0, none⟩), .int .i64 k] w fun e w' => e = .returned (.tuple #[]) ∧ Rt w w' A S (b.feed k) := by
  by_cases q : b.next.getD k 0 ≤ b.base
  · refine (feed_give h hk hf q).mono ?_
    rintro e w' ⟨rfl, h1, h2⟩
    exact ⟨rfl, Rt.of h1 h2⟩
  · exact feed_list h hk hf q (hn k)
theorem feedTo_out (b : Bs) : ∀ n, (b.feedTo n).out.length ≤ b.out.length + n
  | 0 => Nat.le_refl _
  | n + 1 => by
    have ih := feedTo_out b n
    unfold Bs.feedTo
    split
    · omega
    · simp only [Bs.feed, Bs.send, List.length_append, List.length_singleton]
      omega
def FA (b : Bs) (w wr : World) (A : Nat) (S : Nat → Prop) (i : Value) : Prop := ∃ j : Nat, j ≤ b.size ∧ i = .int .i64 ((j : Nat) : Int) ∧ Rt w wr A S (b.feedTo j)
set_option maxHeartbeats 2000000 in
set_option maxRecDepth 100000 in
theorem feedAll_any (h : Rb w A S b) (hsz : b.size ≤ 5) (hf : b.out.length < 800000) (hn : Nb b) :
    Calls Try.prog 59 #[.pointer (some ⟨A, 0, none⟩)] w fun e w' => e = .returned (.tuple #[]) ∧ Rt w w' A S b.feedAll := by
  have hstart : FA b w w A S (.int .i64 0) := ⟨0, Nat.zero_le _, rfl, Rt.same h (Below.refl _ _)⟩
  clear h
  go_enter Try.func59, Try.ntmps59
  go_wp2
  go_loopw [2] (fun i wr => FA b w wr A S i) (fun i _ => b.size - (intOf i).toNat)
  case atStart => exact hstart
  case round =>
    clear hstart
    obtain ⟨j, hj, rfl, hR⟩ := hrel
    have so := Bs.so_feedTo b j
    have hout := feedTo_out b j
    obtain ⟨S1, h1, h2, h3⟩ := hR
    have hR1 : Rt w wr A S (b.feedTo j) := ⟨S1, h1, h2, h3⟩
    have e1 : (b.feedTo j).size = b.size := by unfold Bs.So at so; rw [so]
    have e2 : (b.feedTo j).id = b.id := by unfold Bs.So at so; rw [so]
    have e3 : (b.feedTo j).next = b.next := by unfold Bs.So at so; rw [so]
    obtain ⟨lv, ov, O, hv⟩ := h1
    have c1 : wr.cell? ⟨A, 1, none⟩ = some (.int .i64 b.size) := by rw [← e1]; exact hv.cell 1
    have c0 : wr.cell? ⟨A, 0, none⟩ = some (.int .i64 b.id) := by rw [← e2]; exact hv.cell 0
    by_cases hlt : j < b.size
    · have j0 : (0 : Int) ≤ j := by omega
      have j1 : (j : Int) < b.size := by omega
      by_cases hid : j = b.id
      · have hd : ¬ (j : Int) ≠ b.id := by omega
        have hd2 : (j : Int) = b.id := by omega
        have ef : b.feedTo (j + 1) = b.feedTo j := by
          show (if j = b.id then b.feedTo j else _) = _
          rw [if_pos hid]
        have HF := Lib.hid ef
        have HR := Lib.hid hR1
        clear ef hv h2 h3 so hout e1 e2 e3 hR1
        go_wp2
        exact ⟨⟨j + 1, hlt, by go_num, by rw [HF.out]; exact HR.out⟩, by simp [intOf]; omega⟩
      · have hd2 : ¬ (j : Int) = b.id := by omega
        have ef : b.feedTo (j + 1) = (b.feedTo j).feed j := by
          show (if j = b.id then _ else (b.feedTo j).feed j) = _
          rw [if_neg hid]
        have hfeed := fun S1 (hh : Rb wr A S1 (b.feedTo j)) => feed_any hh (k := j) (by omega) (by omega) (by unfold Nb; rw [e3]; exact hn)
        have hcall : Calls Try.prog 80 #[.pointer (some ⟨A, 0, none⟩), .int .i64 j] wr fun e w' => e = .returned (.tuple #[]) ∧ Rt w w' A S (b.feedTo (j + 1)) := by
          refine (hfeed S1 ⟨lv, ov, O, hv⟩).mono ?_
          rintro e w' ⟨rfl, hT⟩
          refine ⟨rfl, ?_⟩
          rw [ef]
          obtain ⟨S2, k1, k2, k3⟩ := hT
          have hz := h3.size
          have kz := k3.size
          refine ⟨S2, k1, fun q hq => ?_, h3.step k3 (fun q hq => ?_)⟩
          · rcases k2 q hq with q' | q'
            · rcases h2 q q' with q' | q'
              · exact .inl q'
              · exact .inr ⟨q'.1, by omega⟩
            · exact .inr ⟨by omega, q'.2⟩
          · rcases h2 q hq with q' | q'
            · exact .inl q'
            · exact .inr q'.1
        clear hfeed hv h2 h3 so hout e1 e2 e3 hR1 ef
        go_wp2_with fail
        refine hcall.mono ?_
        rintro e w5 ⟨rfl, h5⟩
        clear hcall
        go_wp2
        exact ⟨⟨j + 1, hlt, by go_num, h5⟩, by simp [intOf]; omega⟩
    · have j1 : ¬ (j : Int) < b.size := by omega
      have e : j = b.size := by omega
      subst e
      have HR := Lib.hid hR1
      clear hv h2 h3 so hout e1 e2 e3 hR1
      go_wp2
      go_end0
      exact ⟨rfl, HR.out⟩
end
end Go.Proofs.Ytmiagjcihmenfaa
/- The walk of the document's put. -/
namespace Go.Proofs.Ytmiagjcihmenfaa
open Go.RowKit

section
variable {w w' w1 : World} {A : Nat} {S T : Nat → Prop} {b : Bs}
theorem Es.take {L : List En} {ad : Option Addr} {cap p : Nat} (h : Es w S L (.slice ad L.length cap)) (hp : p ≤ L.length) : Es w S (L.take p) (.slice ad (L.take p).length cap) := by
  obtain ⟨ad', cap', e, h0, h1, h2, h3⟩ := h
  cases e
  refine ⟨ad, cap, rfl, h0, by simp; omega, h2, fun i hi => ?_⟩
  have hi' : i < L.length := by simp at hi; omega
  obtain ⟨bk, o, ha, hl, hS, c0, c1, c2, c3⟩ := h3 i hi'
  have e : (L.take p)[i] = L[i] := List.getElem_take ..
  rw [e]
  exact ⟨bk, o, ha, hl, hS, c0, c1, c2, c3⟩
theorem own_emptyE (w : World) : (w.alloc (.cells #[] 49)).ownsRow w.heap.size 49 4 (.slice (some ⟨w.heap.size, 0, none⟩) 0 0) 0 [] :=
  ⟨rfl, .inr ⟨w.heap.size, 0, #[], rfl, Nat.le_refl _, heap_alloc_new w _, Nat.le_refl _, Nat.zero_le _, rfl, rfl⟩⟩
/-- append([]api.Entry{}, list...) -/
theorem ens_copy {L : List En} {ad : Option Addr} {cap : Nat} (hL : Es w S L (.slice ad L.length cap)) (hz : L.length ≤ 900000) :
    ∃ v' w', (Builtin.append_ #[32, 32] 32 #[.slice (some ⟨w.heap.size, 0, none⟩) 0 0, .slice ad L.length cap]).run Try.prog (w.alloc (.cells #[] 49)) = .ok v' w' ∧ w'.ownsRow w.heap.size 49 4 v' L.length (enC L) ∧ Below w.heap.size w w' := by
  have hal : Below w.heap.size w (w.alloc (.cells #[] 49)) := (Below.refl _ w).alloc (Nat.le_refl _) _
  obtain ⟨v', w', hrun, ho, hg, _⟩ := ens_run (w := w.alloc (.cells #[] 49)) (own_emptyE w) hal.size (hL.on hal).src (enC_one _) (by omega)
  simp only [Nat.zero_add, List.nil_append] at ho
  exact ⟨v', w', hrun, ho, hal.grown hg hal.size (fun k hk => ((own_emptyE w).lt k hk).1)⟩

theorem put_fin {l : List En} {ad : Option Addr} {cap p : Nat} {v2 ov : Value} {O : List (Ms × Value)} {w4 W : World} {i : Int} (h : Rv w A S b (.slice ad b.log.length cap) ov O) (hp : (i - b.base - 1).toNat = p) (hpl : p ≤ b.log.length) (hz : b.log.length + l.length ≤ 900000) (hb : Below w.heap.size w w4)
    (ho : w4.ownsRow w.heap.size 49 4 v2 (p + l.length) (enC (b.log.take p) ++ enC l)) (hf : Fr w4 W (fun k => k = A)) (hW : W.heap[A]? = some (.cells (bC (b.put i l) v2 ov) 81 (0, 0))) : Rt w W A S (b.put i l) := by
  have hS := h.lt
  have hA := hS A h.covA
  have elen : (b.log.take p).length = p := by simp; omega
  have hzb := hb.size
  have hFr : Fr w W S := (Fr.ofBelow S hb).step hf (fun j q => .inl ((show j = A from q) ▸ h.covA))
  have hno : ∀ k, v2.ownBlock = some k → k ≠ A := fun k hk e => by have := (ho.lt k hk).1; omega
  have ho' : W.ownsRow w.heap.size 49 4 v2 (b.put i l).log.length (enC (b.put i l).log) := by
    have e1 : (b.put i l).log = b.log.take p ++ l := by unfold Bs.put; rw [hp]
    rw [e1, List.length_append, elen, enC_append]
    exact row_keep ho hf (fun k hk => hno k hk)
  have hst : ∀ k, S k → Gro S w W k := fun k q => .inl q
  refine ⟨S, ⟨v2, ov, O, ⟨hW, Es.own ho' (fun k hk q => by have := (ho'.lt k hk).1; rcases q with q | q; (have := hS k q; omega); (have := h.avl k q; omega)), h.eo, ?_, fun q hq => (h.ls q hq).stays hFr hst, h.covA, h.cov, fun k hk => Nat.lt_of_lt_of_le (hS k hk) hFr.size, h.few, ?_, h.b0, h.b1, fun k hk => Nat.lt_of_lt_of_le (h.avl k hk) hFr.size⟩⟩, hst, hFr⟩
  · have hout : w4.ownsRow 0 34 10 ov O.length (msC O) := own_below h.out hb
    refine row_keep hout hf (fun k hk e => ?_)
    have e' : k = A := e
    subst e'
    rcases h.out.2 with ⟨hv, _⟩ | ⟨g, cp, cur, hv, _, hg, _⟩
    · rw [hv] at hk; cases hk
    · rw [hv] at hk
      simp only [Value.ownBlock, Option.some.injEq] at hk
      subst hk
      exact tag_ne h.ob hg (by decide) rfl
  · have e1 : (b.put i l).log = b.log.take p ++ l := by unfold Bs.put; rw [hp]
    rw [e1, List.length_append, elen]
    omega
theorem two_set (w : World) (A i j : Nat) (x y : Value) : Fr w ((w.setCell ⟨A, i, none⟩ x).setCell ⟨A, j, none⟩ y) (fun k => k = A) :=
  Fr.set (a := ⟨A, j, none⟩) (Fr.set (a := ⟨A, i, none⟩) (Fr.refl w (fun k => k = A)) (Or.inl rfl) x) (Or.inl rfl) y
theorem three_set (w : World) (A i j k : Nat) (x y z : Value) : Fr w (((w.setCell ⟨A, i, none⟩ x).setCell ⟨A, j, none⟩ y).setCell ⟨A, k, none⟩ z) (fun q => q = A) :=
  Fr.set (a := ⟨A, k, none⟩) (two_set w A i j x y) (Or.inl rfl) z
set_option maxHeartbeats 4000000 in
set_option maxRecDepth 100000 in
theorem put_any {l : List En} {ad2 : Option Addr} {cap2 : Nat} (h : Rb w A S b) {i : Int} (h1 : b.base < i) (h2 : i ≤ b.last + 1) (hl : Es w S l (.slice ad2 l.length cap2)) (hz : b.log.length + l.length ≤ 900000) :
    Calls Try.prog 60 #[.pointer (some ⟨A, 0, none⟩), .int .i64 i, .slice ad2 l.length cap2] w fun e w' => e = .returned (.tuple #[]) ∧ Rt w w' A S (b.put i l) := by
  obtain ⟨l1, b0, b1⟩ := h.len
  have hS := h.lt
  obtain ⟨lv, ov, O, h⟩ := h
  obtain ⟨p, hp⟩ : ∃ p, (i - b.base - 1).toNat = p := ⟨_, rfl⟩
  have hpl : p ≤ b.log.length := by unfold Bs.last at h2; omega
  obtain ⟨ad, cap, rfl, hcap, _⟩ := h.log.shape
  have hT := h.log.take hpl
  have elen : (b.log.take p).length = p := by simp; omega
  obtain ⟨v1, w3, hrun1, ho1, hb1⟩ := ens_copy (w := w.drew) (hT.on ⟨rfl, rfl, rfl, Nat.le_refl _, fun _ _ => rfl⟩) (by omega)
  have hb1' : Below w.heap.size w w3 := ⟨hb1.os, hb1.tape, hb1.output, hb1.size, hb1.block⟩
  rw [elen] at hrun1 ho1
  have ho1' : w3.ownsRow w.heap.size 49 4 v1 p (enC (b.log.take p)) := ho1
  obtain ⟨v2, w4, hrun2, ho2, hg2, hat2⟩ := ens_run (w := w3) ho1' hb1'.size (hl.on hb1').src (enC_one _) (by omega)
  have hb2 : Below w.heap.size w w4 := hb1'.grown hg2 hb1'.size (fun k hk => (ho1'.lt k hk).1)
  have hblk : w4.heap[A]? = some (.cells (bC b (.slice ad b.log.length cap) ov) 81 (0, 0)) := (hb2.block A (h.lt A h.covA)).trans h.ob
  have hblk3 : w3.heap[A]? = some (.cells (bC b (.slice ad b.log.length cap) ov) 81 (0, 0)) := (hb1'.block A (h.lt A h.covA)).trans h.ob
  obtain ⟨adn, capn, rfl⟩ := own_shape ho2
  have c6 : w.cell? ⟨A, 6, none⟩ = some (.int .i64 b.base) := h.cell 6
  have c9 : w.cell? ⟨A, 9, none⟩ = some (.slice ad b.log.length cap) := h.cell 9
  have hal : Below w.heap.size w (w.alloc (.cells #[] 49)) := (Below.refl _ w).alloc (Nat.le_refl _) _
  have hblk0 : (w.alloc (.cells #[] 49)).heap[A]? = some (.cells (bC b (.slice ad b.log.length cap) ov) 81 (0, 0)) := (hal.block A (h.lt A h.covA)).trans h.ob
  have x6 : (w.alloc (.cells #[] 49)).cell? ⟨A, 6, none⟩ = some (.int .i64 b.base) := cell_blk hblk0 6
  have x9 : (w.alloc (.cells #[] 49)).cell? ⟨A, 9, none⟩ = some (.slice ad b.log.length cap) := cell_blk hblk0 9
  have d9 : w4.cell? ⟨A, 9, none⟩ = some (.slice ad b.log.length cap) := cell_blk hblk 9
  have d26 : w4.cell? ⟨A, 26, none⟩ = some (.bool b.touched) := cell_blk hblk 26
  have d28 : w4.cell? ⟨A, 28, none⟩ = some (.int .i64 b.fr) := cell_blk hblk 28
  have f9 : w4.frozen? ⟨A, 9, none⟩ = false := frozen_blk hblk 9
  have f26 : w4.frozen? ⟨A, 26, none⟩ = false := frozen_blk hblk 26
  have f28 : w4.frozen? ⟨A, 28, none⟩ = false := frozen_blk hblk 28
  obtain ⟨p1, hp1⟩ : ∃ p1, p + 1 = p1 := ⟨_, rfl⟩
  have i1 : IntKind.i64.wrap (i - b.base) = (p1 : Int) := by unfold Bs.last at h2; rw [IntKind.wrap_i64]; omega
  have i5 : IntKind.i64.wrap ((p1 : Int) - 1) = (p : Int) := by rw [IntKind.wrap_i64]; omega
  have i2 : (0 : Int) ≤ (p : Int) := by omega
  have i3 : p ≤ cap := by omega
  have i4 : (p : Int) ≤ cap := by omega
  have HH := Lib.hid h
  have HO := Lib.hid ho2
  have HB := Lib.hid hb2
  have HP := Lib.hid hp
  have HBK := Lib.hid hblk
  have HSL := Lib.hid hS
  have HZ := Lib.hid hz
  have HE := Lib.hid elen
  clear h hT elen hb1 hb1' ho1 ho1' hg2 hat2 ho2 hb2 hblk hblk3 hal hblk0 hp hp1 hl hS hcap hz h2
  by_cases hfr : i < b.fr
  · go_enter Try.func60, Try.ntmps60
    go_wp2
    go_region_law (refine step_run (.tmp 7) (.tmp 19) rfl rfl hrun1 ?_)
    all_goals
      go_wp2_with (at_builtin; refine wpl_run _ _ rfl hrun2 ?_)
      go_end0
      refine ⟨rfl, put_fin HH.out HP.out hpl HZ.out HB.out HO.out (three_set w4 A 9 26 28 _ _ _) ?_⟩
      rw [set_blk (i := 28) (set_blk (i := 26) (set_blk (i := 9) HBK.out _) _) _]
      have e : (b.put i l).fr = i := by show min b.fr i = i; omega
      unfold bC
      rw [e]
      rfl
  · go_enter Try.func60, Try.ntmps60
    go_wp2
    go_region_law (refine step_run (.tmp 7) (.tmp 19) rfl rfl hrun1 ?_)
    all_goals
      go_wp2_with (at_builtin; refine wpl_run _ _ rfl hrun2 ?_)
      go_end0
      refine ⟨rfl, put_fin HH.out HP.out hpl HZ.out HB.out HO.out (two_set w4 A 9 26 _ _) ?_⟩
      rw [set_blk (i := 26) (set_blk (i := 9) HBK.out _) _]
      have e : (b.put i l).fr = b.fr := by show min b.fr i = b.fr; omega
      unfold bC
      rw [e]
      rfl
end
end Go.Proofs.Ytmiagjcihmenfaa
