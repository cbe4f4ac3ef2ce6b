/- The document's entries. -/
import Derived.Test.YtjhgmncmcklnkaaRb
import Derived.Test.YtjhgmncmcklnkaaKo
namespace Go.Proofs.Ytjhgmncmcklnkaa
open Go.RowKit

theorem hasS_cons {t : Ty} {r : List Ty} {x : List At} (h : hasS (t :: r) x) : ∃ a q, x = a :: q ∧ t.has a ∧ hasS r q := by
  match x, h with
  | a :: q, h =>
    unfold hasS at h
    exact ⟨a, q, rfl, h.1, h.2⟩
  | [], h => simp [hasS] at h
theorem hasS_end {x : List At} (h : hasS [] x) : x = [] := by
  match x, h with
  | [], _ => rfl
  | _ :: _, h => simp [hasS] at h
theorem liesS_cons {w : World} {S : Nat → Prop} {b o : Nat} {a : At} {q : List At} (h : liesS w S b o (a :: q)) : ∃ v, w.cell? ⟨b, o, none⟩ = some v ∧ a.lies w S v ∧ liesS w S b (o + 1) q := by
  simp only [liesS] at h
  obtain ⟨⟨v, h1, h2⟩, h3⟩ := h
  exact ⟨v, h1, h2, h3⟩
theorem lies_num {w : World} {S : Nat → Prop} {v : Value} {n : Int} (h : (At.num n).lies w S v) : v = .int .i64 n := by simpa only [At.lies] using h
theorem lies_yes {w : World} {S : Nat → Prop} {v : Value} {n : Bool} (h : (At.yes n).lies w S v) : v = .bool n := by simpa only [At.lies] using h
theorem lies_text {w : World} {S : Nat → Prop} {v : Value} {n : ByteArray} (h : (At.text n).lies w S v) : v = .string n := by simpa only [At.lies] using h
theorem lies_list {w : World} {S : Nat → Prop} {v : Value} {l : List (List At)} (h : (At.list l).lies w S v) : ∃ ad cap, v = .slice ad l.length cap := by
  simp only [At.lies] at h
  obtain ⟨ad, cap, h, _⟩ := h
  exact ⟨ad, cap, h⟩
abbrev NoS : Nat → Prop := fun _ => False
theorem lies_on {w w' : World} {a : At} {v : Value} (h : a.lies w NoS v) (hb : Below w.heap.size w w') : a.lies w' NoS v := At.keeps ⟨hb.size, fun k hk hs => ⟨hb.block k hk, hs⟩⟩ a v h
theorem cell_on {w w' : World} {a : Addr} {v : Value} (hb : Below w.heap.size w w') (h : w.cell? a = some v) : w'.cell? a = some v := by
  have hlt := World.block_lt_of_cell? w a h
  obtain ⟨b, o, m⟩ := a
  have hk := hb.block b hlt
  simp only [World.cell?] at h ⊢
  rw [hk]
  exact h
theorem bel_drew {w : World} : Below w.heap.size w w.drew := ⟨rfl, rfl, rfl, Nat.le_refl _, fun _ _ => rfl⟩
theorem bel_alloc {w X : World} (h : Below w.heap.size w X) (c : Obj) : Below w.heap.size w (X.alloc c) := h.alloc h.size c
theorem bel_drew1 {w X : World} (h : Below w.heap.size w X) : Below w.heap.size w X.drew := ⟨h.os, h.tape, h.output, h.size, h.block⟩
theorem bel_trans {w X X' : World} (h : Below w.heap.size w X) (k : Below X.heap.size X X') : Below w.heap.size w X' := h.trans (k.mono h.size)
theorem ints_new (w : World) (cs : Array Value) (ty : TypeId) (ns : List Int) (h : ∀ i (h : i < ns.length), cs[i]? = some (.int .i64 ns[i])) : Ints (w.alloc (.cells cs ty)) w.heap.size ns := ⟨cs, ty, heap_alloc_new w _, h⟩
theorem ints_at {w W : World} (cs : Array Value) (ty : TypeId) (ns : List Int) (h : ∀ i (h : i < ns.length), cs[i]? = some (.int .i64 ns[i])) (hW : W.heap = (w.alloc (.cells cs ty)).heap) : Ints W w.heap.size ns := ⟨cs, ty, by rw [hW]; exact heap_alloc_new w _, h⟩
theorem numsL_eq (ns : List Int) : numsL ns = encS (ns.map At.num) := by
  induction ns with
  | nil => simp [numsL, encS]
  | cons n r ih =>
    have e : numsL (n :: r) = num n ++ numsL r := by simp [numsL]
    rw [e, ih]
    simp [encS, At.enc]
/-- A list's items, with their bytes. -/
theorem encL_take (l : List (List At)) (i : Nat) (h : i < l.length) : encL (l.take (i + 1)) = encL (l.take i) ++ encS l[i] := by
  rw [List.take_succ_eq_append_getElem h, encL_append]
  simp [encL]
theorem encL_take_le (l : List (List At)) (i : Nat) : (encL (l.take i)).length ≤ (encL l).length := by
  have e := congrArg List.length (congrArg encL (List.take_append_drop i l))
  rw [encL_append, List.length_append] at e
  omega
theorem encL_item_le (l : List (List At)) (i : Nat) (h : i < l.length) : (encS l[i]).length ≤ (encL l).length := by
  have h1 := encL_take_le l (i + 1)
  rw [encL_take l i h, List.length_append] at h1
  omega
set_option maxHeartbeats 4000000 in
set_option maxRecDepth 100000 in
theorem entrys_ref (w : World) {l : List (List At)} {v : Value} (hv : (At.list l).lies w NoS v) (ht : hasL [.num, .num, .num, .text] l) (hl : (At.list l).enc.length ≤ 1000000000) : Calls Try.prog 30 #[v] w fun e w' => e = .returned (.string (txt (At.list l).enc)) ∧ Below w.heap.size w w' := by
  have hlen : l.length ≤ 1000000000 := by
    have := encL_len (t := [.num, .num, .num, .text]) (by simp) ht
    simp only [At.enc, List.length_append] at hl
    omega
  have HL : Hid ((At.list l).enc = num (l.length : Int) ++ encL l) := by
    show _ = _
    simp only [At.enc]
  rw [HL.out, List.length_append] at hl
  rw [HL.out]
  simp only [At.lies] at hv
  obtain ⟨ad, cap, rfl, hcap, hmx, hmem⟩ := hv
  have HT := Lib.hid ht
  have HM := Lib.hid hmem
  clear ht hmem HL
  have h0 := num_ref (l.length : Int) w (by unfold I64; omega)
  obtain ⟨str0, hs0⟩ : ∃ q, txt (num (l.length : Int)) = q := ⟨_, rfl⟩
  rw [hs0] at h0
  have HS0 := Lib.hid hs0
  have HLL := Lib.hid hl
  clear hs0 hl
  go_enter Try.func30, Try.ntmps30
  go_wp2_with (go_at_call 38; refine h0.mono ?_; rintro e w1 ⟨rfl, hb1⟩; refine Hid.out ?_)
  refine Lib.hid ?_
  clear h0
  go_wp2
  go_loopw [3, 4] (fun ov iv wr => ∃ (i : Nat) (str : ByteArray), i ≤ l.length ∧ iv = .int .i64 i ∧ ov = .string str ∧ Hid (str = txt (num (l.length : Int) ++ encL (l.take i))) ∧ Below w.heap.size w wr) (fun _ iv _ => l.length - (intOf iv).toNat)
  case atStart => exact ⟨0, str0, Nat.zero_le _, rfl, rfl, by show _ = _; rw [← HS0.out]; simp [encL], hb1⟩
  case round =>
    obtain ⟨i, str, hik, rfl, rfl, HS, hb⟩ := hrel
    clear hb1 HS0
    by_cases hlt : i < l.length
    · have hltI : (i : Int) < (l.length : Int) := by omega
      obtain ⟨b, p, rfl, hbl, _, hL⟩ : ∃ b p, ad = some ⟨b, p, none⟩ ∧ b < w.heap.size ∧ ¬ NoS b ∧ liesL w NoS b p l := by
        rcases HM.out with e | q
        · rw [e] at hlt; simp at hlt
        · exact q
      have hx := hasL_all HT.out l[i] (List.getElem_mem hlt)
      have hat := liesL_at l p (m := 4) (fun y hy => hasS_len (hasL_all HT.out y hy)) hL i hlt
      have hsl := encL_item_le l i hlt
      have hstep := encL_take l i hlt
      have htl := encL_take_le l i
      generalize l[i] = y at hx hat hsl hstep
      obtain ⟨a0, x0, rfl, k0, hx_0⟩ := hasS_cons hx
      obtain ⟨n0, rfl, i0⟩ := has_num k0
      obtain ⟨u0, f0, l0, hat0⟩ := liesS_cons hat
      obtain rfl := lies_num l0
      obtain ⟨a1, x1, rfl, k1, hx_1⟩ := hasS_cons hx_0
      obtain ⟨n1, rfl, i1⟩ := has_num k1
      obtain ⟨u1, f1, l1, hat1⟩ := liesS_cons hat0
      obtain rfl := lies_num l1
      obtain ⟨a2, x2, rfl, k2, hx_2⟩ := hasS_cons hx_1
      obtain ⟨n2, rfl, i2⟩ := has_num k2
      obtain ⟨u2, f2, l2, hat2⟩ := liesS_cons hat1
      obtain rfl := lies_num l2
      obtain ⟨a3, x3, rfl, k3, hx_3⟩ := hasS_cons hx_2
      obtain ⟨n3, rfl, i3⟩ := has_text k3
      obtain ⟨u3, f3, l3, hat3⟩ := liesS_cons hat2
      obtain rfl := lies_text l3
      obtain rfl := hasS_end hx_3
      have e0 := cell_on hb f0
      have e1 := cell_on hb f1
      have e2 := cell_on hb f2
      have e3 := cell_on hb f3
      simp only [Nat.add_assoc, Nat.reduceAdd] at e1 e2 e3
      simp only [← Nat.add_assoc] at e1 e2 e3
      have es : encS [.num n0, .num n1, .num n2, .text n3] = numsL [n0, n1, n2] ++ (At.text n3).enc := by
        simp [numsL, encS, At.enc]
      rw [es, List.length_append] at hsl
      rw [es] at hstep
      have hn3 : n3.size ≤ 1000000000 := by
        have hll := HLL.out
        have : n3.size ≤ (At.text n3).enc.length := by
          simp only [At.enc, List.length_append]
          have : n3.data.toList.length = n3.size := by rw [Array.length_toList]; rfl
          omega
        omega
      obtain ⟨N, hN⟩ : ∃ N, txt (numsL [n0, n1, n2]) = N := ⟨_, rfl⟩
      obtain ⟨T, hT⟩ : ∃ T, txt (At.text n3).enc = T := ⟨_, rfl⟩
      have hsum1 : ¬ 9223372036854775807 < str.size + N.size := by
        have hll := HLL.out
        rw [HS.out, ← hN, txt_size, txt_size, List.length_append]
        omega
      have hsum2 : ¬ 9223372036854775807 < str.size + N.size + T.size := by
        have hll := HLL.out
        rw [HS.out, ← hN, ← hT, txt_size, txt_size, txt_size, List.length_append]
        omega
      have mk : ∀ X, Below wr.heap.size wr X → X.cell? ⟨b, p + i * 4, none⟩ = some (.int .i64 n0) ∧ X.cell? ⟨b, p + i * 4 + 1, none⟩ = some (.int .i64 n1) ∧ X.cell? ⟨b, p + i * 4 + 2, none⟩ = some (.int .i64 n2) ∧ X.cell? ⟨b, p + i * 4 + 3, none⟩ = some (.string n3) ∧ Below wr.heap.size wr X := fun X q => ⟨cell_on q e0, cell_on q e1, cell_on q e2, cell_on q e3, q⟩
      have HK := Lib.hid mk
      have hnums : ∀ X F, Ints X F [n0, n1, n2] → Calls Try.prog 28 #[.slice (some ⟨F, 0, none⟩) 3 3] X fun e X' => e = .returned (.string N) ∧ Below X.heap.size X X' := fun X F q => by
        have := nums_ref X 3 rfl (by omega) q (by
          intro n hn
          simp at hn
          rcases hn with rfl | rfl | rfl
          · exact i0
          · exact i1
          · exact i2)
        rwa [hN] at this
      have htext : ∀ X, Calls Try.prog 31 #[.string n3] X fun e X' => e = .returned (.string T) ∧ Below X.heap.size X X' := fun X => by
        have := text_ref n3 X hn3
        rwa [hT] at this
      have hmk : ∀ i (h : i < [n0, n1, n2].length), (#[.int .i64 n0, .int .i64 n1, .int .i64 n2] : Array Value)[i]? = some (.int .i64 [n0, n1, n2][i]) := by
        intro i h
        have : i = 0 ∨ i = 1 ∨ i = 2 := by simp at h; omega
        rcases this with rfl | rfl | rfl <;> rfl
      have HMK := Lib.hid hmk
      have HHN := Lib.hid hN
      have HHT := Lib.hid hT
      have HST := Lib.hid hstep
      have HB := Lib.hid hb
      clear mk hmk hN hT hstep hb hat hat0 hat1 hat2 hat3 hx hx_0 hx_1 hx_2 hx_3 f0 f1 f2 f3 hL es k0 k1 k2 k3 l0 l1 l2 l3 i0 i1 i2 i3 hsl htl hn3
      go_wp2
      go_region_held3 (fun X => X.cell? ⟨b, p + i * 4, none⟩ = some (.int .i64 n0) ∧ X.cell? ⟨b, p + i * 4 + 1, none⟩ = some (.int .i64 n1) ∧ X.cell? ⟨b, p + i * 4 + 2, none⟩ = some (.int .i64 n2) ∧ X.cell? ⟨b, p + i * 4 + 3, none⟩ = some (.string n3) ∧ Below wr.heap.size wr X) (exact HK.out _ (by repeat (first | exact Below.refl _ _ | exact hx2 | exact hx1 | apply bel_drew1 | apply bel_alloc))) (first
        | (go_at_call 28; refine (hnums _ _ (by exact ints_at (w := wr) _ 3 _ HMK.out rfl)).mono ?_; rintro ee1 X1 ⟨rfl, hy1⟩; have hx1 : Below wr.heap.size wr X1 := bel_trans (by repeat (first | exact Below.refl _ _ | exact hx2 | exact hx1 | apply bel_drew1 | apply bel_alloc)) hy1)
        | (go_at_call 31; refine (htext _).mono ?_; rintro ee2 X2 ⟨rfl, hy2⟩; have hx2 : Below wr.heap.size wr X2 := bel_trans (by repeat (first | exact Below.refl _ _ | exact hx2 | exact hx1 | apply bel_drew1 | apply bel_alloc)) hy2))
      all_goals
        go_wp2
        go_roundw
        case rel =>
          refine ⟨i + 1, _, by omega, by go_num, rfl, ?_, bel_trans HB.out hx2⟩
          show _ = _
          rw [HST.out, HS.out, ← HHN.out, ← HHT.out, txt_append, txt_append]
          simp only [List.append_assoc]
        case measure => simp [intOf]; omega
    · have hiF : i = l.length := by omega
      subst hiF
      go_wp2
      go_ret
      refine ⟨?_, hb⟩
      rw [HS.out, List.take_length]
      rfl
end Go.Proofs.Ytjhgmncmcklnkaa
