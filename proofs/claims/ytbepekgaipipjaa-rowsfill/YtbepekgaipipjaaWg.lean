/- The walk of keys.Decode: any bytes' list, or none. -/
import Derived.Test.YtbepekgaipipjaaWf
import Derived.Laws.EntriesVeiled
namespace Go.Proofs.Ytbepekgaipipjaa
open Go.RowKit

def flat (M : List V) : List Value := M.flatMap fun v => [.int .i64 v.k, .int .i64 v.n, .string v.s]
theorem flat_snoc (M : List V) (v : V) : flat (M ++ [v]) = flat M ++ [.int .i64 v.k, .int .i64 v.n, .string v.s] := by simp [flat]
theorem infoV : (Try.prog.info? 23).map (fun i => (i.zero, i.size, i.bytes)) = some (some (.agg #[.int .i64 0, .int .i64 0, .string ⟨#[]⟩]), 3, 32) := by kernel_rfl
theorem news_three (w : World) (x y z : Value) (t : TypeId) : ∀ j u, [x, y, z][j]? = some u → (w.alloc (.cells #[x, y, z] t)).cell? ((⟨w.heap.size, 0, none⟩ : Addr).add j) = some u := by
  intro j u hj
  match j, hj with
  | 0, hj => simp at hj; subst hj; simp [Addr.add]
  | 1, hj => simp at hj; subst hj; simp [Addr.add]
  | 2, hj => simp at hj; subst hj; simp [Addr.add]

/-- How far bytes have been decoded: M so far; s is left. -/
def DecAt (L : List UInt8) (M : List V) (s : ByteArray) : Prop := decL 8 L = (decL (8 - M.length) s.data.toList).map (M ++ ·)

theorem decAt_start (s : ByteArray) : DecAt s.data.toList [] s := by
  unfold DecAt
  cases h : decL 8 s.data.toList <;> simp
theorem decL_cons (m : Nat) (c : UInt8) (r : List UInt8) : decL (m + 1) (c :: r) = (match dec1 c r with | none => none | some (v, r') => (decL m r').map (v :: ·)) := rfl
theorem decAt_step {L : List UInt8} {M : List V} {s s' : ByteArray} {c : UInt8} {r : List UInt8} {v : V} (h : DecAt L M s) (hl : M.length < 8) (hs : s.data.toList = c :: r) (hd : dec1 c r = some (v, s'.data.toList)) : DecAt L (M ++ [v]) s' := by
  unfold DecAt at *
  have e : 8 - M.length = (8 - (M ++ [v]).length) + 1 := by simp; omega
  rw [h, hs, e, decL_cons, hd]
  show ((decL (8 - (M ++ [v]).length) s'.data.toList).map (v :: ·)).map (M ++ ·) = _
  cases decL (8 - (M ++ [v]).length) s'.data.toList <;> simp
theorem decAt_none {L : List UInt8} {M : List V} {s : ByteArray} {c : UInt8} {r : List UInt8} (h : DecAt L M s) (hl : M.length < 8) (hs : s.data.toList = c :: r) (hd : dec1 c r = none) : decL 8 L = none := by
  unfold DecAt at h
  have e : 8 - M.length = (8 - M.length - 1) + 1 := by omega
  rw [h, hs, e, decL_cons, hd]
  rfl
theorem decAt_full {L : List UInt8} {M : List V} {s : ByteArray} {c : UInt8} {r : List UInt8} (h : DecAt L M s) (hl : M.length = 8) (hs : s.data.toList = c :: r) : decL 8 L = none := by
  unfold DecAt at h
  rw [h, hs, hl]
  rfl
theorem decAt_end {L : List UInt8} {M : List V} {s : ByteArray} (h : DecAt L M s) (hs : s.data.toList = []) : decL 8 L = some M := by
  unfold DecAt at h
  have e : ∀ m, decL m [] = some [] := fun m => by cases m <;> rfl
  rw [h, hs, e]
  simp

abbrev rdO (s : ByteArray) : Obj := .cells #[.string s] 106
abbrev behindO (B : Nat) : Obj := .cells #[.nilFunc, .func (.func 53) #[.pointer (some ⟨B, 0, none⟩)] #[], .func (.func 54) #[.pointer (some ⟨B, 0, none⟩)] #[], .func (.func 55) #[.pointer (some ⟨B, 0, none⟩)] #[]] 108
abbrev deW (s : ByteArray) (w : World) : World := (w.alloc (rdO s)).alloc (behindO w.heap.size)
theorem deW_size (s : ByteArray) (w : World) : (deW s w).heap.size = w.heap.size + 2 := by simp

/-- The methods stand in their array. -/
structure Arr (B : Nat) (w : World) : Prop where
  a0 : w.cell? ⟨B + 1, 0, none⟩ = some .nilFunc
  a1 : w.cell? ⟨B + 1, 1, none⟩ = some (.func (.func 53) #[.pointer (some ⟨B, 0, none⟩)] #[])
  a2 : w.cell? ⟨B + 1, 2, none⟩ = some (.func (.func 54) #[.pointer (some ⟨B, 0, none⟩)] #[])
  a3 : w.cell? ⟨B + 1, 3, none⟩ = some (.func (.func 55) #[.pointer (some ⟨B, 0, none⟩)] #[])
theorem arr_start (s : ByteArray) (w : World) : Arr w.heap.size (deW s w) := ⟨by simp, by simp, by simp, by simp⟩
theorem arr_of {s : ByteArray} {w wr : World} (hg : (deW s w).grownBy wr (some w.heap.size)) : Arr w.heap.size wr := by
  have h := hg.block (w.heap.size + 1) (by rw [deW_size]; omega) (by intro e; have := Option.some.inj e; omega)
  have c : ∀ o, wr.cell? ⟨w.heap.size + 1, o, none⟩ = (deW s w).cell? ⟨w.heap.size + 1, o, none⟩ := fun o => World.cell?_of_block h
  have a := arr_start s w
  exact ⟨(c 0).trans a.a0, (c 1).trans a.a1, (c 2).trans a.a2, (c 3).trans a.a3⟩
theorem de_below {s : ByteArray} {w wr : World} (hg : (deW s w).grownBy wr (some w.heap.size)) : Below w.heap.size w wr :=
  (((Below.refl _ w).alloc (Nat.le_refl _) _).alloc (by simp) _).grown hg (by simp; omega) (fun k hk => by have := Option.some.inj hk; omega)
theorem own_base {w : World} {B B' : Nat} {e : TypeId} {k : Nat} {v : Value} {n : Nat} {xs : List Value} (h : w.ownsRow B e k v n xs) (hB : B' ≤ B) : w.ownsRow B' e k v n xs :=
  ⟨h.1, h.2.elim .inl fun ⟨g, cap, cur, hv, hb, r⟩ => .inr ⟨g, cap, cur, hv, Nat.le_trans hB hb, r⟩⟩
theorem own_val {w : World} {B : Nat} {v : Value} {M : List V} {x : V} (h : w.ownsRow B 23 3 v (M.length + 1) (flat M ++ [.int .i64 x.k, .int .i64 x.n, .string x.s])) : w.ownsRow B 23 3 v (M ++ [x]).length (flat (M ++ [x])) := by
  rw [flat_snoc, List.length_append]
  exact h
theorem news_at3 (w : World) (o : Obj) (x y z : Value) (t : TypeId) : ∀ j u, [x, y, z][j]? = some u → ((w.alloc o).alloc (.cells #[x, y, z] t)).cell? ((⟨w.heap.size + 1, 0, none⟩ : Addr).add j) = some u := by
  intro j u hj
  have := news_three (w.alloc o) x y z t j u hj
  rwa [show (w.alloc o).heap.size = w.heap.size + 1 by simp] at this

theorem decText_some {l : List UInt8} {x : V} {r : List UInt8} (h : decText l = some (x, r)) : ∃ t, x = textV t ∧ r.length ≤ l.length := by
  unfold decText at h
  split at h
  · rename_i t r' hu
    split at h
    · simp at h
      obtain ⟨rfl, rfl⟩ := h
      have e := esc_unesc _ _ _ _ (Nat.le_refl _) hu
      exact ⟨t, rfl, by rw [e]; simp; omega⟩
    · simp at h
  · simp at h
theorem text_no (b : Nat) (s : ByteArray) (w : World) (hR : Rd b s w) (hm : s.size ≤ maxLen) (hd : decText s.data.toList = none) :
    Calls Try.prog 55 #[.pointer (some ⟨b, 0, none⟩)] w fun e w' => e = .returned (.tuple #[.agg #[.int .i64 0, .int .i64 0, .string ⟨#[]⟩], .bool false]) ∧ w.grownBy w' (some b) := by
  refine (text_any b s w hR hm).mono ?_
  rintro e w' ⟨hg, ⟨t, s', h, _⟩ | ⟨_, rfl⟩⟩
  · rw [hd] at h; cases h
  · exact ⟨rfl, hg⟩
theorem text_yes (b : Nat) (s : ByteArray) (w : World) (hR : Rd b s w) (hm : s.size ≤ maxLen) (t r : List UInt8) (hd : decText s.data.toList = some (textV t, r)) :
    Calls Try.prog 55 #[.pointer (some ⟨b, 0, none⟩)] w fun e w' => ∃ s2 : ByteArray, s2.data.toList = r ∧ e = .returned (.tuple #[.agg #[.int .i64 2, .int .i64 0, .string ⟨t.toArray⟩], .bool true]) ∧ w.grownBy w' (some b) ∧ Rd b s2 w' := by
  refine (text_any b s w hR hm).mono ?_
  rintro e w' ⟨hg, ⟨t', s', h, rfl, hR'⟩ | ⟨h, _⟩⟩
  · rw [hd] at h
    simp only [Option.some.injEq, Prod.mk.injEq] at h
    have e1 : t = t' := congrArg (fun v : V => v.s.data.toList) h.1
    exact ⟨s', h.2.symm, by rw [e1], hg, hR'⟩
  · rw [hd] at h; cases h

/-- What Decode answers and leaves. -/
def DecPost (L : List UInt8) (w : World) (e : Ending) (w' : World) : Prop :=
  Below w.heap.size w w' ∧ ((∃ (M : List V) (v : Value), decL 8 L = some M ∧ e = .returned (.tuple #[v, .int .i64 0]) ∧ w'.ownsRow w.heap.size 23 3 v M.length (flat M)) ∨ (decL 8 L = none ∧ e = .returned (.tuple #[.slice none 0 0, .int .i64 20])))
theorem dec_no {L : List UInt8} {w w' : World} (h : decL 8 L = none) (hb : Below w.heap.size w w') : DecPost L w (.returned (.tuple #[.slice none 0 0, .int .i64 20])) w' := ⟨hb, .inr ⟨h, rfl⟩⟩

theorem dec1_null (c : UInt8) (r : List UInt8) (h : c.toNat = 1) : dec1 c r = some (nullV, r) := by unfold dec1; rw [if_pos h]
theorem dec1_num (c : UInt8) (r : List UInt8) (h : c.toNat = 2) (hl : 8 ≤ r.length) : dec1 c r = some (numV (r.take 8), r.drop 8) := by unfold dec1; rw [if_neg (by omega), if_pos h, if_neg (by omega)]
theorem dec1_short (c : UInt8) (r : List UInt8) (h : c.toNat = 2) (hl : r.length < 8) : dec1 c r = none := by unfold dec1; rw [if_neg (by omega), if_pos h, if_pos hl]
theorem dec1_text (c : UInt8) (r : List UInt8) (h : c.toNat = 3) : dec1 c r = decText r := by unfold dec1; rw [if_neg (by omega), if_neg (by omega), if_pos h]
theorem dec1_other (c : UInt8) (r : List UInt8) (h : c.toNat = 0 ∨ 4 ≤ c.toNat) : dec1 c r = none := by unfold dec1; rw [if_neg (by omega), if_neg (by omega), if_neg (by omega)]

theorem eqf_in (d : Nat) (fn : Fn) (a b : Array Value) (w : World) : (Op.equalIn (d + 1) 107 (.func fn a b) .nilFunc).run Try.prog w = .ok false w := by
  simp [Op.equalIn, run_underlying Try.underlying107]
theorem eqn_in (d : Nat) (w : World) : (Op.equalIn (d + 1) 107 .nilFunc .nilFunc).run Try.prog w = .ok true w := by
  simp [Op.equalIn, run_underlying Try.underlying107]
theorem eqf_run (fn : Fn) (a b : Array Value) (w : World) : (binOp .eql 107 (.func fn a b) .nilFunc).run Try.prog w = .ok (.bool false) w := by
  simp only [binOp]
  simp [show (Op.equal 107 (.func fn a b) .nilFunc).run Try.prog w = .ok false w from eqf_in 9999 fn a b w]
theorem eqn_run (w : World) : (binOp .eql 107 .nilFunc .nilFunc).run Try.prog w = .ok (.bool true) w := by
  simp only [binOp]
  simp [show (Op.equal 107 .nilFunc .nilFunc).run Try.prog w = .ok true w from eqn_in 9999 w]

set_option maxHeartbeats 8000000 in
set_option maxRecDepth 100000 in
theorem decode_any (s : ByteArray) (w : World) (hm : s.size ≤ maxLen) :
    Calls Try.prog 42 #[.string s] w (DecPost s.data.toList w) := by
  obtain ⟨iV, hi, hz0, hz1, hz2⟩ := info_parts infoV
  unfold maxLen at hm
  have hst := decAt_start s
  obtain ⟨L, hL⟩ : ∃ L, s.data.toList = L := ⟨_, rfl⟩
  rw [hL] at hst ⊢
  have HS := Lib.hid hst
  clear hL hst
  go_enter Try.func42, Try.ntmps42
  go_wp2
  go_loopw [6] (fun v wr => ∃ (s' : ByteArray) (M : List V), Rd w.heap.size s' wr ∧ wr.ownsRow (w.heap.size + 2) 23 3 v M.length (flat M) ∧ (deW s w).grownBy wr (some w.heap.size) ∧ M.length ≤ 8 ∧ s'.size ≤ 9223372036854775807 ∧ Hid (DecAt L M s')) (fun _ wr => leftAt w.heap.size wr)
  case atStart => exact ⟨s, [], rd_alloc (by show (w.heap.push _)[w.heap.size]? = _; simp) _, World.ownsRow_nil _ _ _ _, gb_refl _ _, by simp, hm, HS⟩
  case round =>
    clear HS
    obtain ⟨s', M, hRr, hown, hg, hML, hsm, HD⟩ := hrel
    obtain ⟨ad, cp, rfl⟩ := own_form hown
    have c0 := cell_of_one hRr
    have f0 := free_of_one hRr
    obtain ⟨a0, a1, a2, a3⟩ := arr_of hg
    have HLS := Lib.hid (leftAt_rd hRr)
    have hgz := hg.size
    rw [deW_size] at hgz
    have hob : ∀ k, (Value.slice ad M.length cp).ownBlock = some k → (deW s w).heap.size ≤ k := fun k hk => by have := (hown.lt k hk).1; rw [deW_size]; omega
    have hnb : some w.heap.size ≠ (Value.slice ad M.length cp).ownBlock := fun e => by have := (hown.lt _ e.symm).1; omega
    have hkp : (Value.slice ad M.length cp).ownBlock = none ∨ (Value.slice ad M.length cp).ownBlock ≠ some w.heap.size := .inr (fun e => hnb e.symm)
    have hef := eqf_run
    have hen := eqn_run
    cases he : s'.toList.isEmpty
    · have hpos : 0 < s'.size := by
        rw [toL] at he
        rcases Nat.eq_zero_or_pos s'.size with h | h
        · have : s'.data.toList = [] := List.eq_nil_of_length_eq_zero (by simpa using h)
          rw [this] at he
          simp at he
        · exact h
      have HL1 := Lib.hid (list1 s' hpos)
      by_cases h8 : M.length = 8
      · have t8 : (((M.length : Nat) : Int) == 8) = true := by rw [h8]; rfl
        have HN := Lib.hid (decAt_full HD.out h8 HL1.out)
        go_wp2
        go_ret2
        exact dec_no HN.out (de_below hg)
      · have t8 : (((M.length : Nat) : Int) == 8) = false := by rw [beq_eq_false_iff_ne]; omega
        have hl8 : M.length < 8 := by omega
        clear h8
        by_cases h4 : 4 ≤ s'[0].toNat
        · have tw : wrap64 (s'[0].toNat : Int) = (s'[0].toNat : Int) := by have := s'[0].toNat_lt; unfold wrap64; omega
          have t4 : (4 : Int) ≤ (s'[0].toNat : Int) := by omega
          have HN := Lib.hid (decAt_none HD.out hl8 HL1.out (dec1_other _ _ (.inr h4)))
          go_wp2
          go_ret2
          exact dec_no HN.out (de_below hg)
        · have t4 : ¬ (s'[0].toNat : Int) ≥ 4 := by omega
          rcases (show s'[0].toNat = 0 ∨ s'[0].toNat = 1 ∨ s'[0].toNat = 2 ∨ s'[0].toNat = 3 by omega) with hq | hq | hq | hq
          · have HN := Lib.hid (decAt_none HD.out hl8 HL1.out (dec1_other _ _ (.inl hq)))
            go_wp2
            go_ret2
            exact dec_no HN.out (de_below hg)
          · have HN := Lib.hid (decAt_step HD.out hl8 HL1.out (dec1_null _ _ hq))
            have hR1 := rd_set hRr (s'.extract 1 s'.size)
            have hg1 : (deW s w).grownBy (wr.setCell ⟨w.heap.size, 0, none⟩ (.string (s'.extract 1 s'.size))) (some w.heap.size) := gb_set hg (.inl rfl) _
            have hown1 := ownsRow_setCell_below hown (a := ⟨w.heap.size, 0, none⟩) (by show w.heap.size < _; omega) (.string (s'.extract 1 s'.size))
            obtain ⟨b0, b1, b2, b3⟩ := arr_of hg1
            go_wp2_with (go_at_call 53; refine (null_any _ _).mono ?_; rintro e w2 ⟨rfl, hb2⟩; refine Hid.out ?_)
            refine Lib.hid ?_
            have hR2 : Rd w.heap.size (s'.extract 1 s'.size) w2 := (hb2.block _ (lt_of_block hR1)).trans hR1
            have hg2 := gb_below hg1 hb2
            have hown2 := own_below hown1 hb2
            go_wp2_with (at_builtin; refine wpList_append_own _ rfl _ _ 32 rfl (w.heap.size + 2) 23 iV (.agg #[.int .i64 0, .int .i64 0, .string ⟨#[]⟩]) 3 32 Try.underlying32 hi hz0 hz1 hz2 rfl (by decide) _ _ _ rfl ((hown2.alloc _).alloc _) ⟨w2.heap.size + 1, 0, none⟩ 1 1 [.int .i64 0, .int .i64 0, .string ⟨#[]⟩] rfl rfl (news_at3 _ _ _ _ _ _) (by intro u' hu'; simp at hu'; rcases hu' with rfl | rfl | rfl <;> rfl) (by unfold maxLen; omega) (by omega) (by have := hg2.size; rw [deW_size] at this; simp; omega) ?_; intro v3 w3 hown3 hgrow3 _; refine Hid.out ?_)
            refine Lib.hid ?_
            have hR3 := rd_grown (rd_alloc (rd_alloc hR2 _) _) hgrow3 hnb
            have hg3 : (deW s w).grownBy w3 (some w.heap.size) := gb_grown (gb_alloc (gb_alloc hg2 _) _) hgrow3 hob
            go_wp2
            exact ⟨⟨s'.extract 1 s'.size, M ++ [nullV], hR3, own_val (x := nullV) hown3, hg3, by simp; omega, by simp; omega, HN⟩, by rw [leftAt_rd hR3, HLS.out]; simp; omega⟩
          · by_cases h9 : 8 ≤ (s'.extract 1 s'.size).size
            · have HN := Lib.hid (decAt_step (v := numV ((s'.extract 1 s'.size).data.toList.take 8)) (s' := (s'.extract 1 s'.size).extract 8 (s'.extract 1 s'.size).size) HD.out hl8 HL1.out (by rw [dec1_num _ _ hq (by simpa using h9)]; exact congrArg (fun z => some (_, z)) (Lib.extract_to_end _ 8).symm))
              have hR1 := rd_set hRr (s'.extract 1 s'.size)
              have hg1 : (deW s w).grownBy (wr.setCell ⟨w.heap.size, 0, none⟩ (.string (s'.extract 1 s'.size))) (some w.heap.size) := gb_set hg (.inl rfl) _
              have hown1 := ownsRow_setCell_below hown (a := ⟨w.heap.size, 0, none⟩) (by show w.heap.size < _; omega) (.string (s'.extract 1 s'.size))
              obtain ⟨b0, b1, b2, b3⟩ := arr_of hg1
              obtain ⟨s1, hs1⟩ : ∃ s1, s'.extract 1 s'.size = s1 := ⟨_, rfl⟩
              have hs1z : s1.size + 1 = s'.size := by rw [← hs1]; simp; omega
              rw [hs1] at HN hR1 hg1 hown1 b0 b1 b2 b3 h9
              go_wp2_with (go_at_call 54; refine (number_good _ s1 _ hR1 h9).mono ?_; rintro e w2 ⟨rfl, hgw2, hR2⟩; refine Hid.out ?_)
              refine Lib.hid ?_
              have hg2 := gb_trans hg1 hgw2
              have hown2 := hown1.kept hgw2 hkp
              go_wp2_with (at_builtin; refine wpList_append_own _ rfl _ _ 32 rfl (w.heap.size + 2) 23 iV (.agg #[.int .i64 0, .int .i64 0, .string ⟨#[]⟩]) 3 32 Try.underlying32 hi hz0 hz1 hz2 rfl (by decide) _ _ _ rfl ((hown2.alloc _).alloc _) ⟨w2.heap.size + 1, 0, none⟩ 1 1 [.int .i64 1, .int .i64 (numV (s1.data.toList.take 8)).n, .string ⟨#[]⟩] rfl rfl (news_at3 _ _ _ _ _ _) (by intro u' hu'; simp at hu'; rcases hu' with rfl | rfl | rfl <;> rfl) (by unfold maxLen; omega) (by omega) (by have := hg2.size; rw [deW_size] at this; simp; omega) ?_; intro v3 w3 hown3 hgrow3 _; refine Hid.out ?_)
              refine Lib.hid ?_
              have hR3 := rd_grown (rd_alloc (rd_alloc hR2 _) _) hgrow3 hnb
              have hg3 : (deW s w).grownBy w3 (some w.heap.size) := gb_grown (gb_alloc (gb_alloc hg2 _) _) hgrow3 hob
              go_wp2
              exact ⟨⟨s1.extract 8 s1.size, M ++ [numV (s1.data.toList.take 8)], hR3, own_val (x := numV (s1.data.toList.take 8)) hown3, hg3, by simp; omega, by simp; omega, HN⟩, by rw [leftAt_rd hR3, HLS.out]; simp; omega⟩
            · have HN := Lib.hid (decAt_none HD.out hl8 HL1.out (dec1_short _ _ hq (by simp at h9 ⊢; omega)))
              have hR1 := rd_set hRr (s'.extract 1 s'.size)
              have hg1 : (deW s w).grownBy (wr.setCell ⟨w.heap.size, 0, none⟩ (.string (s'.extract 1 s'.size))) (some w.heap.size) := gb_set hg (.inl rfl) _
              have hown1 := ownsRow_setCell_below hown (a := ⟨w.heap.size, 0, none⟩) (by show w.heap.size < _; omega) (.string (s'.extract 1 s'.size))
              obtain ⟨b0, b1, b2, b3⟩ := arr_of hg1
              obtain ⟨s1, hs1⟩ : ∃ s1, s'.extract 1 s'.size = s1 := ⟨_, rfl⟩
              have hs1z : s1.size + 1 = s'.size := by rw [← hs1]; simp; omega
              rw [hs1] at hR1 hg1 hown1 b0 b1 b2 b3 h9
              go_wp2_with (go_at_call 54; refine (number_short _ s1 _ hR1 (by omega)).mono ?_; rintro e w2 ⟨rfl, hb2⟩; refine Hid.out ?_)
              refine Lib.hid ?_
              have hg2 := gb_below hg1 hb2
              go_wp2
              go_ret2
              exact dec_no HN.out (de_below (gb_alloc hg2 _))
          · have HT := Lib.hid (dec1_text s'[0] (s'.extract 1 s'.size).data.toList hq)
            have hR1 := rd_set hRr (s'.extract 1 s'.size)
            have hg1 : (deW s w).grownBy (wr.setCell ⟨w.heap.size, 0, none⟩ (.string (s'.extract 1 s'.size))) (some w.heap.size) := gb_set hg (.inl rfl) _
            have hown1 := ownsRow_setCell_below hown (a := ⟨w.heap.size, 0, none⟩) (by show w.heap.size < _; omega) (.string (s'.extract 1 s'.size))
            obtain ⟨b0, b1, b2, b3⟩ := arr_of hg1
            obtain ⟨s1, hs1⟩ : ∃ s1, s'.extract 1 s'.size = s1 := ⟨_, rfl⟩
            have hs1z : s1.size + 1 = s'.size := by rw [← hs1]; simp; omega
            rw [hs1] at HT HL1 hR1 hg1 hown1 b0 b1 b2 b3
            have hmx : s1.size ≤ maxLen := by unfold maxLen; omega
            cases hd : decText s1.data.toList with
            | none =>
              have HN := Lib.hid (decAt_none HD.out hl8 HL1.out (HT.out.trans hd))
              go_wp2_with (go_at_call 55; refine (text_no _ s1 _ hR1 hmx hd).mono ?_; rintro e w2 ⟨rfl, hgw2⟩; refine Hid.out ?_)
              refine Lib.hid ?_
              have hg2 := gb_trans hg1 hgw2
              go_wp2
              go_ret2
              exact dec_no HN.out (de_below (gb_alloc hg2 _))
            | some q =>
              obtain ⟨x, r⟩ := q
              obtain ⟨t, ht, hrl⟩ := decText_some hd
              subst ht
              have HDS := Lib.hid (fun (s2 : ByteArray) (h : s2.data.toList = r) => decAt_step (v := textV t) (s' := s2) HD.out hl8 HL1.out (by rw [HT.out, hd, h]))
              go_wp2_with (go_at_call 55; refine (text_yes _ s1 _ hR1 hmx t r hd).mono ?_; rintro e w2 ⟨s2, hsl, rfl, hgw2, hR2⟩; refine Hid.out ?_)
              refine Lib.hid ?_
              have HN := Lib.hid (HDS.out s2 hsl)
              have hs2 : s2.size ≤ s1.size := by
                have e1 : s2.data.toList.length ≤ s1.data.toList.length := by rw [hsl]; exact hrl
                simpa using e1
              clear hsl HDS
              have hg2 := gb_trans hg1 hgw2
              have hown2 := hown1.kept hgw2 hkp
              go_wp2_with (at_builtin; refine wpList_append_own _ rfl _ _ 32 rfl (w.heap.size + 2) 23 iV (.agg #[.int .i64 0, .int .i64 0, .string ⟨#[]⟩]) 3 32 Try.underlying32 hi hz0 hz1 hz2 rfl (by decide) _ _ _ rfl ((hown2.alloc _).alloc _) ⟨w2.heap.size + 1, 0, none⟩ 1 1 [.int .i64 2, .int .i64 0, .string ⟨t.toArray⟩] rfl rfl (news_at3 _ _ _ _ _ _) (by intro u' hu'; simp at hu'; rcases hu' with rfl | rfl | rfl <;> rfl) (by unfold maxLen; omega) (by omega) (by have := hg2.size; rw [deW_size] at this; simp; omega) ?_; intro v3 w3 hown3 hgrow3 _; refine Hid.out ?_)
              refine Lib.hid ?_
              have hR3 := rd_grown (rd_alloc (rd_alloc hR2 _) _) hgrow3 hnb
              have hg3 : (deW s w).grownBy w3 (some w.heap.size) := gb_grown (gb_alloc (gb_alloc hg2 _) _) hgrow3 hob
              go_wp2
              exact ⟨⟨s2, M ++ [textV t], hR3, own_val (x := textV t) hown3, hg3, by simp; omega, by omega, HN⟩, by rw [leftAt_rd hR3, HLS.out]; omega⟩
    · have HN := Lib.hid (decAt_end HD.out (by rw [toL] at he; exact List.isEmpty_iff.1 he))
      go_wp2
      go_ret2
      exact ⟨de_below hg, .inl ⟨M, _, HN.out, rfl, own_base hown (by omega)⟩⟩
end Go.Proofs.Ytbepekgaipipjaa
