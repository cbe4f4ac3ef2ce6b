/- The document's Get. -/
import Derived.Test.YtbepekgaipipjaaRk
import Derived.Test.YtbepekgaipipjaaRi
import Derived.Test.YtbepekgaipipjaaUg
import Derived.Test.YtbepekgaipipjaaWo
namespace Go.Proofs.Ytbepekgaipipjaa
open Go.RowKit
section
variable {ρ : Operand → Value} {X : World} {d : Option Tmp} {ty : TypeId} {ps : String} {af : Array Edge} {g : Option (Nat × Bool)}
theorem op_append40 {s x : Operand} {v1 v2 v' : Value} {X' : World} (hs : ρ s = v1) (hx : ρ x = v2) (hrun : (Builtin.append_ #[40, 40] 40 #[v1, v2]).run Try.prog X = .ok v' X') : (execOp ρ ⟨d, .call { callee := .builtin .append, args := #[s, x], argTypes := #[40, 40] }, 40, ps, af, g⟩).run Try.prog X = .ok (.value v') X' := by
  simp only [execOp, resolve, invoke, builtin, Sem.run_bind, Sem.run_pure, Result.andThen_ok, List.map_toArray, List.map_cons, List.map_nil, hs, hx, hrun]
end
theorem run_ce {w : World} {base n : Nat} {v : Value} {xs : List Value} {c : Ce} {F : Nat} (ho : w.ownsRow base 89 4 v n xs) (hb : base ≤ w.heap.size) (j : w.heap[F]? = some (.cells (ceA c) 89 (0, 0))) (hnm : (n + 1) * 40 ≤ 140737488355328) : ∃ v' w', (Builtin.append_ #[40, 40] 40 #[v, .slice (some ⟨F, 0, none⟩) 1 1]).run Try.prog w = .ok v' w' ∧ w'.ownsRow base 89 4 v' (n + 1) (xs ++ ceL c) ∧ w.grownBy w' v.ownBlock := by
  obtain ⟨i0, hi, hz0, hz1, hz2⟩ := info_parts info89
  obtain ⟨v', w', hr, ho', hg, _⟩ := run_append_own_at (P := Try.prog) (w := w) base 40 40 89 i0 _ 4 40 Try.underlying40 hi hz0 hz1 hz2 rfl (by decide) v n xs ho ⟨F, 0, none⟩ 1 1 (ceL c) rfl (fun k u hu => by rw [add_at, Nat.zero_add, cell_blk j]; simpa using hu) (by intro u' hu'; simp at hu'; rcases hu' with rfl | rfl | rfl | rfl <;> rfl) (by unfold maxLen; omega) hnm hb
  exact ⟨v', w', hr, ho', hg⟩
/-- A cell more, amid a region. -/
structure G10 (w V : World) (v0 : Value) (M : List Ce) (c : Ce) (b9 b10 b11 : Bool) (r4 r85 r86 : Value) (X : World) : Prop where
  hb : b10 = false → Below V.heap.size V X
  hw : Below w.heap.size w X
  h4 : b11 = false → r4 = v0
  h85 : b9 = true → b10 = false → ∃ F, r85 = .slice (some ⟨F, 0, none⟩) 1 1 ∧ X.heap[F]? = some (.cells (ceA c) 89 (0, 0))
  h86 : b10 = true → X.ownsRow w.heap.size 89 4 r86 (M.length + 1) (M.flatMap ceL ++ ceL c)
  e4 : b11 = true → r4 = r86
section
variable {w V X : World} {v0 : Value} {M : List Ce} {c : Ce} {b9 b10 b11 : Bool} {r4 r85 r86 s4 s85 s86 : Value}
theorem G10.same (h : G10 w V v0 M c b9 b10 b11 r4 r85 r86 X) (e1 : s4 = r4) (e2 : s85 = r85) (e3 : s86 = r86) : G10 w V v0 M c b9 b10 b11 s4 s85 s86 X := by
  subst e1 e2 e3; exact h
theorem G10.new (h : G10 w V v0 M c b9 b10 b11 r4 r85 r86 X) (hb : b10 = false) (e1 : s4 = r4) (e2 : s85 = .slice (some ⟨X.heap.size, 0, none⟩) 1 1) (e3 : s86 = r86) : G10 w V v0 M c true b10 b11 s4 s85 s86 (X.alloc (.cells (ceA c) 89)) := by
  subst e1 e2 e3
  exact ⟨fun e => bgo (h.hb e) (bnew _ _), bgo h.hw (bnew _ _), h.h4, fun _ _ => ⟨_, rfl, heap_alloc_new X _⟩, fun e => (by rw [hb] at e; cases e), h.e4⟩
theorem G10.app (h : G10 w V v0 M c true false false r4 r85 r86 X) (ho : V.ownsRow w.heap.size 89 4 v0 M.length (M.flatMap ceL)) (hl : M.length ≤ 1000000) : ∃ F, r85 = .slice (some ⟨F, 0, none⟩) 1 1 ∧ ∃ v' X', (Builtin.append_ #[40, 40] 40 #[v0, .slice (some ⟨F, 0, none⟩) 1 1]).run Try.prog X = .ok v' X' ∧ ∀ s4 s85 s86, s4 = r4 → s86 = v' → G10 w V v0 M c true true false s4 s85 s86 X' := by
  obtain ⟨F, e1, j⟩ := h.h85 rfl rfl
  have hoX := own_below ho (h.hb rfl)
  obtain ⟨v', X', hr, ho', hg⟩ := run_ce hoX h.hw.size j (by omega)
  refine ⟨F, e1, v', X', hr, fun s4 s85 s86 q1 q2 => ?_⟩
  subst q1 q2
  exact ⟨fun e => (by cases e), h.hw.grown hg h.hw.size (fun k hk => (hoX.lt k hk).1), h.h4, fun _ e => (by cases e), fun _ => ho', fun e => (by cases e)⟩
theorem G10.fin (h : G10 w V v0 M c b9 true b11 r4 r85 r86 X) (e1 : s4 = r86) (e3 : s86 = r86) : G10 w V v0 M c b9 true true s4 s85 s86 X := by
  subst e1 e3
  exact ⟨fun e => (by cases e), h.hw, fun e => (by cases e), fun _ e => (by cases e), h.h86, fun _ => rfl⟩
end
theorem lastF_getLast {M : List Ce} {m : Nat} (hm : M.length = m + 1) (hml : m < M.length) : lastF 0 M = M[m].id := by
  have e : M = M.take m ++ [M[m]] := by
    have := List.take_succ_eq_append_getElem hml
    rw [← this, List.take_of_length_le (by omega)]
  have e2 : lastF 0 M = lastF 0 (M.take m ++ [M[m]]) := by rw [← e]
  rw [e2, lastF_snoc]
set_option maxHeartbeats 16000000 in
set_option maxRecDepth 100000 in
theorem refGet_any (s : ByteArray) (w : World) (hm : s.size ≤ 1000000) : Calls Try.prog 26 #[.string s] w (GetPost s.data.toList w) := by
  have hst := getAt_start s
  have hs0 : s.extract 0 s.size = s := by
    apply key_inj
    rw [Lib.extract_to_end]
    simp
  obtain ⟨L, hL⟩ : ∃ L, s.data.toList = L := ⟨_, rfl⟩
  rw [hL] at hst ⊢
  have HS : Hid (GetAt L [] (s.extract 0 s.size)) := Lib.hid (by rw [hs0]; exact hst)
  clear hL hst hs0
  have hmI : (s.size : Int) ≤ 1000000 := by omega
  go_enter Try.func26, Try.ntmps26
  go_wp2
  go_loopw [4, 5] (fun v iv wr => ∃ (i : Nat) (M : List Ce), iv = .int .i64 (i : Int) ∧ i ≤ s.size ∧ wr.ownsRow w.heap.size 89 4 v M.length (M.flatMap ceL) ∧ Below w.heap.size w wr ∧ M.length ≤ i ∧ Hid (GetAt L M (s.extract i s.size) ∧ 0 ≤ lastF 0 M)) (fun _ iv _ => s.size - (intOf iv).toNat)
  case atStart => exact ⟨0, [], rfl, Nat.zero_le _, World.ownsRow_nil _ _ _ _, Below.refl _ _, by simp, ⟨HS, by show (0 : Int) ≤ 0; decide⟩⟩
  case round =>
    clear HS
    obtain ⟨i, M, rfl, hi9, hown, hb, hMi, HD⟩ := hrel
    have HB := Lib.hid hb
    have hzb := hb.size
    obtain ⟨ma, mc, hv⟩ := own_shape hown
    subst hv
    have HOW := Lib.hid hown
    by_cases hlt : i < s.size
    · have hdr : (s.extract i s.size).data.toList = s[i] :: s.data.toList.drop (i + 1) := by
        rw [Lib.extract_to_end, List.drop_eq_getElem_cons (by simpa using hlt)]
        rfl
      obtain ⟨N, hN⟩ : ∃ N, s[i].toNat = N := ⟨_, rfl⟩
      have hN9 : N < 256 := by rw [← hN]; exact s[i].toNat_lt
      have HNN := Lib.hid hN
      have HDR := Lib.hid hdr
      have q1 : (i : Int) < s.size := by omega
      have q0 : (0 : Int) ≤ i := by omega
      have hdl : (s.data.toList.drop (i + 1)).length = s.size - (i + 1) := by
        rw [List.length_drop]
        have e : s.data.toList.length = s.size := Array.length_toList
        rw [e]
      by_cases h1 : s.size < i + 1 + N
      · have t1 : (s.size : Int) < (i : Int) + 1 + (N : Int) := by omega
        have HN := Lib.hid (getAt_no HD.out.1 (by rw [HDR.out, getP_short]; rw [HNN.out, hdl]; omega))
        clear hdr hdl hown hb hMi hzb h1 hi9
        go_wp2
        go_ret2
        exact get_no HN.out HB.out
      · have t1 : ¬ (s.size : Int) < (i : Int) + 1 + (N : Int) := by omega
        have t0 : (i : Int) + 1 + (N : Int) ≤ (s.size : Int) := by omega
        have t2 : (0 : Int) ≤ (N : Int) := by omega
        obtain ⟨s2, hs2⟩ : ∃ s2, s.extract (i + 1) (i + 1 + N) = s2 := ⟨_, rfl⟩
        have hs2d : s2.data.toList = (s.data.toList.drop (i + 1)).take N := by
          rw [← hs2]
          simp [List.take_drop, Nat.add_comm]
        have hs2m : s2.size ≤ 140737488351232 := by
          have : s2.data.toList.length ≤ N := by rw [hs2d]; exact List.length_take_le _ _
          have e : s2.data.toList.length = s2.size := Array.length_toList
          omega
        have HSH : Hid (¬ (s.data.toList.drop (i + 1)).length < s[i].toNat) := Lib.hid (by rw [HNN.out, hdl]; omega)
        have HS3 : Hid ((s.extract (i + (1 + N)) s.size).data.toList = (s.data.toList.drop (i + 1)).drop s[i].toNat) := Lib.hid (by rw [Lib.extract_to_end, HNN.out, List.drop_drop, Nat.add_assoc])
        have HGB : Hid (cellP s2.data.toList = none → getP 0 L = none) := Lib.hid fun h => getAt_no HD.out.1 (by rw [HDR.out]; exact getP_bad HSH.out (by rw [HNN.out, ← hs2d]; exact h))
        have HGO : Hid (∀ c, cellP s2.data.toList = some c → ¬ lastF 0 M < c.id → getP 0 L = none) := Lib.hid fun c h h2 => getAt_no HD.out.1 (by rw [HDR.out]; exact getP_old HSH.out (by rw [HNN.out, ← hs2d]; exact h) h2)
        have HGS : Hid (∀ c, cellP s2.data.toList = some c → lastF 0 M < c.id → GetAt L (M ++ [c]) (s.extract (i + (1 + N)) s.size)) := Lib.hid fun c h h2 => getAt_step HD.out.1 HDR.out HSH.out (by rw [HNN.out, ← hs2d]; exact h) h2 HS3.out
        have HI9 : Hid (i + (1 + N) ≤ s.size ∧ M.length + 1 ≤ i + (1 + N) ∧ M.length ≤ 1000000) := Lib.hid ⟨by omega, by omega, by omega⟩
        have hdec := refDecode_any s2 wr hs2m
        have hn7 : (i : Int) + 1 + (N : Int) = (((i + 1 + N : Nat)) : Int) := by push_cast; rfl
        clear hdr hdl hown hb hMi hzb h1 hi9 hs2d hs2m hn7
        rcases hdq : decL 8 s2.data.toList with _ | M2
        · have HN : Hid (getP 0 L = none) := Lib.hid (HGB.out (by unfold cellP; rw [hdq]))
          have hdec2 : Calls Try.prog 21 #[.string s2] wr fun e w' => e = .returned (.tuple #[.slice none 0 0, .int .i64 20]) ∧ Below wr.heap.size wr w' := by
            refine hdec.mono ?_
            rintro e w' ⟨hb, ⟨M', v', h, _⟩ | ⟨_, rfl⟩⟩
            · rw [hdq] at h; cases h
            · exact ⟨rfl, hb⟩
          clear hdec hdq
          go_upto_region 8 with (go_at_call 21; refine hdec2.mono ?_; rintro e w4 ⟨rfl, b4⟩; refine Hid.out ?_)
          refine Lib.hid ?_
          have HB4 := Lib.hid (HB.out.trans (b4.mono HB.out.size))
          clear hdec2 b4
          go_upto_region 8 with fail
          refine wp_region_fb (fun _ X9 => Below w4.heap.size w4 X9) (fun X9 X8 => Below X9.heap.size X9 X8) [
            fun v9 _ => v9 = .int .i64 20,
            fun v9 _ => v9 = .bool true,
            fun v9 _ => v9 = .bool true,
            fun v9 _ => v9 = undef,
            fun v9 _ => v9 = undef,
            fun v9 _ => v9 = undef,
            fun v9 _ => v9 = .bool true,
            fun v9 _ => v9 = .bool true,
            fun v9 _ => v9 = undef,
            fun v9 _ => v9 = undef,
            fun v9 _ => v9 = undef,
            fun v9 _ => v9 = undef,
            fun v9 _ => v9 = undef,
            fun v9 _ => v9 = .bool true,
            fun v9 _ => v9 = .bool true,
            fun v9 _ => v9 = undef,
            fun v9 _ => v9 = undef,
            fun v9 _ => v9 = undef,
            fun v9 _ => v9 = undef,
            fun v9 _ => v9 = undef,
            fun v9 _ => v9 = .bool true,
            fun v9 _ => v9 = .bool true,
            fun v9 _ => v9 = undef,
            fun v9 _ => v9 = undef,
            fun v9 _ => v9 = undef,
            fun v9 _ => v9 = undef,
            fun v9 _ => v9 = undef,
            fun v9 _ => v9 = undef,
            fun v9 _ => v9 = undef,
            fun v9 _ => v9 = undef,
            fun v9 _ => v9 = undef,
            fun v9 _ => v9 = undef,
            fun v9 _ => v9 = undef,
            fun v9 _ => v9 = undef,
            fun v9 _ => v9 = undef,
            fun v9 _ => v9 = undef,
            fun v9 _ => v9 = undef,
            fun v9 _ => v9 = undef,
            fun v9 _ => v9 = undef,
            fun v9 _ => v9 = .bool true]
            (by kernel_rfl) (by kernel_rfl) (by kernel_rfl) ?st ?g0 ?os ?en
          case st => exact ⟨fun _ _ _ _ h => h, fun _ _ _ _ h => h, fun _ _ _ _ h => h, fun _ _ _ _ h => h, fun _ _ _ _ h => h, fun _ _ _ _ h => h, fun _ _ _ _ h => h, fun _ _ _ _ h => h, fun _ _ _ _ h => h, fun _ _ _ _ h => h, fun _ _ _ _ h => h, fun _ _ _ _ h => h, fun _ _ _ _ h => h, fun _ _ _ _ h => h, fun _ _ _ _ h => h, fun _ _ _ _ h => h, fun _ _ _ _ h => h, fun _ _ _ _ h => h, fun _ _ _ _ h => h, fun _ _ _ _ h => h, fun _ _ _ _ h => h, fun _ _ _ _ h => h, fun _ _ _ _ h => h, fun _ _ _ _ h => h, fun _ _ _ _ h => h, fun _ _ _ _ h => h, fun _ _ _ _ h => h, fun _ _ _ _ h => h, fun _ _ _ _ h => h, fun _ _ _ _ h => h, fun _ _ _ _ h => h, fun _ _ _ _ h => h, fun _ _ _ _ h => h, fun _ _ _ _ h => h, fun _ _ _ _ h => h, fun _ _ _ _ h => h, fun _ _ _ _ h => h, fun _ _ _ _ h => h, fun _ _ _ _ h => h, fun _ _ _ _ h => h, trivial⟩
          case g0 => exact ⟨rfl, rfl, rfl, Nat.le_refl _, fun _ _ => rfl⟩
          case os =>
            refine ⟨?_, ?_, ?_, ?_, ?_, ?_, ?_, ?_, ?_, ?_, ?_, ?_, ?_, ?_, ?_, ?_, ?_, ?_, ?_, ?_, ?_, ?_, ?_, ?_, ?_, ?_, ?_, ?_, ?_, ?_, ?_, ?_, ?_, ?_, ?_, ?_, ?_, ?_, ?_, ?_, trivial⟩
            · exact fun ρ X9 fl hg hn hl hp ho hc hf hr => .inl ⟨rfl, Runs.val _ (op_move (show ρ (.tmp 8) = .int .i64 20 from ho 8 rfl)) ⟨hg, Below.refl _ _, rfl⟩⟩
            · exact fun ρ X9 fl hg hn hl hp ho hc hf hr => .inl ⟨rfl, Runs.val _ (op_neq3 (show ρ (.tmp 36) = .int .i64 20 from hr 0 36 rfl rfl) (hc _) (b := true) (by decide)) ⟨hg, Below.refl _ _, rfl⟩⟩
            · exact fun ρ X9 fl hg hn hl hp ho hc hf hr => .inl ⟨rfl, Runs.val _ (op_move (show ρ (.tmp 37) = .bool true from hr 1 37 rfl rfl)) ⟨hg, Below.refl _ _, rfl⟩⟩
            · exact fun ρ X9 fl hg hn hl hp ho hc hf hr => .inr (.inr ⟨2, 38, false, fun _ => rfl, rfl, (fun q => by rw [show ρ (.tmp 38) = .bool true from hr 2 38 rfl rfl] at q; cases q), hg, Below.refl _ _, rfl⟩)
            · exact fun ρ X9 fl hg hn hl hp ho hc hf hr => .inr (.inr ⟨2, 38, false, fun _ => rfl, rfl, (fun q => by rw [show ρ (.tmp 38) = .bool true from hr 2 38 rfl rfl] at q; cases q), hg, Below.refl _ _, rfl⟩)
            · exact fun ρ X9 fl hg hn hl hp ho hc hf hr => .inr (.inr ⟨2, 38, false, fun _ => rfl, rfl, (fun q => by rw [show ρ (.tmp 38) = .bool true from hr 2 38 rfl rfl] at q; cases q), hg, Below.refl _ _, rfl⟩)
            · exact fun ρ X9 fl hg hn hl hp ho hc hf hr => .inl ⟨rfl, Runs.val _ (op_pick (show ρ (.tmp 38) = .bool true from hr 2 38 rfl rfl) (hc _)) ⟨hg, Below.refl _ _, rfl⟩⟩
            · exact fun ρ X9 fl hg hn hl hp ho hc hf hr => .inl ⟨rfl, Runs.val _ (op_move (show ρ (.tmp 42) = .bool true from hr 6 42 rfl rfl)) ⟨hg, Below.refl _ _, rfl⟩⟩
            · exact fun ρ X9 fl hg hn hl hp ho hc hf hr => .inr (.inr ⟨7, 43, false, fun _ => rfl, rfl, (fun q => by rw [show ρ (.tmp 43) = .bool true from hr 7 43 rfl rfl] at q; cases q), hg, Below.refl _ _, rfl⟩)
            · exact fun ρ X9 fl hg hn hl hp ho hc hf hr => .inr (.inr ⟨7, 43, false, fun _ => rfl, rfl, (fun q => by rw [show ρ (.tmp 43) = .bool true from hr 7 43 rfl rfl] at q; cases q), hg, Below.refl _ _, rfl⟩)
            · exact fun ρ X9 fl hg hn hl hp ho hc hf hr => .inr (.inr ⟨7, 43, false, fun _ => rfl, rfl, (fun q => by rw [show ρ (.tmp 43) = .bool true from hr 7 43 rfl rfl] at q; cases q), hg, Below.refl _ _, rfl⟩)
            · exact fun ρ X9 fl hg hn hl hp ho hc hf hr => .inr (.inr ⟨7, 43, false, fun _ => rfl, rfl, (fun q => by rw [show ρ (.tmp 43) = .bool true from hr 7 43 rfl rfl] at q; cases q), hg, Below.refl _ _, rfl⟩)
            · exact fun ρ X9 fl hg hn hl hp ho hc hf hr => .inr (.inr ⟨7, 43, false, fun _ => rfl, rfl, (fun q => by rw [show ρ (.tmp 43) = .bool true from hr 7 43 rfl rfl] at q; cases q), hg, Below.refl _ _, rfl⟩)
            · exact fun ρ X9 fl hg hn hl hp ho hc hf hr => .inl ⟨rfl, Runs.val _ (op_pick (show ρ (.tmp 43) = .bool true from hr 7 43 rfl rfl) (hc _)) ⟨hg, Below.refl _ _, rfl⟩⟩
            · exact fun ρ X9 fl hg hn hl hp ho hc hf hr => .inl ⟨rfl, Runs.val _ (op_move (show ρ (.tmp 49) = .bool true from hr 13 49 rfl rfl)) ⟨hg, Below.refl _ _, rfl⟩⟩
            · exact fun ρ X9 fl hg hn hl hp ho hc hf hr => .inr (.inr ⟨14, 50, false, fun _ => rfl, rfl, (fun q => by rw [show ρ (.tmp 50) = .bool true from hr 14 50 rfl rfl] at q; cases q), hg, Below.refl _ _, rfl⟩)
            · exact fun ρ X9 fl hg hn hl hp ho hc hf hr => .inr (.inr ⟨14, 50, false, fun _ => rfl, rfl, (fun q => by rw [show ρ (.tmp 50) = .bool true from hr 14 50 rfl rfl] at q; cases q), hg, Below.refl _ _, rfl⟩)
            · exact fun ρ X9 fl hg hn hl hp ho hc hf hr => .inr (.inr ⟨14, 50, false, fun _ => rfl, rfl, (fun q => by rw [show ρ (.tmp 50) = .bool true from hr 14 50 rfl rfl] at q; cases q), hg, Below.refl _ _, rfl⟩)
            · exact fun ρ X9 fl hg hn hl hp ho hc hf hr => .inr (.inr ⟨14, 50, false, fun _ => rfl, rfl, (fun q => by rw [show ρ (.tmp 50) = .bool true from hr 14 50 rfl rfl] at q; cases q), hg, Below.refl _ _, rfl⟩)
            · exact fun ρ X9 fl hg hn hl hp ho hc hf hr => .inr (.inr ⟨14, 50, false, fun _ => rfl, rfl, (fun q => by rw [show ρ (.tmp 50) = .bool true from hr 14 50 rfl rfl] at q; cases q), hg, Below.refl _ _, rfl⟩)
            · exact fun ρ X9 fl hg hn hl hp ho hc hf hr => .inl ⟨rfl, Runs.val _ (op_pick (show ρ (.tmp 50) = .bool true from hr 14 50 rfl rfl) (hc _)) ⟨hg, Below.refl _ _, rfl⟩⟩
            · exact fun ρ X9 fl hg hn hl hp ho hc hf hr => .inl ⟨rfl, Runs.val _ (op_move (show ρ (.tmp 56) = .bool true from hr 20 56 rfl rfl)) ⟨hg, Below.refl _ _, rfl⟩⟩
            · exact fun ρ X9 fl hg hn hl hp ho hc hf hr => .inr (.inr ⟨21, 57, false, fun _ => rfl, rfl, (fun q => by rw [show ρ (.tmp 57) = .bool true from hr 21 57 rfl rfl] at q; cases q), hg, Below.refl _ _, rfl⟩)
            · exact fun ρ X9 fl hg hn hl hp ho hc hf hr => .inr (.inr ⟨21, 57, false, fun _ => rfl, rfl, (fun q => by rw [show ρ (.tmp 57) = .bool true from hr 21 57 rfl rfl] at q; cases q), hg, Below.refl _ _, rfl⟩)
            · exact fun ρ X9 fl hg hn hl hp ho hc hf hr => .inr (.inr ⟨21, 57, false, fun _ => rfl, rfl, (fun q => by rw [show ρ (.tmp 57) = .bool true from hr 21 57 rfl rfl] at q; cases q), hg, Below.refl _ _, rfl⟩)
            · exact fun ρ X9 fl hg hn hl hp ho hc hf hr => .inr (.inr ⟨21, 57, false, fun _ => rfl, rfl, (fun q => by rw [show ρ (.tmp 57) = .bool true from hr 21 57 rfl rfl] at q; cases q), hg, Below.refl _ _, rfl⟩)
            · exact fun ρ X9 fl hg hn hl hp ho hc hf hr => .inr (.inr ⟨25, 61, true, fun _ => rfl, rfl, (fun q => by rw [show ρ (.tmp 61) = undef from hr 25 61 rfl rfl] at q; cases q), hg, Below.refl _ _, rfl⟩)
            · exact fun ρ X9 fl hg hn hl hp ho hc hf hr => .inr (.inr ⟨25, 61, true, fun _ => rfl, rfl, (fun q => by rw [show ρ (.tmp 61) = undef from hr 25 61 rfl rfl] at q; cases q), hg, Below.refl _ _, rfl⟩)
            · exact fun ρ X9 fl hg hn hl hp ho hc hf hr => .inr (.inr ⟨25, 61, true, fun _ => rfl, rfl, (fun q => by rw [show ρ (.tmp 61) = undef from hr 25 61 rfl rfl] at q; cases q), hg, Below.refl _ _, rfl⟩)
            · exact fun ρ X9 fl hg hn hl hp ho hc hf hr => .inr (.inr ⟨25, 61, true, fun _ => rfl, rfl, (fun q => by rw [show ρ (.tmp 61) = undef from hr 25 61 rfl rfl] at q; cases q), hg, Below.refl _ _, rfl⟩)
            · exact fun ρ X9 fl hg hn hl hp ho hc hf hr => .inr (.inr ⟨25, 61, true, fun _ => rfl, rfl, (fun q => by rw [show ρ (.tmp 61) = undef from hr 25 61 rfl rfl] at q; cases q), hg, Below.refl _ _, rfl⟩)
            · exact fun ρ X9 fl hg hn hl hp ho hc hf hr => .inr (.inr ⟨25, 61, true, fun _ => rfl, rfl, (fun q => by rw [show ρ (.tmp 61) = undef from hr 25 61 rfl rfl] at q; cases q), hg, Below.refl _ _, rfl⟩)
            · exact fun ρ X9 fl hg hn hl hp ho hc hf hr => .inr (.inr ⟨25, 61, true, fun _ => rfl, rfl, (fun q => by rw [show ρ (.tmp 61) = undef from hr 25 61 rfl rfl] at q; cases q), hg, Below.refl _ _, rfl⟩)
            · exact fun ρ X9 fl hg hn hl hp ho hc hf hr => .inr (.inr ⟨25, 61, true, fun _ => rfl, rfl, (fun q => by rw [show ρ (.tmp 61) = undef from hr 25 61 rfl rfl] at q; cases q), hg, Below.refl _ _, rfl⟩)
            · exact fun ρ X9 fl hg hn hl hp ho hc hf hr => .inr (.inr ⟨25, 61, true, fun _ => rfl, rfl, (fun q => by rw [show ρ (.tmp 61) = undef from hr 25 61 rfl rfl] at q; cases q), hg, Below.refl _ _, rfl⟩)
            · exact fun ρ X9 fl hg hn hl hp ho hc hf hr => .inr (.inr ⟨25, 61, true, fun _ => rfl, rfl, (fun q => by rw [show ρ (.tmp 61) = undef from hr 25 61 rfl rfl] at q; cases q), hg, Below.refl _ _, rfl⟩)
            · exact fun ρ X9 fl hg hn hl hp ho hc hf hr => .inr (.inr ⟨25, 61, true, fun _ => rfl, rfl, (fun q => by rw [show ρ (.tmp 61) = undef from hr 25 61 rfl rfl] at q; cases q), hg, Below.refl _ _, rfl⟩)
            · exact fun ρ X9 fl hg hn hl hp ho hc hf hr => .inr (.inr ⟨25, 61, true, fun _ => rfl, rfl, (fun q => by rw [show ρ (.tmp 61) = undef from hr 25 61 rfl rfl] at q; cases q), hg, Below.refl _ _, rfl⟩)
            · exact fun ρ X9 fl hg hn hl hp ho hc hf hr => .inr (.inr ⟨21, 57, false, fun _ => rfl, rfl, (fun q => by rw [show ρ (.tmp 57) = .bool true from hr 21 57 rfl rfl] at q; cases q), hg, Below.refl _ _, rfl⟩)
            · exact fun ρ X9 fl hg hn hl hp ho hc hf hr => .inl ⟨rfl, Runs.val _ (op_pick (show ρ (.tmp 57) = .bool true from hr 21 57 rfl rfl) (hc _)) ⟨hg, Below.refl _ _, rfl⟩⟩
          case en =>
            intro a9 w5 fl hfl b5 hs9 hd9 ho9 hr9
            obtain ⟨x9, hx, hxt⟩ := act_put hs9 hd9 ho9
            have x75 : x9 75 = .bool true := (hxt 75).symm.trans (hr9 39 75 rfl)
            change a9 = putAll _ x9 [36, 37, 38, 39, 40, 41, 42, 43, 44, 45, 46, 47, 48, 49, 50, 51, 52, 53, 54, 55, 56, 57, 58, 59, 60, 61, 62, 63, 64, 65, 66, 67, 68, 69, 70, 71, 72, 73, 74, 75] at hx
            simp only [putAll, Act.put, List.setIfInBounds_toArray, List.set_cons_zero, List.set_cons_succ, x75] at hx
            subst hx
            clear hs9 hd9 ho9 hr9 hfl x75
            generalize x9 36 = z36, x9 37 = z37, x9 38 = z38, x9 39 = z39, x9 40 = z40, x9 41 = z41, x9 42 = z42, x9 43 = z43, x9 44 = z44, x9 45 = z45, x9 46 = z46, x9 47 = z47, x9 48 = z48, x9 49 = z49, x9 50 = z50, x9 51 = z51, x9 52 = z52, x9 53 = z53, x9 54 = z54, x9 55 = z55, x9 56 = z56, x9 57 = z57, x9 58 = z58, x9 59 = z59, x9 60 = z60, x9 61 = z61, x9 62 = z62, x9 63 = z63, x9 64 = z64, x9 65 = z65, x9 66 = z66, x9 67 = z67, x9 68 = z68, x9 69 = z69, x9 70 = z70, x9 71 = z71, x9 72 = z72, x9 73 = z73, x9 74 = z74
            have HB5 := Lib.hid (bgo HB4.out b5)
            clear b5
            go_wp2
            go_ret2
            exact get_no HN.out HB5.out
        · have hdec2 : Calls Try.prog 21 #[.string s2] wr fun e w' => ∃ ad cap, e = .returned (.tuple #[.slice ad M2.length cap, .int .i64 0]) ∧ Below wr.heap.size wr w' ∧ Li M2 ad w' := by
            refine hdec.mono ?_
            rintro e w' ⟨hb, ⟨M', v', h, rfl, ho⟩ | ⟨h, _⟩⟩
            · rw [hdq] at h
              obtain rfl := Option.some.inj h
              obtain ⟨ad, cap, rfl, hli, _⟩ := li_of_own ho
              exact ⟨ad, cap, rfl, hb, hli⟩
            · rw [hdq] at h; cases h
          clear hdec
          have hshape : M2.length ≠ 2 ∨ ∃ a b, M2 = [a, b] := by
            match M2 with
            | [] => exact .inl (by simp)
            | [_] => exact .inl (by simp)
            | [a, b] => exact .inr ⟨a, b, rfl⟩
            | _ :: _ :: _ :: _ => exact .inl (by simp)
          rcases hshape with hl2 | ⟨a, b, rfl⟩
          · have HN : Hid (getP 0 L = none) := Lib.hid (HGB.out (by
              unfold cellP
              rw [hdq]
              match M2, hl2 with
              | [], _ => rfl
              | [_], _ => rfl
              | [a, b], h => exact absurd rfl h
              | _ :: _ :: _ :: _, _ => rfl))
            obtain ⟨n2, hn2⟩ : ∃ n2, M2.length = n2 := ⟨_, rfl⟩
            rw [hn2] at hdec2 hl2
            have hl9 : ¬ (n2 : Int) = 2 := by omega
            clear hdq hn2
            go_upto_region 8 with (go_at_call 21; refine hdec2.mono ?_; rintro e w4 ⟨ad, cap, rfl, b4, _⟩; refine Hid.out ?_)
            refine Lib.hid ?_
            have HB4 := Lib.hid (HB.out.trans (b4.mono HB.out.size))
            clear hdec2 b4
            go_upto_region 8 with fail
            refine wp_region_fb (fun _ X9 => Below w4.heap.size w4 X9) (fun X9 X8 => Below X9.heap.size X9 X8) [
              fun v9 _ => v9 = .int .i64 0,
              fun v9 _ => v9 = .bool false,
              fun v9 _ => v9 = .bool false,
              fun v9 _ => v9 = .slice ad n2 cap,
              fun v9 _ => v9 = .int .i64 ((n2 : Nat) : Int),
              fun v9 _ => v9 = .bool true,
              fun v9 _ => v9 = .bool true,
              fun v9 _ => v9 = .bool true,
              fun v9 _ => v9 = undef,
              fun v9 _ => v9 = undef,
              fun v9 _ => v9 = undef,
              fun v9 _ => v9 = undef,
              fun v9 _ => v9 = undef,
              fun v9 _ => v9 = .bool true,
              fun v9 _ => v9 = .bool true,
              fun v9 _ => v9 = undef,
              fun v9 _ => v9 = undef,
              fun v9 _ => v9 = undef,
              fun v9 _ => v9 = undef,
              fun v9 _ => v9 = undef,
              fun v9 _ => v9 = .bool true,
              fun v9 _ => v9 = .bool true,
              fun v9 _ => v9 = undef,
              fun v9 _ => v9 = undef,
              fun v9 _ => v9 = undef,
              fun v9 _ => v9 = undef,
              fun v9 _ => v9 = undef,
              fun v9 _ => v9 = undef,
              fun v9 _ => v9 = undef,
              fun v9 _ => v9 = undef,
              fun v9 _ => v9 = undef,
              fun v9 _ => v9 = undef,
              fun v9 _ => v9 = undef,
              fun v9 _ => v9 = undef,
              fun v9 _ => v9 = undef,
              fun v9 _ => v9 = undef,
              fun v9 _ => v9 = undef,
              fun v9 _ => v9 = undef,
              fun v9 _ => v9 = undef,
              fun v9 _ => v9 = .bool true]
              (by kernel_rfl) (by kernel_rfl) (by kernel_rfl) ?st ?g0 ?os ?en
            case st => exact ⟨fun _ _ _ _ h => h, fun _ _ _ _ h => h, fun _ _ _ _ h => h, fun _ _ _ _ h => h, fun _ _ _ _ h => h, fun _ _ _ _ h => h, fun _ _ _ _ h => h, fun _ _ _ _ h => h, fun _ _ _ _ h => h, fun _ _ _ _ h => h, fun _ _ _ _ h => h, fun _ _ _ _ h => h, fun _ _ _ _ h => h, fun _ _ _ _ h => h, fun _ _ _ _ h => h, fun _ _ _ _ h => h, fun _ _ _ _ h => h, fun _ _ _ _ h => h, fun _ _ _ _ h => h, fun _ _ _ _ h => h, fun _ _ _ _ h => h, fun _ _ _ _ h => h, fun _ _ _ _ h => h, fun _ _ _ _ h => h, fun _ _ _ _ h => h, fun _ _ _ _ h => h, fun _ _ _ _ h => h, fun _ _ _ _ h => h, fun _ _ _ _ h => h, fun _ _ _ _ h => h, fun _ _ _ _ h => h, fun _ _ _ _ h => h, fun _ _ _ _ h => h, fun _ _ _ _ h => h, fun _ _ _ _ h => h, fun _ _ _ _ h => h, fun _ _ _ _ h => h, fun _ _ _ _ h => h, fun _ _ _ _ h => h, fun _ _ _ _ h => h, trivial⟩
            case g0 => exact ⟨rfl, rfl, rfl, Nat.le_refl _, fun _ _ => rfl⟩
            case os =>
              refine ⟨?_, ?_, ?_, ?_, ?_, ?_, ?_, ?_, ?_, ?_, ?_, ?_, ?_, ?_, ?_, ?_, ?_, ?_, ?_, ?_, ?_, ?_, ?_, ?_, ?_, ?_, ?_, ?_, ?_, ?_, ?_, ?_, ?_, ?_, ?_, ?_, ?_, ?_, ?_, ?_, trivial⟩
              · exact fun ρ X9 fl hg hn hl hp ho hc hf hr => .inl ⟨rfl, Runs.val _ (op_move (show ρ (.tmp 8) = .int .i64 0 from ho 8 rfl)) ⟨hg, Below.refl _ _, rfl⟩⟩
              · exact fun ρ X9 fl hg hn hl hp ho hc hf hr => .inl ⟨rfl, Runs.val _ (op_neq3 (show ρ (.tmp 36) = .int .i64 0 from hr 0 36 rfl rfl) (hc _) (b := false) (by decide)) ⟨hg, Below.refl _ _, rfl⟩⟩
              · exact fun ρ X9 fl hg hn hl hp ho hc hf hr => .inl ⟨rfl, Runs.val _ (op_move (show ρ (.tmp 37) = .bool false from hr 1 37 rfl rfl)) ⟨hg, Below.refl _ _, rfl⟩⟩
              · exact fun ρ X9 fl hg hn hl hp ho hc hf hr => .inr (.inl ⟨2, 38, false, fun _ => rfl, rfl, hr 2 38 rfl rfl, Runs.val _ (op_move (show ρ (.tmp 7) = .slice ad n2 cap from ho 7 rfl)) ⟨hg, Below.refl _ _, rfl⟩⟩)
              · exact fun ρ X9 fl hg hn hl hp ho hc hf hr => .inr (.inl ⟨2, 38, false, fun _ => rfl, rfl, hr 2 38 rfl rfl, Runs.val _ (op_len32 (show ρ (.tmp 39) = .slice ad n2 cap from hr 3 39 rfl rfl)) ⟨hg, Below.refl _ _, rfl⟩⟩)
              · exact fun ρ X9 fl hg hn hl hp ho hc hf hr => .inr (.inl ⟨2, 38, false, fun _ => rfl, rfl, hr 2 38 rfl rfl, Runs.val _ (op_neq3 (show ρ (.tmp 40) = .int .i64 ((n2 : Nat) : Int) from hr 4 40 rfl rfl) (hc _) (b := true) (by simp [hl9])) ⟨hg, Below.refl _ _, rfl⟩⟩)
              · exact fun ρ X9 fl hg hn hl hp ho hc hf hr => .inl ⟨rfl, Runs.val _ (op_pick (show ρ (.tmp 38) = .bool false from hr 2 38 rfl rfl) (show ρ (.tmp 41) = .bool true from hr 5 41 rfl rfl)) ⟨hg, Below.refl _ _, rfl⟩⟩
              · exact fun ρ X9 fl hg hn hl hp ho hc hf hr => .inl ⟨rfl, Runs.val _ (op_move (show ρ (.tmp 42) = .bool true from hr 6 42 rfl rfl)) ⟨hg, Below.refl _ _, rfl⟩⟩
              · exact fun ρ X9 fl hg hn hl hp ho hc hf hr => .inr (.inr ⟨7, 43, false, fun _ => rfl, rfl, (fun q => by rw [show ρ (.tmp 43) = .bool true from hr 7 43 rfl rfl] at q; cases q), hg, Below.refl _ _, rfl⟩)
              · exact fun ρ X9 fl hg hn hl hp ho hc hf hr => .inr (.inr ⟨7, 43, false, fun _ => rfl, rfl, (fun q => by rw [show ρ (.tmp 43) = .bool true from hr 7 43 rfl rfl] at q; cases q), hg, Below.refl _ _, rfl⟩)
              · exact fun ρ X9 fl hg hn hl hp ho hc hf hr => .inr (.inr ⟨7, 43, false, fun _ => rfl, rfl, (fun q => by rw [show ρ (.tmp 43) = .bool true from hr 7 43 rfl rfl] at q; cases q), hg, Below.refl _ _, rfl⟩)
              · exact fun ρ X9 fl hg hn hl hp ho hc hf hr => .inr (.inr ⟨7, 43, false, fun _ => rfl, rfl, (fun q => by rw [show ρ (.tmp 43) = .bool true from hr 7 43 rfl rfl] at q; cases q), hg, Below.refl _ _, rfl⟩)
              · exact fun ρ X9 fl hg hn hl hp ho hc hf hr => .inr (.inr ⟨7, 43, false, fun _ => rfl, rfl, (fun q => by rw [show ρ (.tmp 43) = .bool true from hr 7 43 rfl rfl] at q; cases q), hg, Below.refl _ _, rfl⟩)
              · exact fun ρ X9 fl hg hn hl hp ho hc hf hr => .inl ⟨rfl, Runs.val _ (op_pick (show ρ (.tmp 43) = .bool true from hr 7 43 rfl rfl) (hc _)) ⟨hg, Below.refl _ _, rfl⟩⟩
              · exact fun ρ X9 fl hg hn hl hp ho hc hf hr => .inl ⟨rfl, Runs.val _ (op_move (show ρ (.tmp 49) = .bool true from hr 13 49 rfl rfl)) ⟨hg, Below.refl _ _, rfl⟩⟩
              · exact fun ρ X9 fl hg hn hl hp ho hc hf hr => .inr (.inr ⟨14, 50, false, fun _ => rfl, rfl, (fun q => by rw [show ρ (.tmp 50) = .bool true from hr 14 50 rfl rfl] at q; cases q), hg, Below.refl _ _, rfl⟩)
              · exact fun ρ X9 fl hg hn hl hp ho hc hf hr => .inr (.inr ⟨14, 50, false, fun _ => rfl, rfl, (fun q => by rw [show ρ (.tmp 50) = .bool true from hr 14 50 rfl rfl] at q; cases q), hg, Below.refl _ _, rfl⟩)
              · exact fun ρ X9 fl hg hn hl hp ho hc hf hr => .inr (.inr ⟨14, 50, false, fun _ => rfl, rfl, (fun q => by rw [show ρ (.tmp 50) = .bool true from hr 14 50 rfl rfl] at q; cases q), hg, Below.refl _ _, rfl⟩)
              · exact fun ρ X9 fl hg hn hl hp ho hc hf hr => .inr (.inr ⟨14, 50, false, fun _ => rfl, rfl, (fun q => by rw [show ρ (.tmp 50) = .bool true from hr 14 50 rfl rfl] at q; cases q), hg, Below.refl _ _, rfl⟩)
              · exact fun ρ X9 fl hg hn hl hp ho hc hf hr => .inr (.inr ⟨14, 50, false, fun _ => rfl, rfl, (fun q => by rw [show ρ (.tmp 50) = .bool true from hr 14 50 rfl rfl] at q; cases q), hg, Below.refl _ _, rfl⟩)
              · exact fun ρ X9 fl hg hn hl hp ho hc hf hr => .inl ⟨rfl, Runs.val _ (op_pick (show ρ (.tmp 50) = .bool true from hr 14 50 rfl rfl) (hc _)) ⟨hg, Below.refl _ _, rfl⟩⟩
              · exact fun ρ X9 fl hg hn hl hp ho hc hf hr => .inl ⟨rfl, Runs.val _ (op_move (show ρ (.tmp 56) = .bool true from hr 20 56 rfl rfl)) ⟨hg, Below.refl _ _, rfl⟩⟩
              · exact fun ρ X9 fl hg hn hl hp ho hc hf hr => .inr (.inr ⟨21, 57, false, fun _ => rfl, rfl, (fun q => by rw [show ρ (.tmp 57) = .bool true from hr 21 57 rfl rfl] at q; cases q), hg, Below.refl _ _, rfl⟩)
              · exact fun ρ X9 fl hg hn hl hp ho hc hf hr => .inr (.inr ⟨21, 57, false, fun _ => rfl, rfl, (fun q => by rw [show ρ (.tmp 57) = .bool true from hr 21 57 rfl rfl] at q; cases q), hg, Below.refl _ _, rfl⟩)
              · exact fun ρ X9 fl hg hn hl hp ho hc hf hr => .inr (.inr ⟨21, 57, false, fun _ => rfl, rfl, (fun q => by rw [show ρ (.tmp 57) = .bool true from hr 21 57 rfl rfl] at q; cases q), hg, Below.refl _ _, rfl⟩)
              · exact fun ρ X9 fl hg hn hl hp ho hc hf hr => .inr (.inr ⟨21, 57, false, fun _ => rfl, rfl, (fun q => by rw [show ρ (.tmp 57) = .bool true from hr 21 57 rfl rfl] at q; cases q), hg, Below.refl _ _, rfl⟩)
              · exact fun ρ X9 fl hg hn hl hp ho hc hf hr => .inr (.inr ⟨25, 61, true, fun _ => rfl, rfl, (fun q => by rw [show ρ (.tmp 61) = undef from hr 25 61 rfl rfl] at q; cases q), hg, Below.refl _ _, rfl⟩)
              · exact fun ρ X9 fl hg hn hl hp ho hc hf hr => .inr (.inr ⟨25, 61, true, fun _ => rfl, rfl, (fun q => by rw [show ρ (.tmp 61) = undef from hr 25 61 rfl rfl] at q; cases q), hg, Below.refl _ _, rfl⟩)
              · exact fun ρ X9 fl hg hn hl hp ho hc hf hr => .inr (.inr ⟨25, 61, true, fun _ => rfl, rfl, (fun q => by rw [show ρ (.tmp 61) = undef from hr 25 61 rfl rfl] at q; cases q), hg, Below.refl _ _, rfl⟩)
              · exact fun ρ X9 fl hg hn hl hp ho hc hf hr => .inr (.inr ⟨25, 61, true, fun _ => rfl, rfl, (fun q => by rw [show ρ (.tmp 61) = undef from hr 25 61 rfl rfl] at q; cases q), hg, Below.refl _ _, rfl⟩)
              · exact fun ρ X9 fl hg hn hl hp ho hc hf hr => .inr (.inr ⟨25, 61, true, fun _ => rfl, rfl, (fun q => by rw [show ρ (.tmp 61) = undef from hr 25 61 rfl rfl] at q; cases q), hg, Below.refl _ _, rfl⟩)
              · exact fun ρ X9 fl hg hn hl hp ho hc hf hr => .inr (.inr ⟨25, 61, true, fun _ => rfl, rfl, (fun q => by rw [show ρ (.tmp 61) = undef from hr 25 61 rfl rfl] at q; cases q), hg, Below.refl _ _, rfl⟩)
              · exact fun ρ X9 fl hg hn hl hp ho hc hf hr => .inr (.inr ⟨25, 61, true, fun _ => rfl, rfl, (fun q => by rw [show ρ (.tmp 61) = undef from hr 25 61 rfl rfl] at q; cases q), hg, Below.refl _ _, rfl⟩)
              · exact fun ρ X9 fl hg hn hl hp ho hc hf hr => .inr (.inr ⟨25, 61, true, fun _ => rfl, rfl, (fun q => by rw [show ρ (.tmp 61) = undef from hr 25 61 rfl rfl] at q; cases q), hg, Below.refl _ _, rfl⟩)
              · exact fun ρ X9 fl hg hn hl hp ho hc hf hr => .inr (.inr ⟨25, 61, true, fun _ => rfl, rfl, (fun q => by rw [show ρ (.tmp 61) = undef from hr 25 61 rfl rfl] at q; cases q), hg, Below.refl _ _, rfl⟩)
              · exact fun ρ X9 fl hg hn hl hp ho hc hf hr => .inr (.inr ⟨25, 61, true, fun _ => rfl, rfl, (fun q => by rw [show ρ (.tmp 61) = undef from hr 25 61 rfl rfl] at q; cases q), hg, Below.refl _ _, rfl⟩)
              · exact fun ρ X9 fl hg hn hl hp ho hc hf hr => .inr (.inr ⟨25, 61, true, fun _ => rfl, rfl, (fun q => by rw [show ρ (.tmp 61) = undef from hr 25 61 rfl rfl] at q; cases q), hg, Below.refl _ _, rfl⟩)
              · exact fun ρ X9 fl hg hn hl hp ho hc hf hr => .inr (.inr ⟨25, 61, true, fun _ => rfl, rfl, (fun q => by rw [show ρ (.tmp 61) = undef from hr 25 61 rfl rfl] at q; cases q), hg, Below.refl _ _, rfl⟩)
              · exact fun ρ X9 fl hg hn hl hp ho hc hf hr => .inr (.inr ⟨21, 57, false, fun _ => rfl, rfl, (fun q => by rw [show ρ (.tmp 57) = .bool true from hr 21 57 rfl rfl] at q; cases q), hg, Below.refl _ _, rfl⟩)
              · exact fun ρ X9 fl hg hn hl hp ho hc hf hr => .inl ⟨rfl, Runs.val _ (op_pick (show ρ (.tmp 57) = .bool true from hr 21 57 rfl rfl) (hc _)) ⟨hg, Below.refl _ _, rfl⟩⟩
            case en =>
              intro a9 w5 fl hfl b5 hs9 hd9 ho9 hr9
              obtain ⟨x9, hx, hxt⟩ := act_put hs9 hd9 ho9
              have x75 : x9 75 = .bool true := (hxt 75).symm.trans (hr9 39 75 rfl)
              change a9 = putAll _ x9 [36, 37, 38, 39, 40, 41, 42, 43, 44, 45, 46, 47, 48, 49, 50, 51, 52, 53, 54, 55, 56, 57, 58, 59, 60, 61, 62, 63, 64, 65, 66, 67, 68, 69, 70, 71, 72, 73, 74, 75] at hx
              simp only [putAll, Act.put, List.setIfInBounds_toArray, List.set_cons_zero, List.set_cons_succ, x75] at hx
              subst hx
              clear hs9 hd9 ho9 hr9 hfl x75
              generalize x9 36 = z36, x9 37 = z37, x9 38 = z38, x9 39 = z39, x9 40 = z40, x9 41 = z41, x9 42 = z42, x9 43 = z43, x9 44 = z44, x9 45 = z45, x9 46 = z46, x9 47 = z47, x9 48 = z48, x9 49 = z49, x9 50 = z50, x9 51 = z51, x9 52 = z52, x9 53 = z53, x9 54 = z54, x9 55 = z55, x9 56 = z56, x9 57 = z57, x9 58 = z58, x9 59 = z59, x9 60 = z60, x9 61 = z61, x9 62 = z62, x9 63 = z63, x9 64 = z64, x9 65 = z65, x9 66 = z66, x9 67 = z67, x9 68 = z68, x9 69 = z69, x9 70 = z70, x9 71 = z71, x9 72 = z72, x9 73 = z73, x9 74 = z74
              have HB5 := Lib.hid (bgo HB4.out b5)
              clear b5
              go_wp2
              go_ret2
              exact get_no HN.out HB5.out
          · have HCP : Hid (cellP s2.data.toList = if a.k = 1 then some ⟨a.n, b⟩ else none) := Lib.hid (by unfold cellP; rw [hdq])
            clear hdq
            go_upto_region 8 with (go_at_call 21; refine hdec2.mono ?_; rintro e w4 ⟨ad, cap, rfl, b4, hli⟩; refine Hid.out ?_)
            refine Lib.hid ?_
            have HB4 := Lib.hid (HB.out.trans (b4.mono HB.out.size))
            obtain ⟨g, o1, rfl, _, c0, c1, _⟩ := hli.at' 0 (by simp)
            obtain ⟨_, _, e, _, d0, d1, d2⟩ := hli.at' 1 (by simp)
            cases e
            have HBW4 := Lib.hid b4
            clear hdec2 b4 hli
            by_cases hk9 : a.k = 1
            · have HCE : Hid (cellP s2.data.toList = some ⟨a.n, b⟩) := Lib.hid (by rw [HCP.out, if_pos hk9])
              by_cases hn9 : a.n < 1
              · have HN : Hid (getP 0 L = none) := Lib.hid (HGO.out _ HCE.out (by have := HD.out.2; first | (show ¬ lastF 0 M < a.n; omega) | (show a.n ≤ lastF 0 M; omega)))
                go_upto_region 8 with fail
                refine wp_region_fb (fun _ X9 => Below w4.heap.size w4 X9) (fun X9 X8 => Below X9.heap.size X9 X8) [
                  fun v9 _ => v9 = .int .i64 0,
                  fun v9 _ => v9 = .bool false,
                  fun v9 _ => v9 = .bool false,
                  fun v9 _ => v9 = .slice (some ⟨g, o1, none⟩) 2 cap,
                  fun v9 _ => v9 = .int .i64 ((2 : Nat) : Int),
                  fun v9 _ => v9 = .bool false,
                  fun v9 _ => v9 = .bool false,
                  fun v9 _ => v9 = .bool false,
                  fun v9 _ => v9 = .slice (some ⟨g, o1, none⟩) 2 cap,
                  fun v9 _ => v9 = .pointer (some ⟨g, o1 + 0 * 3, none⟩),
                  fun v9 _ => v9 = .pointer (some ⟨g, o1 + 0 * 3, none⟩),
                  fun v9 _ => v9 = .int .i64 a.k,
                  fun v9 _ => v9 = .bool false,
                  fun v9 _ => v9 = .bool false,
                  fun v9 _ => v9 = .bool false,
                  fun v9 _ => v9 = .slice (some ⟨g, o1, none⟩) 2 cap,
                  fun v9 _ => v9 = .pointer (some ⟨g, o1 + 0 * 3, none⟩),
                  fun v9 _ => v9 = .pointer (some ⟨g, o1 + 0 * 3 + 1, none⟩),
                  fun v9 _ => v9 = .int .i64 a.n,
                  fun v9 _ => v9 = .bool true,
                  fun v9 _ => v9 = .bool true,
                  fun v9 _ => v9 = .bool true,
                  fun v9 _ => v9 = undef,
                  fun v9 _ => v9 = undef,
                  fun v9 _ => v9 = undef,
                  fun v9 _ => v9 = undef,
                  fun v9 _ => v9 = undef,
                  fun v9 _ => v9 = undef,
                  fun v9 _ => v9 = undef,
                  fun v9 _ => v9 = undef,
                  fun v9 _ => v9 = undef,
                  fun v9 _ => v9 = undef,
                  fun v9 _ => v9 = undef,
                  fun v9 _ => v9 = undef,
                  fun v9 _ => v9 = undef,
                  fun v9 _ => v9 = undef,
                  fun v9 _ => v9 = undef,
                  fun v9 _ => v9 = undef,
                  fun v9 _ => v9 = undef,
                  fun v9 _ => v9 = .bool true]
                  (by kernel_rfl) (by kernel_rfl) (by kernel_rfl) ?st ?g0 ?os ?en
                case st => exact ⟨fun _ _ _ _ h => h, fun _ _ _ _ h => h, fun _ _ _ _ h => h, fun _ _ _ _ h => h, fun _ _ _ _ h => h, fun _ _ _ _ h => h, fun _ _ _ _ h => h, fun _ _ _ _ h => h, fun _ _ _ _ h => h, fun _ _ _ _ h => h, fun _ _ _ _ h => h, fun _ _ _ _ h => h, fun _ _ _ _ h => h, fun _ _ _ _ h => h, fun _ _ _ _ h => h, fun _ _ _ _ h => h, fun _ _ _ _ h => h, fun _ _ _ _ h => h, fun _ _ _ _ h => h, fun _ _ _ _ h => h, fun _ _ _ _ h => h, fun _ _ _ _ h => h, fun _ _ _ _ h => h, fun _ _ _ _ h => h, fun _ _ _ _ h => h, fun _ _ _ _ h => h, fun _ _ _ _ h => h, fun _ _ _ _ h => h, fun _ _ _ _ h => h, fun _ _ _ _ h => h, fun _ _ _ _ h => h, fun _ _ _ _ h => h, fun _ _ _ _ h => h, fun _ _ _ _ h => h, fun _ _ _ _ h => h, fun _ _ _ _ h => h, fun _ _ _ _ h => h, fun _ _ _ _ h => h, fun _ _ _ _ h => h, fun _ _ _ _ h => h, trivial⟩
                case g0 => exact ⟨rfl, rfl, rfl, Nat.le_refl _, fun _ _ => rfl⟩
                case os =>
                  refine ⟨?_, ?_, ?_, ?_, ?_, ?_, ?_, ?_, ?_, ?_, ?_, ?_, ?_, ?_, ?_, ?_, ?_, ?_, ?_, ?_, ?_, ?_, ?_, ?_, ?_, ?_, ?_, ?_, ?_, ?_, ?_, ?_, ?_, ?_, ?_, ?_, ?_, ?_, ?_, ?_, trivial⟩
                  · exact fun ρ X9 fl hg hn hl hp ho hc hf hr => .inl ⟨rfl, Runs.val _ (op_move (show ρ (.tmp 8) = .int .i64 0 from ho 8 rfl)) ⟨hg, Below.refl _ _, rfl⟩⟩
                  · exact fun ρ X9 fl hg hn hl hp ho hc hf hr => .inl ⟨rfl, Runs.val _ (op_neq3 (show ρ (.tmp 36) = .int .i64 0 from hr 0 36 rfl rfl) (hc _) (b := false) (by decide)) ⟨hg, Below.refl _ _, rfl⟩⟩
                  · exact fun ρ X9 fl hg hn hl hp ho hc hf hr => .inl ⟨rfl, Runs.val _ (op_move (show ρ (.tmp 37) = .bool false from hr 1 37 rfl rfl)) ⟨hg, Below.refl _ _, rfl⟩⟩
                  · exact fun ρ X9 fl hg hn hl hp ho hc hf hr => .inr (.inl ⟨2, 38, false, fun _ => rfl, rfl, hr 2 38 rfl rfl, Runs.val _ (op_move (show ρ (.tmp 7) = .slice (some ⟨g, o1, none⟩) 2 cap from ho 7 rfl)) ⟨hg, Below.refl _ _, rfl⟩⟩)
                  · exact fun ρ X9 fl hg hn hl hp ho hc hf hr => .inr (.inl ⟨2, 38, false, fun _ => rfl, rfl, hr 2 38 rfl rfl, Runs.val _ (op_len32 (show ρ (.tmp 39) = .slice (some ⟨g, o1, none⟩) 2 cap from hr 3 39 rfl rfl)) ⟨hg, Below.refl _ _, rfl⟩⟩)
                  · exact fun ρ X9 fl hg hn hl hp ho hc hf hr => .inr (.inl ⟨2, 38, false, fun _ => rfl, rfl, hr 2 38 rfl rfl, Runs.val _ (op_neq3 (show ρ (.tmp 40) = .int .i64 ((2 : Nat) : Int) from hr 4 40 rfl rfl) (hc _) (b := false) (by simp)) ⟨hg, Below.refl _ _, rfl⟩⟩)
                  · exact fun ρ X9 fl hg hn hl hp ho hc hf hr => .inl ⟨rfl, Runs.val _ (op_pick (show ρ (.tmp 38) = .bool false from hr 2 38 rfl rfl) (show ρ (.tmp 41) = .bool false from hr 5 41 rfl rfl)) ⟨hg, Below.refl _ _, rfl⟩⟩
                  · exact fun ρ X9 fl hg hn hl hp ho hc hf hr => .inl ⟨rfl, Runs.val _ (op_move (show ρ (.tmp 42) = .bool false from hr 6 42 rfl rfl)) ⟨hg, Below.refl _ _, rfl⟩⟩
                  · exact fun ρ X9 fl hg hn hl hp ho hc hf hr => .inr (.inl ⟨7, 43, false, fun _ => rfl, rfl, hr 7 43 rfl rfl, Runs.val _ (op_move (show ρ (.tmp 7) = .slice (some ⟨g, o1, none⟩) 2 cap from ho 7 rfl)) ⟨hg, Below.refl _ _, rfl⟩⟩)
                  · exact fun ρ X9 fl hg hn hl hp ho hc hf hr => .inr (.inl ⟨7, 43, false, fun _ => rfl, rfl, hr 7 43 rfl rfl, Runs.val _ (op_i32 (show ρ (.tmp 44) = .slice (some ⟨g, o1, none⟩) 2 cap from hr 8 44 rfl rfl) (i := 0) (hc _) (by decide)) ⟨hg, Below.refl _ _, rfl⟩⟩)
                  · exact fun ρ X9 fl hg hn hl hp ho hc hf hr => .inr (.inl ⟨7, 43, false, fun _ => rfl, rfl, hr 7 43 rfl rfl, Runs.val _ (op_f23_0 (show ρ (.tmp 45) = .pointer (some ⟨g, o1 + 0 * 3, none⟩) from hr 9 45 rfl rfl)) ⟨hg, Below.refl _ _, rfl⟩⟩)
                  · exact fun ρ X9 fl hg hn hl hp ho hc hf hr => .inr (.inl ⟨7, 43, false, fun _ => rfl, rfl, hr 7 43 rfl rfl, Runs.val _ (op_load3 (show ρ (.tmp 46) = .pointer (some ⟨g, o1 + 0 * 3, none⟩) from hr 10 46 rfl rfl) (cell_on hg c0)) ⟨hg, Below.refl _ _, rfl⟩⟩)
                  · exact fun ρ X9 fl hg hn hl hp ho hc hf hr => .inr (.inl ⟨7, 43, false, fun _ => rfl, rfl, hr 7 43 rfl rfl, Runs.val _ (op_neq3 (show ρ (.tmp 47) = .int .i64 a.k from hr 11 47 rfl rfl) (hc _) (b := false) (by rw [hk9]; decide)) ⟨hg, Below.refl _ _, rfl⟩⟩)
                  · exact fun ρ X9 fl hg hn hl hp ho hc hf hr => .inl ⟨rfl, Runs.val _ (op_pick (show ρ (.tmp 43) = .bool false from hr 7 43 rfl rfl) (show ρ (.tmp 48) = .bool false from hr 12 48 rfl rfl)) ⟨hg, Below.refl _ _, rfl⟩⟩
                  · exact fun ρ X9 fl hg hn hl hp ho hc hf hr => .inl ⟨rfl, Runs.val _ (op_move (show ρ (.tmp 49) = .bool false from hr 13 49 rfl rfl)) ⟨hg, Below.refl _ _, rfl⟩⟩
                  · exact fun ρ X9 fl hg hn hl hp ho hc hf hr => .inr (.inl ⟨14, 50, false, fun _ => rfl, rfl, hr 14 50 rfl rfl, Runs.val _ (op_move (show ρ (.tmp 7) = .slice (some ⟨g, o1, none⟩) 2 cap from ho 7 rfl)) ⟨hg, Below.refl _ _, rfl⟩⟩)
                  · exact fun ρ X9 fl hg hn hl hp ho hc hf hr => .inr (.inl ⟨14, 50, false, fun _ => rfl, rfl, hr 14 50 rfl rfl, Runs.val _ (op_i32 (show ρ (.tmp 51) = .slice (some ⟨g, o1, none⟩) 2 cap from hr 15 51 rfl rfl) (i := 0) (hc _) (by decide)) ⟨hg, Below.refl _ _, rfl⟩⟩)
                  · exact fun ρ X9 fl hg hn hl hp ho hc hf hr => .inr (.inl ⟨14, 50, false, fun _ => rfl, rfl, hr 14 50 rfl rfl, Runs.val _ (op_f23_1 (show ρ (.tmp 52) = .pointer (some ⟨g, o1 + 0 * 3, none⟩) from hr 16 52 rfl rfl)) ⟨hg, Below.refl _ _, rfl⟩⟩)
                  · exact fun ρ X9 fl hg hn hl hp ho hc hf hr => .inr (.inl ⟨14, 50, false, fun _ => rfl, rfl, hr 14 50 rfl rfl, Runs.val _ (op_load2 (show ρ (.tmp 53) = .pointer (some ⟨g, o1 + 0 * 3 + 1, none⟩) from hr 17 53 rfl rfl) (cell_on hg c1)) ⟨hg, Below.refl _ _, rfl⟩⟩)
                  · exact fun ρ X9 fl hg hn hl hp ho hc hf hr => .inr (.inl ⟨14, 50, false, fun _ => rfl, rfl, hr 14 50 rfl rfl, Runs.val _ (op_lss2 (show ρ (.tmp 54) = .int .i64 a.n from hr 18 54 rfl rfl) (hc _) (b := true) (decide_eq_true hn9)) ⟨hg, Below.refl _ _, rfl⟩⟩)
                  · exact fun ρ X9 fl hg hn hl hp ho hc hf hr => .inl ⟨rfl, Runs.val _ (op_pick (show ρ (.tmp 50) = .bool false from hr 14 50 rfl rfl) (show ρ (.tmp 55) = .bool true from hr 19 55 rfl rfl)) ⟨hg, Below.refl _ _, rfl⟩⟩
                  · exact fun ρ X9 fl hg hn hl hp ho hc hf hr => .inl ⟨rfl, Runs.val _ (op_move (show ρ (.tmp 56) = .bool true from hr 20 56 rfl rfl)) ⟨hg, Below.refl _ _, rfl⟩⟩
                  · exact fun ρ X9 fl hg hn hl hp ho hc hf hr => .inr (.inr ⟨21, 57, false, fun _ => rfl, rfl, (fun q => by rw [show ρ (.tmp 57) = .bool true from hr 21 57 rfl rfl] at q; cases q), hg, Below.refl _ _, rfl⟩)
                  · exact fun ρ X9 fl hg hn hl hp ho hc hf hr => .inr (.inr ⟨21, 57, false, fun _ => rfl, rfl, (fun q => by rw [show ρ (.tmp 57) = .bool true from hr 21 57 rfl rfl] at q; cases q), hg, Below.refl _ _, rfl⟩)
                  · exact fun ρ X9 fl hg hn hl hp ho hc hf hr => .inr (.inr ⟨21, 57, false, fun _ => rfl, rfl, (fun q => by rw [show ρ (.tmp 57) = .bool true from hr 21 57 rfl rfl] at q; cases q), hg, Below.refl _ _, rfl⟩)
                  · exact fun ρ X9 fl hg hn hl hp ho hc hf hr => .inr (.inr ⟨21, 57, false, fun _ => rfl, rfl, (fun q => by rw [show ρ (.tmp 57) = .bool true from hr 21 57 rfl rfl] at q; cases q), hg, Below.refl _ _, rfl⟩)
                  · exact fun ρ X9 fl hg hn hl hp ho hc hf hr => .inr (.inr ⟨25, 61, true, fun _ => rfl, rfl, (fun q => by rw [show ρ (.tmp 61) = undef from hr 25 61 rfl rfl] at q; cases q), hg, Below.refl _ _, rfl⟩)
                  · exact fun ρ X9 fl hg hn hl hp ho hc hf hr => .inr (.inr ⟨25, 61, true, fun _ => rfl, rfl, (fun q => by rw [show ρ (.tmp 61) = undef from hr 25 61 rfl rfl] at q; cases q), hg, Below.refl _ _, rfl⟩)
                  · exact fun ρ X9 fl hg hn hl hp ho hc hf hr => .inr (.inr ⟨25, 61, true, fun _ => rfl, rfl, (fun q => by rw [show ρ (.tmp 61) = undef from hr 25 61 rfl rfl] at q; cases q), hg, Below.refl _ _, rfl⟩)
                  · exact fun ρ X9 fl hg hn hl hp ho hc hf hr => .inr (.inr ⟨25, 61, true, fun _ => rfl, rfl, (fun q => by rw [show ρ (.tmp 61) = undef from hr 25 61 rfl rfl] at q; cases q), hg, Below.refl _ _, rfl⟩)
                  · exact fun ρ X9 fl hg hn hl hp ho hc hf hr => .inr (.inr ⟨25, 61, true, fun _ => rfl, rfl, (fun q => by rw [show ρ (.tmp 61) = undef from hr 25 61 rfl rfl] at q; cases q), hg, Below.refl _ _, rfl⟩)
                  · exact fun ρ X9 fl hg hn hl hp ho hc hf hr => .inr (.inr ⟨25, 61, true, fun _ => rfl, rfl, (fun q => by rw [show ρ (.tmp 61) = undef from hr 25 61 rfl rfl] at q; cases q), hg, Below.refl _ _, rfl⟩)
                  · exact fun ρ X9 fl hg hn hl hp ho hc hf hr => .inr (.inr ⟨25, 61, true, fun _ => rfl, rfl, (fun q => by rw [show ρ (.tmp 61) = undef from hr 25 61 rfl rfl] at q; cases q), hg, Below.refl _ _, rfl⟩)
                  · exact fun ρ X9 fl hg hn hl hp ho hc hf hr => .inr (.inr ⟨25, 61, true, fun _ => rfl, rfl, (fun q => by rw [show ρ (.tmp 61) = undef from hr 25 61 rfl rfl] at q; cases q), hg, Below.refl _ _, rfl⟩)
                  · exact fun ρ X9 fl hg hn hl hp ho hc hf hr => .inr (.inr ⟨25, 61, true, fun _ => rfl, rfl, (fun q => by rw [show ρ (.tmp 61) = undef from hr 25 61 rfl rfl] at q; cases q), hg, Below.refl _ _, rfl⟩)
                  · exact fun ρ X9 fl hg hn hl hp ho hc hf hr => .inr (.inr ⟨25, 61, true, fun _ => rfl, rfl, (fun q => by rw [show ρ (.tmp 61) = undef from hr 25 61 rfl rfl] at q; cases q), hg, Below.refl _ _, rfl⟩)
                  · exact fun ρ X9 fl hg hn hl hp ho hc hf hr => .inr (.inr ⟨25, 61, true, fun _ => rfl, rfl, (fun q => by rw [show ρ (.tmp 61) = undef from hr 25 61 rfl rfl] at q; cases q), hg, Below.refl _ _, rfl⟩)
                  · exact fun ρ X9 fl hg hn hl hp ho hc hf hr => .inr (.inr ⟨25, 61, true, fun _ => rfl, rfl, (fun q => by rw [show ρ (.tmp 61) = undef from hr 25 61 rfl rfl] at q; cases q), hg, Below.refl _ _, rfl⟩)
                  · exact fun ρ X9 fl hg hn hl hp ho hc hf hr => .inr (.inr ⟨21, 57, false, fun _ => rfl, rfl, (fun q => by rw [show ρ (.tmp 57) = .bool true from hr 21 57 rfl rfl] at q; cases q), hg, Below.refl _ _, rfl⟩)
                  · exact fun ρ X9 fl hg hn hl hp ho hc hf hr => .inl ⟨rfl, Runs.val _ (op_pick (show ρ (.tmp 57) = .bool true from hr 21 57 rfl rfl) (hc _)) ⟨hg, Below.refl _ _, rfl⟩⟩
                case en =>
                  intro a9 w5 fl hfl b5 hs9 hd9 ho9 hr9
                  obtain ⟨x9, hx, hxt⟩ := act_put hs9 hd9 ho9
                  have x75 : x9 75 = .bool true := (hxt 75).symm.trans (hr9 39 75 rfl)
                  change a9 = putAll _ x9 [36, 37, 38, 39, 40, 41, 42, 43, 44, 45, 46, 47, 48, 49, 50, 51, 52, 53, 54, 55, 56, 57, 58, 59, 60, 61, 62, 63, 64, 65, 66, 67, 68, 69, 70, 71, 72, 73, 74, 75] at hx
                  simp only [putAll, Act.put, List.setIfInBounds_toArray, List.set_cons_zero, List.set_cons_succ, x75] at hx
                  subst hx
                  clear hs9 hd9 ho9 hr9 hfl x75
                  generalize x9 36 = z36, x9 37 = z37, x9 38 = z38, x9 39 = z39, x9 40 = z40, x9 41 = z41, x9 42 = z42, x9 43 = z43, x9 44 = z44, x9 45 = z45, x9 46 = z46, x9 47 = z47, x9 48 = z48, x9 49 = z49, x9 50 = z50, x9 51 = z51, x9 52 = z52, x9 53 = z53, x9 54 = z54, x9 55 = z55, x9 56 = z56, x9 57 = z57, x9 58 = z58, x9 59 = z59, x9 60 = z60, x9 61 = z61, x9 62 = z62, x9 63 = z63, x9 64 = z64, x9 65 = z65, x9 66 = z66, x9 67 = z67, x9 68 = z68, x9 69 = z69, x9 70 = z70, x9 71 = z71, x9 72 = z72, x9 73 = z73, x9 74 = z74
                  have HB5 := Lib.hid (bgo HB4.out b5)
                  clear b5
                  go_wp2
                  go_ret2
                  exact get_no HN.out HB5.out
              · have HNP : Hid (1 ≤ a.n) := Lib.hid (by omega)
                have HOW4 := Lib.hid (own_below HOW.out HBW4.out)
                rcases Nat.eq_zero_or_pos M.length with hML | hMp
                · have hM0 : ¬ (0 : Int) < (M.length : Int) := by omega
                  have HN := Lib.hid (HGS.out _ HCE.out (by
                    show lastF 0 M < a.n
                    rw [List.eq_nil_of_length_eq_zero hML]
                    show (0 : Int) < a.n
                    omega))
                  clear hML
                  go_upto_region 8 with fail
                  refine wp_region_fb (fun _ X9 => Below w4.heap.size w4 X9) (fun X9 X8 => Below X9.heap.size X9 X8) [
                    fun v9 _ => v9 = .int .i64 0,
                    fun v9 _ => v9 = .bool false,
                    fun v9 _ => v9 = .bool false,
                    fun v9 _ => v9 = .slice (some ⟨g, o1, none⟩) 2 cap,
                    fun v9 _ => v9 = .int .i64 ((2 : Nat) : Int),
                    fun v9 _ => v9 = .bool false,
                    fun v9 _ => v9 = .bool false,
                    fun v9 _ => v9 = .bool false,
                    fun v9 _ => v9 = .slice (some ⟨g, o1, none⟩) 2 cap,
                    fun v9 _ => v9 = .pointer (some ⟨g, o1 + 0 * 3, none⟩),
                    fun v9 _ => v9 = .pointer (some ⟨g, o1 + 0 * 3, none⟩),
                    fun v9 _ => v9 = .int .i64 a.k,
                    fun v9 _ => v9 = .bool false,
                    fun v9 _ => v9 = .bool false,
                    fun v9 _ => v9 = .bool false,
                    fun v9 _ => v9 = .slice (some ⟨g, o1, none⟩) 2 cap,
                    fun v9 _ => v9 = .pointer (some ⟨g, o1 + 0 * 3, none⟩),
                    fun v9 _ => v9 = .pointer (some ⟨g, o1 + 0 * 3 + 1, none⟩),
                    fun v9 _ => v9 = .int .i64 a.n,
                    fun v9 _ => v9 = .bool false,
                    fun v9 _ => v9 = .bool false,
                    fun v9 _ => v9 = .bool false,
                    fun v9 _ => v9 = .slice ma M.length mc,
                    fun v9 _ => v9 = .int .i64 (M.length : Int),
                    fun v9 _ => v9 = .bool false,
                    fun v9 _ => v9 = .bool false,
                    fun v9 _ => v9 = undef,
                    fun v9 _ => v9 = undef,
                    fun v9 _ => v9 = undef,
                    fun v9 _ => v9 = undef,
                    fun v9 _ => v9 = undef,
                    fun v9 _ => v9 = undef,
                    fun v9 _ => v9 = undef,
                    fun v9 _ => v9 = undef,
                    fun v9 _ => v9 = undef,
                    fun v9 _ => v9 = undef,
                    fun v9 _ => v9 = undef,
                    fun v9 _ => v9 = undef,
                    fun v9 _ => v9 = .bool false,
                    fun v9 _ => v9 = .bool false]
                    (by kernel_rfl) (by kernel_rfl) (by kernel_rfl) ?st ?g0 ?os ?en
                  case st => exact ⟨fun _ _ _ _ h => h, fun _ _ _ _ h => h, fun _ _ _ _ h => h, fun _ _ _ _ h => h, fun _ _ _ _ h => h, fun _ _ _ _ h => h, fun _ _ _ _ h => h, fun _ _ _ _ h => h, fun _ _ _ _ h => h, fun _ _ _ _ h => h, fun _ _ _ _ h => h, fun _ _ _ _ h => h, fun _ _ _ _ h => h, fun _ _ _ _ h => h, fun _ _ _ _ h => h, fun _ _ _ _ h => h, fun _ _ _ _ h => h, fun _ _ _ _ h => h, fun _ _ _ _ h => h, fun _ _ _ _ h => h, fun _ _ _ _ h => h, fun _ _ _ _ h => h, fun _ _ _ _ h => h, fun _ _ _ _ h => h, fun _ _ _ _ h => h, fun _ _ _ _ h => h, fun _ _ _ _ h => h, fun _ _ _ _ h => h, fun _ _ _ _ h => h, fun _ _ _ _ h => h, fun _ _ _ _ h => h, fun _ _ _ _ h => h, fun _ _ _ _ h => h, fun _ _ _ _ h => h, fun _ _ _ _ h => h, fun _ _ _ _ h => h, fun _ _ _ _ h => h, fun _ _ _ _ h => h, fun _ _ _ _ h => h, fun _ _ _ _ h => h, trivial⟩
                  case g0 => exact ⟨rfl, rfl, rfl, Nat.le_refl _, fun _ _ => rfl⟩
                  case os =>
                    refine ⟨?_, ?_, ?_, ?_, ?_, ?_, ?_, ?_, ?_, ?_, ?_, ?_, ?_, ?_, ?_, ?_, ?_, ?_, ?_, ?_, ?_, ?_, ?_, ?_, ?_, ?_, ?_, ?_, ?_, ?_, ?_, ?_, ?_, ?_, ?_, ?_, ?_, ?_, ?_, ?_, trivial⟩
                    · exact fun ρ X9 fl hg hn hl hp ho hc hf hr => .inl ⟨rfl, Runs.val _ (op_move (show ρ (.tmp 8) = .int .i64 0 from ho 8 rfl)) ⟨hg, Below.refl _ _, rfl⟩⟩
                    · exact fun ρ X9 fl hg hn hl hp ho hc hf hr => .inl ⟨rfl, Runs.val _ (op_neq3 (show ρ (.tmp 36) = .int .i64 0 from hr 0 36 rfl rfl) (hc _) (b := false) (by decide)) ⟨hg, Below.refl _ _, rfl⟩⟩
                    · exact fun ρ X9 fl hg hn hl hp ho hc hf hr => .inl ⟨rfl, Runs.val _ (op_move (show ρ (.tmp 37) = .bool false from hr 1 37 rfl rfl)) ⟨hg, Below.refl _ _, rfl⟩⟩
                    · exact fun ρ X9 fl hg hn hl hp ho hc hf hr => .inr (.inl ⟨2, 38, false, fun _ => rfl, rfl, hr 2 38 rfl rfl, Runs.val _ (op_move (show ρ (.tmp 7) = .slice (some ⟨g, o1, none⟩) 2 cap from ho 7 rfl)) ⟨hg, Below.refl _ _, rfl⟩⟩)
                    · exact fun ρ X9 fl hg hn hl hp ho hc hf hr => .inr (.inl ⟨2, 38, false, fun _ => rfl, rfl, hr 2 38 rfl rfl, Runs.val _ (op_len32 (show ρ (.tmp 39) = .slice (some ⟨g, o1, none⟩) 2 cap from hr 3 39 rfl rfl)) ⟨hg, Below.refl _ _, rfl⟩⟩)
                    · exact fun ρ X9 fl hg hn hl hp ho hc hf hr => .inr (.inl ⟨2, 38, false, fun _ => rfl, rfl, hr 2 38 rfl rfl, Runs.val _ (op_neq3 (show ρ (.tmp 40) = .int .i64 ((2 : Nat) : Int) from hr 4 40 rfl rfl) (hc _) (b := false) (by simp)) ⟨hg, Below.refl _ _, rfl⟩⟩)
                    · exact fun ρ X9 fl hg hn hl hp ho hc hf hr => .inl ⟨rfl, Runs.val _ (op_pick (show ρ (.tmp 38) = .bool false from hr 2 38 rfl rfl) (show ρ (.tmp 41) = .bool false from hr 5 41 rfl rfl)) ⟨hg, Below.refl _ _, rfl⟩⟩
                    · exact fun ρ X9 fl hg hn hl hp ho hc hf hr => .inl ⟨rfl, Runs.val _ (op_move (show ρ (.tmp 42) = .bool false from hr 6 42 rfl rfl)) ⟨hg, Below.refl _ _, rfl⟩⟩
                    · exact fun ρ X9 fl hg hn hl hp ho hc hf hr => .inr (.inl ⟨7, 43, false, fun _ => rfl, rfl, hr 7 43 rfl rfl, Runs.val _ (op_move (show ρ (.tmp 7) = .slice (some ⟨g, o1, none⟩) 2 cap from ho 7 rfl)) ⟨hg, Below.refl _ _, rfl⟩⟩)
                    · exact fun ρ X9 fl hg hn hl hp ho hc hf hr => .inr (.inl ⟨7, 43, false, fun _ => rfl, rfl, hr 7 43 rfl rfl, Runs.val _ (op_i32 (show ρ (.tmp 44) = .slice (some ⟨g, o1, none⟩) 2 cap from hr 8 44 rfl rfl) (i := 0) (hc _) (by decide)) ⟨hg, Below.refl _ _, rfl⟩⟩)
                    · exact fun ρ X9 fl hg hn hl hp ho hc hf hr => .inr (.inl ⟨7, 43, false, fun _ => rfl, rfl, hr 7 43 rfl rfl, Runs.val _ (op_f23_0 (show ρ (.tmp 45) = .pointer (some ⟨g, o1 + 0 * 3, none⟩) from hr 9 45 rfl rfl)) ⟨hg, Below.refl _ _, rfl⟩⟩)
                    · exact fun ρ X9 fl hg hn hl hp ho hc hf hr => .inr (.inl ⟨7, 43, false, fun _ => rfl, rfl, hr 7 43 rfl rfl, Runs.val _ (op_load3 (show ρ (.tmp 46) = .pointer (some ⟨g, o1 + 0 * 3, none⟩) from hr 10 46 rfl rfl) (cell_on hg c0)) ⟨hg, Below.refl _ _, rfl⟩⟩)
                    · exact fun ρ X9 fl hg hn hl hp ho hc hf hr => .inr (.inl ⟨7, 43, false, fun _ => rfl, rfl, hr 7 43 rfl rfl, Runs.val _ (op_neq3 (show ρ (.tmp 47) = .int .i64 a.k from hr 11 47 rfl rfl) (hc _) (b := false) (by rw [hk9]; decide)) ⟨hg, Below.refl _ _, rfl⟩⟩)
                    · exact fun ρ X9 fl hg hn hl hp ho hc hf hr => .inl ⟨rfl, Runs.val _ (op_pick (show ρ (.tmp 43) = .bool false from hr 7 43 rfl rfl) (show ρ (.tmp 48) = .bool false from hr 12 48 rfl rfl)) ⟨hg, Below.refl _ _, rfl⟩⟩
                    · exact fun ρ X9 fl hg hn hl hp ho hc hf hr => .inl ⟨rfl, Runs.val _ (op_move (show ρ (.tmp 49) = .bool false from hr 13 49 rfl rfl)) ⟨hg, Below.refl _ _, rfl⟩⟩
                    · exact fun ρ X9 fl hg hn hl hp ho hc hf hr => .inr (.inl ⟨14, 50, false, fun _ => rfl, rfl, hr 14 50 rfl rfl, Runs.val _ (op_move (show ρ (.tmp 7) = .slice (some ⟨g, o1, none⟩) 2 cap from ho 7 rfl)) ⟨hg, Below.refl _ _, rfl⟩⟩)
                    · exact fun ρ X9 fl hg hn hl hp ho hc hf hr => .inr (.inl ⟨14, 50, false, fun _ => rfl, rfl, hr 14 50 rfl rfl, Runs.val _ (op_i32 (show ρ (.tmp 51) = .slice (some ⟨g, o1, none⟩) 2 cap from hr 15 51 rfl rfl) (i := 0) (hc _) (by decide)) ⟨hg, Below.refl _ _, rfl⟩⟩)
                    · exact fun ρ X9 fl hg hn hl hp ho hc hf hr => .inr (.inl ⟨14, 50, false, fun _ => rfl, rfl, hr 14 50 rfl rfl, Runs.val _ (op_f23_1 (show ρ (.tmp 52) = .pointer (some ⟨g, o1 + 0 * 3, none⟩) from hr 16 52 rfl rfl)) ⟨hg, Below.refl _ _, rfl⟩⟩)
                    · exact fun ρ X9 fl hg hn hl hp ho hc hf hr => .inr (.inl ⟨14, 50, false, fun _ => rfl, rfl, hr 14 50 rfl rfl, Runs.val _ (op_load2 (show ρ (.tmp 53) = .pointer (some ⟨g, o1 + 0 * 3 + 1, none⟩) from hr 17 53 rfl rfl) (cell_on hg c1)) ⟨hg, Below.refl _ _, rfl⟩⟩)
                    · exact fun ρ X9 fl hg hn hl hp ho hc hf hr => .inr (.inl ⟨14, 50, false, fun _ => rfl, rfl, hr 14 50 rfl rfl, Runs.val _ (op_lss2 (show ρ (.tmp 54) = .int .i64 a.n from hr 18 54 rfl rfl) (hc _) (b := false) (decide_eq_false hn9)) ⟨hg, Below.refl _ _, rfl⟩⟩)
                    · exact fun ρ X9 fl hg hn hl hp ho hc hf hr => .inl ⟨rfl, Runs.val _ (op_pick (show ρ (.tmp 50) = .bool false from hr 14 50 rfl rfl) (show ρ (.tmp 55) = .bool false from hr 19 55 rfl rfl)) ⟨hg, Below.refl _ _, rfl⟩⟩
                    · exact fun ρ X9 fl hg hn hl hp ho hc hf hr => .inl ⟨rfl, Runs.val _ (op_move (show ρ (.tmp 56) = .bool false from hr 20 56 rfl rfl)) ⟨hg, Below.refl _ _, rfl⟩⟩
                    · exact fun ρ X9 fl hg hn hl hp ho hc hf hr => .inr (.inl ⟨21, 57, false, fun _ => rfl, rfl, hr 21 57 rfl rfl, Runs.val _ (op_move (show ρ (.tmp 4) = .slice ma M.length mc from ho 4 rfl)) ⟨hg, Below.refl _ _, rfl⟩⟩)
                    · exact fun ρ X9 fl hg hn hl hp ho hc hf hr => .inr (.inl ⟨21, 57, false, fun _ => rfl, rfl, hr 21 57 rfl rfl, Runs.val _ (op_len40 (show ρ (.tmp 58) = .slice ma M.length mc from hr 22 58 rfl rfl)) ⟨hg, Below.refl _ _, rfl⟩⟩)
                    · exact fun ρ X9 fl hg hn hl hp ho hc hf hr => .inr (.inl ⟨21, 57, false, fun _ => rfl, rfl, hr 21 57 rfl rfl, Runs.val _ (op_gtr3 (show ρ (.tmp 59) = .int .i64 (M.length : Int) from hr 23 59 rfl rfl) (hc _) (b := false) (decide_eq_false hM0)) ⟨hg, Below.refl _ _, rfl⟩⟩)
                    · exact fun ρ X9 fl hg hn hl hp ho hc hf hr => .inr (.inl ⟨21, 57, false, fun _ => rfl, rfl, hr 21 57 rfl rfl, Runs.val _ (op_move (show ρ (.tmp 60) = .bool false from hr 24 60 rfl rfl)) ⟨hg, Below.refl _ _, rfl⟩⟩)
                    · exact fun ρ X9 fl hg hn hl hp ho hc hf hr => .inr (.inr ⟨25, 61, true, fun _ => rfl, rfl, (fun q => by rw [show ρ (.tmp 61) = .bool false from hr 25 61 rfl rfl] at q; cases q), hg, Below.refl _ _, rfl⟩)
                    · exact fun ρ X9 fl hg hn hl hp ho hc hf hr => .inr (.inr ⟨25, 61, true, fun _ => rfl, rfl, (fun q => by rw [show ρ (.tmp 61) = .bool false from hr 25 61 rfl rfl] at q; cases q), hg, Below.refl _ _, rfl⟩)
                    · exact fun ρ X9 fl hg hn hl hp ho hc hf hr => .inr (.inr ⟨25, 61, true, fun _ => rfl, rfl, (fun q => by rw [show ρ (.tmp 61) = .bool false from hr 25 61 rfl rfl] at q; cases q), hg, Below.refl _ _, rfl⟩)
                    · exact fun ρ X9 fl hg hn hl hp ho hc hf hr => .inr (.inr ⟨25, 61, true, fun _ => rfl, rfl, (fun q => by rw [show ρ (.tmp 61) = .bool false from hr 25 61 rfl rfl] at q; cases q), hg, Below.refl _ _, rfl⟩)
                    · exact fun ρ X9 fl hg hn hl hp ho hc hf hr => .inr (.inr ⟨25, 61, true, fun _ => rfl, rfl, (fun q => by rw [show ρ (.tmp 61) = .bool false from hr 25 61 rfl rfl] at q; cases q), hg, Below.refl _ _, rfl⟩)
                    · exact fun ρ X9 fl hg hn hl hp ho hc hf hr => .inr (.inr ⟨25, 61, true, fun _ => rfl, rfl, (fun q => by rw [show ρ (.tmp 61) = .bool false from hr 25 61 rfl rfl] at q; cases q), hg, Below.refl _ _, rfl⟩)
                    · exact fun ρ X9 fl hg hn hl hp ho hc hf hr => .inr (.inr ⟨25, 61, true, fun _ => rfl, rfl, (fun q => by rw [show ρ (.tmp 61) = .bool false from hr 25 61 rfl rfl] at q; cases q), hg, Below.refl _ _, rfl⟩)
                    · exact fun ρ X9 fl hg hn hl hp ho hc hf hr => .inr (.inr ⟨25, 61, true, fun _ => rfl, rfl, (fun q => by rw [show ρ (.tmp 61) = .bool false from hr 25 61 rfl rfl] at q; cases q), hg, Below.refl _ _, rfl⟩)
                    · exact fun ρ X9 fl hg hn hl hp ho hc hf hr => .inr (.inr ⟨25, 61, true, fun _ => rfl, rfl, (fun q => by rw [show ρ (.tmp 61) = .bool false from hr 25 61 rfl rfl] at q; cases q), hg, Below.refl _ _, rfl⟩)
                    · exact fun ρ X9 fl hg hn hl hp ho hc hf hr => .inr (.inr ⟨25, 61, true, fun _ => rfl, rfl, (fun q => by rw [show ρ (.tmp 61) = .bool false from hr 25 61 rfl rfl] at q; cases q), hg, Below.refl _ _, rfl⟩)
                    · exact fun ρ X9 fl hg hn hl hp ho hc hf hr => .inr (.inr ⟨25, 61, true, fun _ => rfl, rfl, (fun q => by rw [show ρ (.tmp 61) = .bool false from hr 25 61 rfl rfl] at q; cases q), hg, Below.refl _ _, rfl⟩)
                    · exact fun ρ X9 fl hg hn hl hp ho hc hf hr => .inr (.inr ⟨25, 61, true, fun _ => rfl, rfl, (fun q => by rw [show ρ (.tmp 61) = .bool false from hr 25 61 rfl rfl] at q; cases q), hg, Below.refl _ _, rfl⟩)
                    · exact fun ρ X9 fl hg hn hl hp ho hc hf hr => .inr (.inl ⟨21, 57, false, fun _ => rfl, rfl, hr 21 57 rfl rfl, Runs.val _ (op_pick (show ρ (.tmp 61) = .bool false from hr 25 61 rfl rfl) (hc _)) ⟨hg, Below.refl _ _, rfl⟩⟩)
                    · exact fun ρ X9 fl hg hn hl hp ho hc hf hr => .inl ⟨rfl, Runs.val _ (op_pick (show ρ (.tmp 57) = .bool false from hr 21 57 rfl rfl) (show ρ (.tmp 74) = .bool false from hr 38 74 rfl rfl)) ⟨hg, Below.refl _ _, rfl⟩⟩
                  case en =>
                    intro a9 w5 fl hfl b5 hs9 hd9 ho9 hr9
                    obtain ⟨x9, hx, hxt⟩ := act_put hs9 hd9 ho9
                    have x75 : x9 75 = .bool false := (hxt 75).symm.trans (hr9 39 75 rfl)
                    change a9 = putAll _ x9 [36, 37, 38, 39, 40, 41, 42, 43, 44, 45, 46, 47, 48, 49, 50, 51, 52, 53, 54, 55, 56, 57, 58, 59, 60, 61, 62, 63, 64, 65, 66, 67, 68, 69, 70, 71, 72, 73, 74, 75] at hx
                    simp only [putAll, Act.put, List.setIfInBounds_toArray, List.set_cons_zero, List.set_cons_succ, x75] at hx
                    subst hx
                    clear hs9 hd9 ho9 hr9 hfl x75
                    generalize x9 36 = z36, x9 37 = z37, x9 38 = z38, x9 39 = z39, x9 40 = z40, x9 41 = z41, x9 42 = z42, x9 43 = z43, x9 44 = z44, x9 45 = z45, x9 46 = z46, x9 47 = z47, x9 48 = z48, x9 49 = z49, x9 50 = z50, x9 51 = z51, x9 52 = z52, x9 53 = z53, x9 54 = z54, x9 55 = z55, x9 56 = z56, x9 57 = z57, x9 58 = z58, x9 59 = z59, x9 60 = z60, x9 61 = z61, x9 62 = z62, x9 63 = z63, x9 64 = z64, x9 65 = z65, x9 66 = z66, x9 67 = z67, x9 68 = z68, x9 69 = z69, x9 70 = z70, x9 71 = z71, x9 72 = z72, x9 73 = z73, x9 74 = z74
                    have HB5 := Lib.hid (bgo HB4.out b5)
                    have HOW5 : Hid (w5.ownsRow w.heap.size 89 4 (.slice ma M.length mc) M.length (M.flatMap ceL)) := Lib.hid (own_below HOW4.out b5)
                    have c1 := cell_on b5 c1
                    have d0 := cell_on b5 d0
                    have d1 := cell_on b5 d1
                    have d2 := cell_on b5 d2
                    clear b5
                    go_upto_region 10 with fail
                    refine wp_region_gs (fun fl r X9 => G10 w w5 (.slice ma M.length mc) M ⟨a.n, b⟩ (fl 9) (fl 10) (fl 11) (r 4) (r 85) (r 86) X9) (fun _ _ => True) [
                      fun v9 _ => v9 = .slice ma M.length mc,
                      fun v9 _ => v9 = .slice (some ⟨g, o1, none⟩) 2 cap,
                      fun v9 _ => v9 = .pointer (some ⟨g, o1 + 0 * 3, none⟩),
                      fun v9 _ => v9 = .pointer (some ⟨g, o1 + 0 * 3 + 1, none⟩),
                      fun v9 _ => v9 = .int .i64 a.n,
                      fun v9 _ => v9 = .slice (some ⟨g, o1, none⟩) 2 cap,
                      fun v9 _ => v9 = .pointer (some ⟨g, o1 + 1 * 3, none⟩),
                      fun v9 _ => v9 = vlV b,
                      fun v9 _ => v9 = .agg (ceA ⟨a.n, b⟩),
                      fun _ _ => True,
                      fun _ _ => True,
                      fun _ _ => True]
                      (by kernel_rfl) (by kernel_rfl) (by kernel_rfl) ?st ?g0 ?os ?en
                    case st => exact ⟨fun _ _ _ _ h => h, fun _ _ _ _ h => h, fun _ _ _ _ h => h, fun _ _ _ _ h => h, fun _ _ _ _ h => h, fun _ _ _ _ h => h, fun _ _ _ _ h => h, fun _ _ _ _ h => h, fun _ _ _ _ h => h, fun _ _ _ _ h => h, fun _ _ _ _ h => h, fun _ _ _ _ h => h, trivial⟩
                    case g0 => exact ⟨fun _ => ⟨rfl, rfl, rfl, Nat.le_refl _, fun _ _ => rfl⟩, ⟨HB5.out.os, HB5.out.tape, HB5.out.output, HB5.out.size, HB5.out.block⟩, fun _ => rfl, fun e => (by cases e), fun e => (by cases e), fun e => (by cases e)⟩
                    case os =>
                      refine ⟨?_, ?_, ?_, ?_, ?_, ?_, ?_, ?_, ?_, ?_, ?_, ?_, trivial⟩
                      · intro ρ X9 fl hg hn hl hp ho hc hf hr
                        have e4 : ρ (.tmp 4) = .slice ma M.length mc := hg.h4 (by cases h9 : fl 11 with | false => rfl | true => exact absurd (hl 11 _ 10 rfl rfl h9) (by rw [((by cases h9 : fl 10 with | false => rfl | true => exact absurd (hl 10 _ 0 rfl rfl h9) (by rw [(hn : fl 0 = false)]; decide)) : fl 10 = false)]; decide))
                        exact .inl ⟨rfl, Runs.val _ (op_move e4) ⟨fun r' h1 h2 => G10.same hg (h1 4 (by decide)) (h1 85 (by decide)) (h1 86 (by decide)), trivial, rfl⟩⟩
                      · exact fun ρ X9 fl hg hn hl hp ho hc hf hr => .inl ⟨rfl, Runs.val _ (op_move (show ρ (.tmp 7) = .slice (some ⟨g, o1, none⟩) 2 cap from ho 7 rfl)) ⟨fun r' h1 h2 => G10.same hg (h1 4 (by decide)) (h1 85 (by decide)) (h1 86 (by decide)), trivial, rfl⟩⟩
                      · exact fun ρ X9 fl hg hn hl hp ho hc hf hr => .inl ⟨rfl, Runs.val _ (op_i32 (show ρ (.tmp 77) = .slice (some ⟨g, o1, none⟩) 2 cap from hr 1 77 rfl rfl) (i := 0) (hc _) (by decide)) ⟨fun r' h1 h2 => G10.same hg (h1 4 (by decide)) (h1 85 (by decide)) (h1 86 (by decide)), trivial, rfl⟩⟩
                      · exact fun ρ X9 fl hg hn hl hp ho hc hf hr => .inl ⟨rfl, Runs.val _ (op_f23_1 (show ρ (.tmp 78) = .pointer (some ⟨g, o1 + 0 * 3, none⟩) from hr 2 78 rfl rfl)) ⟨fun r' h1 h2 => G10.same hg (h1 4 (by decide)) (h1 85 (by decide)) (h1 86 (by decide)), trivial, rfl⟩⟩
                      · intro ρ X9 fl hg hn hl hp ho hc hf hr
                        have hz : fl 10 = false := (by cases h9 : fl 10 with | false => rfl | true => exact absurd (hl 10 _ 9 rfl rfl h9) (by rw [((by cases h9 : fl 9 with | false => rfl | true => exact absurd (hl 9 _ 8 rfl rfl h9) (by rw [((by cases h9 : fl 8 with | false => rfl | true => exact absurd (hl 8 _ 4 rfl rfl h9) (by rw [(hn : fl 4 = false)]; decide)) : fl 8 = false)]; decide)) : fl 9 = false)]; decide))
                        exact .inl ⟨rfl, Runs.val _ (op_load2 (show ρ (.tmp 79) = .pointer (some ⟨g, o1 + 0 * 3 + 1, none⟩) from hr 3 79 rfl rfl) (cell_on (hg.hb hz) c1)) ⟨fun r' h1 h2 => G10.same hg (h1 4 (by decide)) (h1 85 (by decide)) (h1 86 (by decide)), trivial, rfl⟩⟩
                      · exact fun ρ X9 fl hg hn hl hp ho hc hf hr => .inl ⟨rfl, Runs.val _ (op_move (show ρ (.tmp 7) = .slice (some ⟨g, o1, none⟩) 2 cap from ho 7 rfl)) ⟨fun r' h1 h2 => G10.same hg (h1 4 (by decide)) (h1 85 (by decide)) (h1 86 (by decide)), trivial, rfl⟩⟩
                      · exact fun ρ X9 fl hg hn hl hp ho hc hf hr => .inl ⟨rfl, Runs.val _ (op_i32 (show ρ (.tmp 81) = .slice (some ⟨g, o1, none⟩) 2 cap from hr 5 81 rfl rfl) (i := 1) (hc _) (by decide)) ⟨fun r' h1 h2 => G10.same hg (h1 4 (by decide)) (h1 85 (by decide)) (h1 86 (by decide)), trivial, rfl⟩⟩
                      · intro ρ X9 fl hg hn hl hp ho hc hf hr
                        have hz : fl 10 = false := (by cases h9 : fl 10 with | false => rfl | true => exact absurd (hl 10 _ 9 rfl rfl h9) (by rw [((by cases h9 : fl 9 with | false => rfl | true => exact absurd (hl 9 _ 8 rfl rfl h9) (by rw [((by cases h9 : fl 8 with | false => rfl | true => exact absurd (hl 8 _ 7 rfl rfl h9) (by rw [(hn : fl 7 = false)]; decide)) : fl 8 = false)]; decide)) : fl 9 = false)]; decide))
                        exact .inl ⟨rfl, Runs.val _ (op_load23 (show ρ (.tmp 82) = .pointer (some ⟨g, o1 + 1 * 3, none⟩) from hr 6 82 rfl rfl) (cell_on (hg.hb hz) d0) (cell_on (hg.hb hz) d1) (cell_on (hg.hb hz) d2)) ⟨fun r' h1 h2 => G10.same hg (h1 4 (by decide)) (h1 85 (by decide)) (h1 86 (by decide)), trivial, rfl⟩⟩
                      · exact fun ρ X9 fl hg hn hl hp ho hc hf hr => .inl ⟨rfl, Runs.val _ (op_b89 (show ρ (.tmp 80) = .int .i64 a.n from hr 4 80 rfl rfl) (show ρ (.tmp 83) = vlV b from hr 7 83 rfl rfl)) ⟨fun r' h1 h2 => G10.same hg (h1 4 (by decide)) (h1 85 (by decide)) (h1 86 (by decide)), trivial, rfl⟩⟩
                      · intro ρ X9 fl hg hn hl hp ho hc hf hr
                        have hz : fl 10 = false := (by cases h9 : fl 10 with | false => rfl | true => exact absurd (hl 10 _ 9 rfl rfl h9) (by rw [(hn : fl 9 = false)]; decide))
                        exact .inl ⟨rfl, Runs.val _ (op_s40 (c := ⟨a.n, b⟩) (show ρ (.tmp 84) = .agg (ceA ⟨a.n, b⟩) from hr 8 84 rfl rfl)) ⟨fun r' h1 h2 => G10.new hg hz (h1 4 (by decide)) (h2 85 rfl) (h1 86 (by decide)), trivial, trivial⟩⟩
                      · intro ρ X9 fl hg hn hl hp ho hc hf hr
                        refine .inl ⟨rfl, ?_⟩
                        have hz : fl 11 = false := (by cases h9 : fl 11 with | false => rfl | true => exact absurd (hl 11 _ 10 rfl rfl h9) (by rw [(hn : fl 10 = false)]; decide))
                        have hg1 : G10 w w5 (.slice ma M.length mc) M ⟨a.n, b⟩ (fl 9) (fl 10) (fl 11) ((fun t => ρ (.tmp t)) 4) ((fun t => ρ (.tmp t)) 85) ((fun t => ρ (.tmp t)) 86) X9 := hg
                        rw [hp 9 rfl, hn, hz] at hg1
                        obtain ⟨F, e1, v', X', hrun, hnext⟩ := hg1.app HOW5.out HI9.out.2.2
                        exact Runs.val _ (op_append40 (show ρ (.tmp 76) = .slice ma M.length mc from hr 0 76 rfl rfl) e1 hrun) ⟨fun r' h1 h2 => by
                          show G10 w w5 (.slice ma M.length mc) M ⟨a.n, b⟩ ((upd fl 10) 9) ((upd fl 10) 10) ((upd fl 10) 11) (r' 4) (r' 85) (r' 86) X'
                          have e9 : upd fl 10 9 = true := hp 9 rfl
                          have e11 : upd fl 10 11 = false := hz
                          rw [e9, e11]
                          exact hnext _ _ _ (h1 4 (by decide)) (h2 86 rfl), trivial, trivial⟩
                      · intro ρ X9 fl hg hn hl hp ho hc hf hr
                        refine .inl ⟨rfl, ?_⟩
                        have hg1 : G10 w w5 (.slice ma M.length mc) M ⟨a.n, b⟩ (fl 9) (fl 10) (fl 11) ((fun t => ρ (.tmp t)) 4) ((fun t => ρ (.tmp t)) 85) ((fun t => ρ (.tmp t)) 86) X9 := hg
                        rw [hp 10 rfl] at hg1
                        exact Runs.val _ (op_assign rfl) ⟨fun r' h1 h2 => by
                          show G10 w w5 (.slice ma M.length mc) M ⟨a.n, b⟩ ((upd fl 11) 9) ((upd fl 11) 10) ((upd fl 11) 11) (r' 4) (r' 85) (r' 86) X9
                          have e10 : upd fl 11 10 = true := hp 10 rfl
                          rw [e10]
                          exact hg1.fin (h2 4 rfl) (h1 86 (by decide)), trivial, trivial⟩
                    case en =>
                      intro a9 w6 fl hfl hg6 hs9 hd9 ho9 hr9
                      obtain ⟨x9, hx, hxt⟩ := act_put hs9 hd9 ho9
                      have hG : G10 w w5 (.slice ma M.length mc) M ⟨a.n, b⟩ (fl 9) (fl 10) (fl 11) ((fun t => a9.tmps.getD t undef) 4) ((fun t => a9.tmps.getD t undef) 85) ((fun t => a9.tmps.getD t undef) 86) w6 := hg6
                      simp only [hxt] at hG
                      rw [hfl 9 (by decide), hfl 10 (by decide), hfl 11 (by decide)] at hG
                      have hown6 := hG.h86 rfl
                      have e4 := hG.e4 rfl
                      obtain ⟨xa, xc, e86⟩ := own_shape hown6
                      rw [e86] at hown6 e4
                      have HO6 := Lib.hid hown6
                      have HB6 := Lib.hid hG.hw
                      change a9 = putAll _ x9 [76, 77, 78, 79, 80, 81, 82, 83, 84, 85, 86, 4] at hx
                      simp only [putAll, Act.put, List.setIfInBounds_toArray, List.set_cons_zero, List.set_cons_succ, e4, e86] at hx
                      subst hx
                      clear hs9 hd9 ho9 hr9 hfl hg6 hG e4 e86 hown6 hxt
                      generalize x9 76 = z76, x9 77 = z77, x9 78 = z78, x9 79 = z79, x9 80 = z80, x9 81 = z81, x9 82 = z82, x9 83 = z83, x9 84 = z84, x9 85 = z85
                      go_wp2
                      go_roundw
                      case rel => exact ⟨i + (1 + N), M ++ [⟨a.n, b⟩], by push_cast; rfl, HI9.out.1, own_ce HO6.out, HB6.out, by simpa using HI9.out.2.1, ⟨HN.out, by rw [lastF_snoc]; show (0 : Int) ≤ a.n; have := HNP.out; omega⟩⟩
                      case measure => simp [intOf]; omega
                · obtain ⟨m, hML⟩ : ∃ m, M.length = m + 1 := ⟨M.length - 1, by omega⟩
                  have hM0 : (0 : Int) < (M.length : Int) := by omega
                  have hml : m < M.length := by omega
                  have hm9 : (M.length : Int) - 1 = (m : Int) := by omega
                  have hm5 : (m : Int) ≤ 1000000 := by have := HI9.out.2.2; omega
                  obtain ⟨_, _, _, hcc⟩ := (Lr.own (f := ceL) ceL_len HOW4.out).at4
                  obtain ⟨mb, mo, rfl, _, f0, _⟩ := hcc m hml
                  have hlp := lastF_getLast hML hml
                  obtain ⟨p, hp⟩ : ∃ p, M[m]'hml = p := ⟨_, rfl⟩
                  rw [hp] at f0 hlp
                  clear hML hcc hp hMp
                  by_cases hp9 : a.n ≤ p.id
                  · have HN : Hid (getP 0 L = none) := Lib.hid (HGO.out _ HCE.out (by first | (show ¬ lastF 0 M < a.n; rw [hlp]; omega) | (show a.n ≤ lastF 0 M; rw [hlp]; exact hp9)))
                    clear hlp
                    go_upto_region 8 with fail
                    refine wp_region_fb (fun _ X9 => Below w4.heap.size w4 X9) (fun X9 X8 => Below X9.heap.size X9 X8) [
                      fun v9 _ => v9 = .int .i64 0,
                      fun v9 _ => v9 = .bool false,
                      fun v9 _ => v9 = .bool false,
                      fun v9 _ => v9 = .slice (some ⟨g, o1, none⟩) 2 cap,
                      fun v9 _ => v9 = .int .i64 ((2 : Nat) : Int),
                      fun v9 _ => v9 = .bool false,
                      fun v9 _ => v9 = .bool false,
                      fun v9 _ => v9 = .bool false,
                      fun v9 _ => v9 = .slice (some ⟨g, o1, none⟩) 2 cap,
                      fun v9 _ => v9 = .pointer (some ⟨g, o1 + 0 * 3, none⟩),
                      fun v9 _ => v9 = .pointer (some ⟨g, o1 + 0 * 3, none⟩),
                      fun v9 _ => v9 = .int .i64 a.k,
                      fun v9 _ => v9 = .bool false,
                      fun v9 _ => v9 = .bool false,
                      fun v9 _ => v9 = .bool false,
                      fun v9 _ => v9 = .slice (some ⟨g, o1, none⟩) 2 cap,
                      fun v9 _ => v9 = .pointer (some ⟨g, o1 + 0 * 3, none⟩),
                      fun v9 _ => v9 = .pointer (some ⟨g, o1 + 0 * 3 + 1, none⟩),
                      fun v9 _ => v9 = .int .i64 a.n,
                      fun v9 _ => v9 = .bool false,
                      fun v9 _ => v9 = .bool false,
                      fun v9 _ => v9 = .bool false,
                      fun v9 _ => v9 = .slice (some ⟨mb, mo, none⟩) M.length mc,
                      fun v9 _ => v9 = .int .i64 (M.length : Int),
                      fun v9 _ => v9 = .bool true,
                      fun v9 _ => v9 = .bool true,
                      fun v9 _ => v9 = .slice (some ⟨g, o1, none⟩) 2 cap,
                      fun v9 _ => v9 = .pointer (some ⟨g, o1 + 0 * 3, none⟩),
                      fun v9 _ => v9 = .pointer (some ⟨g, o1 + 0 * 3 + 1, none⟩),
                      fun v9 _ => v9 = .int .i64 a.n,
                      fun v9 _ => v9 = .slice (some ⟨mb, mo, none⟩) M.length mc,
                      fun v9 _ => v9 = .slice (some ⟨mb, mo, none⟩) M.length mc,
                      fun v9 _ => v9 = .int .i64 (M.length : Int),
                      fun v9 _ => v9 = .int .i64 (m : Int),
                      fun v9 _ => v9 = .pointer (some ⟨mb, mo + m * 4, none⟩),
                      fun v9 _ => v9 = .pointer (some ⟨mb, mo + m * 4, none⟩),
                      fun v9 _ => v9 = .int .i64 p.id,
                      fun v9 _ => v9 = .bool true,
                      fun v9 _ => v9 = .bool true,
                      fun v9 _ => v9 = .bool true]
                      (by kernel_rfl) (by kernel_rfl) (by kernel_rfl) ?st ?g0 ?os ?en
                    case st => exact ⟨fun _ _ _ _ h => h, fun _ _ _ _ h => h, fun _ _ _ _ h => h, fun _ _ _ _ h => h, fun _ _ _ _ h => h, fun _ _ _ _ h => h, fun _ _ _ _ h => h, fun _ _ _ _ h => h, fun _ _ _ _ h => h, fun _ _ _ _ h => h, fun _ _ _ _ h => h, fun _ _ _ _ h => h, fun _ _ _ _ h => h, fun _ _ _ _ h => h, fun _ _ _ _ h => h, fun _ _ _ _ h => h, fun _ _ _ _ h => h, fun _ _ _ _ h => h, fun _ _ _ _ h => h, fun _ _ _ _ h => h, fun _ _ _ _ h => h, fun _ _ _ _ h => h, fun _ _ _ _ h => h, fun _ _ _ _ h => h, fun _ _ _ _ h => h, fun _ _ _ _ h => h, fun _ _ _ _ h => h, fun _ _ _ _ h => h, fun _ _ _ _ h => h, fun _ _ _ _ h => h, fun _ _ _ _ h => h, fun _ _ _ _ h => h, fun _ _ _ _ h => h, fun _ _ _ _ h => h, fun _ _ _ _ h => h, fun _ _ _ _ h => h, fun _ _ _ _ h => h, fun _ _ _ _ h => h, fun _ _ _ _ h => h, fun _ _ _ _ h => h, trivial⟩
                    case g0 => exact ⟨rfl, rfl, rfl, Nat.le_refl _, fun _ _ => rfl⟩
                    case os =>
                      refine ⟨?_, ?_, ?_, ?_, ?_, ?_, ?_, ?_, ?_, ?_, ?_, ?_, ?_, ?_, ?_, ?_, ?_, ?_, ?_, ?_, ?_, ?_, ?_, ?_, ?_, ?_, ?_, ?_, ?_, ?_, ?_, ?_, ?_, ?_, ?_, ?_, ?_, ?_, ?_, ?_, trivial⟩
                      · exact fun ρ X9 fl hg hn hl hp ho hc hf hr => .inl ⟨rfl, Runs.val _ (op_move (show ρ (.tmp 8) = .int .i64 0 from ho 8 rfl)) ⟨hg, Below.refl _ _, rfl⟩⟩
                      · exact fun ρ X9 fl hg hn hl hp ho hc hf hr => .inl ⟨rfl, Runs.val _ (op_neq3 (show ρ (.tmp 36) = .int .i64 0 from hr 0 36 rfl rfl) (hc _) (b := false) (by decide)) ⟨hg, Below.refl _ _, rfl⟩⟩
                      · exact fun ρ X9 fl hg hn hl hp ho hc hf hr => .inl ⟨rfl, Runs.val _ (op_move (show ρ (.tmp 37) = .bool false from hr 1 37 rfl rfl)) ⟨hg, Below.refl _ _, rfl⟩⟩
                      · exact fun ρ X9 fl hg hn hl hp ho hc hf hr => .inr (.inl ⟨2, 38, false, fun _ => rfl, rfl, hr 2 38 rfl rfl, Runs.val _ (op_move (show ρ (.tmp 7) = .slice (some ⟨g, o1, none⟩) 2 cap from ho 7 rfl)) ⟨hg, Below.refl _ _, rfl⟩⟩)
                      · exact fun ρ X9 fl hg hn hl hp ho hc hf hr => .inr (.inl ⟨2, 38, false, fun _ => rfl, rfl, hr 2 38 rfl rfl, Runs.val _ (op_len32 (show ρ (.tmp 39) = .slice (some ⟨g, o1, none⟩) 2 cap from hr 3 39 rfl rfl)) ⟨hg, Below.refl _ _, rfl⟩⟩)
                      · exact fun ρ X9 fl hg hn hl hp ho hc hf hr => .inr (.inl ⟨2, 38, false, fun _ => rfl, rfl, hr 2 38 rfl rfl, Runs.val _ (op_neq3 (show ρ (.tmp 40) = .int .i64 ((2 : Nat) : Int) from hr 4 40 rfl rfl) (hc _) (b := false) (by simp)) ⟨hg, Below.refl _ _, rfl⟩⟩)
                      · exact fun ρ X9 fl hg hn hl hp ho hc hf hr => .inl ⟨rfl, Runs.val _ (op_pick (show ρ (.tmp 38) = .bool false from hr 2 38 rfl rfl) (show ρ (.tmp 41) = .bool false from hr 5 41 rfl rfl)) ⟨hg, Below.refl _ _, rfl⟩⟩
                      · exact fun ρ X9 fl hg hn hl hp ho hc hf hr => .inl ⟨rfl, Runs.val _ (op_move (show ρ (.tmp 42) = .bool false from hr 6 42 rfl rfl)) ⟨hg, Below.refl _ _, rfl⟩⟩
                      · exact fun ρ X9 fl hg hn hl hp ho hc hf hr => .inr (.inl ⟨7, 43, false, fun _ => rfl, rfl, hr 7 43 rfl rfl, Runs.val _ (op_move (show ρ (.tmp 7) = .slice (some ⟨g, o1, none⟩) 2 cap from ho 7 rfl)) ⟨hg, Below.refl _ _, rfl⟩⟩)
                      · exact fun ρ X9 fl hg hn hl hp ho hc hf hr => .inr (.inl ⟨7, 43, false, fun _ => rfl, rfl, hr 7 43 rfl rfl, Runs.val _ (op_i32 (show ρ (.tmp 44) = .slice (some ⟨g, o1, none⟩) 2 cap from hr 8 44 rfl rfl) (i := 0) (hc _) (by decide)) ⟨hg, Below.refl _ _, rfl⟩⟩)
                      · exact fun ρ X9 fl hg hn hl hp ho hc hf hr => .inr (.inl ⟨7, 43, false, fun _ => rfl, rfl, hr 7 43 rfl rfl, Runs.val _ (op_f23_0 (show ρ (.tmp 45) = .pointer (some ⟨g, o1 + 0 * 3, none⟩) from hr 9 45 rfl rfl)) ⟨hg, Below.refl _ _, rfl⟩⟩)
                      · exact fun ρ X9 fl hg hn hl hp ho hc hf hr => .inr (.inl ⟨7, 43, false, fun _ => rfl, rfl, hr 7 43 rfl rfl, Runs.val _ (op_load3 (show ρ (.tmp 46) = .pointer (some ⟨g, o1 + 0 * 3, none⟩) from hr 10 46 rfl rfl) (cell_on hg c0)) ⟨hg, Below.refl _ _, rfl⟩⟩)
                      · exact fun ρ X9 fl hg hn hl hp ho hc hf hr => .inr (.inl ⟨7, 43, false, fun _ => rfl, rfl, hr 7 43 rfl rfl, Runs.val _ (op_neq3 (show ρ (.tmp 47) = .int .i64 a.k from hr 11 47 rfl rfl) (hc _) (b := false) (by rw [hk9]; decide)) ⟨hg, Below.refl _ _, rfl⟩⟩)
                      · exact fun ρ X9 fl hg hn hl hp ho hc hf hr => .inl ⟨rfl, Runs.val _ (op_pick (show ρ (.tmp 43) = .bool false from hr 7 43 rfl rfl) (show ρ (.tmp 48) = .bool false from hr 12 48 rfl rfl)) ⟨hg, Below.refl _ _, rfl⟩⟩
                      · exact fun ρ X9 fl hg hn hl hp ho hc hf hr => .inl ⟨rfl, Runs.val _ (op_move (show ρ (.tmp 49) = .bool false from hr 13 49 rfl rfl)) ⟨hg, Below.refl _ _, rfl⟩⟩
                      · exact fun ρ X9 fl hg hn hl hp ho hc hf hr => .inr (.inl ⟨14, 50, false, fun _ => rfl, rfl, hr 14 50 rfl rfl, Runs.val _ (op_move (show ρ (.tmp 7) = .slice (some ⟨g, o1, none⟩) 2 cap from ho 7 rfl)) ⟨hg, Below.refl _ _, rfl⟩⟩)
                      · exact fun ρ X9 fl hg hn hl hp ho hc hf hr => .inr (.inl ⟨14, 50, false, fun _ => rfl, rfl, hr 14 50 rfl rfl, Runs.val _ (op_i32 (show ρ (.tmp 51) = .slice (some ⟨g, o1, none⟩) 2 cap from hr 15 51 rfl rfl) (i := 0) (hc _) (by decide)) ⟨hg, Below.refl _ _, rfl⟩⟩)
                      · exact fun ρ X9 fl hg hn hl hp ho hc hf hr => .inr (.inl ⟨14, 50, false, fun _ => rfl, rfl, hr 14 50 rfl rfl, Runs.val _ (op_f23_1 (show ρ (.tmp 52) = .pointer (some ⟨g, o1 + 0 * 3, none⟩) from hr 16 52 rfl rfl)) ⟨hg, Below.refl _ _, rfl⟩⟩)
                      · exact fun ρ X9 fl hg hn hl hp ho hc hf hr => .inr (.inl ⟨14, 50, false, fun _ => rfl, rfl, hr 14 50 rfl rfl, Runs.val _ (op_load2 (show ρ (.tmp 53) = .pointer (some ⟨g, o1 + 0 * 3 + 1, none⟩) from hr 17 53 rfl rfl) (cell_on hg c1)) ⟨hg, Below.refl _ _, rfl⟩⟩)
                      · exact fun ρ X9 fl hg hn hl hp ho hc hf hr => .inr (.inl ⟨14, 50, false, fun _ => rfl, rfl, hr 14 50 rfl rfl, Runs.val _ (op_lss2 (show ρ (.tmp 54) = .int .i64 a.n from hr 18 54 rfl rfl) (hc _) (b := false) (decide_eq_false hn9)) ⟨hg, Below.refl _ _, rfl⟩⟩)
                      · exact fun ρ X9 fl hg hn hl hp ho hc hf hr => .inl ⟨rfl, Runs.val _ (op_pick (show ρ (.tmp 50) = .bool false from hr 14 50 rfl rfl) (show ρ (.tmp 55) = .bool false from hr 19 55 rfl rfl)) ⟨hg, Below.refl _ _, rfl⟩⟩
                      · exact fun ρ X9 fl hg hn hl hp ho hc hf hr => .inl ⟨rfl, Runs.val _ (op_move (show ρ (.tmp 56) = .bool false from hr 20 56 rfl rfl)) ⟨hg, Below.refl _ _, rfl⟩⟩
                      · exact fun ρ X9 fl hg hn hl hp ho hc hf hr => .inr (.inl ⟨21, 57, false, fun _ => rfl, rfl, hr 21 57 rfl rfl, Runs.val _ (op_move (show ρ (.tmp 4) = .slice (some ⟨mb, mo, none⟩) M.length mc from ho 4 rfl)) ⟨hg, Below.refl _ _, rfl⟩⟩)
                      · exact fun ρ X9 fl hg hn hl hp ho hc hf hr => .inr (.inl ⟨21, 57, false, fun _ => rfl, rfl, hr 21 57 rfl rfl, Runs.val _ (op_len40 (show ρ (.tmp 58) = .slice (some ⟨mb, mo, none⟩) M.length mc from hr 22 58 rfl rfl)) ⟨hg, Below.refl _ _, rfl⟩⟩)
                      · exact fun ρ X9 fl hg hn hl hp ho hc hf hr => .inr (.inl ⟨21, 57, false, fun _ => rfl, rfl, hr 21 57 rfl rfl, Runs.val _ (op_gtr3 (show ρ (.tmp 59) = .int .i64 (M.length : Int) from hr 23 59 rfl rfl) (hc _) (b := true) (decide_eq_true hM0)) ⟨hg, Below.refl _ _, rfl⟩⟩)
                      · exact fun ρ X9 fl hg hn hl hp ho hc hf hr => .inr (.inl ⟨21, 57, false, fun _ => rfl, rfl, hr 21 57 rfl rfl, Runs.val _ (op_move (show ρ (.tmp 60) = .bool true from hr 24 60 rfl rfl)) ⟨hg, Below.refl _ _, rfl⟩⟩)
                      · exact fun ρ X9 fl hg hn hl hp ho hc hf hr => .inr (.inl ⟨25, 61, true, fun _ => rfl, rfl, hr 25 61 rfl rfl, Runs.val _ (op_move (show ρ (.tmp 7) = .slice (some ⟨g, o1, none⟩) 2 cap from ho 7 rfl)) ⟨hg, Below.refl _ _, rfl⟩⟩)
                      · exact fun ρ X9 fl hg hn hl hp ho hc hf hr => .inr (.inl ⟨25, 61, true, fun _ => rfl, rfl, hr 25 61 rfl rfl, Runs.val _ (op_i32 (show ρ (.tmp 62) = .slice (some ⟨g, o1, none⟩) 2 cap from hr 26 62 rfl rfl) (i := 0) (hc _) (by decide)) ⟨hg, Below.refl _ _, rfl⟩⟩)
                      · exact fun ρ X9 fl hg hn hl hp ho hc hf hr => .inr (.inl ⟨25, 61, true, fun _ => rfl, rfl, hr 25 61 rfl rfl, Runs.val _ (op_f23_1 (show ρ (.tmp 63) = .pointer (some ⟨g, o1 + 0 * 3, none⟩) from hr 27 63 rfl rfl)) ⟨hg, Below.refl _ _, rfl⟩⟩)
                      · exact fun ρ X9 fl hg hn hl hp ho hc hf hr => .inr (.inl ⟨25, 61, true, fun _ => rfl, rfl, hr 25 61 rfl rfl, Runs.val _ (op_load2 (show ρ (.tmp 64) = .pointer (some ⟨g, o1 + 0 * 3 + 1, none⟩) from hr 28 64 rfl rfl) (cell_on hg c1)) ⟨hg, Below.refl _ _, rfl⟩⟩)
                      · exact fun ρ X9 fl hg hn hl hp ho hc hf hr => .inr (.inl ⟨25, 61, true, fun _ => rfl, rfl, hr 25 61 rfl rfl, Runs.val _ (op_move (show ρ (.tmp 4) = .slice (some ⟨mb, mo, none⟩) M.length mc from ho 4 rfl)) ⟨hg, Below.refl _ _, rfl⟩⟩)
                      · exact fun ρ X9 fl hg hn hl hp ho hc hf hr => .inr (.inl ⟨25, 61, true, fun _ => rfl, rfl, hr 25 61 rfl rfl, Runs.val _ (op_move (show ρ (.tmp 4) = .slice (some ⟨mb, mo, none⟩) M.length mc from ho 4 rfl)) ⟨hg, Below.refl _ _, rfl⟩⟩)
                      · exact fun ρ X9 fl hg hn hl hp ho hc hf hr => .inr (.inl ⟨25, 61, true, fun _ => rfl, rfl, hr 25 61 rfl rfl, Runs.val _ (op_len40 (show ρ (.tmp 67) = .slice (some ⟨mb, mo, none⟩) M.length mc from hr 31 67 rfl rfl)) ⟨hg, Below.refl _ _, rfl⟩⟩)
                      · exact fun ρ X9 fl hg hn hl hp ho hc hf hr => .inr (.inl ⟨25, 61, true, fun _ => rfl, rfl, hr 25 61 rfl rfl, Runs.val _ (op_sub3 (show ρ (.tmp 68) = .int .i64 (M.length : Int) from hr 32 68 rfl rfl) (hc _) (r := (m : Int)) hm9 (by omega) (by omega)) ⟨hg, Below.refl _ _, rfl⟩⟩)
                      · exact fun ρ X9 fl hg hn hl hp ho hc hf hr => .inr (.inl ⟨25, 61, true, fun _ => rfl, rfl, hr 25 61 rfl rfl, Runs.val _ (op_i40 (show ρ (.tmp 66) = .slice (some ⟨mb, mo, none⟩) M.length mc from hr 30 66 rfl rfl) (show ρ (.tmp 69) = .int .i64 (m : Int) from hr 33 69 rfl rfl) hml) ⟨hg, Below.refl _ _, rfl⟩⟩)
                      · exact fun ρ X9 fl hg hn hl hp ho hc hf hr => .inr (.inl ⟨25, 61, true, fun _ => rfl, rfl, hr 25 61 rfl rfl, Runs.val _ (op_f89_0 (show ρ (.tmp 70) = .pointer (some ⟨mb, mo + m * 4, none⟩) from hr 34 70 rfl rfl)) ⟨hg, Below.refl _ _, rfl⟩⟩)
                      · exact fun ρ X9 fl hg hn hl hp ho hc hf hr => .inr (.inl ⟨25, 61, true, fun _ => rfl, rfl, hr 25 61 rfl rfl, Runs.val _ (op_load3 (show ρ (.tmp 71) = .pointer (some ⟨mb, mo + m * 4, none⟩) from hr 35 71 rfl rfl) (cell_on hg f0)) ⟨hg, Below.refl _ _, rfl⟩⟩)
                      · exact fun ρ X9 fl hg hn hl hp ho hc hf hr => .inr (.inl ⟨25, 61, true, fun _ => rfl, rfl, hr 25 61 rfl rfl, Runs.val _ (op_leq3 (show ρ (.tmp 65) = .int .i64 a.n from hr 29 65 rfl rfl) (show ρ (.tmp 72) = .int .i64 p.id from hr 36 72 rfl rfl) (b := true) (decide_eq_true hp9)) ⟨hg, Below.refl _ _, rfl⟩⟩)
                      · exact fun ρ X9 fl hg hn hl hp ho hc hf hr => .inr (.inl ⟨21, 57, false, fun _ => rfl, rfl, hr 21 57 rfl rfl, Runs.val _ (op_pick (show ρ (.tmp 61) = .bool true from hr 25 61 rfl rfl) (show ρ (.tmp 73) = .bool true from hr 37 73 rfl rfl)) ⟨hg, Below.refl _ _, rfl⟩⟩)
                      · exact fun ρ X9 fl hg hn hl hp ho hc hf hr => .inl ⟨rfl, Runs.val _ (op_pick (show ρ (.tmp 57) = .bool false from hr 21 57 rfl rfl) (show ρ (.tmp 74) = .bool true from hr 38 74 rfl rfl)) ⟨hg, Below.refl _ _, rfl⟩⟩
                    case en =>
                      intro a9 w5 fl hfl b5 hs9 hd9 ho9 hr9
                      obtain ⟨x9, hx, hxt⟩ := act_put hs9 hd9 ho9
                      have x75 : x9 75 = .bool true := (hxt 75).symm.trans (hr9 39 75 rfl)
                      change a9 = putAll _ x9 [36, 37, 38, 39, 40, 41, 42, 43, 44, 45, 46, 47, 48, 49, 50, 51, 52, 53, 54, 55, 56, 57, 58, 59, 60, 61, 62, 63, 64, 65, 66, 67, 68, 69, 70, 71, 72, 73, 74, 75] at hx
                      simp only [putAll, Act.put, List.setIfInBounds_toArray, List.set_cons_zero, List.set_cons_succ, x75] at hx
                      subst hx
                      clear hs9 hd9 ho9 hr9 hfl x75
                      generalize x9 36 = z36, x9 37 = z37, x9 38 = z38, x9 39 = z39, x9 40 = z40, x9 41 = z41, x9 42 = z42, x9 43 = z43, x9 44 = z44, x9 45 = z45, x9 46 = z46, x9 47 = z47, x9 48 = z48, x9 49 = z49, x9 50 = z50, x9 51 = z51, x9 52 = z52, x9 53 = z53, x9 54 = z54, x9 55 = z55, x9 56 = z56, x9 57 = z57, x9 58 = z58, x9 59 = z59, x9 60 = z60, x9 61 = z61, x9 62 = z62, x9 63 = z63, x9 64 = z64, x9 65 = z65, x9 66 = z66, x9 67 = z67, x9 68 = z68, x9 69 = z69, x9 70 = z70, x9 71 = z71, x9 72 = z72, x9 73 = z73, x9 74 = z74
                      have HB5 := Lib.hid (bgo HB4.out b5)
                      clear b5
                      go_wp2
                      go_ret2
                      exact get_no HN.out HB5.out
                  · have HN := Lib.hid (HGS.out _ HCE.out (by show lastF 0 M < a.n; rw [hlp]; omega))
                    clear hlp
                    go_upto_region 8 with fail
                    refine wp_region_fb (fun _ X9 => Below w4.heap.size w4 X9) (fun X9 X8 => Below X9.heap.size X9 X8) [
                      fun v9 _ => v9 = .int .i64 0,
                      fun v9 _ => v9 = .bool false,
                      fun v9 _ => v9 = .bool false,
                      fun v9 _ => v9 = .slice (some ⟨g, o1, none⟩) 2 cap,
                      fun v9 _ => v9 = .int .i64 ((2 : Nat) : Int),
                      fun v9 _ => v9 = .bool false,
                      fun v9 _ => v9 = .bool false,
                      fun v9 _ => v9 = .bool false,
                      fun v9 _ => v9 = .slice (some ⟨g, o1, none⟩) 2 cap,
                      fun v9 _ => v9 = .pointer (some ⟨g, o1 + 0 * 3, none⟩),
                      fun v9 _ => v9 = .pointer (some ⟨g, o1 + 0 * 3, none⟩),
                      fun v9 _ => v9 = .int .i64 a.k,
                      fun v9 _ => v9 = .bool false,
                      fun v9 _ => v9 = .bool false,
                      fun v9 _ => v9 = .bool false,
                      fun v9 _ => v9 = .slice (some ⟨g, o1, none⟩) 2 cap,
                      fun v9 _ => v9 = .pointer (some ⟨g, o1 + 0 * 3, none⟩),
                      fun v9 _ => v9 = .pointer (some ⟨g, o1 + 0 * 3 + 1, none⟩),
                      fun v9 _ => v9 = .int .i64 a.n,
                      fun v9 _ => v9 = .bool false,
                      fun v9 _ => v9 = .bool false,
                      fun v9 _ => v9 = .bool false,
                      fun v9 _ => v9 = .slice (some ⟨mb, mo, none⟩) M.length mc,
                      fun v9 _ => v9 = .int .i64 (M.length : Int),
                      fun v9 _ => v9 = .bool true,
                      fun v9 _ => v9 = .bool true,
                      fun v9 _ => v9 = .slice (some ⟨g, o1, none⟩) 2 cap,
                      fun v9 _ => v9 = .pointer (some ⟨g, o1 + 0 * 3, none⟩),
                      fun v9 _ => v9 = .pointer (some ⟨g, o1 + 0 * 3 + 1, none⟩),
                      fun v9 _ => v9 = .int .i64 a.n,
                      fun v9 _ => v9 = .slice (some ⟨mb, mo, none⟩) M.length mc,
                      fun v9 _ => v9 = .slice (some ⟨mb, mo, none⟩) M.length mc,
                      fun v9 _ => v9 = .int .i64 (M.length : Int),
                      fun v9 _ => v9 = .int .i64 (m : Int),
                      fun v9 _ => v9 = .pointer (some ⟨mb, mo + m * 4, none⟩),
                      fun v9 _ => v9 = .pointer (some ⟨mb, mo + m * 4, none⟩),
                      fun v9 _ => v9 = .int .i64 p.id,
                      fun v9 _ => v9 = .bool false,
                      fun v9 _ => v9 = .bool false,
                      fun v9 _ => v9 = .bool false]
                      (by kernel_rfl) (by kernel_rfl) (by kernel_rfl) ?st ?g0 ?os ?en
                    case st => exact ⟨fun _ _ _ _ h => h, fun _ _ _ _ h => h, fun _ _ _ _ h => h, fun _ _ _ _ h => h, fun _ _ _ _ h => h, fun _ _ _ _ h => h, fun _ _ _ _ h => h, fun _ _ _ _ h => h, fun _ _ _ _ h => h, fun _ _ _ _ h => h, fun _ _ _ _ h => h, fun _ _ _ _ h => h, fun _ _ _ _ h => h, fun _ _ _ _ h => h, fun _ _ _ _ h => h, fun _ _ _ _ h => h, fun _ _ _ _ h => h, fun _ _ _ _ h => h, fun _ _ _ _ h => h, fun _ _ _ _ h => h, fun _ _ _ _ h => h, fun _ _ _ _ h => h, fun _ _ _ _ h => h, fun _ _ _ _ h => h, fun _ _ _ _ h => h, fun _ _ _ _ h => h, fun _ _ _ _ h => h, fun _ _ _ _ h => h, fun _ _ _ _ h => h, fun _ _ _ _ h => h, fun _ _ _ _ h => h, fun _ _ _ _ h => h, fun _ _ _ _ h => h, fun _ _ _ _ h => h, fun _ _ _ _ h => h, fun _ _ _ _ h => h, fun _ _ _ _ h => h, fun _ _ _ _ h => h, fun _ _ _ _ h => h, fun _ _ _ _ h => h, trivial⟩
                    case g0 => exact ⟨rfl, rfl, rfl, Nat.le_refl _, fun _ _ => rfl⟩
                    case os =>
                      refine ⟨?_, ?_, ?_, ?_, ?_, ?_, ?_, ?_, ?_, ?_, ?_, ?_, ?_, ?_, ?_, ?_, ?_, ?_, ?_, ?_, ?_, ?_, ?_, ?_, ?_, ?_, ?_, ?_, ?_, ?_, ?_, ?_, ?_, ?_, ?_, ?_, ?_, ?_, ?_, ?_, trivial⟩
                      · exact fun ρ X9 fl hg hn hl hp ho hc hf hr => .inl ⟨rfl, Runs.val _ (op_move (show ρ (.tmp 8) = .int .i64 0 from ho 8 rfl)) ⟨hg, Below.refl _ _, rfl⟩⟩
                      · exact fun ρ X9 fl hg hn hl hp ho hc hf hr => .inl ⟨rfl, Runs.val _ (op_neq3 (show ρ (.tmp 36) = .int .i64 0 from hr 0 36 rfl rfl) (hc _) (b := false) (by decide)) ⟨hg, Below.refl _ _, rfl⟩⟩
                      · exact fun ρ X9 fl hg hn hl hp ho hc hf hr => .inl ⟨rfl, Runs.val _ (op_move (show ρ (.tmp 37) = .bool false from hr 1 37 rfl rfl)) ⟨hg, Below.refl _ _, rfl⟩⟩
                      · exact fun ρ X9 fl hg hn hl hp ho hc hf hr => .inr (.inl ⟨2, 38, false, fun _ => rfl, rfl, hr 2 38 rfl rfl, Runs.val _ (op_move (show ρ (.tmp 7) = .slice (some ⟨g, o1, none⟩) 2 cap from ho 7 rfl)) ⟨hg, Below.refl _ _, rfl⟩⟩)
                      · exact fun ρ X9 fl hg hn hl hp ho hc hf hr => .inr (.inl ⟨2, 38, false, fun _ => rfl, rfl, hr 2 38 rfl rfl, Runs.val _ (op_len32 (show ρ (.tmp 39) = .slice (some ⟨g, o1, none⟩) 2 cap from hr 3 39 rfl rfl)) ⟨hg, Below.refl _ _, rfl⟩⟩)
                      · exact fun ρ X9 fl hg hn hl hp ho hc hf hr => .inr (.inl ⟨2, 38, false, fun _ => rfl, rfl, hr 2 38 rfl rfl, Runs.val _ (op_neq3 (show ρ (.tmp 40) = .int .i64 ((2 : Nat) : Int) from hr 4 40 rfl rfl) (hc _) (b := false) (by simp)) ⟨hg, Below.refl _ _, rfl⟩⟩)
                      · exact fun ρ X9 fl hg hn hl hp ho hc hf hr => .inl ⟨rfl, Runs.val _ (op_pick (show ρ (.tmp 38) = .bool false from hr 2 38 rfl rfl) (show ρ (.tmp 41) = .bool false from hr 5 41 rfl rfl)) ⟨hg, Below.refl _ _, rfl⟩⟩
                      · exact fun ρ X9 fl hg hn hl hp ho hc hf hr => .inl ⟨rfl, Runs.val _ (op_move (show ρ (.tmp 42) = .bool false from hr 6 42 rfl rfl)) ⟨hg, Below.refl _ _, rfl⟩⟩
                      · exact fun ρ X9 fl hg hn hl hp ho hc hf hr => .inr (.inl ⟨7, 43, false, fun _ => rfl, rfl, hr 7 43 rfl rfl, Runs.val _ (op_move (show ρ (.tmp 7) = .slice (some ⟨g, o1, none⟩) 2 cap from ho 7 rfl)) ⟨hg, Below.refl _ _, rfl⟩⟩)
                      · exact fun ρ X9 fl hg hn hl hp ho hc hf hr => .inr (.inl ⟨7, 43, false, fun _ => rfl, rfl, hr 7 43 rfl rfl, Runs.val _ (op_i32 (show ρ (.tmp 44) = .slice (some ⟨g, o1, none⟩) 2 cap from hr 8 44 rfl rfl) (i := 0) (hc _) (by decide)) ⟨hg, Below.refl _ _, rfl⟩⟩)
                      · exact fun ρ X9 fl hg hn hl hp ho hc hf hr => .inr (.inl ⟨7, 43, false, fun _ => rfl, rfl, hr 7 43 rfl rfl, Runs.val _ (op_f23_0 (show ρ (.tmp 45) = .pointer (some ⟨g, o1 + 0 * 3, none⟩) from hr 9 45 rfl rfl)) ⟨hg, Below.refl _ _, rfl⟩⟩)
                      · exact fun ρ X9 fl hg hn hl hp ho hc hf hr => .inr (.inl ⟨7, 43, false, fun _ => rfl, rfl, hr 7 43 rfl rfl, Runs.val _ (op_load3 (show ρ (.tmp 46) = .pointer (some ⟨g, o1 + 0 * 3, none⟩) from hr 10 46 rfl rfl) (cell_on hg c0)) ⟨hg, Below.refl _ _, rfl⟩⟩)
                      · exact fun ρ X9 fl hg hn hl hp ho hc hf hr => .inr (.inl ⟨7, 43, false, fun _ => rfl, rfl, hr 7 43 rfl rfl, Runs.val _ (op_neq3 (show ρ (.tmp 47) = .int .i64 a.k from hr 11 47 rfl rfl) (hc _) (b := false) (by rw [hk9]; decide)) ⟨hg, Below.refl _ _, rfl⟩⟩)
                      · exact fun ρ X9 fl hg hn hl hp ho hc hf hr => .inl ⟨rfl, Runs.val _ (op_pick (show ρ (.tmp 43) = .bool false from hr 7 43 rfl rfl) (show ρ (.tmp 48) = .bool false from hr 12 48 rfl rfl)) ⟨hg, Below.refl _ _, rfl⟩⟩
                      · exact fun ρ X9 fl hg hn hl hp ho hc hf hr => .inl ⟨rfl, Runs.val _ (op_move (show ρ (.tmp 49) = .bool false from hr 13 49 rfl rfl)) ⟨hg, Below.refl _ _, rfl⟩⟩
                      · exact fun ρ X9 fl hg hn hl hp ho hc hf hr => .inr (.inl ⟨14, 50, false, fun _ => rfl, rfl, hr 14 50 rfl rfl, Runs.val _ (op_move (show ρ (.tmp 7) = .slice (some ⟨g, o1, none⟩) 2 cap from ho 7 rfl)) ⟨hg, Below.refl _ _, rfl⟩⟩)
                      · exact fun ρ X9 fl hg hn hl hp ho hc hf hr => .inr (.inl ⟨14, 50, false, fun _ => rfl, rfl, hr 14 50 rfl rfl, Runs.val _ (op_i32 (show ρ (.tmp 51) = .slice (some ⟨g, o1, none⟩) 2 cap from hr 15 51 rfl rfl) (i := 0) (hc _) (by decide)) ⟨hg, Below.refl _ _, rfl⟩⟩)
                      · exact fun ρ X9 fl hg hn hl hp ho hc hf hr => .inr (.inl ⟨14, 50, false, fun _ => rfl, rfl, hr 14 50 rfl rfl, Runs.val _ (op_f23_1 (show ρ (.tmp 52) = .pointer (some ⟨g, o1 + 0 * 3, none⟩) from hr 16 52 rfl rfl)) ⟨hg, Below.refl _ _, rfl⟩⟩)
                      · exact fun ρ X9 fl hg hn hl hp ho hc hf hr => .inr (.inl ⟨14, 50, false, fun _ => rfl, rfl, hr 14 50 rfl rfl, Runs.val _ (op_load2 (show ρ (.tmp 53) = .pointer (some ⟨g, o1 + 0 * 3 + 1, none⟩) from hr 17 53 rfl rfl) (cell_on hg c1)) ⟨hg, Below.refl _ _, rfl⟩⟩)
                      · exact fun ρ X9 fl hg hn hl hp ho hc hf hr => .inr (.inl ⟨14, 50, false, fun _ => rfl, rfl, hr 14 50 rfl rfl, Runs.val _ (op_lss2 (show ρ (.tmp 54) = .int .i64 a.n from hr 18 54 rfl rfl) (hc _) (b := false) (decide_eq_false hn9)) ⟨hg, Below.refl _ _, rfl⟩⟩)
                      · exact fun ρ X9 fl hg hn hl hp ho hc hf hr => .inl ⟨rfl, Runs.val _ (op_pick (show ρ (.tmp 50) = .bool false from hr 14 50 rfl rfl) (show ρ (.tmp 55) = .bool false from hr 19 55 rfl rfl)) ⟨hg, Below.refl _ _, rfl⟩⟩
                      · exact fun ρ X9 fl hg hn hl hp ho hc hf hr => .inl ⟨rfl, Runs.val _ (op_move (show ρ (.tmp 56) = .bool false from hr 20 56 rfl rfl)) ⟨hg, Below.refl _ _, rfl⟩⟩
                      · exact fun ρ X9 fl hg hn hl hp ho hc hf hr => .inr (.inl ⟨21, 57, false, fun _ => rfl, rfl, hr 21 57 rfl rfl, Runs.val _ (op_move (show ρ (.tmp 4) = .slice (some ⟨mb, mo, none⟩) M.length mc from ho 4 rfl)) ⟨hg, Below.refl _ _, rfl⟩⟩)
                      · exact fun ρ X9 fl hg hn hl hp ho hc hf hr => .inr (.inl ⟨21, 57, false, fun _ => rfl, rfl, hr 21 57 rfl rfl, Runs.val _ (op_len40 (show ρ (.tmp 58) = .slice (some ⟨mb, mo, none⟩) M.length mc from hr 22 58 rfl rfl)) ⟨hg, Below.refl _ _, rfl⟩⟩)
                      · exact fun ρ X9 fl hg hn hl hp ho hc hf hr => .inr (.inl ⟨21, 57, false, fun _ => rfl, rfl, hr 21 57 rfl rfl, Runs.val _ (op_gtr3 (show ρ (.tmp 59) = .int .i64 (M.length : Int) from hr 23 59 rfl rfl) (hc _) (b := true) (decide_eq_true hM0)) ⟨hg, Below.refl _ _, rfl⟩⟩)
                      · exact fun ρ X9 fl hg hn hl hp ho hc hf hr => .inr (.inl ⟨21, 57, false, fun _ => rfl, rfl, hr 21 57 rfl rfl, Runs.val _ (op_move (show ρ (.tmp 60) = .bool true from hr 24 60 rfl rfl)) ⟨hg, Below.refl _ _, rfl⟩⟩)
                      · exact fun ρ X9 fl hg hn hl hp ho hc hf hr => .inr (.inl ⟨25, 61, true, fun _ => rfl, rfl, hr 25 61 rfl rfl, Runs.val _ (op_move (show ρ (.tmp 7) = .slice (some ⟨g, o1, none⟩) 2 cap from ho 7 rfl)) ⟨hg, Below.refl _ _, rfl⟩⟩)
                      · exact fun ρ X9 fl hg hn hl hp ho hc hf hr => .inr (.inl ⟨25, 61, true, fun _ => rfl, rfl, hr 25 61 rfl rfl, Runs.val _ (op_i32 (show ρ (.tmp 62) = .slice (some ⟨g, o1, none⟩) 2 cap from hr 26 62 rfl rfl) (i := 0) (hc _) (by decide)) ⟨hg, Below.refl _ _, rfl⟩⟩)
                      · exact fun ρ X9 fl hg hn hl hp ho hc hf hr => .inr (.inl ⟨25, 61, true, fun _ => rfl, rfl, hr 25 61 rfl rfl, Runs.val _ (op_f23_1 (show ρ (.tmp 63) = .pointer (some ⟨g, o1 + 0 * 3, none⟩) from hr 27 63 rfl rfl)) ⟨hg, Below.refl _ _, rfl⟩⟩)
                      · exact fun ρ X9 fl hg hn hl hp ho hc hf hr => .inr (.inl ⟨25, 61, true, fun _ => rfl, rfl, hr 25 61 rfl rfl, Runs.val _ (op_load2 (show ρ (.tmp 64) = .pointer (some ⟨g, o1 + 0 * 3 + 1, none⟩) from hr 28 64 rfl rfl) (cell_on hg c1)) ⟨hg, Below.refl _ _, rfl⟩⟩)
                      · exact fun ρ X9 fl hg hn hl hp ho hc hf hr => .inr (.inl ⟨25, 61, true, fun _ => rfl, rfl, hr 25 61 rfl rfl, Runs.val _ (op_move (show ρ (.tmp 4) = .slice (some ⟨mb, mo, none⟩) M.length mc from ho 4 rfl)) ⟨hg, Below.refl _ _, rfl⟩⟩)
                      · exact fun ρ X9 fl hg hn hl hp ho hc hf hr => .inr (.inl ⟨25, 61, true, fun _ => rfl, rfl, hr 25 61 rfl rfl, Runs.val _ (op_move (show ρ (.tmp 4) = .slice (some ⟨mb, mo, none⟩) M.length mc from ho 4 rfl)) ⟨hg, Below.refl _ _, rfl⟩⟩)
                      · exact fun ρ X9 fl hg hn hl hp ho hc hf hr => .inr (.inl ⟨25, 61, true, fun _ => rfl, rfl, hr 25 61 rfl rfl, Runs.val _ (op_len40 (show ρ (.tmp 67) = .slice (some ⟨mb, mo, none⟩) M.length mc from hr 31 67 rfl rfl)) ⟨hg, Below.refl _ _, rfl⟩⟩)
                      · exact fun ρ X9 fl hg hn hl hp ho hc hf hr => .inr (.inl ⟨25, 61, true, fun _ => rfl, rfl, hr 25 61 rfl rfl, Runs.val _ (op_sub3 (show ρ (.tmp 68) = .int .i64 (M.length : Int) from hr 32 68 rfl rfl) (hc _) (r := (m : Int)) hm9 (by omega) (by omega)) ⟨hg, Below.refl _ _, rfl⟩⟩)
                      · exact fun ρ X9 fl hg hn hl hp ho hc hf hr => .inr (.inl ⟨25, 61, true, fun _ => rfl, rfl, hr 25 61 rfl rfl, Runs.val _ (op_i40 (show ρ (.tmp 66) = .slice (some ⟨mb, mo, none⟩) M.length mc from hr 30 66 rfl rfl) (show ρ (.tmp 69) = .int .i64 (m : Int) from hr 33 69 rfl rfl) hml) ⟨hg, Below.refl _ _, rfl⟩⟩)
                      · exact fun ρ X9 fl hg hn hl hp ho hc hf hr => .inr (.inl ⟨25, 61, true, fun _ => rfl, rfl, hr 25 61 rfl rfl, Runs.val _ (op_f89_0 (show ρ (.tmp 70) = .pointer (some ⟨mb, mo + m * 4, none⟩) from hr 34 70 rfl rfl)) ⟨hg, Below.refl _ _, rfl⟩⟩)
                      · exact fun ρ X9 fl hg hn hl hp ho hc hf hr => .inr (.inl ⟨25, 61, true, fun _ => rfl, rfl, hr 25 61 rfl rfl, Runs.val _ (op_load3 (show ρ (.tmp 71) = .pointer (some ⟨mb, mo + m * 4, none⟩) from hr 35 71 rfl rfl) (cell_on hg f0)) ⟨hg, Below.refl _ _, rfl⟩⟩)
                      · exact fun ρ X9 fl hg hn hl hp ho hc hf hr => .inr (.inl ⟨25, 61, true, fun _ => rfl, rfl, hr 25 61 rfl rfl, Runs.val _ (op_leq3 (show ρ (.tmp 65) = .int .i64 a.n from hr 29 65 rfl rfl) (show ρ (.tmp 72) = .int .i64 p.id from hr 36 72 rfl rfl) (b := false) (decide_eq_false hp9)) ⟨hg, Below.refl _ _, rfl⟩⟩)
                      · exact fun ρ X9 fl hg hn hl hp ho hc hf hr => .inr (.inl ⟨21, 57, false, fun _ => rfl, rfl, hr 21 57 rfl rfl, Runs.val _ (op_pick (show ρ (.tmp 61) = .bool true from hr 25 61 rfl rfl) (show ρ (.tmp 73) = .bool false from hr 37 73 rfl rfl)) ⟨hg, Below.refl _ _, rfl⟩⟩)
                      · exact fun ρ X9 fl hg hn hl hp ho hc hf hr => .inl ⟨rfl, Runs.val _ (op_pick (show ρ (.tmp 57) = .bool false from hr 21 57 rfl rfl) (show ρ (.tmp 74) = .bool false from hr 38 74 rfl rfl)) ⟨hg, Below.refl _ _, rfl⟩⟩
                    case en =>
                      intro a9 w5 fl hfl b5 hs9 hd9 ho9 hr9
                      obtain ⟨x9, hx, hxt⟩ := act_put hs9 hd9 ho9
                      have x75 : x9 75 = .bool false := (hxt 75).symm.trans (hr9 39 75 rfl)
                      change a9 = putAll _ x9 [36, 37, 38, 39, 40, 41, 42, 43, 44, 45, 46, 47, 48, 49, 50, 51, 52, 53, 54, 55, 56, 57, 58, 59, 60, 61, 62, 63, 64, 65, 66, 67, 68, 69, 70, 71, 72, 73, 74, 75] at hx
                      simp only [putAll, Act.put, List.setIfInBounds_toArray, List.set_cons_zero, List.set_cons_succ, x75] at hx
                      subst hx
                      clear hs9 hd9 ho9 hr9 hfl x75
                      generalize x9 36 = z36, x9 37 = z37, x9 38 = z38, x9 39 = z39, x9 40 = z40, x9 41 = z41, x9 42 = z42, x9 43 = z43, x9 44 = z44, x9 45 = z45, x9 46 = z46, x9 47 = z47, x9 48 = z48, x9 49 = z49, x9 50 = z50, x9 51 = z51, x9 52 = z52, x9 53 = z53, x9 54 = z54, x9 55 = z55, x9 56 = z56, x9 57 = z57, x9 58 = z58, x9 59 = z59, x9 60 = z60, x9 61 = z61, x9 62 = z62, x9 63 = z63, x9 64 = z64, x9 65 = z65, x9 66 = z66, x9 67 = z67, x9 68 = z68, x9 69 = z69, x9 70 = z70, x9 71 = z71, x9 72 = z72, x9 73 = z73, x9 74 = z74
                      have HB5 := Lib.hid (bgo HB4.out b5)
                      have HOW5 : Hid (w5.ownsRow w.heap.size 89 4 (.slice (some ⟨mb, mo, none⟩) M.length mc) M.length (M.flatMap ceL)) := Lib.hid (own_below HOW4.out b5)
                      have c1 := cell_on b5 c1
                      have d0 := cell_on b5 d0
                      have d1 := cell_on b5 d1
                      have d2 := cell_on b5 d2
                      clear b5
                      go_upto_region 10 with fail
                      refine wp_region_gs (fun fl r X9 => G10 w w5 (.slice (some ⟨mb, mo, none⟩) M.length mc) M ⟨a.n, b⟩ (fl 9) (fl 10) (fl 11) (r 4) (r 85) (r 86) X9) (fun _ _ => True) [
                        fun v9 _ => v9 = .slice (some ⟨mb, mo, none⟩) M.length mc,
                        fun v9 _ => v9 = .slice (some ⟨g, o1, none⟩) 2 cap,
                        fun v9 _ => v9 = .pointer (some ⟨g, o1 + 0 * 3, none⟩),
                        fun v9 _ => v9 = .pointer (some ⟨g, o1 + 0 * 3 + 1, none⟩),
                        fun v9 _ => v9 = .int .i64 a.n,
                        fun v9 _ => v9 = .slice (some ⟨g, o1, none⟩) 2 cap,
                        fun v9 _ => v9 = .pointer (some ⟨g, o1 + 1 * 3, none⟩),
                        fun v9 _ => v9 = vlV b,
                        fun v9 _ => v9 = .agg (ceA ⟨a.n, b⟩),
                        fun _ _ => True,
                        fun _ _ => True,
                        fun _ _ => True]
                        (by kernel_rfl) (by kernel_rfl) (by kernel_rfl) ?st ?g0 ?os ?en
                      case st => exact ⟨fun _ _ _ _ h => h, fun _ _ _ _ h => h, fun _ _ _ _ h => h, fun _ _ _ _ h => h, fun _ _ _ _ h => h, fun _ _ _ _ h => h, fun _ _ _ _ h => h, fun _ _ _ _ h => h, fun _ _ _ _ h => h, fun _ _ _ _ h => h, fun _ _ _ _ h => h, fun _ _ _ _ h => h, trivial⟩
                      case g0 => exact ⟨fun _ => ⟨rfl, rfl, rfl, Nat.le_refl _, fun _ _ => rfl⟩, ⟨HB5.out.os, HB5.out.tape, HB5.out.output, HB5.out.size, HB5.out.block⟩, fun _ => rfl, fun e => (by cases e), fun e => (by cases e), fun e => (by cases e)⟩
                      case os =>
                        refine ⟨?_, ?_, ?_, ?_, ?_, ?_, ?_, ?_, ?_, ?_, ?_, ?_, trivial⟩
                        · intro ρ X9 fl hg hn hl hp ho hc hf hr
                          have e4 : ρ (.tmp 4) = .slice (some ⟨mb, mo, none⟩) M.length mc := hg.h4 (by cases h9 : fl 11 with | false => rfl | true => exact absurd (hl 11 _ 10 rfl rfl h9) (by rw [((by cases h9 : fl 10 with | false => rfl | true => exact absurd (hl 10 _ 0 rfl rfl h9) (by rw [(hn : fl 0 = false)]; decide)) : fl 10 = false)]; decide))
                          exact .inl ⟨rfl, Runs.val _ (op_move e4) ⟨fun r' h1 h2 => G10.same hg (h1 4 (by decide)) (h1 85 (by decide)) (h1 86 (by decide)), trivial, rfl⟩⟩
                        · exact fun ρ X9 fl hg hn hl hp ho hc hf hr => .inl ⟨rfl, Runs.val _ (op_move (show ρ (.tmp 7) = .slice (some ⟨g, o1, none⟩) 2 cap from ho 7 rfl)) ⟨fun r' h1 h2 => G10.same hg (h1 4 (by decide)) (h1 85 (by decide)) (h1 86 (by decide)), trivial, rfl⟩⟩
                        · exact fun ρ X9 fl hg hn hl hp ho hc hf hr => .inl ⟨rfl, Runs.val _ (op_i32 (show ρ (.tmp 77) = .slice (some ⟨g, o1, none⟩) 2 cap from hr 1 77 rfl rfl) (i := 0) (hc _) (by decide)) ⟨fun r' h1 h2 => G10.same hg (h1 4 (by decide)) (h1 85 (by decide)) (h1 86 (by decide)), trivial, rfl⟩⟩
                        · exact fun ρ X9 fl hg hn hl hp ho hc hf hr => .inl ⟨rfl, Runs.val _ (op_f23_1 (show ρ (.tmp 78) = .pointer (some ⟨g, o1 + 0 * 3, none⟩) from hr 2 78 rfl rfl)) ⟨fun r' h1 h2 => G10.same hg (h1 4 (by decide)) (h1 85 (by decide)) (h1 86 (by decide)), trivial, rfl⟩⟩
                        · intro ρ X9 fl hg hn hl hp ho hc hf hr
                          have hz : fl 10 = false := (by cases h9 : fl 10 with | false => rfl | true => exact absurd (hl 10 _ 9 rfl rfl h9) (by rw [((by cases h9 : fl 9 with | false => rfl | true => exact absurd (hl 9 _ 8 rfl rfl h9) (by rw [((by cases h9 : fl 8 with | false => rfl | true => exact absurd (hl 8 _ 4 rfl rfl h9) (by rw [(hn : fl 4 = false)]; decide)) : fl 8 = false)]; decide)) : fl 9 = false)]; decide))
                          exact .inl ⟨rfl, Runs.val _ (op_load2 (show ρ (.tmp 79) = .pointer (some ⟨g, o1 + 0 * 3 + 1, none⟩) from hr 3 79 rfl rfl) (cell_on (hg.hb hz) c1)) ⟨fun r' h1 h2 => G10.same hg (h1 4 (by decide)) (h1 85 (by decide)) (h1 86 (by decide)), trivial, rfl⟩⟩
                        · exact fun ρ X9 fl hg hn hl hp ho hc hf hr => .inl ⟨rfl, Runs.val _ (op_move (show ρ (.tmp 7) = .slice (some ⟨g, o1, none⟩) 2 cap from ho 7 rfl)) ⟨fun r' h1 h2 => G10.same hg (h1 4 (by decide)) (h1 85 (by decide)) (h1 86 (by decide)), trivial, rfl⟩⟩
                        · exact fun ρ X9 fl hg hn hl hp ho hc hf hr => .inl ⟨rfl, Runs.val _ (op_i32 (show ρ (.tmp 81) = .slice (some ⟨g, o1, none⟩) 2 cap from hr 5 81 rfl rfl) (i := 1) (hc _) (by decide)) ⟨fun r' h1 h2 => G10.same hg (h1 4 (by decide)) (h1 85 (by decide)) (h1 86 (by decide)), trivial, rfl⟩⟩
                        · intro ρ X9 fl hg hn hl hp ho hc hf hr
                          have hz : fl 10 = false := (by cases h9 : fl 10 with | false => rfl | true => exact absurd (hl 10 _ 9 rfl rfl h9) (by rw [((by cases h9 : fl 9 with | false => rfl | true => exact absurd (hl 9 _ 8 rfl rfl h9) (by rw [((by cases h9 : fl 8 with | false => rfl | true => exact absurd (hl 8 _ 7 rfl rfl h9) (by rw [(hn : fl 7 = false)]; decide)) : fl 8 = false)]; decide)) : fl 9 = false)]; decide))
                          exact .inl ⟨rfl, Runs.val _ (op_load23 (show ρ (.tmp 82) = .pointer (some ⟨g, o1 + 1 * 3, none⟩) from hr 6 82 rfl rfl) (cell_on (hg.hb hz) d0) (cell_on (hg.hb hz) d1) (cell_on (hg.hb hz) d2)) ⟨fun r' h1 h2 => G10.same hg (h1 4 (by decide)) (h1 85 (by decide)) (h1 86 (by decide)), trivial, rfl⟩⟩
                        · exact fun ρ X9 fl hg hn hl hp ho hc hf hr => .inl ⟨rfl, Runs.val _ (op_b89 (show ρ (.tmp 80) = .int .i64 a.n from hr 4 80 rfl rfl) (show ρ (.tmp 83) = vlV b from hr 7 83 rfl rfl)) ⟨fun r' h1 h2 => G10.same hg (h1 4 (by decide)) (h1 85 (by decide)) (h1 86 (by decide)), trivial, rfl⟩⟩
                        · intro ρ X9 fl hg hn hl hp ho hc hf hr
                          have hz : fl 10 = false := (by cases h9 : fl 10 with | false => rfl | true => exact absurd (hl 10 _ 9 rfl rfl h9) (by rw [(hn : fl 9 = false)]; decide))
                          exact .inl ⟨rfl, Runs.val _ (op_s40 (c := ⟨a.n, b⟩) (show ρ (.tmp 84) = .agg (ceA ⟨a.n, b⟩) from hr 8 84 rfl rfl)) ⟨fun r' h1 h2 => G10.new hg hz (h1 4 (by decide)) (h2 85 rfl) (h1 86 (by decide)), trivial, trivial⟩⟩
                        · intro ρ X9 fl hg hn hl hp ho hc hf hr
                          refine .inl ⟨rfl, ?_⟩
                          have hz : fl 11 = false := (by cases h9 : fl 11 with | false => rfl | true => exact absurd (hl 11 _ 10 rfl rfl h9) (by rw [(hn : fl 10 = false)]; decide))
                          have hg1 : G10 w w5 (.slice (some ⟨mb, mo, none⟩) M.length mc) M ⟨a.n, b⟩ (fl 9) (fl 10) (fl 11) ((fun t => ρ (.tmp t)) 4) ((fun t => ρ (.tmp t)) 85) ((fun t => ρ (.tmp t)) 86) X9 := hg
                          rw [hp 9 rfl, hn, hz] at hg1
                          obtain ⟨F, e1, v', X', hrun, hnext⟩ := hg1.app HOW5.out HI9.out.2.2
                          exact Runs.val _ (op_append40 (show ρ (.tmp 76) = .slice (some ⟨mb, mo, none⟩) M.length mc from hr 0 76 rfl rfl) e1 hrun) ⟨fun r' h1 h2 => by
                            show G10 w w5 (.slice (some ⟨mb, mo, none⟩) M.length mc) M ⟨a.n, b⟩ ((upd fl 10) 9) ((upd fl 10) 10) ((upd fl 10) 11) (r' 4) (r' 85) (r' 86) X'
                            have e9 : upd fl 10 9 = true := hp 9 rfl
                            have e11 : upd fl 10 11 = false := hz
                            rw [e9, e11]
                            exact hnext _ _ _ (h1 4 (by decide)) (h2 86 rfl), trivial, trivial⟩
                        · intro ρ X9 fl hg hn hl hp ho hc hf hr
                          refine .inl ⟨rfl, ?_⟩
                          have hg1 : G10 w w5 (.slice (some ⟨mb, mo, none⟩) M.length mc) M ⟨a.n, b⟩ (fl 9) (fl 10) (fl 11) ((fun t => ρ (.tmp t)) 4) ((fun t => ρ (.tmp t)) 85) ((fun t => ρ (.tmp t)) 86) X9 := hg
                          rw [hp 10 rfl] at hg1
                          exact Runs.val _ (op_assign rfl) ⟨fun r' h1 h2 => by
                            show G10 w w5 (.slice (some ⟨mb, mo, none⟩) M.length mc) M ⟨a.n, b⟩ ((upd fl 11) 9) ((upd fl 11) 10) ((upd fl 11) 11) (r' 4) (r' 85) (r' 86) X9
                            have e10 : upd fl 11 10 = true := hp 10 rfl
                            rw [e10]
                            exact hg1.fin (h2 4 rfl) (h1 86 (by decide)), trivial, trivial⟩
                      case en =>
                        intro a9 w6 fl hfl hg6 hs9 hd9 ho9 hr9
                        obtain ⟨x9, hx, hxt⟩ := act_put hs9 hd9 ho9
                        have hG : G10 w w5 (.slice (some ⟨mb, mo, none⟩) M.length mc) M ⟨a.n, b⟩ (fl 9) (fl 10) (fl 11) ((fun t => a9.tmps.getD t undef) 4) ((fun t => a9.tmps.getD t undef) 85) ((fun t => a9.tmps.getD t undef) 86) w6 := hg6
                        simp only [hxt] at hG
                        rw [hfl 9 (by decide), hfl 10 (by decide), hfl 11 (by decide)] at hG
                        have hown6 := hG.h86 rfl
                        have e4 := hG.e4 rfl
                        obtain ⟨xa, xc, e86⟩ := own_shape hown6
                        rw [e86] at hown6 e4
                        have HO6 := Lib.hid hown6
                        have HB6 := Lib.hid hG.hw
                        change a9 = putAll _ x9 [76, 77, 78, 79, 80, 81, 82, 83, 84, 85, 86, 4] at hx
                        simp only [putAll, Act.put, List.setIfInBounds_toArray, List.set_cons_zero, List.set_cons_succ, e4, e86] at hx
                        subst hx
                        clear hs9 hd9 ho9 hr9 hfl hg6 hG e4 e86 hown6 hxt
                        generalize x9 76 = z76, x9 77 = z77, x9 78 = z78, x9 79 = z79, x9 80 = z80, x9 81 = z81, x9 82 = z82, x9 83 = z83, x9 84 = z84, x9 85 = z85
                        go_wp2
                        go_roundw
                        case rel => exact ⟨i + (1 + N), M ++ [⟨a.n, b⟩], by push_cast; rfl, HI9.out.1, own_ce HO6.out, HB6.out, by simpa using HI9.out.2.1, ⟨HN.out, by rw [lastF_snoc]; show (0 : Int) ≤ a.n; have := HNP.out; omega⟩⟩
                        case measure => simp [intOf]; omega
            · have HN : Hid (getP 0 L = none) := Lib.hid (HGB.out (by rw [HCP.out, if_neg hk9]))
              go_upto_region 8 with fail
              refine wp_region_fb (fun _ X9 => Below w4.heap.size w4 X9) (fun X9 X8 => Below X9.heap.size X9 X8) [
                fun v9 _ => v9 = .int .i64 0,
                fun v9 _ => v9 = .bool false,
                fun v9 _ => v9 = .bool false,
                fun v9 _ => v9 = .slice (some ⟨g, o1, none⟩) 2 cap,
                fun v9 _ => v9 = .int .i64 ((2 : Nat) : Int),
                fun v9 _ => v9 = .bool false,
                fun v9 _ => v9 = .bool false,
                fun v9 _ => v9 = .bool false,
                fun v9 _ => v9 = .slice (some ⟨g, o1, none⟩) 2 cap,
                fun v9 _ => v9 = .pointer (some ⟨g, o1 + 0 * 3, none⟩),
                fun v9 _ => v9 = .pointer (some ⟨g, o1 + 0 * 3, none⟩),
                fun v9 _ => v9 = .int .i64 a.k,
                fun v9 _ => v9 = .bool true,
                fun v9 _ => v9 = .bool true,
                fun v9 _ => v9 = .bool true,
                fun v9 _ => v9 = undef,
                fun v9 _ => v9 = undef,
                fun v9 _ => v9 = undef,
                fun v9 _ => v9 = undef,
                fun v9 _ => v9 = undef,
                fun v9 _ => v9 = .bool true,
                fun v9 _ => v9 = .bool true,
                fun v9 _ => v9 = undef,
                fun v9 _ => v9 = undef,
                fun v9 _ => v9 = undef,
                fun v9 _ => v9 = undef,
                fun v9 _ => v9 = undef,
                fun v9 _ => v9 = undef,
                fun v9 _ => v9 = undef,
                fun v9 _ => v9 = undef,
                fun v9 _ => v9 = undef,
                fun v9 _ => v9 = undef,
                fun v9 _ => v9 = undef,
                fun v9 _ => v9 = undef,
                fun v9 _ => v9 = undef,
                fun v9 _ => v9 = undef,
                fun v9 _ => v9 = undef,
                fun v9 _ => v9 = undef,
                fun v9 _ => v9 = undef,
                fun v9 _ => v9 = .bool true]
                (by kernel_rfl) (by kernel_rfl) (by kernel_rfl) ?st ?g0 ?os ?en
              case st => exact ⟨fun _ _ _ _ h => h, fun _ _ _ _ h => h, fun _ _ _ _ h => h, fun _ _ _ _ h => h, fun _ _ _ _ h => h, fun _ _ _ _ h => h, fun _ _ _ _ h => h, fun _ _ _ _ h => h, fun _ _ _ _ h => h, fun _ _ _ _ h => h, fun _ _ _ _ h => h, fun _ _ _ _ h => h, fun _ _ _ _ h => h, fun _ _ _ _ h => h, fun _ _ _ _ h => h, fun _ _ _ _ h => h, fun _ _ _ _ h => h, fun _ _ _ _ h => h, fun _ _ _ _ h => h, fun _ _ _ _ h => h, fun _ _ _ _ h => h, fun _ _ _ _ h => h, fun _ _ _ _ h => h, fun _ _ _ _ h => h, fun _ _ _ _ h => h, fun _ _ _ _ h => h, fun _ _ _ _ h => h, fun _ _ _ _ h => h, fun _ _ _ _ h => h, fun _ _ _ _ h => h, fun _ _ _ _ h => h, fun _ _ _ _ h => h, fun _ _ _ _ h => h, fun _ _ _ _ h => h, fun _ _ _ _ h => h, fun _ _ _ _ h => h, fun _ _ _ _ h => h, fun _ _ _ _ h => h, fun _ _ _ _ h => h, fun _ _ _ _ h => h, trivial⟩
              case g0 => exact ⟨rfl, rfl, rfl, Nat.le_refl _, fun _ _ => rfl⟩
              case os =>
                refine ⟨?_, ?_, ?_, ?_, ?_, ?_, ?_, ?_, ?_, ?_, ?_, ?_, ?_, ?_, ?_, ?_, ?_, ?_, ?_, ?_, ?_, ?_, ?_, ?_, ?_, ?_, ?_, ?_, ?_, ?_, ?_, ?_, ?_, ?_, ?_, ?_, ?_, ?_, ?_, ?_, trivial⟩
                · exact fun ρ X9 fl hg hn hl hp ho hc hf hr => .inl ⟨rfl, Runs.val _ (op_move (show ρ (.tmp 8) = .int .i64 0 from ho 8 rfl)) ⟨hg, Below.refl _ _, rfl⟩⟩
                · exact fun ρ X9 fl hg hn hl hp ho hc hf hr => .inl ⟨rfl, Runs.val _ (op_neq3 (show ρ (.tmp 36) = .int .i64 0 from hr 0 36 rfl rfl) (hc _) (b := false) (by decide)) ⟨hg, Below.refl _ _, rfl⟩⟩
                · exact fun ρ X9 fl hg hn hl hp ho hc hf hr => .inl ⟨rfl, Runs.val _ (op_move (show ρ (.tmp 37) = .bool false from hr 1 37 rfl rfl)) ⟨hg, Below.refl _ _, rfl⟩⟩
                · exact fun ρ X9 fl hg hn hl hp ho hc hf hr => .inr (.inl ⟨2, 38, false, fun _ => rfl, rfl, hr 2 38 rfl rfl, Runs.val _ (op_move (show ρ (.tmp 7) = .slice (some ⟨g, o1, none⟩) 2 cap from ho 7 rfl)) ⟨hg, Below.refl _ _, rfl⟩⟩)
                · exact fun ρ X9 fl hg hn hl hp ho hc hf hr => .inr (.inl ⟨2, 38, false, fun _ => rfl, rfl, hr 2 38 rfl rfl, Runs.val _ (op_len32 (show ρ (.tmp 39) = .slice (some ⟨g, o1, none⟩) 2 cap from hr 3 39 rfl rfl)) ⟨hg, Below.refl _ _, rfl⟩⟩)
                · exact fun ρ X9 fl hg hn hl hp ho hc hf hr => .inr (.inl ⟨2, 38, false, fun _ => rfl, rfl, hr 2 38 rfl rfl, Runs.val _ (op_neq3 (show ρ (.tmp 40) = .int .i64 ((2 : Nat) : Int) from hr 4 40 rfl rfl) (hc _) (b := false) (by simp)) ⟨hg, Below.refl _ _, rfl⟩⟩)
                · exact fun ρ X9 fl hg hn hl hp ho hc hf hr => .inl ⟨rfl, Runs.val _ (op_pick (show ρ (.tmp 38) = .bool false from hr 2 38 rfl rfl) (show ρ (.tmp 41) = .bool false from hr 5 41 rfl rfl)) ⟨hg, Below.refl _ _, rfl⟩⟩
                · exact fun ρ X9 fl hg hn hl hp ho hc hf hr => .inl ⟨rfl, Runs.val _ (op_move (show ρ (.tmp 42) = .bool false from hr 6 42 rfl rfl)) ⟨hg, Below.refl _ _, rfl⟩⟩
                · exact fun ρ X9 fl hg hn hl hp ho hc hf hr => .inr (.inl ⟨7, 43, false, fun _ => rfl, rfl, hr 7 43 rfl rfl, Runs.val _ (op_move (show ρ (.tmp 7) = .slice (some ⟨g, o1, none⟩) 2 cap from ho 7 rfl)) ⟨hg, Below.refl _ _, rfl⟩⟩)
                · exact fun ρ X9 fl hg hn hl hp ho hc hf hr => .inr (.inl ⟨7, 43, false, fun _ => rfl, rfl, hr 7 43 rfl rfl, Runs.val _ (op_i32 (show ρ (.tmp 44) = .slice (some ⟨g, o1, none⟩) 2 cap from hr 8 44 rfl rfl) (i := 0) (hc _) (by decide)) ⟨hg, Below.refl _ _, rfl⟩⟩)
                · exact fun ρ X9 fl hg hn hl hp ho hc hf hr => .inr (.inl ⟨7, 43, false, fun _ => rfl, rfl, hr 7 43 rfl rfl, Runs.val _ (op_f23_0 (show ρ (.tmp 45) = .pointer (some ⟨g, o1 + 0 * 3, none⟩) from hr 9 45 rfl rfl)) ⟨hg, Below.refl _ _, rfl⟩⟩)
                · exact fun ρ X9 fl hg hn hl hp ho hc hf hr => .inr (.inl ⟨7, 43, false, fun _ => rfl, rfl, hr 7 43 rfl rfl, Runs.val _ (op_load3 (show ρ (.tmp 46) = .pointer (some ⟨g, o1 + 0 * 3, none⟩) from hr 10 46 rfl rfl) (cell_on hg c0)) ⟨hg, Below.refl _ _, rfl⟩⟩)
                · exact fun ρ X9 fl hg hn hl hp ho hc hf hr => .inr (.inl ⟨7, 43, false, fun _ => rfl, rfl, hr 7 43 rfl rfl, Runs.val _ (op_neq3 (show ρ (.tmp 47) = .int .i64 a.k from hr 11 47 rfl rfl) (hc _) (b := true) (by simp only [hk9, decide_false, Bool.not_false])) ⟨hg, Below.refl _ _, rfl⟩⟩)
                · exact fun ρ X9 fl hg hn hl hp ho hc hf hr => .inl ⟨rfl, Runs.val _ (op_pick (show ρ (.tmp 43) = .bool false from hr 7 43 rfl rfl) (show ρ (.tmp 48) = .bool true from hr 12 48 rfl rfl)) ⟨hg, Below.refl _ _, rfl⟩⟩
                · exact fun ρ X9 fl hg hn hl hp ho hc hf hr => .inl ⟨rfl, Runs.val _ (op_move (show ρ (.tmp 49) = .bool true from hr 13 49 rfl rfl)) ⟨hg, Below.refl _ _, rfl⟩⟩
                · exact fun ρ X9 fl hg hn hl hp ho hc hf hr => .inr (.inr ⟨14, 50, false, fun _ => rfl, rfl, (fun q => by rw [show ρ (.tmp 50) = .bool true from hr 14 50 rfl rfl] at q; cases q), hg, Below.refl _ _, rfl⟩)
                · exact fun ρ X9 fl hg hn hl hp ho hc hf hr => .inr (.inr ⟨14, 50, false, fun _ => rfl, rfl, (fun q => by rw [show ρ (.tmp 50) = .bool true from hr 14 50 rfl rfl] at q; cases q), hg, Below.refl _ _, rfl⟩)
                · exact fun ρ X9 fl hg hn hl hp ho hc hf hr => .inr (.inr ⟨14, 50, false, fun _ => rfl, rfl, (fun q => by rw [show ρ (.tmp 50) = .bool true from hr 14 50 rfl rfl] at q; cases q), hg, Below.refl _ _, rfl⟩)
                · exact fun ρ X9 fl hg hn hl hp ho hc hf hr => .inr (.inr ⟨14, 50, false, fun _ => rfl, rfl, (fun q => by rw [show ρ (.tmp 50) = .bool true from hr 14 50 rfl rfl] at q; cases q), hg, Below.refl _ _, rfl⟩)
                · exact fun ρ X9 fl hg hn hl hp ho hc hf hr => .inr (.inr ⟨14, 50, false, fun _ => rfl, rfl, (fun q => by rw [show ρ (.tmp 50) = .bool true from hr 14 50 rfl rfl] at q; cases q), hg, Below.refl _ _, rfl⟩)
                · exact fun ρ X9 fl hg hn hl hp ho hc hf hr => .inl ⟨rfl, Runs.val _ (op_pick (show ρ (.tmp 50) = .bool true from hr 14 50 rfl rfl) (hc _)) ⟨hg, Below.refl _ _, rfl⟩⟩
                · exact fun ρ X9 fl hg hn hl hp ho hc hf hr => .inl ⟨rfl, Runs.val _ (op_move (show ρ (.tmp 56) = .bool true from hr 20 56 rfl rfl)) ⟨hg, Below.refl _ _, rfl⟩⟩
                · exact fun ρ X9 fl hg hn hl hp ho hc hf hr => .inr (.inr ⟨21, 57, false, fun _ => rfl, rfl, (fun q => by rw [show ρ (.tmp 57) = .bool true from hr 21 57 rfl rfl] at q; cases q), hg, Below.refl _ _, rfl⟩)
                · exact fun ρ X9 fl hg hn hl hp ho hc hf hr => .inr (.inr ⟨21, 57, false, fun _ => rfl, rfl, (fun q => by rw [show ρ (.tmp 57) = .bool true from hr 21 57 rfl rfl] at q; cases q), hg, Below.refl _ _, rfl⟩)
                · exact fun ρ X9 fl hg hn hl hp ho hc hf hr => .inr (.inr ⟨21, 57, false, fun _ => rfl, rfl, (fun q => by rw [show ρ (.tmp 57) = .bool true from hr 21 57 rfl rfl] at q; cases q), hg, Below.refl _ _, rfl⟩)
                · exact fun ρ X9 fl hg hn hl hp ho hc hf hr => .inr (.inr ⟨21, 57, false, fun _ => rfl, rfl, (fun q => by rw [show ρ (.tmp 57) = .bool true from hr 21 57 rfl rfl] at q; cases q), hg, Below.refl _ _, rfl⟩)
                · exact fun ρ X9 fl hg hn hl hp ho hc hf hr => .inr (.inr ⟨25, 61, true, fun _ => rfl, rfl, (fun q => by rw [show ρ (.tmp 61) = undef from hr 25 61 rfl rfl] at q; cases q), hg, Below.refl _ _, rfl⟩)
                · exact fun ρ X9 fl hg hn hl hp ho hc hf hr => .inr (.inr ⟨25, 61, true, fun _ => rfl, rfl, (fun q => by rw [show ρ (.tmp 61) = undef from hr 25 61 rfl rfl] at q; cases q), hg, Below.refl _ _, rfl⟩)
                · exact fun ρ X9 fl hg hn hl hp ho hc hf hr => .inr (.inr ⟨25, 61, true, fun _ => rfl, rfl, (fun q => by rw [show ρ (.tmp 61) = undef from hr 25 61 rfl rfl] at q; cases q), hg, Below.refl _ _, rfl⟩)
                · exact fun ρ X9 fl hg hn hl hp ho hc hf hr => .inr (.inr ⟨25, 61, true, fun _ => rfl, rfl, (fun q => by rw [show ρ (.tmp 61) = undef from hr 25 61 rfl rfl] at q; cases q), hg, Below.refl _ _, rfl⟩)
                · exact fun ρ X9 fl hg hn hl hp ho hc hf hr => .inr (.inr ⟨25, 61, true, fun _ => rfl, rfl, (fun q => by rw [show ρ (.tmp 61) = undef from hr 25 61 rfl rfl] at q; cases q), hg, Below.refl _ _, rfl⟩)
                · exact fun ρ X9 fl hg hn hl hp ho hc hf hr => .inr (.inr ⟨25, 61, true, fun _ => rfl, rfl, (fun q => by rw [show ρ (.tmp 61) = undef from hr 25 61 rfl rfl] at q; cases q), hg, Below.refl _ _, rfl⟩)
                · exact fun ρ X9 fl hg hn hl hp ho hc hf hr => .inr (.inr ⟨25, 61, true, fun _ => rfl, rfl, (fun q => by rw [show ρ (.tmp 61) = undef from hr 25 61 rfl rfl] at q; cases q), hg, Below.refl _ _, rfl⟩)
                · exact fun ρ X9 fl hg hn hl hp ho hc hf hr => .inr (.inr ⟨25, 61, true, fun _ => rfl, rfl, (fun q => by rw [show ρ (.tmp 61) = undef from hr 25 61 rfl rfl] at q; cases q), hg, Below.refl _ _, rfl⟩)
                · exact fun ρ X9 fl hg hn hl hp ho hc hf hr => .inr (.inr ⟨25, 61, true, fun _ => rfl, rfl, (fun q => by rw [show ρ (.tmp 61) = undef from hr 25 61 rfl rfl] at q; cases q), hg, Below.refl _ _, rfl⟩)
                · exact fun ρ X9 fl hg hn hl hp ho hc hf hr => .inr (.inr ⟨25, 61, true, fun _ => rfl, rfl, (fun q => by rw [show ρ (.tmp 61) = undef from hr 25 61 rfl rfl] at q; cases q), hg, Below.refl _ _, rfl⟩)
                · exact fun ρ X9 fl hg hn hl hp ho hc hf hr => .inr (.inr ⟨25, 61, true, fun _ => rfl, rfl, (fun q => by rw [show ρ (.tmp 61) = undef from hr 25 61 rfl rfl] at q; cases q), hg, Below.refl _ _, rfl⟩)
                · exact fun ρ X9 fl hg hn hl hp ho hc hf hr => .inr (.inr ⟨25, 61, true, fun _ => rfl, rfl, (fun q => by rw [show ρ (.tmp 61) = undef from hr 25 61 rfl rfl] at q; cases q), hg, Below.refl _ _, rfl⟩)
                · exact fun ρ X9 fl hg hn hl hp ho hc hf hr => .inr (.inr ⟨21, 57, false, fun _ => rfl, rfl, (fun q => by rw [show ρ (.tmp 57) = .bool true from hr 21 57 rfl rfl] at q; cases q), hg, Below.refl _ _, rfl⟩)
                · exact fun ρ X9 fl hg hn hl hp ho hc hf hr => .inl ⟨rfl, Runs.val _ (op_pick (show ρ (.tmp 57) = .bool true from hr 21 57 rfl rfl) (hc _)) ⟨hg, Below.refl _ _, rfl⟩⟩
              case en =>
                intro a9 w5 fl hfl b5 hs9 hd9 ho9 hr9
                obtain ⟨x9, hx, hxt⟩ := act_put hs9 hd9 ho9
                have x75 : x9 75 = .bool true := (hxt 75).symm.trans (hr9 39 75 rfl)
                change a9 = putAll _ x9 [36, 37, 38, 39, 40, 41, 42, 43, 44, 45, 46, 47, 48, 49, 50, 51, 52, 53, 54, 55, 56, 57, 58, 59, 60, 61, 62, 63, 64, 65, 66, 67, 68, 69, 70, 71, 72, 73, 74, 75] at hx
                simp only [putAll, Act.put, List.setIfInBounds_toArray, List.set_cons_zero, List.set_cons_succ, x75] at hx
                subst hx
                clear hs9 hd9 ho9 hr9 hfl x75
                generalize x9 36 = z36, x9 37 = z37, x9 38 = z38, x9 39 = z39, x9 40 = z40, x9 41 = z41, x9 42 = z42, x9 43 = z43, x9 44 = z44, x9 45 = z45, x9 46 = z46, x9 47 = z47, x9 48 = z48, x9 49 = z49, x9 50 = z50, x9 51 = z51, x9 52 = z52, x9 53 = z53, x9 54 = z54, x9 55 = z55, x9 56 = z56, x9 57 = z57, x9 58 = z58, x9 59 = z59, x9 60 = z60, x9 61 = z61, x9 62 = z62, x9 63 = z63, x9 64 = z64, x9 65 = z65, x9 66 = z66, x9 67 = z67, x9 68 = z68, x9 69 = z69, x9 70 = z70, x9 71 = z71, x9 72 = z72, x9 73 = z73, x9 74 = z74
                have HB5 := Lib.hid (bgo HB4.out b5)
                clear b5
                go_wp2
                go_ret2
                exact get_no HN.out HB5.out
    · have q1 : ¬ ((i : Int) < s.size) := by omega
      have HN := Lib.hid (getAt_end HD.out.1 (by
        rw [Lib.extract_to_end]
        refine List.drop_eq_nil_of_le ?_
        have e : s.data.toList.length = s.size := Array.length_toList
        omega))
      clear hown hb hMi hzb hi9
      go_wp2
      go_ret2
      exact ⟨HB.out, .inl ⟨M, _, HN.out, rfl, HOW.out⟩⟩
end Go.Proofs.Ytbepekgaipipjaa
