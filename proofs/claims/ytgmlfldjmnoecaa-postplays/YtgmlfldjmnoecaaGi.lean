/- The walk of the statement PostPlays. -/
import Derived.Test.YtgmlfldjmnoecaaGh
import Derived.Test.YtgmlfldjmnoecaaGg
import Derived.Test.YtgmlfldjmnoecaaPa
namespace Go.Proofs.Ytgmlfldjmnoecaa
open Go.RowKit

abbrev opO (x : O) : Obj := .cells #[.int .i64 x.kind, .int .i64 x.i, .int .i64 x.l.fr, .int .i64 x.l.to, .string x.l.text] 30
section
variable {w0 w w' : World} {A : Nat} {R R' M M' : List Lt} {K K' : List (Nat × Obj)} {S S' X : Nat → Prop} {v v' : Value}
theorem Bg.boxes (h : Bg w0 w A R v M [] X) (a b c : Obj) : Bg w0 (((w.alloc a).alloc b).alloc c) A R v M [(w.heap.size + 1 + 1, c), (w.heap.size + 1, b), (w.heap.size, a)] X := by
  have e := ((h.box a).box b).box c
  simpa using e
theorem Bg.tri {a b c : Nat} {y g : Lt} {x : O} (h : Bg w0 w A R v M [(c, ltO g), (b, ltO y), (a, opO x)] X) :
    (w.cell? ⟨a, 0, none⟩ = some (.int .i64 x.kind) ∧ w.cell? ⟨a, 1, none⟩ = some (.int .i64 x.i) ∧ w.cell? ⟨a, 2, none⟩ = some (.int .i64 x.l.fr) ∧ w.cell? ⟨a, 3, none⟩ = some (.int .i64 x.l.to) ∧ w.cell? ⟨a, 4, none⟩ = some (.string x.l.text)) ∧
    (w.cell? ⟨b, 0, none⟩ = some (.int .i64 y.fr) ∧ w.cell? ⟨b, 1, none⟩ = some (.int .i64 y.to) ∧ w.cell? ⟨b, 2, none⟩ = some (.string y.text)) ∧
    (w.frozen? ⟨b, 0, none⟩ = false ∧ w.frozen? ⟨b, 1, none⟩ = false ∧ w.frozen? ⟨b, 2, none⟩ = false) ∧
    (w.cell? ⟨c, 0, none⟩ = some (.int .i64 g.fr) ∧ w.cell? ⟨c, 1, none⟩ = some (.int .i64 g.to) ∧ w.cell? ⟨c, 2, none⟩ = some (.string g.text)) ∧
    (w.frozen? ⟨c, 0, none⟩ = false ∧ w.frozen? ⟨c, 1, none⟩ = false ∧ w.frozen? ⟨c, 2, none⟩ = false) := by
  have hc := h.blk _ List.mem_cons_self
  have hb := h.blk _ (List.mem_cons_of_mem _ List.mem_cons_self)
  have ha := h.blk _ (List.mem_cons_of_mem _ (List.mem_cons_of_mem _ List.mem_cons_self))
  refine ⟨⟨?_, ?_, ?_, ?_, ?_⟩, lt_cells hb, ⟨frozen_blk hb 0, frozen_blk hb 1, frozen_blk hb 2⟩, lt_cells hc, ⟨frozen_blk hc 0, frozen_blk hc 1, frozen_blk hc 2⟩⟩ <;> (rw [cell_blk ha]; rfl)
/-- The second block is written anew; the first. -/
theorem Bg.want {a b c : Nat} {y g : Lt} {o : Obj} (h : Bg w0 w A R v M [(c, ltO g), (b, ltO y), (a, o)] X) (hb : w0.heap.size ≤ b) (h1 : c ≠ b) (h2 : a ≠ b) (z : Lt) :
    Bg w0 (((w.setCell ⟨b, 0, none⟩ (.int .i64 z.fr)).setCell ⟨b, 1, none⟩ (.int .i64 z.to)).setCell ⟨b, 2, none⟩ (.string z.text)) A R v M [(c, ltO g), (b, ltO z), (a, o)] X := by
  refine h.set3 (l := y) (List.mem_cons_of_mem _ List.mem_cons_self) hb (fun p hp => ?_)
  simp only [List.mem_cons, List.not_mem_nil, or_false] at hp ⊢
  rcases hp with rfl | rfl | rfl
  · exact .inr ⟨.inl rfl, h1⟩
  · exact .inl rfl
  · exact .inr ⟨.inr (.inr rfl), h2⟩
theorem Bg.got {a b c : Nat} {y g : Lt} {o : Obj} (h : Bg w0 w A R v M [(c, ltO g), (b, ltO y), (a, o)] X) (hc : w0.heap.size ≤ c) (h1 : b ≠ c) (h2 : a ≠ c) (z : Lt) :
    Bg w0 (((w.setCell ⟨c, 0, none⟩ (.int .i64 z.fr)).setCell ⟨c, 1, none⟩ (.int .i64 z.to)).setCell ⟨c, 2, none⟩ (.string z.text)) A R v M [(c, ltO z), (b, ltO y), (a, o)] X := by
  refine h.set3 (l := g) List.mem_cons_self hc (fun p hp => ?_)
  simp only [List.mem_cons, List.not_mem_nil, or_false] at hp ⊢
  rcases hp with rfl | rfl | rfl
  · exact .inl rfl
  · exact .inr ⟨.inr (.inl rfl), h1⟩
  · exact .inr ⟨.inr (.inr rfl), h2⟩
end
/-- What the loop keeps. -/
def PR (L : List O) (w wr : World) (A : Nat) (v i : Value) : Prop := ∃ (k : Nat) (R : List Lt), k ≤ L.length ∧ R.length ≤ k ∧ i = .int .i64 ((k : Nat) : Int) ∧ Bg w wr A R v R [] (fun _ => False)

set_option maxHeartbeats 16000000 in
set_option maxRecDepth 100000 in
theorem plays_law {L : List O} {ad : Option Addr} {cap : Nat} {w : World} (hL : Lo L ad w) :
    Calls Try.prog 3 #[.slice ad L.length cap] w fun e w' => e = .returned (.bool true) ∧ Below w.heap.size w w' := by
  by_cases hbig : 400 < L.length
  · have h : (400 : Int) < L.length := by omega
    go_enter Try.func3, Try.ntmps3
    go_wp2_with fail
    refine (awake_any w).mono ?_
    rintro e w1 ⟨rfl, hb1⟩
    go_wp2_with fail
    refine (awake_any w1).mono ?_
    rintro e w2 ⟨rfl, hb2⟩
    go_wp2
    go_ret
    exact ⟨rfl, hb1.trans (hb2.mono hb1.size)⟩
  · have n1 : ¬ (400 : Int) < L.length := by omega
    have n3 : (L.length : Int) ≤ 400 := by omega
    go_enter Try.func3, Try.ntmps3
    go_wp2_with fail
    refine (awake_any w).mono ?_
    rintro e w1 ⟨rfl, hb1⟩
    go_wp2_with fail
    refine (bk_new hb1).mono ?_
    rintro e w2 ⟨A, rfl, h2⟩
    have hB0 : Bg w w2 A [] (.slice none 0 0) [] [] (fun _ => False) := by
      obtain ⟨S, a, b, c, d⟩ := h2
      exact ⟨S, a, b, c, World.ownsRow_nil _ _ _ _, (fun k hk => by cases hk), (fun p hp => by cases hp), fun k hk => hk.elim⟩
    go_wp2
    go_loopw [4, 22] (fun v i wr => PR L w wr A v i) (fun _ i _ => L.length - (intOf i).toNat)
    case atStart => exact ⟨0, [], Nat.zero_le _, Nat.le_refl _, rfl, hB0⟩
    case round =>
      clear hB0 h2
      obtain ⟨k, R, hk, hR, rfl, hB⟩ := hrel
      by_cases hkl : k < L.length
      · have hki : (k : Int) < L.length := by omega
        have k0 : (0 : Int) ≤ k := by omega
        have hz := hB.below.size
        obtain ⟨b, o, rfl, hbl, c0, c1, c2, c3, c4⟩ := (hL.on hB.below).at' k hkl
        obtain ⟨x, hx⟩ : ∃ x, L[k] = x := ⟨_, rfl⟩
        rw [hx] at c0 c1 c2 c3 c4
        clear hx
        obtain ⟨kd, xi, l⟩ := x
        simp only at c0 c1 c2 c3 c4
        obtain ⟨adv, capv, rfl, hLk⟩ := Lk.own hB.row
        have q1 : w.heap.size ≤ wr.heap.size + 1 := by omega
        have q2 : w.heap.size ≤ wr.heap.size + 1 + 1 := by omega
        have q3 : wr.heap.size + 1 + 1 ≠ wr.heap.size + 1 := by omega
        have q4 : wr.heap.size ≠ wr.heap.size + 1 := by omega
        have q5 : wr.heap.size + 1 ≠ wr.heap.size + 1 + 1 := by omega
        have q6 : wr.heap.size ≠ wr.heap.size + 1 + 1 := by omega
        rcases isL_split R xi with ⟨m, rfl, hm⟩ | hi
        · have m0 : (0 : Int) ≤ m := by omega
          have m1 : (m : Int) < R.length := by omega
          have a1 := atL_nat hm
          have a2 := isL_nat hm
          have hLk2 := hLk.on (((Below.refl _ wr).alloc (Nat.le_refl _) (opO ⟨kd, m, l⟩)).alloc (by simp) (ltO lt0))
          obtain ⟨g, o', rfl, hgl, d0, d1, d2⟩ := hLk2.at' m hm
          obtain ⟨y, hy⟩ : ∃ y, R[m] = y := ⟨_, rfl⟩
          rw [hy] at d0 d1 d2 a1
          have e1 := str_self y.text
          have hB3 := hB.boxes (opO ⟨kd, m, l⟩) (ltO y) (ltO lt0)
          have hBz := hB.boxes (opO ⟨kd, m, l⟩) (ltO lt0) (ltO lt0)
          clear hB hLk hLk2 hy hgl
          by_cases k1 : kd = 1
          · subst k1
            clear hBz
            have hsend := bg_send hB3 (by omega) l
            clear hB3
            go_wp2_with fail
            refine hsend.mono ?_
            rintro e w3 ⟨rfl, hB4, _⟩
            obtain ⟨v', w4, hrun, hB5⟩ := hB4.more (by omega) l
            obtain ⟨⟨s0, s1, s2, s3, s4⟩, ⟨s5, s6, s7⟩, ⟨s8, s9, s10⟩, ⟨s11, s12, s13⟩, ⟨s14, s15, s16⟩⟩ := hB4.tri
            simp only at s0 s1 s2 s3 s4 s5 s6 s7 s11 s12 s13
            obtain ⟨⟨t0, t1, t2, t3, t4⟩, ⟨t5, t6, t7⟩, ⟨t8, t9, t10⟩, ⟨t11, t12, t13⟩, ⟨t14, t15, t16⟩⟩ := hB5.tri
            simp only at t0 t1 t2 t3 t4 t5 t6 t7 t11 t12 t13
            obtain ⟨adn, capn, hv⟩ := own_shape hB5.row
            rw [show (R ++ [l]).length = R.length + 1 by simp] at hv
            subst hv
            have hB6 := hB5.want q1 q3 q4 lt0
            clear hsend hB4 hB5
            go_wp2_with (at_builtin; refine wpl_run _ _ rfl hrun ?_)
            obtain ⟨⟨r0, r1, r2, r3, r4⟩, ⟨r5, r6, r7⟩, ⟨r8, r9, r10⟩, ⟨r11, r12, r13⟩, ⟨r14, r15, r16⟩⟩ := hB6.tri
            simp only at r0 r1 r2 r3 r4 r5 r6 r7 r11 r12 r13
            have hlen := bg_len hB6
            go_wp2_with fail
            refine hlen.mono ?_
            rintro e w9 ⟨rfl, rfl⟩
            go_wp2
            go_roundw
            case rel => exact ⟨k + 1, R ++ [l], hkl, by simp; omega, by go_num, hB6.sub (fun p hp => by cases hp)⟩
            case measure => simp [intOf]; omega
          by_cases k2 : kd = 2
          · subst k2
            clear hBz
            have hcall := bg_take hB3 m
            rw [a1, a2] at hcall
            clear hB3
            go_wp2_with fail
            refine hcall.mono ?_
            rintro e w3 ⟨rfl, hB4, _⟩
            obtain ⟨⟨s0, s1, s2, s3, s4⟩, ⟨s5, s6, s7⟩, ⟨s8, s9, s10⟩, ⟨s11, s12, s13⟩, ⟨s14, s15, s16⟩⟩ := hB4.tri
            simp only at s0 s1 s2 s3 s4 s5 s6 s7 s11 s12 s13
            have hB5 := hB4.got q2 q5 q6 y
            clear hcall hB4
            obtain ⟨⟨t0, t1, t2, t3, t4⟩, ⟨t5, t6, t7⟩, ⟨t8, t9, t10⟩, ⟨t11, t12, t13⟩, ⟨t14, t15, t16⟩⟩ := hB5.tri
            simp only at t0 t1 t2 t3 t4 t5 t6 t7 t11 t12 t13
            have hwo := bg_without hB5 (by omega) m
            have hB5k := Lib.hid hB5
            clear hB5
            go_wp2_with fail
            refine hwo.mono ?_
            rintro e w6 ⟨v', rfl, hB6, _⟩
            obtain ⟨⟨r0, r1, r2, r3, r4⟩, ⟨r5, r6, r7⟩, ⟨r8, r9, r10⟩, ⟨r11, r12, r13⟩, ⟨r14, r15, r16⟩⟩ := hB6.tri
            simp only at r0 r1 r2 r3 r4 r5 r6 r7 r11 r12 r13
            obtain ⟨adn, capn, rfl⟩ := own_shape hB6.row
            clear hwo
            have hlen := bg_len hB6
            go_wp2_with fail
            refine hlen.mono ?_
            rintro e w9 ⟨rfl, rfl⟩
            go_wp2
            go_roundw
            case rel => exact ⟨k + 1, remL R m, hkl, Nat.le_trans (remL_le _ _) (by omega), by go_num, hB6.sub (fun p hp => by cases hp)⟩
            case measure => simp [intOf]; omega
          by_cases k3 : kd = 3
          · subst k3
            clear hBz
            have hcall := bg_copy hB3 m
            rw [a1, a2] at hcall
            clear hB3
            go_wp2_with fail
            refine hcall.mono ?_
            rintro e w3 ⟨rfl, hB4⟩
            obtain ⟨⟨s0, s1, s2, s3, s4⟩, ⟨s5, s6, s7⟩, ⟨s8, s9, s10⟩, ⟨s11, s12, s13⟩, ⟨s14, s15, s16⟩⟩ := hB4.tri
            simp only at s0 s1 s2 s3 s4 s5 s6 s7 s11 s12 s13
            have hB5 := hB4.got q2 q5 q6 y
            clear hcall hB4
            obtain ⟨⟨t0, t1, t2, t3, t4⟩, ⟨t5, t6, t7⟩, ⟨t8, t9, t10⟩, ⟨t11, t12, t13⟩, ⟨t14, t15, t16⟩⟩ := hB5.tri
            simp only at t0 t1 t2 t3 t4 t5 t6 t7 t11 t12 t13
            have hlen := bg_len hB5
            go_wp2_with fail
            refine hlen.mono ?_
            rintro e w9 ⟨rfl, rfl⟩
            go_wp2
            go_roundw
            case rel => exact ⟨k + 1, R, hkl, by omega, by go_num, hB5.sub (fun p hp => by cases hp)⟩
            case measure => simp [intOf]; omega
          by_cases k4 : kd = 4
          · subst k4
            clear hBz
            have hcall := bg_lose hB3 m
            rw [a2] at hcall
            clear hB3
            go_wp2_with fail
            refine hcall.mono ?_
            rintro e w3 ⟨rfl, hB4⟩
            obtain ⟨⟨s0, s1, s2, s3, s4⟩, ⟨s5, s6, s7⟩, ⟨s8, s9, s10⟩, ⟨s11, s12, s13⟩, ⟨s14, s15, s16⟩⟩ := hB4.tri
            simp only at s0 s1 s2 s3 s4 s5 s6 s7 s11 s12 s13
            have hB5 := hB4.want q1 q3 q4 lt0
            clear hcall hB4
            obtain ⟨⟨t0, t1, t2, t3, t4⟩, ⟨t5, t6, t7⟩, ⟨t8, t9, t10⟩, ⟨t11, t12, t13⟩, ⟨t14, t15, t16⟩⟩ := hB5.tri
            simp only at t0 t1 t2 t3 t4 t5 t6 t7 t11 t12 t13
            have hwo := bg_without hB5 (by omega) m
            have hB5k := Lib.hid hB5
            clear hB5
            go_wp2_with fail
            refine hwo.mono ?_
            rintro e w6 ⟨v', rfl, hB6, _⟩
            obtain ⟨⟨r0, r1, r2, r3, r4⟩, ⟨r5, r6, r7⟩, ⟨r8, r9, r10⟩, ⟨r11, r12, r13⟩, ⟨r14, r15, r16⟩⟩ := hB6.tri
            simp only at r0 r1 r2 r3 r4 r5 r6 r7 r11 r12 r13
            obtain ⟨adn, capn, rfl⟩ := own_shape hB6.row
            clear hwo
            have hlen := bg_len hB6
            go_wp2_with fail
            refine hlen.mono ?_
            rintro e w9 ⟨rfl, rfl⟩
            go_wp2
            go_roundw
            case rel => exact ⟨k + 1, remL R m, hkl, Nat.le_trans (remL_le _ _) (by omega), by go_num, hB6.sub (fun p hp => by cases hp)⟩
            case measure => simp [intOf]; omega
          have hB5 := hBz
          clear hBz hB3
          have hlen := bg_len hB5
          go_wp2_with fail
          refine hlen.mono ?_
          rintro e w9 ⟨rfl, rfl⟩
          go_wp2
          go_roundw
          case rel => exact ⟨k + 1, R, hkl, by omega, by go_num, hB5.sub (fun p hp => by cases hp)⟩
          case measure => simp [intOf]; omega
        · have a1 := atL_not hi
          have a2 := isL_not hi
          have hB3 := hB.boxes (opO ⟨kd, xi, l⟩) (ltO lt0) (ltO lt0)
          have hi2 : xi < 0 ∨ (¬ xi < 0 ∧ decide (xi < (R.length : Int)) = false) := by
            by_cases h : xi < 0
            · exact .inl h
            · exact .inr ⟨h, by simp; omega⟩
          have hBz := hB3
          clear hB hLk hi
          by_cases k1 : kd = 1
          · subst k1
            clear hBz
            rcases hi2 with hi2 | ⟨hi2, hi3⟩
            all_goals
              have hsend := bg_send hB3 (by omega) l
              clear hB3
              go_wp2_with fail
              refine hsend.mono ?_
              rintro e w3 ⟨rfl, hB4, _⟩
              obtain ⟨v', w4, hrun, hB5⟩ := hB4.more (by omega) l
              obtain ⟨⟨s0, s1, s2, s3, s4⟩, ⟨s5, s6, s7⟩, ⟨s8, s9, s10⟩, ⟨s11, s12, s13⟩, ⟨s14, s15, s16⟩⟩ := hB4.tri
              simp only at s0 s1 s2 s3 s4 s5 s6 s7 s11 s12 s13
              obtain ⟨⟨t0, t1, t2, t3, t4⟩, ⟨t5, t6, t7⟩, ⟨t8, t9, t10⟩, ⟨t11, t12, t13⟩, ⟨t14, t15, t16⟩⟩ := hB5.tri
              simp only at t0 t1 t2 t3 t4 t5 t6 t7 t11 t12 t13
              obtain ⟨adn, capn, hv⟩ := own_shape hB5.row
              rw [show (R ++ [l]).length = R.length + 1 by simp] at hv
              subst hv
              have hB6 := hB5.want q1 q3 q4 lt0
              clear hsend hB4 hB5
              go_wp2_with (at_builtin; refine wpl_run _ _ rfl hrun ?_)
              obtain ⟨⟨r0, r1, r2, r3, r4⟩, ⟨r5, r6, r7⟩, ⟨r8, r9, r10⟩, ⟨r11, r12, r13⟩, ⟨r14, r15, r16⟩⟩ := hB6.tri
              simp only at r0 r1 r2 r3 r4 r5 r6 r7 r11 r12 r13
              have hlen := bg_len hB6
              go_wp2_with fail
              refine hlen.mono ?_
              rintro e w9 ⟨rfl, rfl⟩
              go_wp2
              go_roundw
              case rel => exact ⟨k + 1, R ++ [l], hkl, by simp; omega, by go_num, hB6.sub (fun p hp => by cases hp)⟩
              case measure => simp [intOf]; omega
          by_cases k2 : kd = 2
          · subst k2
            clear hBz
            rcases hi2 with hi2 | ⟨hi2, hi3⟩
            all_goals
              have hcall := bg_take hB3 xi
              rw [a1, a2] at hcall
              clear hB3
              go_wp2_with fail
              refine hcall.mono ?_
              rintro e w3 ⟨rfl, hB4, _⟩
              obtain ⟨⟨s0, s1, s2, s3, s4⟩, ⟨s5, s6, s7⟩, ⟨s8, s9, s10⟩, ⟨s11, s12, s13⟩, ⟨s14, s15, s16⟩⟩ := hB4.tri
              simp only at s0 s1 s2 s3 s4 s5 s6 s7 s11 s12 s13
              have hB5 := hB4.got q2 q5 q6 lt0
              clear hcall hB4
              obtain ⟨⟨t0, t1, t2, t3, t4⟩, ⟨t5, t6, t7⟩, ⟨t8, t9, t10⟩, ⟨t11, t12, t13⟩, ⟨t14, t15, t16⟩⟩ := hB5.tri
              simp only at t0 t1 t2 t3 t4 t5 t6 t7 t11 t12 t13
              have hno : remL R xi = R := by unfold remL; rw [a2]; rfl
              rw [hno] at hB5
              clear hno
              have hlen := bg_len hB5
              go_wp2_with fail
              refine hlen.mono ?_
              rintro e w9 ⟨rfl, rfl⟩
              go_wp2
              go_roundw
              case rel => exact ⟨k + 1, R, hkl, by omega, by go_num, hB5.sub (fun p hp => by cases hp)⟩
              case measure => simp [intOf]; omega
          by_cases k3 : kd = 3
          · subst k3
            clear hBz
            rcases hi2 with hi2 | ⟨hi2, hi3⟩
            all_goals
              have hcall := bg_copy hB3 xi
              rw [a1, a2] at hcall
              clear hB3
              go_wp2_with fail
              refine hcall.mono ?_
              rintro e w3 ⟨rfl, hB4⟩
              obtain ⟨⟨s0, s1, s2, s3, s4⟩, ⟨s5, s6, s7⟩, ⟨s8, s9, s10⟩, ⟨s11, s12, s13⟩, ⟨s14, s15, s16⟩⟩ := hB4.tri
              simp only at s0 s1 s2 s3 s4 s5 s6 s7 s11 s12 s13
              have hB5 := hB4.got q2 q5 q6 lt0
              clear hcall hB4
              obtain ⟨⟨t0, t1, t2, t3, t4⟩, ⟨t5, t6, t7⟩, ⟨t8, t9, t10⟩, ⟨t11, t12, t13⟩, ⟨t14, t15, t16⟩⟩ := hB5.tri
              simp only at t0 t1 t2 t3 t4 t5 t6 t7 t11 t12 t13
              have hlen := bg_len hB5
              go_wp2_with fail
              refine hlen.mono ?_
              rintro e w9 ⟨rfl, rfl⟩
              go_wp2
              go_roundw
              case rel => exact ⟨k + 1, R, hkl, by omega, by go_num, hB5.sub (fun p hp => by cases hp)⟩
              case measure => simp [intOf]; omega
          by_cases k4 : kd = 4
          · subst k4
            clear hBz
            rcases hi2 with hi2 | ⟨hi2, hi3⟩
            all_goals
              have hcall := bg_lose hB3 xi
              rw [a2] at hcall
              clear hB3
              go_wp2_with fail
              refine hcall.mono ?_
              rintro e w3 ⟨rfl, hB4⟩
              obtain ⟨⟨s0, s1, s2, s3, s4⟩, ⟨s5, s6, s7⟩, ⟨s8, s9, s10⟩, ⟨s11, s12, s13⟩, ⟨s14, s15, s16⟩⟩ := hB4.tri
              simp only at s0 s1 s2 s3 s4 s5 s6 s7 s11 s12 s13
              have hB5 := hB4.want q1 q3 q4 lt0
              clear hcall hB4
              obtain ⟨⟨t0, t1, t2, t3, t4⟩, ⟨t5, t6, t7⟩, ⟨t8, t9, t10⟩, ⟨t11, t12, t13⟩, ⟨t14, t15, t16⟩⟩ := hB5.tri
              simp only at t0 t1 t2 t3 t4 t5 t6 t7 t11 t12 t13
              have hno : remL R xi = R := by unfold remL; rw [a2]; rfl
              rw [hno] at hB5
              clear hno
              have hlen := bg_len hB5
              go_wp2_with fail
              refine hlen.mono ?_
              rintro e w9 ⟨rfl, rfl⟩
              go_wp2
              go_roundw
              case rel => exact ⟨k + 1, R, hkl, by omega, by go_num, hB5.sub (fun p hp => by cases hp)⟩
              case measure => simp [intOf]; omega
          rcases hi2 with hi2 | ⟨hi2, hi3⟩
          all_goals
            have hB5 := hBz
            clear hBz hB3
            have hlen := bg_len hB5
            go_wp2_with fail
            refine hlen.mono ?_
            rintro e w9 ⟨rfl, rfl⟩
            go_wp2
            go_roundw
            case rel => exact ⟨k + 1, R, hkl, by omega, by go_num, hB5.sub (fun p hp => by cases hp)⟩
            case measure => simp [intOf]; omega
      · have hki : ¬ (k : Int) < L.length := by omega
        go_wp2
        go_ret
        exact ⟨rfl, hB.below⟩
end Go.Proofs.Ytgmlfldjmnoecaa
