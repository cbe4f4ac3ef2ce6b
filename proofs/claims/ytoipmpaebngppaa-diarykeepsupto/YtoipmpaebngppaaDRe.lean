/- The walks of the document's Append, Sync, Swap, Arm and Read. -/
import Derived.Test.YtoipmpaebngppaaDRc
namespace Go.Proofs.Ytoipmpaebngppaa
open Go.RowKit Go.Maps

section
variable {w w' : World} {B : Nat} {T : Nat → Prop} {F : List Fl} {left : Int} {off : Bool} {v : Value} {n d : ByteArray}
theorem make_any (h : Rv w B T F left off v) (hn : n.size ≤ maxLen) (hfew : F.length < 900000) :
    Calls Try.prog 44 #[.pointer (some ⟨B, 0, none⟩), .string n] w fun e w' => e = .returned (.int .i64 (placeF F n)) ∧ ∃ v', Rv w' B (Gro T w w') (mkF F n) left off v' ∧ Fr w w' T := by
  cases e : (fileF F n).isSome with
  | true =>
    refine (make_yes h hn e).mono ?_
    rintro e1 w' ⟨rfl, hb⟩
    have hmk : mkF F n = F := by unfold mkF; rw [if_pos e]
    rw [hmk]
    refine ⟨rfl, v, (h.on hb).wider (fun k q => .inl q) (fun k q => ?_), Fr.ofBelow _ hb⟩
    rcases q with q | q
    · exact Nat.lt_of_lt_of_le (h.lt k q) hb.size
    · exact q.2
  | false => exact make_no h hn e hfew

theorem put_len (F : List Fl) (x : Fl) : (putF F x).length ≤ F.length + 1 := by
  induction F with
  | nil => simp [putF]
  | cons f F ih =>
    unfold putF
    split
    · simp; omega
    · split <;> simp
/-- The row is laid anew: the files are F, with x put. -/
theorem Rv.relay {w0 : World} {T0 : Nat → Prop} {M : List Fl} {left0 : Int} {off0 : Bool} {v0 : Value} (h0 : Rv w0 B T0 F left0 off0 v0) (h : Rv w B T M left off v) (hfr : Fr w w' (fun k => v.ownBlock = some k)) {x : Fl} {m : Nat} {xs : List Value} (ho : w'.ownsRow 0 78 3 v m xs) (hm : m = (putF F x).length) (hx : xs = flat3 (putF F x))
    (hs : x.safe ≤ x.data.size) (hb : x.data.size ≤ 140737488355328) (hn : x.name.size ≤ maxLen) (hfew : F.length < 900000) : Rv w' B T (putF F x) left off v := by
  subst hm hx
  have hl := put_len F x
  refine ⟨(hfr.block B (h.lt B h.covB) (fun q => h.neR q rfl)).trans h.ob, ho, putF_rise h0.rise x, ?_, ?_, ?_, h.covB, h.covR, fun k hk => Nat.lt_of_lt_of_le (h.lt k hk) hfr.size, by omega, h.int⟩
  · intro f hf
    rcases putF_mem hf with rfl | q
    · exact hs
    · exact h0.safe f q
  · intro f hf
    rcases putF_mem hf with rfl | q
    · exact hb
    · exact h0.big f q
  · intro f hf
    rcases putF_mem hf with rfl | q
    · exact hn
    · exact h0.nm f q
theorem Rv.oldSafe (h : Rv w B T F left off v) (n : ByteArray) : (oldF F n).safe ≤ (oldF F n).data.size ∧ (oldF F n).data.size ≤ 140737488355328 := by
  cases e : fileF F n with
  | none =>
    simp only [oldF, e]
    exact ⟨Nat.le_refl _, Nat.zero_le _⟩
  | some f =>
    simp only [oldF, e]
    exact ⟨h.safe f (fileF_name e).2, h.big f (fileF_name e).2⟩
theorem Rd.over {w1 w2 : World} {S : Nat → Prop} {F' : List Fl} {left' : Int} {off' : Bool} {v' : Value} (hlt : ∀ k, T k → k < w.heap.size) (hS : ∀ k, S k → T k ∨ w.heap.size ≤ k) (hf1 : Fr w w1 T) (hf2 : Fr w1 w2 S) (h2 : Rv w2 B S F' left' off' v') : Rd w2 B (Gro T w w2) F' left' off' ∧ Fr w w2 T := by
  have hfr : Fr w w2 T := hf1.step hf2 hS
  refine ⟨⟨v', h2.wider (fun k hk => ?_) (fun k hk => ?_)⟩, hfr⟩
  · have := h2.lt k hk
    rcases hS k hk with q | q
    · exact .inl q
    · exact .inr ⟨q, this⟩
  · rcases hk with q | q
    · exact Nat.lt_of_lt_of_le (hlt k q) hfr.size
    · exact q.2

/-- The same but for how much was drawn. -/
structure Like (w' w : World) : Prop where
  heap : w'.heap = w.heap
  os : w'.os = w.os
  output : w'.output = w.output
  tape : w'.tape = w.tape
theorem Like.refl (w : World) : Like w w := ⟨rfl, rfl, rfl, rfl⟩
/-- A file that has been made or was there: where it lies, and what a store of its bytes leaves. -/
theorem Rv.made {w2 : World} {T2 : Nat → Prop} {left2 : Int} {off2 : Bool} {v2 : Value} (h0 : Rv w B T F left off v) (h2 : Rv w2 B T2 (mkF F n) left2 off2 v2) (hn : n.size ≤ maxLen) (hfew : F.length < 900000) :
    ∃ g cap L p s0, v2 = .slice (some ⟨g, 0, none⟩) L cap ∧ placeF F n = p ∧ (oldF F n).data = s0 ∧ p < L ∧ L ≤ 900000 ∧ w2.cell? ⟨B, 0, none⟩ = some (.slice (some ⟨g, 0, none⟩) L cap) ∧ g ≠ B ∧ w2.cell? ⟨g, p * 3 + 1, none⟩ = some (.string s0) ∧ w2.cell? ⟨g, p * 3 + 2, none⟩ = some (.int .i64 (oldF F n).safe) ∧
      w2.frozen? ⟨g, p * 3 + 1, none⟩ = false ∧ w2.frozen? ⟨g, p * 3 + 2, none⟩ = false ∧
      (∀ (W : World) (d' : ByteArray), Like W (w2.setCell ⟨g, p * 3 + 1, none⟩ (.string d')) → (oldF F n).safe ≤ d'.size → d'.size ≤ 140737488355328 → Rv W B T2 (putF F ⟨n, d', (oldF F n).safe⟩) left2 off2 v2 ∧ Fr w2 W T2) ∧
      (∀ (W : World) (d' : ByteArray) (s : Nat), Like W ((w2.setCell ⟨g, p * 3 + 1, none⟩ (.string d')).setCell ⟨g, p * 3 + 2, none⟩ (.int .i64 s)) → s ≤ d'.size → d'.size ≤ 140737488355328 → Rv W B T2 (putF F ⟨n, d', s⟩) left2 off2 v2 ∧ Fr w2 W T2) := by
  obtain ⟨hl, hat⟩ := mk_at h0.rise n
  obtain ⟨g, cap, rfl⟩ := h2.form (by omega)
  obtain ⟨_, c1, c2⟩ := h2.at' hl
  have hget : (mkF F n)[placeF F n].data = (oldF F n).data ∧ (mkF F n)[placeF F n].safe = (oldF F n).safe := by rw [hat]; exact ⟨rfl, rfl⟩
  rw [hget.1] at c1
  rw [hget.2] at c2
  refine ⟨g, cap, _, _, _, rfl, rfl, rfl, hl, h2.few, h2.c0, fun e => h2.neR (k := g) rfl e.symm, c1, c2, h2.own.frozenAt _, h2.own.frozenAt _, ?_, ?_⟩
  · intro W d' hW hs hb
    obtain ⟨hst, hgr⟩ := h2.own.stored (placeF F n * 3 + 1) (.string d')
    rw [flat3_set1 _ _ hl, hat, mk_put h0.rise] at hst
    have hlen : (mkF F n).length = (putF F ⟨n, d', (oldF F n).safe⟩).length := by rw [← mk_put h0.rise, List.length_set]
    have hfr : Fr w2 W (fun k => (Value.slice (some ⟨g, 0, none⟩) (mkF F n).length cap).ownBlock = some k) :=
      ⟨hW.os.trans hgr.os, hW.tape.trans hgr.tape, hW.output.trans hgr.output, by rw [hW.heap]; exact hgr.size, fun k hk hr => by rw [hW.heap]; exact hgr.block k hk (fun q => hr q.symm)⟩
    exact ⟨h0.relay h2 hfr (own_like hst (fun k _ => by rw [hW.heap])) hlen rfl hs hb hn hfew, hfr.mono (fun k hk => h2.covR k hk)⟩
  · intro W d' s hW hs hb
    obtain ⟨hst, hgr⟩ := h2.own.stored (placeF F n * 3 + 1) (.string d')
    obtain ⟨hst2, hgr2⟩ := hst.stored (placeF F n * 3 + 2) (.int .i64 s)
    have hl2 : placeF F n < ((mkF F n).set (placeF F n) ⟨n, d', (oldF F n).safe⟩).length := by rw [List.length_set]; exact hl
    rw [flat3_set1 _ _ hl, hat, flat3_set2 _ _ hl2] at hst2
    simp only [List.getElem_set_self, List.set_set] at hst2
    rw [mk_put h0.rise] at hst2
    have hlen : (mkF F n).length = (putF F ⟨n, d', s⟩).length := by rw [← mk_put h0.rise, List.length_set]
    have hfr : Fr w2 W (fun k => (Value.slice (some ⟨g, 0, none⟩) (mkF F n).length cap).ownBlock = some k) :=
      ⟨hW.os.trans (hgr2.os.trans hgr.os), hW.tape.trans (hgr2.tape.trans hgr.tape), hW.output.trans (hgr2.output.trans hgr.output), by rw [hW.heap]; exact Nat.le_trans hgr.size hgr2.size, fun k hk hr => by
        rw [hW.heap]
        exact (hgr2.block k (Nat.lt_of_lt_of_le hk hgr.size) (fun q => hr q.symm)).trans (hgr.block k hk (fun q => hr q.symm))⟩
    exact ⟨h0.relay h2 hfr (own_like hst2 (fun k _ => by rw [hW.heap])) hlen rfl hs hb hn hfew, hfr.mono (fun k hk => h2.covR k hk)⟩

theorem rappend_off (h : Rv w B T F left true v) (n d : ByteArray) : Calls Try.prog 32 #[.pointer (some ⟨B, 0, none⟩), .string n, .string d] w fun e w' => e = .returned (.int .i64 50) ∧ w' = w := by
  have hb := begin_off h
  go_enter Try.func32, Try.ntmps32
  go_wp2_with fail
  refine hb.mono ?_
  rintro e w' ⟨rfl, rfl⟩
  go_wp2
  go_ret
  exact ⟨rfl, rfl⟩

set_option maxHeartbeats 2000000 in
set_option maxRecDepth 100000 in
theorem rappend_goes (h : Rv w B T F 1 false v) (hn : n.size ≤ maxLen) (hd : (oldF F n).data.size + d.size ≤ 140737488355328) (hfew : F.length < 900000) :
    Calls Try.prog 32 #[.pointer (some ⟨B, 0, none⟩), .string n, .string d] w fun e w' => e = .returned (.int .i64 50) ∧ Rd w' B (Gro T w w') (appF F n d) 1 true ∧ Fr w w' T := by
  have hb := begin_goes h
  have hlt := h.lt
  have hos := (h.oldSafe n).1
  go_enter Try.func32, Try.ntmps32
  go_wp2_with fail
  refine hb.mono ?_
  rintro e w1 ⟨rfl, h1, hf1, hz1⟩
  clear hz1
  go_wp2_with fail
  refine (make_any h1 hn hfew).mono ?_
  rintro e w2 ⟨rfl, v2, h2, hf2⟩
  obtain ⟨g, cap, L, p, s0, rfl, hp, hs0, hpl, hL, c0, hgB, c1, _, f1, _, hput, _⟩ := h1.made h2 hn hfew
  obtain ⟨s1, hs1⟩ : ∃ s1, s0 ++ d = s1 := ⟨_, rfl⟩
  have q0 : (0 : Int) ≤ p := by omega
  have q1 : (p : Int) < L := by omega
  have q2 : (L : Int) ≤ 900000 := by omega
  have HA : Hid (appF F n d = putF F ⟨n, s1, (oldF F n).safe⟩) := by
    show appF F n d = _
    rw [← hs1, ← hs0]
    rfl
  rw [hs0] at hd hos
  have hsz : s1.size = s0.size + d.size := by rw [← hs1]; exact ByteArray.size_append
  have HZ := Lib.hid hsz
  rw [hp]
  clear hp hs0 hsz
  go_wp2
  go_region
  all_goals
    go_wp2
    go_ret
    rw [HA.out]
    have hp3 := fun W hW => hput W s1 hW (by rw [HZ.out]; omega) (by rw [HZ.out]; omega)
    refine ⟨rfl, Rd.over hlt (S := Gro T w1 w2) (fun k q => ?_) (hf1.trans hf2) (hp3 (w2.setCell ⟨g, p * 3 + 1, none⟩ (.string s1)).drew ⟨rfl, rfl, rfl, rfl⟩).2 (hp3 (w2.setCell ⟨g, p * 3 + 1, none⟩ (.string s1)).drew ⟨rfl, rfl, rfl, rfl⟩).1⟩
    rcases q with q | q
    · exact .inl q
    · exact .inr (Nat.le_trans hf1.size q.1)

set_option maxHeartbeats 2000000 in
set_option maxRecDepth 100000 in
theorem rappend_on (h : Rv w B T F left false v) (hl : left ≠ 1) (hn : n.size ≤ maxLen) (hd : (oldF F n).data.size + d.size ≤ 140737488355328) (hfew : F.length < 900000) :
    Calls Try.prog 32 #[.pointer (some ⟨B, 0, none⟩), .string n, .string d] w fun e w' => e = .returned (.int .i64 0) ∧ Rd w' B (Gro T w w') (appF F n d) (leftB left) false ∧ Fr w w' T := by
  have hb := begin_on h hl
  have hlt := h.lt
  have hos := (h.oldSafe n).1
  go_enter Try.func32, Try.ntmps32
  go_wp2_with fail
  refine hb.mono ?_
  rintro e w1 ⟨rfl, h1, hf1, hz1⟩
  clear hz1
  go_wp2_with fail
  refine (make_any h1 hn hfew).mono ?_
  rintro e w2 ⟨rfl, v2, h2, hf2⟩
  obtain ⟨g, cap, L, p, s0, rfl, hp, hs0, hpl, hL, c0, hgB, c1, _, f1, _, hput, _⟩ := h1.made h2 hn hfew
  obtain ⟨s1, hs1⟩ : ∃ s1, s0 ++ d = s1 := ⟨_, rfl⟩
  have q0 : (0 : Int) ≤ p := by omega
  have q1 : (p : Int) < L := by omega
  have q2 : (L : Int) ≤ 900000 := by omega
  have HA : Hid (appF F n d = putF F ⟨n, s1, (oldF F n).safe⟩) := by
    show appF F n d = _
    rw [← hs1, ← hs0]
    rfl
  rw [hs0] at hd hos
  have hsz : s1.size = s0.size + d.size := by rw [← hs1]; exact ByteArray.size_append
  have HZ := Lib.hid hsz
  rw [hp]
  clear hp hs0 hsz
  go_wp2
  go_region
  all_goals
    go_wp2
    go_ret
    rw [HA.out]
    have hp3 := fun W hW => hput W s1 hW (by rw [HZ.out]; omega) (by rw [HZ.out]; omega)
    refine ⟨rfl, Rd.over hlt (S := Gro T w1 w2) (fun k q => ?_) (hf1.trans hf2) (hp3 (w2.setCell ⟨g, p * 3 + 1, none⟩ (.string s1)).drew ⟨rfl, rfl, rfl, rfl⟩).2 (hp3 (w2.setCell ⟨g, p * 3 + 1, none⟩ (.string s1)).drew ⟨rfl, rfl, rfl, rfl⟩).1⟩
    rcases q with q | q
    · exact .inl q
    · exact .inr (Nat.le_trans hf1.size q.1)

theorem rswap_off (h : Rv w B T F left true v) (n d : ByteArray) : Calls Try.prog 27 #[.pointer (some ⟨B, 0, none⟩), .string n, .string d] w fun e w' => e = .returned (.int .i64 50) ∧ w' = w := by
  have hb := begin_off h
  go_enter Try.func27, Try.ntmps27
  go_wp2_with fail
  refine hb.mono ?_
  rintro e w' ⟨rfl, rfl⟩
  go_wp2
  go_ret
  exact ⟨rfl, rfl⟩
theorem rswap_goes (h : Rv w B T F 1 false v) (n d : ByteArray) : Calls Try.prog 27 #[.pointer (some ⟨B, 0, none⟩), .string n, .string d] w fun e w' => e = .returned (.int .i64 50) ∧ Rv w' B T F 1 true v ∧ Fr w w' T := by
  have hb := begin_goes h
  go_enter Try.func27, Try.ntmps27
  go_wp2_with fail
  refine hb.mono ?_
  rintro e w' ⟨rfl, h1, hf1, _⟩
  go_wp2
  go_ret
  exact ⟨rfl, h1, hf1⟩
set_option maxHeartbeats 2000000 in
set_option maxRecDepth 100000 in
theorem rswap_on (h : Rv w B T F left false v) (hl : left ≠ 1) (hn : n.size ≤ maxLen) (hd : d.size ≤ 140737488355328) (hfew : F.length < 900000) :
    Calls Try.prog 27 #[.pointer (some ⟨B, 0, none⟩), .string n, .string d] w fun e w' => e = .returned (.int .i64 0) ∧ Rd w' B (Gro T w w') (swpF F n d) (leftB left) false ∧ Fr w w' T := by
  have hb := begin_on h hl
  have hlt := h.lt
  go_enter Try.func27, Try.ntmps27
  go_wp2_with fail
  refine hb.mono ?_
  rintro e w1 ⟨rfl, h1, hf1, hz1⟩
  clear hz1
  go_wp2_with fail
  refine (make_any h1 hn hfew).mono ?_
  rintro e w2 ⟨rfl, v2, h2, hf2⟩
  obtain ⟨g, cap, L, p, s0, rfl, hp, hs0, hpl, hL, c0, hgB, c1, c2, f1, f2, _, hput⟩ := h1.made h2 hn hfew
  have q0 : (0 : Int) ≤ p := by omega
  have q1 : (p : Int) < L := by omega
  have q2 : (L : Int) ≤ 900000 := by omega
  have hBg : B ≠ g := Ne.symm hgB
  rw [hp]
  clear hp hs0
  go_wp2
  go_ret
  have hp3 := fun W hW => hput W d d.size hW (Nat.le_refl _) hd
  refine ⟨rfl, Rd.over hlt (S := Gro T w1 w2) (fun k q => ?_) (hf1.trans hf2) (hp3 _ ⟨rfl, rfl, rfl, rfl⟩).2 (hp3 _ ⟨rfl, rfl, rfl, rfl⟩).1⟩
  rcases q with q | q
  · exact .inl q
  · exact .inr (Nat.le_trans hf1.size q.1)
end
end Go.Proofs.Ytoipmpaebngppaa
