/- The walk of keys.Encode: every list's key, or why there is none. -/
import Derived.Test.YtbepekgaipipjaaWc
import Derived.Test.YtbepekgaipipjaaVa
namespace Go.Proofs.Ytbepekgaipipjaa
open Go.RowKit

def rightV (x : V) : Bool := rightB x.k x.n x.s

/-- The list lies in the world, where the slice leads to. -/
structure Li (L : List V) (ad : Option Addr) (w : World) : Prop where
  at' : ∀ i (h : i < L.length), ∃ b o, ad = some ⟨b, o, none⟩ ∧ b < w.heap.size ∧ w.cell? ⟨b, o + i * 3, none⟩ = some (.int .i64 L[i].k) ∧ w.cell? ⟨b, o + i * 3 + 1, none⟩ = some (.int .i64 L[i].n) ∧ w.cell? ⟨b, o + i * 3 + 2, none⟩ = some (.string L[i].s)

theorem Li.on {L : List V} {ad : Option Addr} {w w' : World} (h : Li L ad w) (hb : Below w.heap.size w w') : Li L ad w' := by
  refine ⟨fun i hi => ?_⟩
  obtain ⟨b, o, ha, hl, c0, c1, c2⟩ := h.at' i hi
  have hc := (bcell hb).1
  exact ⟨b, o, ha, Nat.lt_of_lt_of_le hl hb.size, by rw [hc _ _ hl]; exact c0, by rw [hc _ _ hl]; exact c1, by rw [hc _ _ hl]; exact c2⟩
theorem Li.nil (ad : Option Addr) (w : World) : Li [] ad w := ⟨fun i h => absurd h (by simp)⟩

/-- Its numbers are whole numbers of 64 bits. -/
structure Fits (L : List V) : Prop where
  at' : ∀ v ∈ L, Fit v.n

def encS (L : List V) : List UInt8 := if 8 < L.length then [] else if L.all rightV then encL L else []
def encE (L : List V) : Int := if 8 < L.length then 21 else if L.all rightV then 0 else 10

theorem toL (s : ByteArray) : s.toList = s.data.toList := Lib.toList_data s

theorem right_of {v : V} (h : rightV v = true) (hf : Fit v.n) : Right v := by
  refine ⟨hf.lo, hf.hi, ?_⟩
  unfold rightV rightB at h
  split at h
  · rename_i hk
    left
    simp only [Bool.and_eq_true, beq_iff_eq, List.isEmpty_iff, toL] at hk h
    exact ⟨hk, h.1, h.2⟩
  · split at h
    · rename_i hk
      right; left
      simp only [beq_iff_eq, List.isEmpty_iff, toL] at hk h
      exact ⟨hk, h⟩
    · right; right
      simp only [Bool.and_eq_true, beq_iff_eq, decide_eq_true_eq] at h
      refine ⟨h.1.1, h.1.2, ?_⟩
      have := h.2
      simp
      omega
theorem rightV_of {v : V} (h : Right v) : rightV v = true := by
  unfold rightV rightB
  rcases h.kinds with ⟨k, n, s⟩ | ⟨k, s⟩ | ⟨k, n, s⟩
  · rw [k, n, toL, s]; rfl
  · rw [k, toL, s]; rfl
  · rw [k, n]
    have e : v.s.size = v.s.data.toList.length := by simp
    simp
    omega

theorem enc1_len {v : V} (h : Right v) : (enc1 v).length ≤ 131 := by
  rcases h.kinds with ⟨k, n, s⟩ | ⟨k, s⟩ | ⟨k, n, s⟩
  · rw [enc_null k]; simp
  · rw [enc_num k]; simp [be_len]
  · rw [enc_text k]
    have := esc_le v.s.data.toList
    simp only [List.length_cons, List.length_append, List.length_nil]
    omega
theorem encL_len : ∀ (L : List V), (∀ v ∈ L, Right v) → (encL L).length ≤ 131 * L.length
  | [], _ => by simp [encL]
  | v :: L, h => by
    have h1 := enc1_len (h v (by simp))
    have h2 := encL_len L (fun v hv => h v (by simp [hv]))
    rw [encL_cons, List.length_append, List.length_cons]
    omega
theorem encL_step (L : List V) (k : Nat) (h : k < L.length) : encL (L.take (k + 1)) = encL (L.take k) ++ enc1 L[k] := by
  rw [List.take_succ_eq_append_getElem h, encL_append]
  show _ ++ (enc1 L[k] ++ []) = _
  rw [List.append_nil]

theorem conv_own {B : Nat} {v : Value} {l : List UInt8} {w : World} (h : w.ownsRow B 5 1 v l.length (Lib.byteCells l)) : (Go.convert 87 9 v).run Try.prog w = .ok (.string ⟨l.toArray⟩) w := by
  rcases h.2 with ⟨hv, h0⟩ | ⟨g, cap, cur, hv, _, _, _⟩
  · have : l = [] := by simpa using h0
    subst this
    subst hv
    exact run_convert_bytes_nil (P := Try.prog) w 87 5 Try.underlying87 Try.underlying5 0 0 9 Try.underlying9
  · subst hv
    exact run_convert_bytes_back (P := Try.prog) w 87 9 5 ⟨g, 0, none⟩ cap l Try.underlying87 Try.underlying5 Try.underlying9 (fun j hj => h.cells (g := g) rfl j _ (by simp [Lib.byteCells, hj]))

theorem box_cells {w w1 : World} {x y z : Value} {t : TypeId} (hb : Below (w.alloc (.cells #[x, y, z] t)).heap.size (w.alloc (.cells #[x, y, z] t)) w1) :
    w1.cell? ⟨w.heap.size, 0, none⟩ = some x ∧ w1.cell? ⟨w.heap.size, 1, none⟩ = some y ∧ w1.cell? ⟨w.heap.size, 2, none⟩ = some z ∧ w.heap.size < w1.heap.size := by
  have h := (bcell hb).1
  have hz := hb.size
  refine ⟨?_, ?_, ?_, ?_⟩
  · rw [h _ _ (by simp)]; simp
  · rw [h _ _ (by simp)]; simp
  · rw [h _ _ (by simp)]; simp
  · simp at hz; omega

set_option maxHeartbeats 2000000 in
set_option maxRecDepth 100000 in
theorem encode_long (L : List V) (ad : Option Addr) (cap : Nat) (w : World) (hlen : 8 < L.length) :
    Calls Try.prog 51 #[.slice ad L.length cap] w fun e w' => e = .returned (.tuple #[.string ⟨#[]⟩, .int .i64 21]) ∧ Below w.heap.size w w' := by
  have t1 : ((L.length : Nat) : Int) > 8 := by omega
  go_enter Try.func51, Try.ntmps51
  go_wp2
  go_ret2
  exact ⟨rfl, Below.refl _ _⟩

set_option maxHeartbeats 4000000 in
set_option maxRecDepth 100000 in
theorem encode_short (L : List V) (ad : Option Addr) (cap : Nat) (w : World) (hL : Li L ad w) (hf : Fits L) (hlen : L.length ≤ 8) :
    Calls Try.prog 51 #[.slice ad L.length cap] w fun e w' => e = .returned (.tuple #[.string ⟨(encS L).toArray⟩, .int .i64 (encE L)]) ∧ Below w.heap.size w w' := by
  have t1 : ¬ ((L.length : Nat) : Int) > 8 := by omega
  go_enter Try.func51, Try.ntmps51
  go_wp2
  go_loopw [4, 13] (fun v i wr => ∃ k : Nat, k ≤ L.length ∧ i = .int .i64 k ∧ wr.ownsRow w.heap.size 5 1 v (encL (L.take k)).length (Lib.byteCells (encL (L.take k))) ∧ Below w.heap.size w wr ∧ Hid (∀ v ∈ L.take k, Right v)) (fun _ i _ => L.length - (intOf i).toNat)
  case atStart => exact ⟨0, by omega, rfl, World.ownsRow_nil _ _ _ _, Below.refl _ _, fun v hv => by simp at hv⟩
  case round =>
    obtain ⟨k, hk, rfl, hown, hb, HRt⟩ := hrel
    have hsz := hb.size
    have hln : (encL (L.take k)).length ≤ 2000 := by
      have h1 := encL_len _ HRt.out
      have h2 : (L.take k).length ≤ k := List.length_take_le _ _
      omega
    by_cases hlt : k < L.length
    · obtain ⟨b, o, rfl, hbl, c0, c1, c2⟩ := (hL.on hb).at' k hlt
      obtain ⟨x, hx⟩ : ∃ x, x = L[k] := ⟨_, rfl⟩
      rw [← hx] at c0 c1 c2
      have HX := Lib.hid hx
      clear hx
      cases hr : rightV x
      · have HE : Hid (encS L = [] ∧ encE L = 10) := by
          have : L.all rightV = false := by
            rw [List.all_eq_false]
            exact ⟨L[k], List.getElem_mem _, by rw [← HX.out, hr]; simp⟩
          unfold encS encE
          show _ ∧ _
          have h8 : ¬ 8 < L.length := by omega
          rw [if_neg h8, if_neg h8, this]
          exact ⟨rfl, rfl⟩
        go_wp2_with (go_at_call 57; refine (check_any _ _ _ _).mono ?_; rw [show rightB x.k x.n x.s = false from hr]; rintro e w1 ⟨rfl, hb1⟩; refine Hid.out ?_)
        refine Lib.hid ?_
        go_wp2
        go_ret2
        rw [HE.out.1, HE.out.2]
        exact ⟨rfl, (hb.alloc hsz _).trans (hb1.mono (by simp; omega))⟩
      · have hxr : Right x := right_of hr (by rw [HX.out]; exact hf.at' _ (List.getElem_mem _))
        have HXR := Lib.hid hxr
        clear hxr
        go_wp2_with (go_at_call 57; refine (check_any _ _ _ _).mono ?_; rw [show rightB x.k x.n x.s = true from hr]; rintro e w1 ⟨rfl, hb1⟩; refine Hid.out ?_)
        refine Lib.hid ?_
        obtain ⟨d0, d1, d2, hz⟩ := box_cells hb1
        have hw1 : Below w.heap.size w w1 := (hb.alloc hsz _).trans (hb1.mono (by simp; omega))
        have hown1 : w1.ownsRow w.heap.size 5 1 _ _ _ := own_below (hown.alloc (.cells #[.int .i64 x.k, .int .i64 x.n, .string x.s] 23)) hb1
        go_wp2_with (go_at_call 58; refine (appendValue_any _ _ w.heap.size x _ HXR.out hown1 hw1.size (by omega)).mono ?_; rintro e w2 ⟨v2, rfl, hown2, hb2⟩; refine Hid.out ?_)
        refine Lib.hid ?_
        go_wp2
        refine ⟨⟨k + 1, by omega, by go_num, ?_, hw1.trans hb2, ?_⟩, by simp [intOf]; omega⟩
        · rw [encL_step L k hlt, ← HX.out]
          exact hown2
        · intro v hv
          rw [List.take_succ_eq_append_getElem hlt, List.mem_append] at hv
          rcases hv with hv | hv
          · exact HRt.out v hv
          · simp at hv
            rw [hv, ← HX.out]
            exact HXR.out
    · have hk' : L.take k = L := List.take_of_length_le (by omega)
      rw [hk'] at hown
      have HE : Hid (encS L = encL L ∧ encE L = 0) := by
        have : L.all rightV = true := by
          rw [List.all_eq_true]
          intro v hv
          exact rightV_of (HRt.out v (by rw [hk']; exact hv))
        unfold encS encE
        show _ ∧ _
        have h8 : ¬ 8 < L.length := by omega
        rw [if_neg h8, if_neg h8, this]
        exact ⟨rfl, rfl⟩
      have hcv := conv_own hown
      go_wp2
      go_ret2
      rw [HE.out.1, HE.out.2]
      exact ⟨rfl, hb⟩

theorem encode_any (L : List V) (ad : Option Addr) (cap : Nat) (w : World) (hL : Li L ad w) (hf : Fits L) :
    Calls Try.prog 51 #[.slice ad L.length cap] w fun e w' => e = .returned (.tuple #[.string ⟨(encS L).toArray⟩, .int .i64 (encE L)]) ∧ Below w.heap.size w w' := by
  by_cases h : 8 < L.length
  · have e1 : encS L = [] := if_pos h
    have e2 : encE L = 21 := if_pos h
    rw [e1, e2]
    exact encode_long L ad cap w h
  · exact encode_short L ad cap w hL hf (by omega)
end Go.Proofs.Ytbepekgaipipjaa
