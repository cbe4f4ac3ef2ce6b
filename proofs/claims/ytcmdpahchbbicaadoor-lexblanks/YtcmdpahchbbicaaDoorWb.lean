/- The walks of strings.HasPrefix at a quote, strings.Clone, strconv.ParseInt's contracts, past. -/
import Derived.Test.YtcmdpahchbbicaaDoorWa
import Derived.Test.YtcmdpahchbbicaaDoorShelf
import Derived.Test.YtcmdpahchbbicaaDoorLa
import Derived.Lib.Bytealg
import Derived.Stop.LaidErr
namespace Go.Proofs.YtcmdpahchbbicaaDoor
open Go.RowKit

theorem var_on {n : String} {cs : Array Value} {w w' : World} (hv : w.var? Tryd.prog n = some cs) (hb : Below w.heap.size w w') : w'.var? Tryd.prog n = some cs := by
  unfold World.var? at *
  cases hg : Tryd.prog.globalNamed n with
  | none => simp [hg] at hv
  | some g =>
    simp only [hg, Option.bind_some] at hv ⊢
    have hlt : g < w.heap.size := by
      rcases Nat.lt_or_ge g w.heap.size with h' | h'
      · exact h'
      · rw [Array.getElem?_eq_none h'] at hv
        simp at hv
    rw [hb.block g hlt]
    exact hv
/-- What the walks want of the package-level variables, whatever is done above B. -/
def Gd (B : Nat) (w : World) : Prop := (∃ tp p, ∀ w', Below B w w' → w'.var? Tryd.prog "strconv.ErrSyntax" = some #[.iface tp p]) ∧ (∃ tp p, ∀ w', Below B w w' → w'.var? Tryd.prog "strconv.ErrRange" = some #[.iface tp p])
theorem Gd.on {B : Nat} {w w' : World} (h : Gd B w) (hb : Below B w w') : Gd B w' :=
  ⟨h.1.elim fun tp h => h.elim fun p h => ⟨tp, p, fun w2 h2 => h w2 (hb.trans h2)⟩, h.2.elim fun tp h => h.elim fun p h => ⟨tp, p, fun w2 h2 => h w2 (hb.trans h2)⟩⟩
theorem Gd.of {w : World} (h1 : ∃ tp p, w.var? Tryd.prog "strconv.ErrSyntax" = some #[.iface tp p]) (h2 : ∃ tp p, w.var? Tryd.prog "strconv.ErrRange" = some #[.iface tp p]) : Gd w.heap.size w :=
  ⟨h1.elim fun tp h => h.elim fun p h => ⟨tp, p, fun _ hb => var_on h hb⟩, h2.elim fun tp h => h.elim fun p h => ⟨tp, p, fun _ hb => var_on h hb⟩⟩

theorem below_bytes (w : World) (e : TypeId) (s : ByteArray) : Below w.heap.size w (Lib.bytesWorld w e s) :=
  ⟨rfl, rfl, rfl, by rw [Lib.bytesWorld_size]; omega, fun k hk => Lib.bytesWorld_at_old w e s k hk⟩
theorem parse_ok (s : ByteArray) (hs : s.size ≤ 1024) (v : Int) (h : Lib.parseIntB 64 s.data.toList = .ok v) (w : World) :
    Calls Tryd.prog 28 #[.string s, .int .i64 10, .int .i64 64] w fun e w' => e = .returned (.tuple #[.int .i64 v, .nilIface]) ∧ Below w.heap.size w w' := by
  have c : Calls Tryd.prog 28 #[.string s, .int .i64 10, .int .i64 64] w _ := Any.strconv_ParseInt_10_at64_ok Tryd.laysC174 s (by omega) v h w
  refine c.mono ?_
  rintro e w' ⟨rfl, rfl | ⟨t, rfl⟩⟩
  · exact ⟨rfl, Below.refl _ _⟩
  · exact ⟨rfl, below_bytes _ _ _⟩
theorem parse_no (s : ByteArray) (hs : s.size ≤ 1024) (h : ∀ v, Lib.parseIntB 64 s.data.toList ≠ .ok v) (w : World) {B : Nat} (hg : Gd B w) :
    Calls Tryd.prog 28 #[.string s, .int .i64 10, .int .i64 64] w fun e w' => ∃ n N, e = .returned (.tuple #[.int .i64 n, .iface 70 (.pointer (some ⟨N, 0, none⟩))]) ∧ Below w.heap.size w w' := by
  cases hp : Lib.parseIntB 64 s.data.toList
  · exact absurd hp (h _)
  · obtain ⟨tp, p, hv⟩ := hg.1
    have c : Calls Tryd.prog 28 #[.string s, .int .i64 10, .int .i64 64] w _ := Any.strconv_ParseInt_10_at64_syntax_var Tryd.laysC174 s (by omega) hp tp p w (hv w (Below.refl _ _))
    refine c.mono ?_
    rintro e w' ⟨N, rfl, _, _, hb⟩
    exact ⟨_, N, rfl, hb⟩
  · obtain ⟨tp, p, hv⟩ := hg.2
    have c : Calls Tryd.prog 28 #[.string s, .int .i64 10, .int .i64 64] w _ := Any.strconv_ParseInt_10_at64_range_var Tryd.laysC174 s (by omega) hp tp p w (hv w (Below.refl _ _))
    refine c.mono ?_
    rintro e w' ⟨N, rfl, _, _, hb⟩
    exact ⟨_, N, rfl, hb⟩

def inS (t : ByteArray) (c : UInt8) : Bool := decide (0 ≤ Lib.indexByte t.data.toList c)
theorem index_any (t : ByteArray) (c : UInt8) (w : World) : Calls Tryd.prog 22 #[.string t, .int .u8 c.toNat] w fun e w' => e = .returned (.int .i64 (Lib.indexByte t.data.toList c)) ∧ w' = w := by
  have h : Calls Tryd.prog 22 #[.string t, .int .u8 c.toNat] w _ := Any.strings_IndexByte Tryd.lays137 t c.toNat w
  have e : ((c.toNat : Int).toNat.toUInt8) = c := by simp
  rw [e] at h
  exact h
set_option maxHeartbeats 1000000 in
theorem clone_any (s : ByteArray) (w : World) (hs : s.size ≤ 1024) : Calls Tryd.prog 32 #[.string s] w fun e w' => e = .returned (.string s) ∧ Below w.heap.size w w' := by
  have hcl : ∀ X, Calls Tryd.prog 37 #[.string s] X fun e w' => e = .returned (.string s) ∧ Below X.heap.size X w' := fun X => Any.stringslite_Clone Tryd.laysM316 s X (by omega)
  have HC := Lib.hid hcl
  clear hcl
  go_enter Tryd.func32, Tryd.ntmps32
  go_wp2_with (go_at_call 37; refine (HC.out _).mono ?_; rintro e w1 ⟨rfl, hb1⟩; refine Hid.out ?_)
  refine Lib.hid ?_
  go_wp2
  go_ret
  exact ⟨rfl, hb1⟩
end Go.Proofs.YtcmdpahchbbicaaDoor
