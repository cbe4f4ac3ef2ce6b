/- GetCommand. -/
import Derived.Test.YtjhgmncmcklnkaaVNg
import Derived.Test.YtjhgmncmcklnkaaVKr
namespace Go.Proofs.Ytjhgmncmcklnkaa
open Go.RowKit

set_option maxHeartbeats 8000000 in
set_option maxRecDepth 100000 in
theorem Get_command (w : World) (s : ByteArray) (hl : s.size ≤ 1000000000) : Calls Try.prog 17 #[.string s] w fun e w' => GetAns w w' commandT s e := by
  have hcall := get_command (w.alloc (.cells #[.int .i64 0, .int .i64 0, .int .i64 0, .int .i64 0, .int .i64 0, .int .i64 0, .int .i64 0, .int .i64 0, .slice none 0 0, .slice none 0 0, .int .i64 0, .int .i64 0, .int .i64 0, .int .i64 0, .int .i64 0, .int .i64 0, .string ⟨#[]⟩, .string ⟨#[]⟩, .string ⟨#[]⟩, .string ⟨#[]⟩, .bool false, .int .i64 0, .int .i64 0, .int .i64 0, .string ⟨#[]⟩, .slice none 0 0, .int .i64 0, .int .i64 0, .string ⟨#[]⟩, .int .i64 0] 47)) s hl
  have hR0 := heap_alloc_new w (.cells #[.int .i64 0, .int .i64 0, .int .i64 0, .int .i64 0, .int .i64 0, .int .i64 0, .int .i64 0, .int .i64 0, .slice none 0 0, .slice none 0 0, .int .i64 0, .int .i64 0, .int .i64 0, .int .i64 0, .int .i64 0, .int .i64 0, .string ⟨#[]⟩, .string ⟨#[]⟩, .string ⟨#[]⟩, .string ⟨#[]⟩, .bool false, .int .i64 0, .int .i64 0, .int .i64 0, .string ⟨#[]⟩, .slice none 0 0, .int .i64 0, .int .i64 0, .string ⟨#[]⟩, .int .i64 0] 47)
  have hb0 : Below w.heap.size w (w.alloc (.cells #[.int .i64 0, .int .i64 0, .int .i64 0, .int .i64 0, .int .i64 0, .int .i64 0, .int .i64 0, .int .i64 0, .slice none 0 0, .slice none 0 0, .int .i64 0, .int .i64 0, .int .i64 0, .int .i64 0, .int .i64 0, .int .i64 0, .string ⟨#[]⟩, .string ⟨#[]⟩, .string ⟨#[]⟩, .string ⟨#[]⟩, .bool false, .int .i64 0, .int .i64 0, .int .i64 0, .string ⟨#[]⟩, .slice none 0 0, .int .i64 0, .int .i64 0, .string ⟨#[]⟩, .int .i64 0] 47)) := (Below.refl _ _).alloc (Nat.le_refl _) _
  have HR00 := Lib.hid hR0
  have HB0 := Lib.hid hb0
  clear hR0 hb0 hl
  go_enter Try.func17, Try.ntmps17
  go_wp2_with (go_at_call 37; refine hcall.mono ?_; rintro e w1 ⟨vs, c, rfl, hvs, hkd, hb, hor⟩; refine Hid.out ?_)
  refine Lib.hid ?_
  clear hcall
  have hR : w1.heap[w.heap.size]? = some (.cells #[.int .i64 0, .int .i64 0, .int .i64 0, .int .i64 0, .int .i64 0, .int .i64 0, .int .i64 0, .int .i64 0, .slice none 0 0, .slice none 0 0, .int .i64 0, .int .i64 0, .int .i64 0, .int .i64 0, .int .i64 0, .int .i64 0, .string ⟨#[]⟩, .string ⟨#[]⟩, .string ⟨#[]⟩, .string ⟨#[]⟩, .bool false, .int .i64 0, .int .i64 0, .int .i64 0, .string ⟨#[]⟩, .slice none 0 0, .int .i64 0, .int .i64 0, .string ⟨#[]⟩, .int .i64 0] 47 (0, 0)) := (hb.block _ (by simp)).trans HR00.out
  have hvs' : vs.size = 30 := hvs
  have sV : (Try.prog.info? 47).map (·.size) = some vs.size := by rw [hvs']; exact size47
  have oV := kinds_one (t := commandT) hvs hkd
  have st := store_row (us := vs) (ty := 47) hR hvs' sV oV
  obtain ⟨W, hW, hWR, hWk, hWs, h1, h2, h3⟩ := sets_row hR vs hvs'
  rw [← hW] at st
  have lr := load_var hWR Try.underlying47 rfl sV
  have HBB : Hid (Below w.heap.size w w1) := bel_trans HB0.out hb
  have HOR := Lib.hid hor
  have HKD := Lib.hid hkd
  have HSV := Lib.hid hvs
  clear hW hR hWR hvs hvs' sV oV hb hor hkd
  go_wp2_with (refine wpl_store _ _ rfl (by simp [Act.eval]) (by simp [Act.eval]) st ?_)
  refine bodyPost_ret (results_cell Try.results17 rfl lr) rfl ?_
  have hbF : Below w.heap.size w W := ⟨h1.trans HBB.out.os, h2.trans HBB.out.tape, h3.trans HBB.out.output, by rw [hWs]; exact HBB.out.size, fun k hk => (hWk k (by omega)).trans (HBB.out.block k hk)⟩
  refine ⟨vs, c, rfl, HSV.out, HKD.out, hbF, ?_⟩
  rcases HOR.out with ⟨q1, y, y1, y2, y3⟩ | q
  · exact .inl ⟨q1, y, y1, y2, valsS_keeps ⟨by rw [hWs]; exact Nat.le_refl _, fun k hk hs => ⟨hWk k (fun e => hs (by simp; omega)), fun q => hs (by simp; omega)⟩⟩ y3⟩
  · exact .inr q
end Go.Proofs.Ytjhgmncmcklnkaa
