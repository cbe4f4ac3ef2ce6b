/- Commands read: what is behind GetCommand. -/
import Derived.Test.YtjhgmncmcklnkaaVNd
import Derived.Test.YtjhgmncmcklnkaaVKr
namespace Go.Proofs.Ytjhgmncmcklnkaa
open Go.RowKit

set_option maxHeartbeats 8000000 in
set_option maxRecDepth 100000 in
theorem get_command (w : World) (s : ByteArray) (hl : s.size ≤ 1000000000) : Calls Try.prog 37 #[.string s, .func (.func 36) #[] #[]] w fun e w' => GetAns w w' commandT s e := by
  have hcall := command_any (get_pre w commandT 47 s hl)
  have ez : zvS commandT = #[.int .i64 0, .int .i64 0, .int .i64 0, .int .i64 0, .int .i64 0, .int .i64 0, .int .i64 0, .int .i64 0, .slice none 0 0, .slice none 0 0, .int .i64 0, .int .i64 0, .int .i64 0, .int .i64 0, .int .i64 0, .int .i64 0, .string ⟨#[]⟩, .string ⟨#[]⟩, .string ⟨#[]⟩, .string ⟨#[]⟩, .bool false, .int .i64 0, .int .i64 0, .int .i64 0, .string ⟨#[]⟩, .slice none 0 0, .int .i64 0, .int .i64 0, .string ⟨#[]⟩, .int .i64 0] := rfl
  have HF := Lib.hid (fun w1 => get_post (w := w) (w' := w1) (t := commandT) (ty := 47) (s := s))
  have HEZ := Lib.hid ez
  rw [ez] at hcall
  clear hl
  go_enter Try.func37, Try.ntmps37
  go_wp2_with (go_at_call 36; refine hcall.mono ?_; rintro e w1 ⟨rfl, q⟩; refine Hid.out ?_)
  refine Lib.hid ?_
  rw [← HEZ.out] at q
  obtain ⟨hb, hR, hN, vs, bad, r, hX, hvs, hkd, c3, c2, hbad, hok⟩ := HF.out w1 q
  clear q hcall HF ez
  have hZK := zvS_kinds commandT
  obtain ⟨Z, hZ⟩ : ∃ Z, Z = zvS commandT := ⟨_, rfl⟩
  rw [← hZ] at hR hN hZK
  have hZs : Z.size = 30 := by rw [hZ]; rfl
  have hvs' : vs.size = 30 := hvs
  have sZ : (Try.prog.info? 47).map (·.size) = some Z.size := by rw [hZs]; exact size47
  have sV : (Try.prog.info? 47).map (·.size) = some vs.size := by rw [hvs']; exact size47
  have oZ := kinds_one (t := commandT) hZs hZK
  have oV := kinds_one (t := commandT) hvs hkd
  have HBB := Lib.hid hb
  have HBAD := Lib.hid hbad
  have HOK := Lib.hid hok
  have HKD := Lib.hid hkd
  have HZK := Lib.hid hZK
  have HZ := Lib.hid hZ
  have HSZ := Lib.hid hZs
  have HSV := Lib.hid hvs
  clear hb hbad hok hkd hZK hZ HEZ
  cases bad with
  | true =>
    have HBD := Lib.hid (HBAD.out (.inl rfl))
    clear HBAD HOK
    have lv := load_row hN Try.underlying47 rfl sZ
    have st := store_row (us := Z) (ty := 47) hR rfl sZ oZ
    obtain ⟨W, hW, hWR, hWk, hWs, h1, h2, h3⟩ := sets_row hR Z rfl
    rw [← hW] at st
    have lr := load_var hWR Try.underlying47 rfl sZ
    clear hW hR hN hX hWR hZs hvs hvs' sZ sV oZ oV
    go_wp2_with (first | (refine wpl_load _ rfl (by simp [Act.eval]) lv ?_) | (refine wpl_store _ _ rfl (by simp [Act.eval, Act.put]) (by simp [Act.eval, Act.put]) st ?_))
    refine bodyPost_ret (results_cell Try.results37 rfl lr) rfl ?_
    have hbF : Below w.heap.size w W := ⟨h1.trans HBB.out.os, h2.trans HBB.out.tape, h3.trans HBB.out.output, by rw [hWs]; exact HBB.out.size, fun k hk => (hWk k (by omega)).trans (HBB.out.block k hk)⟩
    exact ⟨Z, 100, rfl, HSZ.out, HZK.out, hbF, .inr ⟨rfl, HZ.out, HBD.out⟩⟩
  | false =>
    by_cases hr : r = ⟨#[]⟩
    · subst hr
      have HO := Lib.hid (HOK.out rfl rfl)
      clear HBAD HOK
      have lv := load_row hX Try.underlying47 rfl sV
      have st := store_row (us := vs) (ty := 47) hR (by omega) sV oV
      obtain ⟨W, hW, hWR, hWk, hWs, h1, h2, h3⟩ := sets_row hR vs (by omega)
      rw [← hW] at st
      have lr := load_var hWR Try.underlying47 rfl sV
      clear hW hR hN hX hWR hZs hvs hvs' sZ sV oZ oV
      go_wp2_with (first | (refine wpl_load _ rfl (by simp [Act.eval]) lv ?_) | (refine wpl_store _ _ rfl (by simp [Act.eval, Act.put]) (by simp [Act.eval, Act.put]) st ?_))
      refine bodyPost_ret (results_cell Try.results37 rfl lr) rfl ?_
      have hbF : Below w.heap.size w W := ⟨h1.trans HBB.out.os, h2.trans HBB.out.tape, h3.trans HBB.out.output, by rw [hWs]; exact HBB.out.size, fun k hk => (hWk k (by omega)).trans (HBB.out.block k hk)⟩
      obtain ⟨y, y1, y2, y3⟩ := HO.out
      exact ⟨vs, 0, rfl, HSV.out, HKD.out, hbF, .inl ⟨rfl, y, y1, y2, valsS_keeps ⟨by rw [hWs]; exact Nat.le_refl _, fun k hk hs => ⟨hWk k (fun e => hs (by omega)), fun q => hs (by omega)⟩⟩ y3⟩⟩
    · have hrb := not_empty hr
      have HBD := Lib.hid (HBAD.out (.inr hr))
      clear HBAD HOK
      have lv := load_row hN Try.underlying47 rfl sZ
      have st := store_row (us := Z) (ty := 47) hR rfl sZ oZ
      obtain ⟨W, hW, hWR, hWk, hWs, h1, h2, h3⟩ := sets_row hR Z rfl
      rw [← hW] at st
      have lr := load_var hWR Try.underlying47 rfl sZ
      clear hW hR hN hX hWR hZs hvs hvs' sZ sV oZ oV
      go_wp2_with (first | (refine wpl_load _ rfl (by simp [Act.eval]) lv ?_) | (refine wpl_store _ _ rfl (by simp [Act.eval, Act.put]) (by simp [Act.eval, Act.put]) st ?_))
      refine bodyPost_ret (results_cell Try.results37 rfl lr) rfl ?_
      have hbF : Below w.heap.size w W := ⟨h1.trans HBB.out.os, h2.trans HBB.out.tape, h3.trans HBB.out.output, by rw [hWs]; exact HBB.out.size, fun k hk => (hWk k (by omega)).trans (HBB.out.block k hk)⟩
      exact ⟨Z, 100, rfl, HSZ.out, HZK.out, hbF, .inr ⟨rfl, HZ.out, HBD.out⟩⟩
end Go.Proofs.Ytjhgmncmcklnkaa
