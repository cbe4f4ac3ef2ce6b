import Derived.Test.YtongmhfpoopebaaGreatQMe
import Derived.RegionTactic
namespace Go.Proofs.YtongmhfpoopebaaGreat
open Go.RowKit Go.Maps
abbrev Vd (b:Bool) (x:Value):Value:=match b with
 | true=>x
 | false=>undef
section
variable {w : World}
set_option maxHeartbeats 160000000 in
set_option maxRecDepth 100000 in
theorem steps_lawN {kd S0 E0:Int} {s:Sc} {tv:Value} {d:Dd} {da:Option Addr} {dc:Nat} (hkd:d.kind=kd) (hk9:(kd=1∧S0=0∧E0=3) ∨ (kd=2∧S0=0∧E0=3) ∨ (kd=3∧S0=3∧E0=0) ∨ (kd=4∧S0=0∧E0=3) ∨ (kd=5∧S0=3∧E0=0) ∨ (kd=6∧S0=0∧E0=3) ∨ (kd=7∧S0=3∧E0=0)) (hL:Lr tbE 5 w s.tabs tv) (hI:ScIn s) (hQ:ScQ s) (hd:Lr colE 7 w d.cols (.slice da d.cols.length dc)) (hdz:d.cols.length * 72≤140737488355328):Calls Tryz.prog 5 #[scV s tv,.agg #[.int .i64 kd,.string d.table,.string d.name,.string d.column,.string d.parent,.bool d.uq,.int .i64 d.ty,.int .i64 d.df.k,.int .i64 d.df.n,.string d.df.s,.slice da d.cols.length dc]] w fun e w'=>e=.returned (.bool true)∧Below w.heap.size w w':=by
 rcases hk9 with ⟨hk9,hs9,he9⟩ | ⟨hk9,hs9,he9⟩ | ⟨hk9,hs9,he9⟩ | ⟨hk9,hs9,he9⟩ | ⟨hk9,hs9,he9⟩ | ⟨hk9,hs9,he9⟩ | ⟨hk9,hs9,he9⟩
 all_goals
  have HK9:=lh hk9
  have HS0:=lh hs9
  have HE0:=lh he9
  clear hk9 hs9 he9
  obtain ⟨c2,hc2⟩:∃ c:Bool,decide (2≤kd)=c:=⟨_,rfl⟩
  obtain ⟨c5,hc5⟩:∃ c:Bool,decide (kd≤5)=c:=⟨_,rfl⟩
  have HX2:=lh hc2
  have HX5:=lh hc5
  clear hc2 hc5
  obtain ⟨ta,tc,rfl,hr0⟩:=hL
  have hL:Lr tbE 5 w s.tabs (.slice ta s.tabs.length tc):=⟨ta,tc,rfl,hr0⟩
  obtain ⟨dd,hdd⟩:∃ dd:Array Value,dd=#[.int .i64 kd,.string d.table,.string d.name,.string d.column,.string d.parent,.bool d.uq,.int .i64 d.ty,.int .i64 d.df.k,.int .i64 d.df.n,.string d.df.s,.slice da d.cols.length dc]:=⟨_,rfl⟩
  obtain ⟨W,hW⟩:∃ W,W=(w.alloc (.cells #[.int .i64 s.ver,.int .i64 s.last,.slice ta s.tabs.length tc] 24)).alloc (.cells dd 31):=⟨_,rfl⟩
  have hbW:Below w.heap.size w W:=by rw [hW];exact ((Below.refl _ w).alloc (Nat.le_refl _) _).alloc (by simp) _
  obtain ⟨Y0,hY0⟩:∃ Y0,w.heap.size=Y0:=⟨_,rfl⟩
  obtain ⟨Y1,hY1⟩:∃ Y1,Y0+1=Y1:=⟨_,rfl⟩
  have j0:W.heap[Y0]?=some (.cells (scA s (.slice ta s.tabs.length tc)) 24 (0,0)):=by
   have:=heap_alloc_new w (.cells #[.int .i64 s.ver,.int .i64 s.last,.slice ta s.tabs.length tc] 24)
   rw [hW,← hY0,Below.heap_alloc _ _ _ (by simp only [World.size_alloc];omega)]
   exact this
  have j1:W.heap[Y1]?=some (.cells dd 31 (0,0)):=by
   have:=heap_alloc_new (w.alloc (.cells #[.int .i64 s.ver,.int .i64 s.last,.slice ta s.tabs.length tc] 24)) (.cells dd 31)
   simp only [World.size_alloc] at this
   rw [hW,← hY1,← hY0]
   exact this
  have haw:=awake_any W
  have HGR:Hid (∀ X,Below w.heap.size w X→Calls Tryz.prog 8 #[.agg #[.int .i64 s.ver,.int .i64 s.last,.slice ta s.tabs.length tc],.agg #[.int .i64 kd,.string d.table,.string d.name,.string d.column,.string d.parent,.bool d.uq,.int .i64 d.ty,.int .i64 d.df.k,.int .i64 d.df.n,.string d.df.s,.slice da d.cols.length dc]] X (GrAns X (s.tabs.length+d.cols.length+cntN s.tabs≤300))):=lh fun X hX=>by
   rw [← hkd]
   refine great_any (hL.on tbE_held hX) (by have:=hQ.n;omega) (by omega) (fun t ht=>?_)
   have:=hQ.t t ht
   have:=this.c
   have:=(hQ.t t ht).i
   have:=(hQ.t t ht).k
   unfold cntT
   omega
  obtain ⟨rk,hrk⟩:∃ rk:Int,(if rightS s=true then (0:Int) else 100)=rk:=⟨_,rfl⟩
  have HCK:Hid (∀ X,Below w.heap.size w X→Calls Tryz.prog 13 #[.agg #[.int .i64 s.ver,.int .i64 s.last,.slice ta s.tabs.length tc]] X fun e w'=>e=.returned (.int .i64 rk)∧Below X.heap.size X w'):=lh fun X hX=>hrk ▸ checkS_any (hL.on tbE_held hX) (fun t ht i hi=>by
   have h:=hI.t t ht
   unfold idsT at hi
   rw [List.mem_cons,List.mem_append,List.mem_append] at hi
   rcases hi with rfl | (hi | hi) | hi
   ·exact h.id
   ·obtain ⟨x,hx,rfl⟩:=List.mem_map.1 hi
    exact (h.c x hx).id
   ·obtain ⟨x,hx,rfl⟩:=List.mem_map.1 hi
    exact (h.i x hx).id
   ·obtain ⟨x,hx,rfl⟩:=List.mem_map.1 hi
    exact (h.k x hx).id)
  have HST:Hid (∀ (X:World) (u:Sc) (uv:Value) (n:Int),Lr tbE 5 X u.tabs uv→stateP u d=n→Calls Tryz.prog 17 #[scV u uv,.agg dd] X fun e w'=>e=.returned (.int .i64 n)∧Below X.heap.size X w'):=lh fun X u uv n hu hn=>by
   rw [hdd,← hkd,← hn]
   exact state_ref hu
  have HPA:Hid (∀ (X:World) (b:Bool),Calls Tryz.prog 18 #[.agg dd,.bool b] X (MvAns X (pathP kd b))):=lh fun X b=>by
   rw [hdd]
   exact path_any X _ kd b rfl
  have HWK:Hid (∀ (X:World) (u:Sc) (uv:Value) (L:List Mv) (pa:Option Addr) (pc:Nat),Below w.heap.size w X→Lr tbE 5 X u.tabs uv→Lr mvE 2 X L (.slice pa L.length pc)→L.length≤100→wkI u d L→d.cols.length≤1000000→Calls Tryz.prog 19 #[scV u uv,.agg dd,.slice pa L.length pc] X (WkAns X (u :: (wk u d L).1) (wk u d L).2)):=lh fun X u uv L pa pc hX h1 h2 h3 h4 h5=>by
   rw [hdd,← hkd]
   exact walked_any h1 (hd.on colE_held hX) h5 h2 h3 h4
  have HWO:Hid (∀ (X:World) (u:Sc) (uv:Value),Lr tbE 5 X u.tabs uv→Few u.tabs→Calls Tryz.prog 20 #[scV u uv,.agg dd] X fun e w'=>∃ tv',e=.returned (scV (withoutP u d) tv')∧Lr tbE 5 w' (withoutP u d).tabs tv'∧Below X.heap.size X w'):=lh fun X u uv hu hf=>by
   rw [hdd,← hkd]
   exact without_ref hu hf
  have HL0:=lh hL
  have HRK:=lh hrk
  have HI:=lh hI
  have HW:=lh hW
  have HBW:=lh hbW
  have HY0:=lh hY0
  have HY1:=lh hY1
  have HDD:=lh hdd
  have HKD:=lh hkd
  have JW0:=lh j0
  have JW1:=lh j1
  clear hW hbW hY0 hY1 j0 j1 hrk hL hr0 hI hQ hd hdz hkd
  go_enter Tryz.func5,Tryz.ntmps5
  rw [← hdd]
  clear hdd
  go_upto_region 1 with fail
  rw [← HW.out,HY0.out,HY1.out]
  go_wp2_with (go_at_call 7;refine haw.mono ?_;rintro e w1 ⟨rfl,b1⟩;refine Hid.out ?_)
  refine lh ?_
  have HB1:=lh (bgo HBW.out b1)
  have JY0:Hid (w1.heap[Y0]?=some (.cells (scA s (.slice ta s.tabs.length tc)) 24 (0,0))):=lh ((b1.block Y0 (blk_lt JW0.out)).trans JW0.out)
  have JY1:Hid (w1.heap[Y1]?=some (.cells dd 31 (0,0))):=lh ((b1.block Y1 (blk_lt JW1.out)).trans JW1.out)
  have hgr:=HGR.out w1 HB1.out
  clear haw b1 JW0 JW1 HGR
  have c0:w1.cell? ⟨Y0,0,none⟩=some (.int .i64 s.ver):=cell_blk JY0.out 0
  have c1:w1.cell? ⟨Y0,1,none⟩=some (.int .i64 s.last):=cell_blk JY0.out 1
  have c2:w1.cell? ⟨Y0,2,none⟩=some (.slice ta s.tabs.length tc):=cell_blk JY0.out 2
  have yd:=JY1.out
  rw [HDD.out] at yd
  have e0:w1.cell? ⟨Y1,0,none⟩=some (.int .i64 kd):=cell_blk yd 0
  have e1:w1.cell? ⟨Y1,1,none⟩=some (.string d.table):=cell_blk yd 1
  have e2:w1.cell? ⟨Y1,2,none⟩=some (.string d.name):=cell_blk yd 2
  have e3:w1.cell? ⟨Y1,3,none⟩=some (.string d.column):=cell_blk yd 3
  have e4:w1.cell? ⟨Y1,4,none⟩=some (.string d.parent):=cell_blk yd 4
  have e5:w1.cell? ⟨Y1,5,none⟩=some (.bool d.uq):=cell_blk yd 5
  have e6:w1.cell? ⟨Y1,6,none⟩=some (.int .i64 d.ty):=cell_blk yd 6
  have e7:w1.cell? ⟨Y1,7,none⟩=some (.int .i64 d.df.k):=cell_blk yd 7
  have e8:w1.cell? ⟨Y1,8,none⟩=some (.int .i64 d.df.n):=cell_blk yd 8
  have e9:w1.cell? ⟨Y1,9,none⟩=some (.string d.df.s):=cell_blk yd 9
  have e10:w1.cell? ⟨Y1,10,none⟩=some (.slice da d.cols.length dc):=cell_blk yd 10
  clear yd
  go_wp2_with (go_at_call 8;refine hgr.mono ?_;rintro e w2 ⟨g,rfl,hP,b2⟩;refine Hid.out ?_)
  refine lh ?_
  have HB2:=lh (bgo HB1.out b2)
  have HP:=lh hP
  clear c0 c1 c2 e0 e1 e2 e3 e4 e5 e6 e7 e8 e9 e10
  have JX0:Hid (w2.heap[Y0]?=some (.cells (scA s (.slice ta s.tabs.length tc)) 24 (0,0))):=lh ((b2.block Y0 (blk_lt JY0.out)).trans JY0.out)
  have JX1:Hid (w2.heap[Y1]?=some (.cells dd 31 (0,0))):=lh ((b2.block Y1 (blk_lt JY1.out)).trans JY1.out)
  clear JY0 JY1
  have JY0:=JX0
  have JY1:=JX1
  clear JX0 JX1
  clear hgr hP b2
  cases g with
  | true =>
   have haw:=awake_any w2
   go_wp2_with (go_at_call 7;refine haw.mono ?_;rintro e w9 ⟨rfl,b9⟩;refine Hid.out ?_)
   refine lh ?_
   have HB9:=lh (bgo HB2.out b9)
   clear haw b9
   go_wp2
   go_ret
   exact ⟨rfl,HB9.out⟩
  | false =>
   have c0:w2.cell? ⟨Y0,0,none⟩=some (.int .i64 s.ver):=cell_blk JY0.out 0
   have c1:w2.cell? ⟨Y0,1,none⟩=some (.int .i64 s.last):=cell_blk JY0.out 1
   have c2:w2.cell? ⟨Y0,2,none⟩=some (.slice ta s.tabs.length tc):=cell_blk JY0.out 2
   have yd:=JY1.out
   rw [HDD.out] at yd
   have e0:w2.cell? ⟨Y1,0,none⟩=some (.int .i64 kd):=cell_blk yd 0
   have e1:w2.cell? ⟨Y1,1,none⟩=some (.string d.table):=cell_blk yd 1
   have e2:w2.cell? ⟨Y1,2,none⟩=some (.string d.name):=cell_blk yd 2
   have e3:w2.cell? ⟨Y1,3,none⟩=some (.string d.column):=cell_blk yd 3
   have e4:w2.cell? ⟨Y1,4,none⟩=some (.string d.parent):=cell_blk yd 4
   have e5:w2.cell? ⟨Y1,5,none⟩=some (.bool d.uq):=cell_blk yd 5
   have e6:w2.cell? ⟨Y1,6,none⟩=some (.int .i64 d.ty):=cell_blk yd 6
   have e7:w2.cell? ⟨Y1,7,none⟩=some (.int .i64 d.df.k):=cell_blk yd 7
   have e8:w2.cell? ⟨Y1,8,none⟩=some (.int .i64 d.df.n):=cell_blk yd 8
   have e9:w2.cell? ⟨Y1,9,none⟩=some (.string d.df.s):=cell_blk yd 9
   have e10:w2.cell? ⟨Y1,10,none⟩=some (.slice da d.cols.length dc):=cell_blk yd 10
   clear yd
   have hck:=HCK.out w2 HB2.out
   go_wp2_with (go_at_call 13;refine hck.mono ?_;rintro e w3 ⟨rfl,b3⟩;refine Hid.out ?_)
   refine lh ?_
   have HB3:=lh (bgo HB2.out b3)
   clear c0 c1 c2 e0 e1 e2 e3 e4 e5 e6 e7 e8 e9 e10
   have JX0:Hid (w3.heap[Y0]?=some (.cells (scA s (.slice ta s.tabs.length tc)) 24 (0,0))):=lh ((b3.block Y0 (blk_lt JY0.out)).trans JY0.out)
   have JX1:Hid (w3.heap[Y1]?=some (.cells dd 31 (0,0))):=lh ((b3.block Y1 (blk_lt JY1.out)).trans JY1.out)
   clear JY0 JY1
   have JY0:=JX0
   have JY1:=JX1
   clear JX0 JX1
   clear hck b3 HCK
   cases hR:rightS s with
   | false =>
    have hk0:rk=100:=by rw [← HRK.out,hR];rfl
    subst hk0
    clear hR HRK
    have haw:=awake_any w3
    go_wp2_with (go_at_call 7;refine haw.mono ?_;rintro e w9 ⟨rfl,b9⟩;refine Hid.out ?_)
    refine lh ?_
    have HB9:=lh (bgo HB3.out b9)
    clear haw b9
    go_wp2
    go_ret
    exact ⟨rfl,HB9.out⟩
   | true =>
    have hk0:rk=0:=by rw [← HRK.out,hR];rfl
    subst hk0
    have HR:=lh hR
    clear hR HRK
    have c0:w3.cell? ⟨Y0,0,none⟩=some (.int .i64 s.ver):=cell_blk JY0.out 0
    have c1:w3.cell? ⟨Y0,1,none⟩=some (.int .i64 s.last):=cell_blk JY0.out 1
    have e0:w3.cell? ⟨Y1,0,none⟩=some (.int .i64 kd):=by
     have yd:=JY1.out
     rw [HDD.out] at yd
     exact cell_blk yd 0
    rw [HK9.out] at e0
    have hldS:(Instr.loadAt 24 (.pointer (some ⟨Y0,0,none⟩))).run Tryz.prog w3=.ok (.agg (scA s (.slice ta s.tabs.length tc))) w3:=load_row JY0.out Tryz.underlying24 rfl size24
    have hldD:(Instr.loadAt 31 (.pointer (some ⟨Y1,0,none⟩))).run Tryz.prog w3=.ok (.agg dd) w3:=load_row JY1.out Tryz.underlying31 rfl (by rw [HDD.out];exact size31)
    by_cases zv:562949953421312 < s.ver
    ·have zv':decide (562949953421312 < s.ver)=true:=decide_eq_true zv
     have haw:=awake_any w3
     go_wp2_with (go_at_call 7;refine haw.mono ?_;rintro e w9 ⟨rfl,b9⟩;refine Hid.out ?_)
     refine lh ?_
     have HB9:=lh (bgo HB3.out b9)
     clear haw b9
     go_wp2
     go_ret
     exact ⟨rfl,HB9.out⟩
    have zv':decide (562949953421312 < s.ver)=false:=decide_eq_false zv
    by_cases zl:562949953421312 < s.last
    ·have zl':decide (562949953421312 < s.last)=true:=decide_eq_true zl
     have haw:=awake_any w3
     go_wp2_with (go_at_call 7;refine haw.mono ?_;rintro e w9 ⟨rfl,b9⟩;refine Hid.out ?_)
     refine lh ?_
     have HB9:=lh (bgo HB3.out b9)
     clear haw b9
     go_wp2
     go_ret
     exact ⟨rfl,HB9.out⟩
    have zl':decide (562949953421312 < s.last)=false:=decide_eq_false zl
    have HV:Hid (s.ver≤562949953421312∧s.last≤562949953421312):=lh ⟨by omega,by omega⟩
    have HDC:Hid (d.cols.length≤300):=lh (by have:=HP.out trivial;omega)
    obtain ⟨sp,hsp⟩:∃ sp,stateP s d=sp:=⟨_,rfl⟩
    have hst:=HST.out w3 s (.slice ta s.tabs.length tc) sp (HL0.out.on tbE_held HB3.out) hsp
    have HSP:=lh hsp
    clear hsp
    go_wp2_with (first | (go_at_call 17;refine hst.mono ?_;rintro e w4 ⟨rfl,b4⟩;refine Hid.out ?_) | (refine wpl_load _ rfl (by first | rfl | (simp [Act.eval];done)) hldS ?_) | (refine wpl_load _ rfl (by first | rfl | (simp [Act.eval];done)) hldD ?_))
    refine lh ?_
    have HB4:=lh (bgo HB3.out b4)
    clear c0 c1 e0 hldS hldD zv zv' zl zl' hst
    have JX0:Hid (w4.heap[Y0]?=some (.cells (scA s (.slice ta s.tabs.length tc)) 24 (0,0))):=lh ((b4.block Y0 (blk_lt JY0.out)).trans JY0.out)
    have JX1:Hid (w4.heap[Y1]?=some (.cells dd 31 (0,0))):=lh ((b4.block Y1 (blk_lt JY1.out)).trans JY1.out)
    clear JY0 JY1
    have JY0:=JX0
    have JY1:=JX1
    clear JX0 JX1
    clear b4
    by_cases z0:sp=S0
    ·have z0':=z0.trans HS0.out
     clear z0
     subst z0'
     have c0:w4.cell? ⟨Y0,0,none⟩=some (.int .i64 s.ver):=cell_blk JY0.out 0
     have c1:w4.cell? ⟨Y0,1,none⟩=some (.int .i64 s.last):=cell_blk JY0.out 1
     have e0:w4.cell? ⟨Y1,0,none⟩=some (.int .i64 kd):=by
      have yd:=JY1.out
      rw [HDD.out] at yd
      exact cell_blk yd 0
     rw [HK9.out] at e0
     have hldS:(Instr.loadAt 24 (.pointer (some ⟨Y0,0,none⟩))).run Tryz.prog w4=.ok (.agg (scA s (.slice ta s.tabs.length tc))) w4:=load_row JY0.out Tryz.underlying24 rfl size24
     have hldD:(Instr.loadAt 31 (.pointer (some ⟨Y1,0,none⟩))).run Tryz.prog w4=.ok (.agg dd) w4:=load_row JY1.out Tryz.underlying31 rfl (by rw [HDD.out];exact size31)
     have HSS:=lh (steps_plain (d:=d) HR.out (by rw [HKD.out,HK9.out];first | exact .inl ⟨rfl,HSP.out⟩ | exact .inr ⟨rfl,HSP.out⟩) HV.out.1 HV.out.2)
     have hpa:=HPA.out w4 false
     go_wp2_with (first | (go_at_call 18;refine hpa.mono ?_;rintro e w5 ⟨pa,pc,rfl,hrow,b5⟩;refine Hid.out ?_) | (refine wpl_load _ rfl (by first | rfl | (simp [Act.eval];done)) hldS ?_) | (refine wpl_load _ rfl (by first | rfl | (simp [Act.eval];done)) hldD ?_))
     refine lh ?_
     have HB5:=lh (bgo HB4.out b5)
     clear c0 c1 e0 hldS hldD hpa
     have JX0:Hid (w5.heap[Y0]?=some (.cells (scA s (.slice ta s.tabs.length tc)) 24 (0,0))):=lh ((b5.block Y0 (blk_lt JY0.out)).trans JY0.out)
     have JX1:Hid (w5.heap[Y1]?=some (.cells dd 31 (0,0))):=lh ((b5.block Y1 (blk_lt JY1.out)).trans JY1.out)
     clear JY0 JY1
     have JY0:=JX0
     have JY1:=JX1
     clear JX0 JX1
     obtain ⟨n,hn⟩:∃ n,(pathP kd false).length=n:=⟨_,rfl⟩
     have hLm:Lr mvE 2 w5 (onP kd) (.slice pa n pc):=by rw [← hn];exact Lr.own mvL_len hrow
     rw [hn]
     have hn:(onP kd).length=n:=hn
     clear hrow b5
     have HSA:Hid (wkI s d (onP kd)∧(wk s d (onP kd)=([],false) ∨ ∃ l z,wk s d (onP kd)=(l,true)∧l.length=(onP kd).length∧NxAll s d s l∧(s :: l).getLast?=some z∧(1≤d.kind→d.kind≤7→stateP z d=if addK d.kind then 3 else 0))):=lh (by
      have h1:=HSS.out.ids
      have h2:=HSS.out.all
      rw [HKD.out] at h1 h2
      rw [HKD.out]
      exact ⟨h1,h2⟩)
     have hn5:n≤5:=by
      rw [← hn]
      unfold onP
      repeat' split
      all_goals simp
     have HWA:Hid (∀ X,Below w5.heap.size w5 X→Calls Tryz.prog 19 #[scV s (.slice ta s.tabs.length tc),.agg dd,.slice pa n pc] X (WkAns X (s :: (wk s d (onP kd)).1) (wk s d (onP kd)).2)):=lh fun X hX=>by
      have q:=HWK.out X s (.slice ta s.tabs.length tc) (onP kd) pa pc (bgo HB5.out hX) (HL0.out.on tbE_held (bgo HB5.out hX)) (by rw [hn];exact hLm.on mvE_held hX) (by omega) HSA.out.1 (by have:=HDC.out;omega)
      rw [hn] at q
      exact q
     have HN:=lh hn
     have HN5:=lh hn5
     clear hn hn5 hLm HWK HPA HSS
     have hwa:=HWA.out w5 (Below.refl _ _)
     clear HWA
     have c0:w5.cell? ⟨Y0,0,none⟩=some (.int .i64 s.ver):=cell_blk JY0.out 0
     have c1:w5.cell? ⟨Y0,1,none⟩=some (.int .i64 s.last):=cell_blk JY0.out 1
     have e0:w5.cell? ⟨Y1,0,none⟩=some (.int .i64 kd):=by
      have yd:=JY1.out
      rw [HDD.out] at yd
      exact cell_blk yd 0
     rw [HK9.out] at e0
     have hldS:(Instr.loadAt 24 (.pointer (some ⟨Y0,0,none⟩))).run Tryz.prog w5=.ok (.agg (scA s (.slice ta s.tabs.length tc))) w5:=load_row JY0.out Tryz.underlying24 rfl size24
     have hldD:(Instr.loadAt 31 (.pointer (some ⟨Y1,0,none⟩))).run Tryz.prog w5=.ok (.agg dd) w5:=load_row JY1.out Tryz.underlying31 rfl (by rw [HDD.out];exact size31)
     rcases HSA.out.2 with h | ⟨l,z,hwk,hll,hnx,hlast,hend⟩
     ·rw [h] at hwa
      clear h
      go_wp2_with (first | (go_at_call 19;refine hwa.mono ?_;rintro e w6 ⟨va,vc,rfl,h6,b6⟩;refine Hid.out ?_) | (refine wpl_load _ rfl (by first | rfl | (simp [Act.eval];done)) hldS ?_) | (refine wpl_load _ rfl (by first | rfl | (simp [Act.eval];done)) hldD ?_))
      refine lh ?_
      have HB6:=lh (bgo HB5.out b6)
      clear c0 c1 e0 hldS hldD hwa h6 b6
      go_wp2
      go_ret
      exact ⟨rfl,HB6.out⟩
     obtain ⟨k,hk⟩:∃ k,(s :: l).length=k:=⟨_,rfl⟩
     have hwa2:Calls Tryz.prog 19 #[scV s (.slice ta s.tabs.length tc),.agg dd,.slice pa n pc] w5 fun e w'=>∃ ad cap,e=.returned (.tuple #[.slice ad k cap,.bool true])∧Lr scE 3 w' (s :: l) (.slice ad k cap)∧Below w5.heap.size w5 w':=by
      rw [hwk] at hwa
      unfold WkAns at hwa
      simp only at hwa
      rw [hk] at hwa
      exact hwa
     have HK:Hid (k=n+1∧l.length=n):=lh (by
      have:=HN.out
      rw [this] at hll
      rw [List.length_cons] at hk
      exact ⟨by omega,hll⟩)
     have HLN:=lh hk
     have HNX:=lh hnx
     have HLA:=lh hlast
     have HEN:=lh hend
     clear hwa hwk hll hnx hlast hend hk HSA
     go_wp2_with (first | (go_at_call 19;refine hwa2.mono ?_;rintro e w6 ⟨va,vc,rfl,h6,b6⟩;refine Hid.out ?_) | (refine wpl_load _ rfl (by first | rfl | (simp [Act.eval];done)) hldS ?_) | (refine wpl_load _ rfl (by first | rfl | (simp [Act.eval];done)) hldD ?_))
     refine lh ?_
     have HB6:=lh (bgo HB5.out b6)
     clear c0 c1 e0 hldS hldD hwa2
     have JX0:Hid (w6.heap[Y0]?=some (.cells (scA s (.slice ta s.tabs.length tc)) 24 (0,0))):=lh ((b6.block Y0 (blk_lt JY0.out)).trans JY0.out)
     have JX1:Hid (w6.heap[Y1]?=some (.cells dd 31 (0,0))):=lh ((b6.block Y1 (blk_lt JY1.out)).trans JY1.out)
     clear JY0 JY1
     have JY0:=JX0
     have JY1:=JX1
     clear JX0 JX1
     obtain ⟨vb,vp,cs9,rfl,r9⟩:=cellsS h6 0 (by simp)
     clear r9
     have HS6:=lh h6
     have hkm:(k:Int)≤9223372036854775807:=by have:=HK.out;have:=HN5.out;omega
     have hnm:(n:Int)≤9223372036854775807:=by have:=HN5.out;omega
     clear b6 h6
     have c0:w6.cell? ⟨Y0,0,none⟩=some (.int .i64 s.ver):=cell_blk JY0.out 0
     have c1:w6.cell? ⟨Y0,1,none⟩=some (.int .i64 s.last):=cell_blk JY0.out 1
     have e0:w6.cell? ⟨Y1,0,none⟩=some (.int .i64 kd):=by
      have yd:=JY1.out
      rw [HDD.out] at yd
      exact cell_blk yd 0
     rw [HK9.out] at e0
     have hldS:(Instr.loadAt 24 (.pointer (some ⟨Y0,0,none⟩))).run Tryz.prog w6=.ok (.agg (scA s (.slice ta s.tabs.length tc))) w6:=load_row JY0.out Tryz.underlying24 rfl size24
     have hldD:(Instr.loadAt 31 (.pointer (some ⟨Y1,0,none⟩))).run Tryz.prog w6=.ok (.agg dd) w6:=load_row JY1.out Tryz.underlying31 rfl (by rw [HDD.out];exact size31)
     have hn0:n ≠ 0:=by
      rw [← HN.out,HK9.out]
      decide
     have k5:¬ (n:Int)=0:=by omega
     have k6:((n:Int) == 0)=false:=by simp;omega
     go_wp2
     clear k5 k6 c0 c1 e0 hldS hldD
     go_loopw [4,10] (fun rv iv wr=>∃ i:Nat,1≤i∧i≤k∧rv=.bool false∧iv=.int .i64 (i:Int)∧Below w6.heap.size w6 wr) (fun _ iv _=>k - (intOf iv).toNat)
     case atStart=>exact ⟨1,Nat.le_refl _,by have:=HK.out;omega,rfl,rfl,Below.refl _ _⟩
     case round =>
      obtain ⟨i,hi1,hi,rfl,rfl,hb⟩:=hrel
      obtain ⟨V,rfl⟩:∃ V,V=wr:=⟨_,rfl⟩
      have HBV:=lh hb
      have HBT:=lh (bgo HB6.out hb)
      have JX0:Hid (V.heap[Y0]?=some (.cells (scA s (.slice ta s.tabs.length tc)) 24 (0,0))):=lh ((hb.block Y0 (blk_lt JY0.out)).trans JY0.out)
      have JX1:Hid (V.heap[Y1]?=some (.cells dd 31 (0,0))):=lh ((hb.block Y1 (blk_lt JY1.out)).trans JY1.out)
      clear JY0 JY1
      have JY0:=JX0
      have JY1:=JX1
      clear JX0 JX1
      clear hb
      by_cases hlt:i < k
      ·skip
       obtain ⟨q,hq⟩:∃ q,i=q+1:=⟨i - 1,by omega⟩
       have HQ:=lh hq
       have hkl:k=l.length+1:=by have:=HLN.out;rw [List.length_cons] at this;omega
       have hql:q < l.length:=by omega
       obtain ⟨A,hA⟩:∃ A,(s :: l)[q]'(by rw [List.length_cons];omega)=A:=⟨_,rfl⟩
       obtain ⟨B,hB⟩:∃ B,l[q]=B:=⟨_,rfl⟩
       have hnx:=nx_at HNX.out q hql
       rw [hA,hB] at hnx
       have hB':(s :: l)[i]'(by rw [List.length_cons];omega)=B:=by
        rw [← hB]
        simp only [hq]
        rfl
       obtain ⟨av,hAL,hAv,hAl⟩:=sc_at HS6.out (by rw [List.length_cons];omega) hA
       obtain ⟨bv,hBL,hBv,hBl⟩:=sc_at HS6.out (by rw [List.length_cons];omega) hB'
       obtain ⟨sa,hsa⟩:∃ sa,stateP A d=sa:=⟨_,rfl⟩
       obtain ⟨sb,hsb⟩:∃ sb,stateP B d=sb:=⟨_,rfl⟩
       have HNQ:=lh hnx
       have HSN:Hid (((c2 && c5)=true→sb - sa≤1∧sa - sb≤1)∧0≤sa∧sa≤3∧0≤sb∧sb≤3):=lh (by
        have h1:=hnx.sa
        have h2:=hnx.sb
        rw [hsa] at h1
        rw [hsb] at h2
        refine ⟨fun hcc=>?_,by omega⟩
        rw [← HX2.out,← HX5.out,Bool.and_eq_true,decide_eq_true_eq,decide_eq_true_eq] at hcc
        have h3:=hnx.st (by rw [HKD.out];exact hcc.1) (by rw [HKD.out];exact hcc.2)
        rw [hsa,hsb] at h3
        omega)
       have HLA1:Hid (∀ X,Below V.heap.size V X→(Instr.loadAt 24 (.pointer (some ⟨vb,vp+q * 3,none⟩))).run Tryz.prog X=.ok (scV A av) X):=lh fun X hX=>hAl X (bgo HBV.out hX)
       have HLB1:Hid (∀ X,Below V.heap.size V X→(Instr.loadAt 24 (.pointer (some ⟨vb,vp+i * 3,none⟩))).run Tryz.prog X=.ok (scV B bv) X):=lh fun X hX=>hBl X (bgo HBV.out hX)
       have HVA:Hid (∀ X,Below V.heap.size V X→X.cell? ⟨vb,vp+q * 3,none⟩=some (.int .i64 A.ver)):=lh fun X hX=>cell_on (bgo HBV.out hX) hAv
       have HVB:Hid (∀ X,Below V.heap.size V X→X.cell? ⟨vb,vp+i * 3,none⟩=some (.int .i64 B.ver)):=lh fun X hX=>cell_on (bgo HBV.out hX) hBv
       have HC1:Hid (∀ X,Below V.heap.size V X→Calls Tryz.prog 17 #[scV A av,.agg dd] X fun e w'=>e=.returned (.int .i64 sa)∧Below X.heap.size X w'):=lh fun X hX=>HST.out X A av sa (hAL.on tbE_held (bgo HBV.out hX)) hsa
       have HC2:Hid (∀ X,Below V.heap.size V X→Calls Tryz.prog 17 #[scV B bv,.agg dd] X fun e w'=>e=.returned (.int .i64 sb)∧Below X.heap.size X w'):=lh fun X hX=>HST.out X B bv sb (hBL.on tbE_held (bgo HBV.out hX)) hsb
       have HC3:Hid (∀ X,Below V.heap.size V X→Calls Tryz.prog 12 #[scV B bv] X fun e w'=>e=.returned (.bool true)∧Below X.heap.size X w'):=lh fun X hX=>hnx.r ▸ right_ref (hBL.on tbE_held (bgo HBV.out hX))
       obtain ⟨U,hU⟩:∃ U,withoutP s d=U:=⟨_,rfl⟩
       have HC4:Hid (∀ X,Below V.heap.size V X→Calls Tryz.prog 20 #[scV B bv,.agg dd] X fun e w'=>∃ uv,e=.returned (scV U uv)∧Lr tbE 5 w' U.tabs uv∧Below X.heap.size X w'):=lh fun X hX=>by
        have q9:=HWO.out X B bv (hBL.on tbE_held (bgo HBV.out hX)) (right_few hnx.r)
        rw [hnx.wo,hU] at q9
        exact q9
       have HC5:Hid (∀ X,Below V.heap.size V X→Calls Tryz.prog 20 #[scV s (.slice ta s.tabs.length tc),.agg dd] X fun e w'=>∃ uv,e=.returned (scV U uv)∧Lr tbE 5 w' U.tabs uv∧Below X.heap.size X w'):=lh fun X hX=>by
        have q9:=HWO.out X s (.slice ta s.tabs.length tc) (HL0.out.on tbE_held (bgo HBT.out hX)) (right_few HR.out)
        rw [hU] at q9
        exact q9
       have HC6:Hid (∀ X uv uw,Lr tbE 5 X U.tabs uv→Lr tbE 5 X U.tabs uw→Calls Tryz.prog 11 #[scV U uv,scV U uw] X fun e w'=>e=.returned (.bool true)∧Below X.heap.size X w'):=lh fun X uv uw h1 h2=>same_any h1 h2 (hU ▸ withoutP_in HI.out) (hU ▸ without_text HR.out)
       have HVV:Hid (A.ver≤B.ver∧B.ver≤A.ver+1∧0≤A.ver∧A.ver≤562949953421322):=lh ⟨hnx.v.1,hnx.v.2,hnx.va.1,hnx.va.2⟩
       have HIK:Hid (i < k∧i≤6∧q < k):=lh (by have:=HK.out;have:=HN5.out;omega)
       have k1:(i:Int) < (k:Int):=by omega
       clear hq hkl hql hnx hA hB hB' hAL hAv hAl hBL hBv hBl hsa hsb hU
       go_upto_region 16 with fail
       refine wp_region_fb (fun _ X9=>Below V.heap.size V X9) (fun X9 X'=>Below X9.heap.size X9 X') [
        fun v9 _=>v9=.slice (some ⟨vb,vp,none⟩) k vc,
        fun v9 _=>v9=.int .i64 (i:Int),
        fun v9 _=>v9=.int .i64 (q:Int),
        fun v9 _=>v9=.pointer (some ⟨vb,vp+q * 3,none⟩),
        fun v9 _=>v9=scV A av,
        fun v9 _=>v9=.agg dd,
        fun v9 _=>v9=.int .i64 sa,
        fun v9 _=>v9=.slice (some ⟨vb,vp,none⟩) k vc,
        fun v9 _=>v9=.int .i64 (i:Int),
        fun v9 _=>v9=.pointer (some ⟨vb,vp+i * 3,none⟩),
        fun v9 _=>v9=scV B bv,
        fun v9 _=>v9=.agg dd,
        fun v9 _=>v9=.int .i64 sb,
        fun v9 _=>v9=.int .i64 sa,
        fun v9 _=>v9=.int .i64 sb]
        (by kernel_rfl) (by kernel_rfl) (by kernel_rfl) ?st ?g0 ?os ?en
       case st=>exact ⟨fun _ _ _ _ h=>h,fun _ _ _ _ h=>h,fun _ _ _ _ h=>h,fun _ _ _ _ h=>h,fun _ _ _ _ h=>h,fun _ _ _ _ h=>h,fun _ _ _ _ h=>h,fun _ _ _ _ h=>h,fun _ _ _ _ h=>h,fun _ _ _ _ h=>h,fun _ _ _ _ h=>h,fun _ _ _ _ h=>h,fun _ _ _ _ h=>h,fun _ _ _ _ h=>h,fun _ _ _ _ h=>h,trivial⟩
       case g0=>exact ⟨rfl,rfl,rfl,Nat.le_refl _,fun _ _=>rfl⟩
       case os =>
        refine ⟨?_,?_,?_,?_,?_,?_,?_,?_,?_,?_,?_,?_,?_,?_,?_,trivial⟩
        ·exact fun ρ X9 fl hg hn hl hp ho hc hf hr=>.inl ⟨rfl,Runs.val _ (op_move (show ρ (.tmp 8)=.slice (some ⟨vb,vp,none⟩) k vc from ho 8 rfl)) ⟨hg,Below.refl _ _,rfl⟩⟩
        ·exact fun ρ X9 fl hg hn hl hp ho hc hf hr=>.inl ⟨rfl,Runs.val _ (op_move (show ρ (.tmp 10)=.int .i64 (i:Int) from ho 10 rfl)) ⟨hg,Below.refl _ _,rfl⟩⟩
        ·exact fun ρ X9 fl hg hn hl hp ho hc hf hr=>.inl ⟨rfl,Runs.val _ (op_sub3s (show ρ (.tmp 103)=.int .i64 (i:Int) from hr 1 103 rfl rfl) (hc _) (by have:=HQ.out;omega) (by omega) (by have:=HIK.out;omega)) ⟨hg,Below.refl _ _,rfl⟩⟩
        ·exact fun ρ X9 fl hg hn hl hp ho hc hf hr=>.inl ⟨rfl,Runs.val _ (op_i55 (show ρ (.tmp 102)=.slice (some ⟨vb,vp,none⟩) k vc from hr 0 102 rfl rfl) (show ρ (.tmp 104)=.int .i64 (q:Int) from hr 2 104 rfl rfl) (by have:=HIK.out;omega)) ⟨hg,Below.refl _ _,rfl⟩⟩
        ·exact fun ρ X9 fl hg hn hl hp ho hc hf hr=>.inl ⟨rfl,Runs.val _ (op_loadAt (show ρ (.tmp 105)=.pointer (some ⟨vb,vp+q * 3,none⟩) from hr 3 105 rfl rfl) (HLA1.out X9 hg)) ⟨hg,Below.refl _ _,rfl⟩⟩
        ·exact fun ρ X9 fl hg hn hl hp ho hc hf hr=>.inl ⟨rfl,Runs.val _ (op_loadAt (show ρ (.tmp 3)=.pointer (some ⟨Y1,0,none⟩) from ho 3 rfl) (load_row ((hg.block Y1 (blk_lt JY1.out)).trans JY1.out) Tryz.underlying31 rfl (by rw [HDD.out];exact size31))) ⟨hg,Below.refl _ _,rfl⟩⟩
        ·refine fun ρ X9 fl hg hn hl hp ho hc hf hr=>.inl ⟨rfl,?_⟩
         refine Runs.goes 17 #[scV A av,.agg dd] (op_call2 hf (by go_simp) (show ρ (.tmp 106)=scV A av from hr 4 106 rfl rfl) (show ρ (.tmp 107)=.agg dd from hr 5 107 rfl rfl)) ((HC1.out X9 hg).mono ?_)
         rintro e7 w7 ⟨rfl,b7⟩
         exact ⟨_,rfl,bgo hg b7,b7,rfl⟩
        ·exact fun ρ X9 fl hg hn hl hp ho hc hf hr=>.inl ⟨rfl,Runs.val _ (op_move (show ρ (.tmp 8)=.slice (some ⟨vb,vp,none⟩) k vc from ho 8 rfl)) ⟨hg,Below.refl _ _,rfl⟩⟩
        ·exact fun ρ X9 fl hg hn hl hp ho hc hf hr=>.inl ⟨rfl,Runs.val _ (op_move (show ρ (.tmp 10)=.int .i64 (i:Int) from ho 10 rfl)) ⟨hg,Below.refl _ _,rfl⟩⟩
        ·exact fun ρ X9 fl hg hn hl hp ho hc hf hr=>.inl ⟨rfl,Runs.val _ (op_i55 (show ρ (.tmp 109)=.slice (some ⟨vb,vp,none⟩) k vc from hr 7 109 rfl rfl) (show ρ (.tmp 110)=.int .i64 (i:Int) from hr 8 110 rfl rfl) (by have:=HIK.out;omega)) ⟨hg,Below.refl _ _,rfl⟩⟩
        ·exact fun ρ X9 fl hg hn hl hp ho hc hf hr=>.inl ⟨rfl,Runs.val _ (op_loadAt (show ρ (.tmp 111)=.pointer (some ⟨vb,vp+i * 3,none⟩) from hr 9 111 rfl rfl) (HLB1.out X9 hg)) ⟨hg,Below.refl _ _,rfl⟩⟩
        ·exact fun ρ X9 fl hg hn hl hp ho hc hf hr=>.inl ⟨rfl,Runs.val _ (op_loadAt (show ρ (.tmp 3)=.pointer (some ⟨Y1,0,none⟩) from ho 3 rfl) (load_row ((hg.block Y1 (blk_lt JY1.out)).trans JY1.out) Tryz.underlying31 rfl (by rw [HDD.out];exact size31))) ⟨hg,Below.refl _ _,rfl⟩⟩
        ·refine fun ρ X9 fl hg hn hl hp ho hc hf hr=>.inl ⟨rfl,?_⟩
         refine Runs.goes 17 #[scV B bv,.agg dd] (op_call2 hf (by go_simp) (show ρ (.tmp 112)=scV B bv from hr 10 112 rfl rfl) (show ρ (.tmp 113)=.agg dd from hr 11 113 rfl rfl)) ((HC2.out X9 hg).mono ?_)
         rintro e7 w7 ⟨rfl,b7⟩
         exact ⟨_,rfl,bgo hg b7,b7,rfl⟩
        ·exact fun ρ X9 fl hg hn hl hp ho hc hf hr=>.inl ⟨rfl,Runs.val _ (op_assign (show ρ (.tmp 108)=.int .i64 sa from hr 6 108 rfl rfl)) ⟨hg,Below.refl _ _,rfl⟩⟩
        ·exact fun ρ X9 fl hg hn hl hp ho hc hf hr=>.inl ⟨rfl,Runs.val _ (op_assign (show ρ (.tmp 114)=.int .i64 sb from hr 12 114 rfl rfl)) ⟨hg,Below.refl _ _,rfl⟩⟩
       case en =>
        intro a9 N9 fl hfl b9 hs9 hd9 ho9 hr9
        obtain ⟨x9,hx,hxt⟩:=act_put hs9 hd9 ho9
        have p11:x9 11=.int .i64 sa:=(hxt 11).symm.trans (hr9 13 11 rfl)
        have p12:x9 12=.int .i64 sb:=(hxt 12).symm.trans (hr9 14 12 rfl)
        change a9=putAll _ x9 [102,103,104,105,106,107,108,109,110,111,112,113,114,11,12] at hx
        simp only [putAll,Act.put,List.setIfInBounds_toArray,List.set_cons_zero,List.set_cons_succ,p11,p12] at hx
        clear hs9 hd9 ho9 hr9 hxt hfl p11 p12
        subst hx
        generalize x9 102=z102,x9 103=z103,x9 104=z104,x9 105=z105,x9 106=z106,x9 107=z107,x9 108=z108,x9 109=z109,x9 110=z110,x9 111=z111,x9 112=z112,x9 113=z113,x9 114=z114
        obtain ⟨N,hN⟩:∃ N,N9=N:=⟨_,rfl⟩
        subst hN
        have HBX:=lh (bgo HBV.out b9)
        have HBY:=lh (bgo HBT.out b9)
        have HLA1':=lh fun X (hX:Below N9.heap.size N9 X)=>HLA1.out X (bgo b9 hX)
        have HLB1':=lh fun X (hX:Below N9.heap.size N9 X)=>HLB1.out X (bgo b9 hX)
        have HVA':=lh fun X (hX:Below N9.heap.size N9 X)=>HVA.out X (bgo b9 hX)
        have HVB':=lh fun X (hX:Below N9.heap.size N9 X)=>HVB.out X (bgo b9 hX)
        have HC1':=lh fun X (hX:Below N9.heap.size N9 X)=>HC1.out X (bgo b9 hX)
        have HC2':=lh fun X (hX:Below N9.heap.size N9 X)=>HC2.out X (bgo b9 hX)
        have HC3':=lh fun X (hX:Below N9.heap.size N9 X)=>HC3.out X (bgo b9 hX)
        have HC4':=lh fun X (hX:Below N9.heap.size N9 X)=>HC4.out X (bgo b9 hX)
        have HC5':=lh fun X (hX:Below N9.heap.size N9 X)=>HC5.out X (bgo b9 hX)
        have JX0:Hid (N9.heap[Y0]?=some (.cells (scA s (.slice ta s.tabs.length tc)) 24 (0,0))):=lh ((b9.block Y0 (blk_lt JY0.out)).trans JY0.out)
        have JX1:Hid (N9.heap[Y1]?=some (.cells dd 31 (0,0))):=lh ((b9.block Y1 (blk_lt JY1.out)).trans JY1.out)
        clear JY0 JY1
        have JY0:=JX0
        have JY1:=JX1
        clear JX0 JX1
        clear b9 HBV HBT HLA1 HLB1 HVA HVB HC1 HC2 HC3 HC4 HC5
        obtain ⟨V,hVN⟩:∃ V,V=N9:=⟨_,rfl⟩
        subst hVN
        have HBV:=HBX
        have HBT:=HBY
        have HLA1:=HLA1'
        have HLB1:=HLB1'
        have HVA:=HVA'
        have HVB:=HVB'
        have HC1:=HC1'
        have HC2:=HC2'
        have HC3:=HC3'
        have HC4:=HC4'
        have HC5:=HC5'
        clear HBX HBY HLA1' HLB1' HVA' HVB' HC1' HC2' HC3' HC4' HC5'
        go_upto_region 17 with fail
        refine wp_region_fb (fun _ X9=>Below V.heap.size V X9) (fun X9 X'=>Below X9.heap.size X9 X') [
         fun v9 _=>v9=.pointer (some ⟨Y1,0,none⟩),
         fun v9 _=>v9=.int .i64 kd,
         fun v9 _=>v9=.bool c2,
         fun v9 _=>v9=.bool c2,
         fun v9 _=>v9=Vd c2 (.pointer (some ⟨Y1,0,none⟩)),
         fun v9 _=>v9=Vd c2 (.int .i64 kd),
         fun v9 _=>v9=Vd c2 (.bool c5),
         fun v9 _=>v9=.bool (c2 && c5),
         fun v9 _=>v9=.bool (c2 && c5),
         fun v9 _=>v9=Vd (c2 && c5) (.int .i64 sb),
         fun v9 _=>v9=Vd (c2 && c5) (.int .i64 sa),
         fun v9 _=>v9=Vd (c2 && c5) (.int .i64 (sb - sa)),
         fun v9 _=>v9=Vd (c2 && c5) (.bool false),
         fun v9 _=>v9=Vd (c2 && c5) (.bool false),
         fun v9 _=>v9=Vd (c2 && c5) (.int .i64 sa),
         fun v9 _=>v9=Vd (c2 && c5) (.int .i64 sb),
         fun v9 _=>v9=Vd (c2 && c5) (.int .i64 (sa - sb)),
         fun v9 _=>v9=Vd (c2 && c5) (.bool false),
         fun v9 _=>v9=Vd (c2 && c5) (.bool false),
         fun v9 _=>v9=.bool false,
         fun v9 _=>v9=.bool false,
         fun v9 _=>v9=.slice (some ⟨vb,vp,none⟩) k vc,
         fun v9 _=>v9=.int .i64 (i:Int),
         fun v9 _=>v9=.pointer (some ⟨vb,vp+i * 3,none⟩),
         fun v9 _=>v9=scV B bv,
         fun v9 _=>v9=.bool true,
         fun v9 _=>v9=.bool false,
         fun v9 _=>v9=.bool false,
         fun v9 _=>v9=.bool false,
         fun v9 _=>v9=.slice (some ⟨vb,vp,none⟩) k vc,
         fun v9 _=>v9=.int .i64 (i:Int),
         fun v9 _=>v9=.pointer (some ⟨vb,vp+i * 3,none⟩),
         fun v9 _=>v9=.pointer (some ⟨vb,vp+i * 3,none⟩),
         fun v9 _=>v9=.int .i64 B.ver,
         fun v9 _=>v9=.slice (some ⟨vb,vp,none⟩) k vc,
         fun v9 _=>v9=.int .i64 (i:Int),
         fun v9 _=>v9=.int .i64 (q:Int),
         fun v9 _=>v9=.pointer (some ⟨vb,vp+q * 3,none⟩),
         fun v9 _=>v9=.pointer (some ⟨vb,vp+q * 3,none⟩),
         fun v9 _=>v9=.int .i64 A.ver,
         fun v9 _=>v9=.bool false,
         fun v9 _=>v9=.bool false,
         fun v9 _=>v9=.bool false,
         fun v9 _=>v9=.slice (some ⟨vb,vp,none⟩) k vc,
         fun v9 _=>v9=.int .i64 (i:Int),
         fun v9 _=>v9=.pointer (some ⟨vb,vp+i * 3,none⟩),
         fun v9 _=>v9=.pointer (some ⟨vb,vp+i * 3,none⟩),
         fun v9 _=>v9=.int .i64 B.ver,
         fun v9 _=>v9=.slice (some ⟨vb,vp,none⟩) k vc,
         fun v9 _=>v9=.int .i64 (i:Int),
         fun v9 _=>v9=.int .i64 (q:Int),
         fun v9 _=>v9=.pointer (some ⟨vb,vp+q * 3,none⟩),
         fun v9 _=>v9=.pointer (some ⟨vb,vp+q * 3,none⟩),
         fun v9 _=>v9=.int .i64 A.ver,
         fun v9 _=>v9=.int .i64 (A.ver+1),
         fun v9 _=>v9=.bool false,
         fun v9 _=>v9=.bool false]
         (by kernel_rfl) (by kernel_rfl) (by kernel_rfl) ?st ?g0 ?os ?en
        case st=>exact ⟨fun _ _ _ _ h=>h,fun _ _ _ _ h=>h,fun _ _ _ _ h=>h,fun _ _ _ _ h=>h,fun _ _ _ _ h=>h,fun _ _ _ _ h=>h,fun _ _ _ _ h=>h,fun _ _ _ _ h=>h,fun _ _ _ _ h=>h,fun _ _ _ _ h=>h,fun _ _ _ _ h=>h,fun _ _ _ _ h=>h,fun _ _ _ _ h=>h,fun _ _ _ _ h=>h,fun _ _ _ _ h=>h,fun _ _ _ _ h=>h,fun _ _ _ _ h=>h,fun _ _ _ _ h=>h,fun _ _ _ _ h=>h,fun _ _ _ _ h=>h,fun _ _ _ _ h=>h,fun _ _ _ _ h=>h,fun _ _ _ _ h=>h,fun _ _ _ _ h=>h,fun _ _ _ _ h=>h,fun _ _ _ _ h=>h,fun _ _ _ _ h=>h,fun _ _ _ _ h=>h,fun _ _ _ _ h=>h,fun _ _ _ _ h=>h,fun _ _ _ _ h=>h,fun _ _ _ _ h=>h,fun _ _ _ _ h=>h,fun _ _ _ _ h=>h,fun _ _ _ _ h=>h,fun _ _ _ _ h=>h,fun _ _ _ _ h=>h,fun _ _ _ _ h=>h,fun _ _ _ _ h=>h,fun _ _ _ _ h=>h,fun _ _ _ _ h=>h,fun _ _ _ _ h=>h,fun _ _ _ _ h=>h,fun _ _ _ _ h=>h,fun _ _ _ _ h=>h,fun _ _ _ _ h=>h,fun _ _ _ _ h=>h,fun _ _ _ _ h=>h,fun _ _ _ _ h=>h,fun _ _ _ _ h=>h,fun _ _ _ _ h=>h,fun _ _ _ _ h=>h,fun _ _ _ _ h=>h,fun _ _ _ _ h=>h,fun _ _ _ _ h=>h,fun _ _ _ _ h=>h,fun _ _ _ _ h=>h,trivial⟩
        case g0=>exact ⟨rfl,rfl,rfl,Nat.le_refl _,fun _ _=>rfl⟩
        case os =>
         refine ⟨?_,?_,?_,?_,?_,?_,?_,?_,?_,?_,?_,?_,?_,?_,?_,?_,?_,?_,?_,?_,?_,?_,?_,?_,?_,?_,?_,?_,?_,?_,?_,?_,?_,?_,?_,?_,?_,?_,?_,?_,?_,?_,?_,?_,?_,?_,?_,?_,?_,?_,?_,?_,?_,?_,?_,?_,?_,trivial⟩
         ·exact fun ρ X9 fl hg hn hl hp ho hc hf hr=>.inl ⟨rfl,Runs.val _ (op_f31_0 (show ρ (.tmp 3)=.pointer (some ⟨Y1,0,none⟩) from ho 3 rfl)) ⟨hg,Below.refl _ _,rfl⟩⟩
         ·exact fun ρ X9 fl hg hn hl hp ho hc hf hr=>.inl ⟨rfl,Runs.val _ (op_load3 (show ρ (.tmp 115)=.pointer (some ⟨Y1,0,none⟩) from hr 0 115 rfl rfl) (by have yd:=(hg.block Y1 (blk_lt JY1.out)).trans JY1.out;rw [HDD.out] at yd;exact cell_blk yd 0)) ⟨hg,Below.refl _ _,rfl⟩⟩
         ·exact fun ρ X9 fl hg hn hl hp ho hc hf hr=>.inl ⟨rfl,Runs.val _ (op_geq3 (show ρ (.tmp 116)=.int .i64 kd from hr 1 116 rfl rfl) (hc _) HX2.out) ⟨hg,Below.refl _ _,rfl⟩⟩
         ·exact fun ρ X9 fl hg hn hl hp ho hc hf hr=>.inl ⟨rfl,Runs.val _ (op_move (show ρ (.tmp 117)=.bool c2 from hr 2 117 rfl rfl)) ⟨hg,Below.refl _ _,rfl⟩⟩
         ·cases c2 with
          | true=>exact fun ρ X9 fl hg hn hl hp ho hc hf hr=>.inr (.inl ⟨3,118,true,fun _=>rfl,rfl,hr 3 118 rfl rfl,Runs.val _ (op_f31_0 (show ρ (.tmp 3)=.pointer (some ⟨Y1,0,none⟩) from ho 3 rfl)) ⟨hg,Below.refl _ _,rfl⟩⟩)
          | false=>exact fun ρ X9 fl hg hn hl hp ho hc hf hr=>.inr (.inr ⟨3,118,true,fun _=>rfl,rfl,(by rw [show ρ (.tmp 118)=.bool false from hr 3 118 rfl rfl];simp),hg,Below.refl _ _,rfl⟩)
         ·cases c2 with
          | true=>exact fun ρ X9 fl hg hn hl hp ho hc hf hr=>.inr (.inl ⟨3,118,true,fun _=>rfl,rfl,hr 3 118 rfl rfl,Runs.val _ (op_load3 (show ρ (.tmp 119)=.pointer (some ⟨Y1,0,none⟩) from hr 4 119 rfl rfl) (by have yd:=(hg.block Y1 (blk_lt JY1.out)).trans JY1.out;rw [HDD.out] at yd;exact cell_blk yd 0)) ⟨hg,Below.refl _ _,rfl⟩⟩)
          | false=>exact fun ρ X9 fl hg hn hl hp ho hc hf hr=>.inr (.inr ⟨3,118,true,fun _=>rfl,rfl,(by rw [show ρ (.tmp 118)=.bool false from hr 3 118 rfl rfl];simp),hg,Below.refl _ _,rfl⟩)
         ·cases c2 with
          | true=>exact fun ρ X9 fl hg hn hl hp ho hc hf hr=>.inr (.inl ⟨3,118,true,fun _=>rfl,rfl,hr 3 118 rfl rfl,Runs.val _ (op_leq3 (show ρ (.tmp 120)=.int .i64 kd from hr 5 120 rfl rfl) (hc _) HX5.out) ⟨hg,Below.refl _ _,rfl⟩⟩)
          | false=>exact fun ρ X9 fl hg hn hl hp ho hc hf hr=>.inr (.inr ⟨3,118,true,fun _=>rfl,rfl,(by rw [show ρ (.tmp 118)=.bool false from hr 3 118 rfl rfl];simp),hg,Below.refl _ _,rfl⟩)
         ·cases c2 with
          | true=>exact fun ρ X9 fl hg hn hl hp ho hc hf hr=>.inl ⟨rfl,Runs.val _ (op_pick (show ρ (.tmp 118)=.bool true from hr 3 118 rfl rfl) (show ρ (.tmp 121)=.bool c5 from hr 6 121 rfl rfl)) ⟨hg,Below.refl _ _,rfl⟩⟩
          | false=>exact fun ρ X9 fl hg hn hl hp ho hc hf hr=>.inl ⟨rfl,Runs.val _ (op_pick (show ρ (.tmp 118)=.bool false from hr 3 118 rfl rfl) (hc _)) ⟨hg,Below.refl _ _,rfl⟩⟩
         ·exact fun ρ X9 fl hg hn hl hp ho hc hf hr=>.inl ⟨rfl,Runs.val _ (op_move (show ρ (.tmp 122)=.bool (c2 && c5) from hr 7 122 rfl rfl)) ⟨hg,Below.refl _ _,rfl⟩⟩
         ·cases c2 with
          | false=>exact fun ρ X9 fl hg hn hl hp ho hc hf hr=>.inr (.inr ⟨8,123,true,fun _=>rfl,rfl,(by rw [show ρ (.tmp 123)=.bool false from hr 8 123 rfl rfl];simp),hg,Below.refl _ _,rfl⟩)
          | true=>cases c5 with
           | false=>exact fun ρ X9 fl hg hn hl hp ho hc hf hr=>.inr (.inr ⟨8,123,true,fun _=>rfl,rfl,(by rw [show ρ (.tmp 123)=.bool false from hr 8 123 rfl rfl];simp),hg,Below.refl _ _,rfl⟩)
           | true=>exact fun ρ X9 fl hg hn hl hp ho hc hf hr=>.inr (.inl ⟨8,123,true,fun _=>rfl,rfl,hr 8 123 rfl rfl,Runs.val _ (op_move (show ρ (.tmp 12)=.int .i64 sb from ho 12 rfl)) ⟨hg,Below.refl _ _,rfl⟩⟩)
         ·cases c2 with
          | false=>exact fun ρ X9 fl hg hn hl hp ho hc hf hr=>.inr (.inr ⟨8,123,true,fun _=>rfl,rfl,(by rw [show ρ (.tmp 123)=.bool false from hr 8 123 rfl rfl];simp),hg,Below.refl _ _,rfl⟩)
          | true=>cases c5 with
           | false=>exact fun ρ X9 fl hg hn hl hp ho hc hf hr=>.inr (.inr ⟨8,123,true,fun _=>rfl,rfl,(by rw [show ρ (.tmp 123)=.bool false from hr 8 123 rfl rfl];simp),hg,Below.refl _ _,rfl⟩)
           | true=>exact fun ρ X9 fl hg hn hl hp ho hc hf hr=>.inr (.inl ⟨8,123,true,fun _=>rfl,rfl,hr 8 123 rfl rfl,Runs.val _ (op_move (show ρ (.tmp 11)=.int .i64 sa from ho 11 rfl)) ⟨hg,Below.refl _ _,rfl⟩⟩)
         ·cases c2 with
          | false=>exact fun ρ X9 fl hg hn hl hp ho hc hf hr=>.inr (.inr ⟨8,123,true,fun _=>rfl,rfl,(by rw [show ρ (.tmp 123)=.bool false from hr 8 123 rfl rfl];simp),hg,Below.refl _ _,rfl⟩)
          | true=>cases c5 with
           | false=>exact fun ρ X9 fl hg hn hl hp ho hc hf hr=>.inr (.inr ⟨8,123,true,fun _=>rfl,rfl,(by rw [show ρ (.tmp 123)=.bool false from hr 8 123 rfl rfl];simp),hg,Below.refl _ _,rfl⟩)
           | true=>exact fun ρ X9 fl hg hn hl hp ho hc hf hr=>.inr (.inl ⟨8,123,true,fun _=>rfl,rfl,hr 8 123 rfl rfl,Runs.val _ (op_sub3s (show ρ (.tmp 124)=.int .i64 sb from hr 9 124 rfl rfl) (show ρ (.tmp 125)=.int .i64 sa from hr 10 125 rfl rfl) rfl (by have:=HSN.out.2;omega) (by have:=HSN.out.2;omega)) ⟨hg,Below.refl _ _,rfl⟩⟩)
         ·cases c2 with
          | false=>exact fun ρ X9 fl hg hn hl hp ho hc hf hr=>.inr (.inr ⟨8,123,true,fun _=>rfl,rfl,(by rw [show ρ (.tmp 123)=.bool false from hr 8 123 rfl rfl];simp),hg,Below.refl _ _,rfl⟩)
          | true=>cases c5 with
           | false=>exact fun ρ X9 fl hg hn hl hp ho hc hf hr=>.inr (.inr ⟨8,123,true,fun _=>rfl,rfl,(by rw [show ρ (.tmp 123)=.bool false from hr 8 123 rfl rfl];simp),hg,Below.refl _ _,rfl⟩)
           | true=>exact fun ρ X9 fl hg hn hl hp ho hc hf hr=>.inr (.inl ⟨8,123,true,fun _=>rfl,rfl,hr 8 123 rfl rfl,Runs.val _ (op_gtr3 (show ρ (.tmp 126)=.int .i64 (sb - sa) from hr 11 126 rfl rfl) (hc _) (decide_eq_false (by have:=HSN.out.1 rfl;omega))) ⟨hg,Below.refl _ _,rfl⟩⟩)
         ·cases c2 with
          | false=>exact fun ρ X9 fl hg hn hl hp ho hc hf hr=>.inr (.inr ⟨8,123,true,fun _=>rfl,rfl,(by rw [show ρ (.tmp 123)=.bool false from hr 8 123 rfl rfl];simp),hg,Below.refl _ _,rfl⟩)
          | true=>cases c5 with
           | false=>exact fun ρ X9 fl hg hn hl hp ho hc hf hr=>.inr (.inr ⟨8,123,true,fun _=>rfl,rfl,(by rw [show ρ (.tmp 123)=.bool false from hr 8 123 rfl rfl];simp),hg,Below.refl _ _,rfl⟩)
           | true=>exact fun ρ X9 fl hg hn hl hp ho hc hf hr=>.inr (.inl ⟨8,123,true,fun _=>rfl,rfl,hr 8 123 rfl rfl,Runs.val _ (op_move (show ρ (.tmp 127)=.bool false from hr 12 127 rfl rfl)) ⟨hg,Below.refl _ _,rfl⟩⟩)
         ·cases c2 with
          | false=>exact fun ρ X9 fl hg hn hl hp ho hc hf hr=>.inr (.inr ⟨13,128,false,fun _=>rfl,rfl,(by rw [show ρ (.tmp 128)=undef from hr 13 128 rfl rfl];simp [undef]),hg,Below.refl _ _,rfl⟩)
          | true=>cases c5 with
           | false=>exact fun ρ X9 fl hg hn hl hp ho hc hf hr=>.inr (.inr ⟨13,128,false,fun _=>rfl,rfl,(by rw [show ρ (.tmp 128)=undef from hr 13 128 rfl rfl];simp [undef]),hg,Below.refl _ _,rfl⟩)
           | true=>exact fun ρ X9 fl hg hn hl hp ho hc hf hr=>.inr (.inl ⟨13,128,false,fun _=>rfl,rfl,hr 13 128 rfl rfl,Runs.val _ (op_move (show ρ (.tmp 11)=.int .i64 sa from ho 11 rfl)) ⟨hg,Below.refl _ _,rfl⟩⟩)
         ·cases c2 with
          | false=>exact fun ρ X9 fl hg hn hl hp ho hc hf hr=>.inr (.inr ⟨13,128,false,fun _=>rfl,rfl,(by rw [show ρ (.tmp 128)=undef from hr 13 128 rfl rfl];simp [undef]),hg,Below.refl _ _,rfl⟩)
          | true=>cases c5 with
           | false=>exact fun ρ X9 fl hg hn hl hp ho hc hf hr=>.inr (.inr ⟨13,128,false,fun _=>rfl,rfl,(by rw [show ρ (.tmp 128)=undef from hr 13 128 rfl rfl];simp [undef]),hg,Below.refl _ _,rfl⟩)
           | true=>exact fun ρ X9 fl hg hn hl hp ho hc hf hr=>.inr (.inl ⟨13,128,false,fun _=>rfl,rfl,hr 13 128 rfl rfl,Runs.val _ (op_move (show ρ (.tmp 12)=.int .i64 sb from ho 12 rfl)) ⟨hg,Below.refl _ _,rfl⟩⟩)
         ·cases c2 with
          | false=>exact fun ρ X9 fl hg hn hl hp ho hc hf hr=>.inr (.inr ⟨13,128,false,fun _=>rfl,rfl,(by rw [show ρ (.tmp 128)=undef from hr 13 128 rfl rfl];simp [undef]),hg,Below.refl _ _,rfl⟩)
          | true=>cases c5 with
           | false=>exact fun ρ X9 fl hg hn hl hp ho hc hf hr=>.inr (.inr ⟨13,128,false,fun _=>rfl,rfl,(by rw [show ρ (.tmp 128)=undef from hr 13 128 rfl rfl];simp [undef]),hg,Below.refl _ _,rfl⟩)
           | true=>exact fun ρ X9 fl hg hn hl hp ho hc hf hr=>.inr (.inl ⟨13,128,false,fun _=>rfl,rfl,hr 13 128 rfl rfl,Runs.val _ (op_sub3s (show ρ (.tmp 129)=.int .i64 sa from hr 14 129 rfl rfl) (show ρ (.tmp 130)=.int .i64 sb from hr 15 130 rfl rfl) rfl (by have:=HSN.out.2;omega) (by have:=HSN.out.2;omega)) ⟨hg,Below.refl _ _,rfl⟩⟩)
         ·cases c2 with
          | false=>exact fun ρ X9 fl hg hn hl hp ho hc hf hr=>.inr (.inr ⟨13,128,false,fun _=>rfl,rfl,(by rw [show ρ (.tmp 128)=undef from hr 13 128 rfl rfl];simp [undef]),hg,Below.refl _ _,rfl⟩)
          | true=>cases c5 with
           | false=>exact fun ρ X9 fl hg hn hl hp ho hc hf hr=>.inr (.inr ⟨13,128,false,fun _=>rfl,rfl,(by rw [show ρ (.tmp 128)=undef from hr 13 128 rfl rfl];simp [undef]),hg,Below.refl _ _,rfl⟩)
           | true=>exact fun ρ X9 fl hg hn hl hp ho hc hf hr=>.inr (.inl ⟨13,128,false,fun _=>rfl,rfl,hr 13 128 rfl rfl,Runs.val _ (op_gtr3 (show ρ (.tmp 131)=.int .i64 (sa - sb) from hr 16 131 rfl rfl) (hc _) (decide_eq_false (by have:=HSN.out.1 rfl;omega))) ⟨hg,Below.refl _ _,rfl⟩⟩)
         ·cases c2 with
          | false=>exact fun ρ X9 fl hg hn hl hp ho hc hf hr=>.inr (.inr ⟨8,123,true,fun _=>rfl,rfl,(by rw [show ρ (.tmp 123)=.bool false from hr 8 123 rfl rfl];simp),hg,Below.refl _ _,rfl⟩)
          | true=>cases c5 with
           | false=>exact fun ρ X9 fl hg hn hl hp ho hc hf hr=>.inr (.inr ⟨8,123,true,fun _=>rfl,rfl,(by rw [show ρ (.tmp 123)=.bool false from hr 8 123 rfl rfl];simp),hg,Below.refl _ _,rfl⟩)
           | true=>exact fun ρ X9 fl hg hn hl hp ho hc hf hr=>.inr (.inl ⟨8,123,true,fun _=>rfl,rfl,hr 8 123 rfl rfl,Runs.val _ (op_pick (show ρ (.tmp 128)=.bool false from hr 13 128 rfl rfl) (show ρ (.tmp 132)=.bool false from hr 17 132 rfl rfl)) ⟨hg,Below.refl _ _,rfl⟩⟩)
         ·cases c2 with
          | false=>exact fun ρ X9 fl hg hn hl hp ho hc hf hr=>.inl ⟨rfl,Runs.val _ (op_pick (show ρ (.tmp 123)=.bool false from hr 8 123 rfl rfl) (hc _)) ⟨hg,Below.refl _ _,rfl⟩⟩
          | true=>cases c5 with
           | false=>exact fun ρ X9 fl hg hn hl hp ho hc hf hr=>.inl ⟨rfl,Runs.val _ (op_pick (show ρ (.tmp 123)=.bool false from hr 8 123 rfl rfl) (hc _)) ⟨hg,Below.refl _ _,rfl⟩⟩
           | true=>exact fun ρ X9 fl hg hn hl hp ho hc hf hr=>.inl ⟨rfl,Runs.val _ (op_pick (show ρ (.tmp 123)=.bool true from hr 8 123 rfl rfl) (show ρ (.tmp 133)=.bool false from hr 18 133 rfl rfl)) ⟨hg,Below.refl _ _,rfl⟩⟩
         ·exact fun ρ X9 fl hg hn hl hp ho hc hf hr=>.inl ⟨rfl,Runs.val _ (op_move (show ρ (.tmp 134)=.bool false from hr 19 134 rfl rfl)) ⟨hg,Below.refl _ _,rfl⟩⟩
         ·exact fun ρ X9 fl hg hn hl hp ho hc hf hr=>.inr (.inl ⟨20,135,false,fun _=>rfl,rfl,hr 20 135 rfl rfl,Runs.val _ (op_move (show ρ (.tmp 8)=.slice (some ⟨vb,vp,none⟩) k vc from ho 8 rfl)) ⟨hg,Below.refl _ _,rfl⟩⟩)
         ·exact fun ρ X9 fl hg hn hl hp ho hc hf hr=>.inr (.inl ⟨20,135,false,fun _=>rfl,rfl,hr 20 135 rfl rfl,Runs.val _ (op_move (show ρ (.tmp 10)=.int .i64 (i:Int) from ho 10 rfl)) ⟨hg,Below.refl _ _,rfl⟩⟩)
         ·exact fun ρ X9 fl hg hn hl hp ho hc hf hr=>.inr (.inl ⟨20,135,false,fun _=>rfl,rfl,hr 20 135 rfl rfl,Runs.val _ (op_i55 (show ρ (.tmp 136)=.slice (some ⟨vb,vp,none⟩) k vc from hr 21 136 rfl rfl) (show ρ (.tmp 137)=.int .i64 (i:Int) from hr 22 137 rfl rfl) (by have:=HIK.out;omega)) ⟨hg,Below.refl _ _,rfl⟩⟩)
         ·exact fun ρ X9 fl hg hn hl hp ho hc hf hr=>.inr (.inl ⟨20,135,false,fun _=>rfl,rfl,hr 20 135 rfl rfl,Runs.val _ (op_loadAt (show ρ (.tmp 138)=.pointer (some ⟨vb,vp+i * 3,none⟩) from hr 23 138 rfl rfl) (HLB1.out X9 hg)) ⟨hg,Below.refl _ _,rfl⟩⟩)
         ·refine fun ρ X9 fl hg hn hl hp ho hc hf hr=>.inr (.inl ⟨20,135,false,fun _=>rfl,rfl,hr 20 135 rfl rfl,?_⟩)
          refine Runs.goes 12 #[scV B bv] (op_call1 hf (by go_simp) (show ρ (.tmp 139)=scV B bv from hr 24 139 rfl rfl)) ((HC3.out X9 hg).mono ?_)
          rintro e7 w7 ⟨rfl,b7⟩
          exact ⟨_,rfl,bgo hg b7,b7,rfl⟩
         ·exact fun ρ X9 fl hg hn hl hp ho hc hf hr=>.inr (.inl ⟨20,135,false,fun _=>rfl,rfl,hr 20 135 rfl rfl,Runs.val _ (op_not (show ρ (.tmp 140)=.bool true from hr 25 140 rfl rfl)) ⟨hg,Below.refl _ _,rfl⟩⟩)
         ·exact fun ρ X9 fl hg hn hl hp ho hc hf hr=>.inl ⟨rfl,Runs.val _ (op_pick (show ρ (.tmp 135)=.bool false from hr 20 135 rfl rfl) (show ρ (.tmp 141)=.bool false from hr 26 141 rfl rfl)) ⟨hg,Below.refl _ _,rfl⟩⟩
         ·exact fun ρ X9 fl hg hn hl hp ho hc hf hr=>.inl ⟨rfl,Runs.val _ (op_move (show ρ (.tmp 142)=.bool false from hr 27 142 rfl rfl)) ⟨hg,Below.refl _ _,rfl⟩⟩
         ·exact fun ρ X9 fl hg hn hl hp ho hc hf hr=>.inr (.inl ⟨28,143,false,fun _=>rfl,rfl,hr 28 143 rfl rfl,Runs.val _ (op_move (show ρ (.tmp 8)=.slice (some ⟨vb,vp,none⟩) k vc from ho 8 rfl)) ⟨hg,Below.refl _ _,rfl⟩⟩)
         ·exact fun ρ X9 fl hg hn hl hp ho hc hf hr=>.inr (.inl ⟨28,143,false,fun _=>rfl,rfl,hr 28 143 rfl rfl,Runs.val _ (op_move (show ρ (.tmp 10)=.int .i64 (i:Int) from ho 10 rfl)) ⟨hg,Below.refl _ _,rfl⟩⟩)
         ·exact fun ρ X9 fl hg hn hl hp ho hc hf hr=>.inr (.inl ⟨28,143,false,fun _=>rfl,rfl,hr 28 143 rfl rfl,Runs.val _ (op_i55 (show ρ (.tmp 144)=.slice (some ⟨vb,vp,none⟩) k vc from hr 29 144 rfl rfl) (show ρ (.tmp 145)=.int .i64 (i:Int) from hr 30 145 rfl rfl) (by have:=HIK.out;omega)) ⟨hg,Below.refl _ _,rfl⟩⟩)
         ·exact fun ρ X9 fl hg hn hl hp ho hc hf hr=>.inr (.inl ⟨28,143,false,fun _=>rfl,rfl,hr 28 143 rfl rfl,Runs.val _ (op_f24_0 (show ρ (.tmp 146)=.pointer (some ⟨vb,vp+i * 3,none⟩) from hr 31 146 rfl rfl)) ⟨hg,Below.refl _ _,rfl⟩⟩)
         ·exact fun ρ X9 fl hg hn hl hp ho hc hf hr=>.inr (.inl ⟨28,143,false,fun _=>rfl,rfl,hr 28 143 rfl rfl,Runs.val _ (op_load3 (show ρ (.tmp 147)=.pointer (some ⟨vb,vp+i * 3,none⟩) from hr 32 147 rfl rfl) (HVB.out X9 hg)) ⟨hg,Below.refl _ _,rfl⟩⟩)
         ·exact fun ρ X9 fl hg hn hl hp ho hc hf hr=>.inr (.inl ⟨28,143,false,fun _=>rfl,rfl,hr 28 143 rfl rfl,Runs.val _ (op_move (show ρ (.tmp 8)=.slice (some ⟨vb,vp,none⟩) k vc from ho 8 rfl)) ⟨hg,Below.refl _ _,rfl⟩⟩)
         ·exact fun ρ X9 fl hg hn hl hp ho hc hf hr=>.inr (.inl ⟨28,143,false,fun _=>rfl,rfl,hr 28 143 rfl rfl,Runs.val _ (op_move (show ρ (.tmp 10)=.int .i64 (i:Int) from ho 10 rfl)) ⟨hg,Below.refl _ _,rfl⟩⟩)
         ·exact fun ρ X9 fl hg hn hl hp ho hc hf hr=>.inr (.inl ⟨28,143,false,fun _=>rfl,rfl,hr 28 143 rfl rfl,Runs.val _ (op_sub3s (show ρ (.tmp 150)=.int .i64 (i:Int) from hr 35 150 rfl rfl) (hc _) (by have:=HQ.out;omega) (by omega) (by have:=HIK.out;omega)) ⟨hg,Below.refl _ _,rfl⟩⟩)
         ·exact fun ρ X9 fl hg hn hl hp ho hc hf hr=>.inr (.inl ⟨28,143,false,fun _=>rfl,rfl,hr 28 143 rfl rfl,Runs.val _ (op_i55 (show ρ (.tmp 149)=.slice (some ⟨vb,vp,none⟩) k vc from hr 34 149 rfl rfl) (show ρ (.tmp 151)=.int .i64 (q:Int) from hr 36 151 rfl rfl) (by have:=HIK.out;omega)) ⟨hg,Below.refl _ _,rfl⟩⟩)
         ·exact fun ρ X9 fl hg hn hl hp ho hc hf hr=>.inr (.inl ⟨28,143,false,fun _=>rfl,rfl,hr 28 143 rfl rfl,Runs.val _ (op_f24_0 (show ρ (.tmp 152)=.pointer (some ⟨vb,vp+q * 3,none⟩) from hr 37 152 rfl rfl)) ⟨hg,Below.refl _ _,rfl⟩⟩)
         ·exact fun ρ X9 fl hg hn hl hp ho hc hf hr=>.inr (.inl ⟨28,143,false,fun _=>rfl,rfl,hr 28 143 rfl rfl,Runs.val _ (op_load3 (show ρ (.tmp 153)=.pointer (some ⟨vb,vp+q * 3,none⟩) from hr 38 153 rfl rfl) (HVA.out X9 hg)) ⟨hg,Below.refl _ _,rfl⟩⟩)
         ·exact fun ρ X9 fl hg hn hl hp ho hc hf hr=>.inr (.inl ⟨28,143,false,fun _=>rfl,rfl,hr 28 143 rfl rfl,Runs.val _ (op_lss3 (show ρ (.tmp 148)=.int .i64 B.ver from hr 33 148 rfl rfl) (show ρ (.tmp 154)=.int .i64 A.ver from hr 39 154 rfl rfl) (decide_eq_false (by have:=HVV.out;omega))) ⟨hg,Below.refl _ _,rfl⟩⟩)
         ·exact fun ρ X9 fl hg hn hl hp ho hc hf hr=>.inl ⟨rfl,Runs.val _ (op_pick (show ρ (.tmp 143)=.bool false from hr 28 143 rfl rfl) (show ρ (.tmp 155)=.bool false from hr 40 155 rfl rfl)) ⟨hg,Below.refl _ _,rfl⟩⟩
         ·exact fun ρ X9 fl hg hn hl hp ho hc hf hr=>.inl ⟨rfl,Runs.val _ (op_move (show ρ (.tmp 156)=.bool false from hr 41 156 rfl rfl)) ⟨hg,Below.refl _ _,rfl⟩⟩
         ·exact fun ρ X9 fl hg hn hl hp ho hc hf hr=>.inr (.inl ⟨42,157,false,fun _=>rfl,rfl,hr 42 157 rfl rfl,Runs.val _ (op_move (show ρ (.tmp 8)=.slice (some ⟨vb,vp,none⟩) k vc from ho 8 rfl)) ⟨hg,Below.refl _ _,rfl⟩⟩)
         ·exact fun ρ X9 fl hg hn hl hp ho hc hf hr=>.inr (.inl ⟨42,157,false,fun _=>rfl,rfl,hr 42 157 rfl rfl,Runs.val _ (op_move (show ρ (.tmp 10)=.int .i64 (i:Int) from ho 10 rfl)) ⟨hg,Below.refl _ _,rfl⟩⟩)
         ·exact fun ρ X9 fl hg hn hl hp ho hc hf hr=>.inr (.inl ⟨42,157,false,fun _=>rfl,rfl,hr 42 157 rfl rfl,Runs.val _ (op_i55 (show ρ (.tmp 158)=.slice (some ⟨vb,vp,none⟩) k vc from hr 43 158 rfl rfl) (show ρ (.tmp 159)=.int .i64 (i:Int) from hr 44 159 rfl rfl) (by have:=HIK.out;omega)) ⟨hg,Below.refl _ _,rfl⟩⟩)
         ·exact fun ρ X9 fl hg hn hl hp ho hc hf hr=>.inr (.inl ⟨42,157,false,fun _=>rfl,rfl,hr 42 157 rfl rfl,Runs.val _ (op_f24_0 (show ρ (.tmp 160)=.pointer (some ⟨vb,vp+i * 3,none⟩) from hr 45 160 rfl rfl)) ⟨hg,Below.refl _ _,rfl⟩⟩)
         ·exact fun ρ X9 fl hg hn hl hp ho hc hf hr=>.inr (.inl ⟨42,157,false,fun _=>rfl,rfl,hr 42 157 rfl rfl,Runs.val _ (op_load3 (show ρ (.tmp 161)=.pointer (some ⟨vb,vp+i * 3,none⟩) from hr 46 161 rfl rfl) (HVB.out X9 hg)) ⟨hg,Below.refl _ _,rfl⟩⟩)
         ·exact fun ρ X9 fl hg hn hl hp ho hc hf hr=>.inr (.inl ⟨42,157,false,fun _=>rfl,rfl,hr 42 157 rfl rfl,Runs.val _ (op_move (show ρ (.tmp 8)=.slice (some ⟨vb,vp,none⟩) k vc from ho 8 rfl)) ⟨hg,Below.refl _ _,rfl⟩⟩)
         ·exact fun ρ X9 fl hg hn hl hp ho hc hf hr=>.inr (.inl ⟨42,157,false,fun _=>rfl,rfl,hr 42 157 rfl rfl,Runs.val _ (op_move (show ρ (.tmp 10)=.int .i64 (i:Int) from ho 10 rfl)) ⟨hg,Below.refl _ _,rfl⟩⟩)
         ·exact fun ρ X9 fl hg hn hl hp ho hc hf hr=>.inr (.inl ⟨42,157,false,fun _=>rfl,rfl,hr 42 157 rfl rfl,Runs.val _ (op_sub3s (show ρ (.tmp 164)=.int .i64 (i:Int) from hr 49 164 rfl rfl) (hc _) (by have:=HQ.out;omega) (by omega) (by have:=HIK.out;omega)) ⟨hg,Below.refl _ _,rfl⟩⟩)
         ·exact fun ρ X9 fl hg hn hl hp ho hc hf hr=>.inr (.inl ⟨42,157,false,fun _=>rfl,rfl,hr 42 157 rfl rfl,Runs.val _ (op_i55 (show ρ (.tmp 163)=.slice (some ⟨vb,vp,none⟩) k vc from hr 48 163 rfl rfl) (show ρ (.tmp 165)=.int .i64 (q:Int) from hr 50 165 rfl rfl) (by have:=HIK.out;omega)) ⟨hg,Below.refl _ _,rfl⟩⟩)
         ·exact fun ρ X9 fl hg hn hl hp ho hc hf hr=>.inr (.inl ⟨42,157,false,fun _=>rfl,rfl,hr 42 157 rfl rfl,Runs.val _ (op_f24_0 (show ρ (.tmp 166)=.pointer (some ⟨vb,vp+q * 3,none⟩) from hr 51 166 rfl rfl)) ⟨hg,Below.refl _ _,rfl⟩⟩)
         ·exact fun ρ X9 fl hg hn hl hp ho hc hf hr=>.inr (.inl ⟨42,157,false,fun _=>rfl,rfl,hr 42 157 rfl rfl,Runs.val _ (op_load3 (show ρ (.tmp 167)=.pointer (some ⟨vb,vp+q * 3,none⟩) from hr 52 167 rfl rfl) (HVA.out X9 hg)) ⟨hg,Below.refl _ _,rfl⟩⟩)
         ·exact fun ρ X9 fl hg hn hl hp ho hc hf hr=>.inr (.inl ⟨42,157,false,fun _=>rfl,rfl,hr 42 157 rfl rfl,Runs.val _ (op_add3m (show ρ (.tmp 168)=.int .i64 A.ver from hr 53 168 rfl rfl) (hc _) rfl (by have:=HVV.out;omega) (by have:=HVV.out;omega)) ⟨hg,Below.refl _ _,rfl⟩⟩)
         ·exact fun ρ X9 fl hg hn hl hp ho hc hf hr=>.inr (.inl ⟨42,157,false,fun _=>rfl,rfl,hr 42 157 rfl rfl,Runs.val _ (op_gtr3 (show ρ (.tmp 162)=.int .i64 B.ver from hr 47 162 rfl rfl) (show ρ (.tmp 169)=.int .i64 (A.ver+1) from hr 54 169 rfl rfl) (decide_eq_false (by have:=HVV.out;omega))) ⟨hg,Below.refl _ _,rfl⟩⟩)
         ·exact fun ρ X9 fl hg hn hl hp ho hc hf hr=>.inl ⟨rfl,Runs.val _ (op_pick (show ρ (.tmp 157)=.bool false from hr 42 157 rfl rfl) (show ρ (.tmp 170)=.bool false from hr 55 170 rfl rfl)) ⟨hg,Below.refl _ _,rfl⟩⟩
        case en =>
         intro a9 N9 fl hfl b9 hs9 hd9 ho9 hr9
         obtain ⟨x9,hx,hxt⟩:=act_put hs9 hd9 ho9
         have p171:x9 171=.bool false:=(hxt 171).symm.trans (hr9 56 171 rfl)
         change a9=putAll _ x9 [115,116,117,118,119,120,121,122,123,124,125,126,127,128,129,130,131,132,133,134,135,136,137,138,139,140,141,142,143,144,145,146,147,148,149,150,151,152,153,154,155,156,157,158,159,160,161,162,163,164,165,166,167,168,169,170,171] at hx
         simp only [putAll,Act.put,List.setIfInBounds_toArray,List.set_cons_zero,List.set_cons_succ,p171] at hx
         clear hs9 hd9 ho9 hr9 hxt hfl p171
         subst hx
         generalize x9 115=z115,x9 116=z116,x9 117=z117,x9 118=z118,x9 119=z119,x9 120=z120,x9 121=z121,x9 122=z122,x9 123=z123,x9 124=z124,x9 125=z125,x9 126=z126,x9 127=z127,x9 128=z128,x9 129=z129,x9 130=z130,x9 131=z131,x9 132=z132,x9 133=z133,x9 134=z134,x9 135=z135,x9 136=z136,x9 137=z137,x9 138=z138,x9 139=z139,x9 140=z140,x9 141=z141,x9 142=z142,x9 143=z143,x9 144=z144,x9 145=z145,x9 146=z146,x9 147=z147,x9 148=z148,x9 149=z149,x9 150=z150,x9 151=z151,x9 152=z152,x9 153=z153,x9 154=z154,x9 155=z155,x9 156=z156,x9 157=z157,x9 158=z158,x9 159=z159,x9 160=z160,x9 161=z161,x9 162=z162,x9 163=z163,x9 164=z164,x9 165=z165,x9 166=z166,x9 167=z167,x9 168=z168,x9 169=z169,x9 170=z170
         obtain ⟨N,hN⟩:∃ N,N9=N:=⟨_,rfl⟩
         subst hN
         have HBX:=lh (bgo HBV.out b9)
         have HBY:=lh (bgo HBT.out b9)
         have HLA1':=lh fun X (hX:Below N9.heap.size N9 X)=>HLA1.out X (bgo b9 hX)
         have HLB1':=lh fun X (hX:Below N9.heap.size N9 X)=>HLB1.out X (bgo b9 hX)
         have HVA':=lh fun X (hX:Below N9.heap.size N9 X)=>HVA.out X (bgo b9 hX)
         have HVB':=lh fun X (hX:Below N9.heap.size N9 X)=>HVB.out X (bgo b9 hX)
         have HC1':=lh fun X (hX:Below N9.heap.size N9 X)=>HC1.out X (bgo b9 hX)
         have HC2':=lh fun X (hX:Below N9.heap.size N9 X)=>HC2.out X (bgo b9 hX)
         have HC3':=lh fun X (hX:Below N9.heap.size N9 X)=>HC3.out X (bgo b9 hX)
         have HC4':=lh fun X (hX:Below N9.heap.size N9 X)=>HC4.out X (bgo b9 hX)
         have HC5':=lh fun X (hX:Below N9.heap.size N9 X)=>HC5.out X (bgo b9 hX)
         have JX0:Hid (N9.heap[Y0]?=some (.cells (scA s (.slice ta s.tabs.length tc)) 24 (0,0))):=lh ((b9.block Y0 (blk_lt JY0.out)).trans JY0.out)
         have JX1:Hid (N9.heap[Y1]?=some (.cells dd 31 (0,0))):=lh ((b9.block Y1 (blk_lt JY1.out)).trans JY1.out)
         clear JY0 JY1
         have JY0:=JX0
         have JY1:=JX1
         clear JX0 JX1
         clear b9 HBV HBT HLA1 HLB1 HVA HVB HC1 HC2 HC3 HC4 HC5
         obtain ⟨V,hVN⟩:∃ V,V=N9:=⟨_,rfl⟩
         subst hVN
         have HBV:=HBX
         have HBT:=HBY
         have HLA1:=HLA1'
         have HLB1:=HLB1'
         have HVA:=HVA'
         have HVB:=HVB'
         have HC1:=HC1'
         have HC2:=HC2'
         have HC3:=HC3'
         have HC4:=HC4'
         have HC5:=HC5'
         clear HBX HBY HLA1' HLB1' HVA' HVB' HC1' HC2' HC3' HC4' HC5'
         go_upto_region 19 with fail
         refine wp_region_fb (fun _ X9=>Below V.heap.size V X9) (fun X9 X'=>Below X9.heap.size X9 X') [
          fun v9 _=>v9=.slice (some ⟨vb,vp,none⟩) k vc,
          fun v9 _=>v9=.int .i64 (i:Int),
          fun v9 _=>v9=.pointer (some ⟨vb,vp+i * 3,none⟩),
          fun v9 _=>v9=scV B bv,
          fun v9 _=>v9=.agg dd,
          fun v9 X9=>∃ uv,v9=scV U uv∧Lr tbE 5 X9 U.tabs uv,
          fun v9 _=>v9=scV s (.slice ta s.tabs.length tc),
          fun v9 _=>v9=.agg dd,
          fun v9 X9=>∃ uv,v9=scV U uv∧Lr tbE 5 X9 U.tabs uv,
          fun v9 _=>v9=.bool true,
          fun v9 _=>v9=.bool false]
          (by kernel_rfl) (by kernel_rfl) (by kernel_rfl) ?st ?g0 ?os ?en
         case st=>exact ⟨fun _ _ _ _ h=>h,fun _ _ _ _ h=>h,fun _ _ _ _ h=>h,fun _ _ _ _ h=>h,fun _ _ _ _ h=>h,(fun _ _ _ hb h=>by obtain ⟨u9,e9,h9⟩:=h;exact ⟨u9,e9,h9.on tbE_held hb⟩),fun _ _ _ _ h=>h,fun _ _ _ _ h=>h,(fun _ _ _ hb h=>by obtain ⟨u9,e9,h9⟩:=h;exact ⟨u9,e9,h9.on tbE_held hb⟩),fun _ _ _ _ h=>h,fun _ _ _ _ h=>h,trivial⟩
         case g0=>exact ⟨rfl,rfl,rfl,Nat.le_refl _,fun _ _=>rfl⟩
         case os =>
          refine ⟨?_,?_,?_,?_,?_,?_,?_,?_,?_,?_,?_,trivial⟩
          ·exact fun ρ X9 fl hg hn hl hp ho hc hf hr=>.inl ⟨rfl,Runs.val _ (op_move (show ρ (.tmp 8)=.slice (some ⟨vb,vp,none⟩) k vc from ho 8 rfl)) ⟨hg,Below.refl _ _,rfl⟩⟩
          ·exact fun ρ X9 fl hg hn hl hp ho hc hf hr=>.inl ⟨rfl,Runs.val _ (op_move (show ρ (.tmp 10)=.int .i64 (i:Int) from ho 10 rfl)) ⟨hg,Below.refl _ _,rfl⟩⟩
          ·exact fun ρ X9 fl hg hn hl hp ho hc hf hr=>.inl ⟨rfl,Runs.val _ (op_i55 (show ρ (.tmp 172)=.slice (some ⟨vb,vp,none⟩) k vc from hr 0 172 rfl rfl) (show ρ (.tmp 173)=.int .i64 (i:Int) from hr 1 173 rfl rfl) (by have:=HIK.out;omega)) ⟨hg,Below.refl _ _,rfl⟩⟩
          ·exact fun ρ X9 fl hg hn hl hp ho hc hf hr=>.inl ⟨rfl,Runs.val _ (op_loadAt (show ρ (.tmp 174)=.pointer (some ⟨vb,vp+i * 3,none⟩) from hr 2 174 rfl rfl) (HLB1.out X9 hg)) ⟨hg,Below.refl _ _,rfl⟩⟩
          ·exact fun ρ X9 fl hg hn hl hp ho hc hf hr=>.inl ⟨rfl,Runs.val _ (op_loadAt (show ρ (.tmp 3)=.pointer (some ⟨Y1,0,none⟩) from ho 3 rfl) (load_row ((hg.block Y1 (blk_lt JY1.out)).trans JY1.out) Tryz.underlying31 rfl (by rw [HDD.out];exact size31))) ⟨hg,Below.refl _ _,rfl⟩⟩
          ·refine fun ρ X9 fl hg hn hl hp ho hc hf hr=>.inl ⟨rfl,?_⟩
           refine Runs.goes 20 #[scV B bv,.agg dd] (op_call2 hf (by go_simp) (show ρ (.tmp 175)=scV B bv from hr 3 175 rfl rfl) (show ρ (.tmp 176)=.agg dd from hr 4 176 rfl rfl)) ((HC4.out X9 hg).mono ?_)
           rintro e7 w7 ⟨u7,rfl,h7,b7⟩
           exact ⟨_,rfl,bgo hg b7,b7,u7,rfl,h7⟩
          ·exact fun ρ X9 fl hg hn hl hp ho hc hf hr=>.inl ⟨rfl,Runs.val _ (op_loadAt (show ρ (.tmp 2)=.pointer (some ⟨Y0,0,none⟩) from ho 2 rfl) (load_row ((hg.block Y0 (blk_lt JY0.out)).trans JY0.out) Tryz.underlying24 rfl size24)) ⟨hg,Below.refl _ _,rfl⟩⟩
          ·exact fun ρ X9 fl hg hn hl hp ho hc hf hr=>.inl ⟨rfl,Runs.val _ (op_loadAt (show ρ (.tmp 3)=.pointer (some ⟨Y1,0,none⟩) from ho 3 rfl) (load_row ((hg.block Y1 (blk_lt JY1.out)).trans JY1.out) Tryz.underlying31 rfl (by rw [HDD.out];exact size31))) ⟨hg,Below.refl _ _,rfl⟩⟩
          ·refine fun ρ X9 fl hg hn hl hp ho hc hf hr=>.inl ⟨rfl,?_⟩
           refine Runs.goes 20 #[scV s (.slice ta s.tabs.length tc),.agg dd] (op_call2 hf (by go_simp) (show ρ (.tmp 178)=scV s (.slice ta s.tabs.length tc) from hr 6 178 rfl rfl) (show ρ (.tmp 179)=.agg dd from hr 7 179 rfl rfl)) ((HC5.out X9 hg).mono ?_)
           rintro e7 w7 ⟨u7,rfl,h7,b7⟩
           exact ⟨_,rfl,bgo hg b7,b7,u7,rfl,h7⟩
          ·intro ρ X9 fl hg hn hl hp ho hc hf hr
           obtain ⟨u1,e1,h1⟩:∃ uv,ρ (.tmp 177)=scV U uv∧Lr tbE 5 X9 U.tabs uv:=hr 5 177 rfl rfl
           obtain ⟨u2,e2,h2⟩:∃ uv,ρ (.tmp 180)=scV U uv∧Lr tbE 5 X9 U.tabs uv:=hr 8 180 rfl rfl
           refine .inl ⟨rfl,?_⟩
           refine Runs.goes 11 #[scV U u1,scV U u2] (op_call2 hf (by go_simp) e1 e2) ((HC6.out X9 u1 u2 h1 h2).mono ?_)
           rintro e7 w7 ⟨rfl,b7⟩
           exact ⟨_,rfl,bgo hg b7,b7,rfl⟩
          ·exact fun ρ X9 fl hg hn hl hp ho hc hf hr=>.inl ⟨rfl,Runs.val _ (op_not (show ρ (.tmp 181)=.bool true from hr 9 181 rfl rfl)) ⟨hg,Below.refl _ _,rfl⟩⟩
         case en =>
          intro a9 N9 fl hfl b9 hs9 hd9 ho9 hr9
          obtain ⟨x9,hx,hxt⟩:=act_put hs9 hd9 ho9
          have p182:x9 182=.bool false:=(hxt 182).symm.trans (hr9 10 182 rfl)
          change a9=putAll _ x9 [172,173,174,175,176,177,178,179,180,181,182] at hx
          simp only [putAll,Act.put,List.setIfInBounds_toArray,List.set_cons_zero,List.set_cons_succ,p182] at hx
          clear hs9 hd9 ho9 hr9 hxt hfl p182
          subst hx
          generalize x9 172=z172,x9 173=z173,x9 174=z174,x9 175=z175,x9 176=z176,x9 177=z177,x9 178=z178,x9 179=z179,x9 180=z180,x9 181=z181
          obtain ⟨N,hN⟩:∃ N,N9=N:=⟨_,rfl⟩
          subst hN
          have HBX:=lh (bgo HBV.out b9)
          clear b9
          go_wp2
          go_roundw
          case rel=>exact ⟨i+1,by omega,hlt,rfl,by go_num,HBX.out⟩
          case measure=>simp [intOf];omega
      ·skip
       have k1:¬ (i:Int) < (k:Int):=by omega
       obtain ⟨z9,hz9⟩:∃ m,k=m+1:=⟨n,HK.out.1⟩
       have HQ:=lh hz9
       have hzl:z9 < (s :: l).length:=by rw [HLN.out];omega
       have hZ:(s :: l)[z9]=z:=by
        have h1:=HLA.out
        rw [List.getLast?_eq_getElem?,HLN.out,hz9,Nat.add_sub_cancel,List.getElem?_eq_getElem hzl] at h1
        exact Option.some.inj h1
       obtain ⟨zv,hZL,_,hZl⟩:=sc_at HS6.out hzl hZ
       have HEZ:Hid (stateP z d=E0):=lh (by
        have h1:=HEN.out (by rw [HKD.out,HK9.out];decide) (by rw [HKD.out,HK9.out];decide)
        rw [HKD.out,HK9.out] at h1
        rw [HE0.out]
        exact h1)
       have HLZ:Hid (∀ X,Below V.heap.size V X→(Instr.loadAt 24 (.pointer (some ⟨vb,vp+z9 * 3,none⟩))).run Tryz.prog X=.ok (scV z zv) X):=lh fun X hX=>hZl X (bgo HBV.out hX)
       have HC1:Hid (∀ X,Below V.heap.size V X→Calls Tryz.prog 17 #[scV z zv,.agg dd] X fun e w'=>e=.returned (.int .i64 E0)∧Below X.heap.size X w'):=lh fun X hX=>HST.out X z zv E0 (hZL.on tbE_held (bgo HBV.out hX)) HEZ.out
       have HIK:Hid (z9 < k∧k≤6):=lh (by have:=HK.out;have:=HN5.out;omega)
       clear hz9 hzl hZ hZL hZl
       go_upto_region 21 with fail
       refine wp_region_fb (fun _ X9=>Below V.heap.size V X9) (fun X9 X'=>Below X9.heap.size X9 X') [
        fun v9 _=>v9=.slice (some ⟨vb,vp,none⟩) k vc,
        fun v9 _=>v9=.slice (some ⟨vb,vp,none⟩) k vc,
        fun v9 _=>v9=.int .i64 (k:Int),
        fun v9 _=>v9=.int .i64 (z9:Int),
        fun v9 _=>v9=.pointer (some ⟨vb,vp+z9 * 3,none⟩),
        fun v9 _=>v9=scV z zv,
        fun v9 _=>v9=.agg dd,
        fun v9 _=>v9=.int .i64 E0,
        fun v9 _=>v9=.int .i64 E0]
        (by kernel_rfl) (by kernel_rfl) (by kernel_rfl) ?st ?g0 ?os ?en
       case st=>exact ⟨fun _ _ _ _ h=>h,fun _ _ _ _ h=>h,fun _ _ _ _ h=>h,fun _ _ _ _ h=>h,fun _ _ _ _ h=>h,fun _ _ _ _ h=>h,fun _ _ _ _ h=>h,fun _ _ _ _ h=>h,fun _ _ _ _ h=>h,trivial⟩
       case g0=>exact ⟨rfl,rfl,rfl,Nat.le_refl _,fun _ _=>rfl⟩
       case os =>
        refine ⟨?_,?_,?_,?_,?_,?_,?_,?_,?_,trivial⟩
        ·exact fun ρ X9 fl hg hn hl hp ho hc hf hr=>.inl ⟨rfl,Runs.val _ (op_move (show ρ (.tmp 8)=.slice (some ⟨vb,vp,none⟩) k vc from ho 8 rfl)) ⟨hg,Below.refl _ _,rfl⟩⟩
        ·exact fun ρ X9 fl hg hn hl hp ho hc hf hr=>.inl ⟨rfl,Runs.val _ (op_move (show ρ (.tmp 8)=.slice (some ⟨vb,vp,none⟩) k vc from ho 8 rfl)) ⟨hg,Below.refl _ _,rfl⟩⟩
        ·exact fun ρ X9 fl hg hn hl hp ho hc hf hr=>.inl ⟨rfl,Runs.val _ (op_len55 (show ρ (.tmp 184)=.slice (some ⟨vb,vp,none⟩) k vc from hr 1 184 rfl rfl)) ⟨hg,Below.refl _ _,rfl⟩⟩
        ·exact fun ρ X9 fl hg hn hl hp ho hc hf hr=>.inl ⟨rfl,Runs.val _ (op_sub3s (show ρ (.tmp 185)=.int .i64 (k:Int) from hr 2 185 rfl rfl) (hc _) (by have:=HQ.out;omega) (by omega) (by have:=HIK.out;omega)) ⟨hg,Below.refl _ _,rfl⟩⟩
        ·exact fun ρ X9 fl hg hn hl hp ho hc hf hr=>.inl ⟨rfl,Runs.val _ (op_i55 (show ρ (.tmp 183)=.slice (some ⟨vb,vp,none⟩) k vc from hr 0 183 rfl rfl) (show ρ (.tmp 186)=.int .i64 (z9:Int) from hr 3 186 rfl rfl) (by have:=HIK.out;omega)) ⟨hg,Below.refl _ _,rfl⟩⟩
        ·exact fun ρ X9 fl hg hn hl hp ho hc hf hr=>.inl ⟨rfl,Runs.val _ (op_loadAt (show ρ (.tmp 187)=.pointer (some ⟨vb,vp+z9 * 3,none⟩) from hr 4 187 rfl rfl) (HLZ.out X9 hg)) ⟨hg,Below.refl _ _,rfl⟩⟩
        ·exact fun ρ X9 fl hg hn hl hp ho hc hf hr=>.inl ⟨rfl,Runs.val _ (op_loadAt (show ρ (.tmp 3)=.pointer (some ⟨Y1,0,none⟩) from ho 3 rfl) (load_row ((hg.block Y1 (blk_lt JY1.out)).trans JY1.out) Tryz.underlying31 rfl (by rw [HDD.out];exact size31))) ⟨hg,Below.refl _ _,rfl⟩⟩
        ·refine fun ρ X9 fl hg hn hl hp ho hc hf hr=>.inl ⟨rfl,?_⟩
         refine Runs.goes 17 #[scV z zv,.agg dd] (op_call2 hf (by go_simp) (show ρ (.tmp 188)=scV z zv from hr 5 188 rfl rfl) (show ρ (.tmp 189)=.agg dd from hr 6 189 rfl rfl)) ((HC1.out X9 hg).mono ?_)
         rintro e7 w7 ⟨rfl,b7⟩
         exact ⟨_,rfl,bgo hg b7,b7,rfl⟩
        ·exact fun ρ X9 fl hg hn hl hp ho hc hf hr=>.inl ⟨rfl,Runs.val _ (op_assign (show ρ (.tmp 190)=.int .i64 E0 from hr 7 190 rfl rfl)) ⟨hg,Below.refl _ _,rfl⟩⟩
       case en =>
        intro a9 N9 fl hfl b9 hs9 hd9 ho9 hr9
        obtain ⟨x9,hx,hxt⟩:=act_put hs9 hd9 ho9
        have p13:x9 13=.int .i64 E0:=(hxt 13).symm.trans (hr9 8 13 rfl)
        change a9=putAll _ x9 [183,184,185,186,187,188,189,190,13] at hx
        simp only [putAll,Act.put,List.setIfInBounds_toArray,List.set_cons_zero,List.set_cons_succ,p13] at hx
        clear hs9 hd9 ho9 hr9 hxt hfl p13
        subst hx
        generalize x9 183=z183,x9 184=z184,x9 185=z185,x9 186=z186,x9 187=z187,x9 188=z188,x9 189=z189,x9 190=z190
        obtain ⟨N,hN⟩:∃ N,N9=N:=⟨_,rfl⟩
        subst hN
        have HBX:=lh (bgo HBT.out b9)
        clear b9
        rw [HE0.out]
        go_wp2
        go_ret
        exact ⟨rfl,HBX.out⟩
    ·have z1:(sp == S0)=false:=by simpa using z0
     have z2:decide (sp=S0)=false:=decide_eq_false z0
     rw [HS0.out] at z0 z1 z2
     have c0:w4.cell? ⟨Y0,0,none⟩=some (.int .i64 s.ver):=cell_blk JY0.out 0
     have c1:w4.cell? ⟨Y0,1,none⟩=some (.int .i64 s.last):=cell_blk JY0.out 1
     have e0:w4.cell? ⟨Y1,0,none⟩=some (.int .i64 kd):=by
      have yd:=JY1.out
      rw [HDD.out] at yd
      exact cell_blk yd 0
     rw [HK9.out] at e0
     have hldS:(Instr.loadAt 24 (.pointer (some ⟨Y0,0,none⟩))).run Tryz.prog w4=.ok (.agg (scA s (.slice ta s.tabs.length tc))) w4:=load_row JY0.out Tryz.underlying24 rfl size24
     have hldD:(Instr.loadAt 31 (.pointer (some ⟨Y1,0,none⟩))).run Tryz.prog w4=.ok (.agg dd) w4:=load_row JY1.out Tryz.underlying31 rfl (by rw [HDD.out];exact size31)
     go_wp2
     go_ret
     exact ⟨rfl,HB4.out⟩
end
end Go.Proofs.YtongmhfpoopebaaGreat
