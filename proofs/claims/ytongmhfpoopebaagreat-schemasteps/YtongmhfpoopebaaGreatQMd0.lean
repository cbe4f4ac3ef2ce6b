import Derived.Test.YtongmhfpoopebaaGreatQMe
import Derived.RegionTactic
namespace Go.Proofs.YtongmhfpoopebaaGreat
open Go.RowKit Go.Maps
section
variable {w : World}
set_option maxHeartbeats 16000000 in
set_option maxRecDepth 100000 in
theorem steps_law0 {kd:Int} {s:Sc} {tv:Value} {d:Dd} {da:Option Addr} {dc:Nat} (hkd:d.kind=kd) (hko:kd < 1 ∨ 7 < kd) (hL:Lr tbE 5 w s.tabs tv) (hI:ScIn s) (hQ:ScQ s) (hd:Lr colE 7 w d.cols (.slice da d.cols.length dc)) (hdz:d.cols.length * 72≤140737488355328):Calls Tryz.prog 5 #[scV s tv,.agg #[.int .i64 kd,.string d.table,.string d.name,.string d.column,.string d.parent,.bool d.uq,.int .i64 d.ty,.int .i64 d.df.k,.int .i64 d.df.n,.string d.df.s,.slice da d.cols.length dc]] w fun e w'=>e=.returned (.bool true)∧Below w.heap.size w w':=by
 obtain ⟨ta,tc,rfl,hr0⟩:=hL
 have hL:Lr tbE 5 w s.tabs (.slice ta s.tabs.length tc):=⟨ta,tc,rfl,hr0⟩
 obtain ⟨dd,hdd⟩:∃ dd:Array Value,dd=#[.int .i64 kd,.string d.table,.string d.name,.string d.column,.string d.parent,.bool d.uq,.int .i64 d.ty,.int .i64 d.df.k,.int .i64 d.df.n,.string d.df.s,.slice da d.cols.length dc]:=⟨_,rfl⟩
 obtain ⟨W,hW⟩:∃ W,W=(w.alloc (.cells #[.int .i64 s.ver,.int .i64 s.last,.slice ta s.tabs.length tc] 24)).alloc (.cells dd 31):=⟨_,rfl⟩
 have hbW:Below w.heap.size w W:=by rw [hW];exact ((Below.refl _ w).alloc (Nat.le_refl _) _).alloc (by simp) _
 obtain ⟨Y0,hY0⟩:∃ Y0,w.heap.size=Y0:=⟨_,rfl⟩
 obtain ⟨Y1,hY1⟩:∃ Y1,Y0+1=Y1:=⟨_,rfl⟩
 have j0:W.heap[Y0]?=some (.cells (scA s (.slice ta s.tabs.length tc)) 24 (0,0)):=by
  have:=heap_alloc_new w (.cells #[.int .i64 s.ver,.int .i64 s.last,.slice ta s.tabs.length tc] 24)
  rw [hW,← hY0,Below.heap_alloc _ _ _ (by simp only [World.size_alloc];omega)]
  exact this
 have j1:W.heap[Y1]?=some (.cells dd 31 (0,0)):=by
  have:=heap_alloc_new (w.alloc (.cells #[.int .i64 s.ver,.int .i64 s.last,.slice ta s.tabs.length tc] 24)) (.cells dd 31)
  simp only [World.size_alloc] at this
  rw [hW,← hY1,← hY0]
  exact this
 have haw:=awake_any W
 have HGR:Hid (∀ X,Below w.heap.size w X→Calls Tryz.prog 8 #[.agg #[.int .i64 s.ver,.int .i64 s.last,.slice ta s.tabs.length tc],.agg #[.int .i64 kd,.string d.table,.string d.name,.string d.column,.string d.parent,.bool d.uq,.int .i64 d.ty,.int .i64 d.df.k,.int .i64 d.df.n,.string d.df.s,.slice da d.cols.length dc]] X (GrAns X (s.tabs.length+d.cols.length+cntN s.tabs≤300))):=lh fun X hX=>by
  rw [← hkd]
  refine great_any (hL.on tbE_held hX) (by have:=hQ.n;omega) (by omega) (fun t ht=>?_)
  have:=hQ.t t ht
  have:=this.c
  have:=(hQ.t t ht).i
  have:=(hQ.t t ht).k
  unfold cntT
  omega
 obtain ⟨rk,hrk⟩:∃ rk:Int,(if rightS s=true then (0:Int) else 100)=rk:=⟨_,rfl⟩
 have HCK:Hid (∀ X,Below w.heap.size w X→Calls Tryz.prog 13 #[.agg #[.int .i64 s.ver,.int .i64 s.last,.slice ta s.tabs.length tc]] X fun e w'=>e=.returned (.int .i64 rk)∧Below X.heap.size X w'):=lh fun X hX=>hrk ▸ checkS_any (hL.on tbE_held hX) (fun t ht i hi=>by
  have h:=hI.t t ht
  unfold idsT at hi
  rw [List.mem_cons,List.mem_append,List.mem_append] at hi
  rcases hi with rfl | (hi | hi) | hi
  ·exact h.id
  ·obtain ⟨x,hx,rfl⟩:=List.mem_map.1 hi
   exact (h.c x hx).id
  ·obtain ⟨x,hx,rfl⟩:=List.mem_map.1 hi
   exact (h.i x hx).id
  ·obtain ⟨x,hx,rfl⟩:=List.mem_map.1 hi
   exact (h.k x hx).id)
 have HST:Hid (∀ (X:World) (u:Sc) (uv:Value) (n:Int),Lr tbE 5 X u.tabs uv→stateP u d=n→Calls Tryz.prog 17 #[scV u uv,.agg dd] X fun e w'=>e=.returned (.int .i64 n)∧Below X.heap.size X w'):=lh fun X u uv n hu hn=>by
  rw [hdd,← hkd,← hn]
  exact state_ref hu
 have HPA:Hid (∀ (X:World) (b:Bool),Calls Tryz.prog 18 #[.agg dd,.bool b] X (MvAns X (pathP kd b))):=lh fun X b=>by
  rw [hdd]
  exact path_any X _ kd b rfl
 have HWK:Hid (∀ (X:World) (u:Sc) (uv:Value) (L:List Mv) (pa:Option Addr) (pc:Nat),Below w.heap.size w X→Lr tbE 5 X u.tabs uv→Lr mvE 2 X L (.slice pa L.length pc)→L.length≤100→wkI u d L→d.cols.length≤1000000→Calls Tryz.prog 19 #[scV u uv,.agg dd,.slice pa L.length pc] X (WkAns X (u :: (wk u d L).1) (wk u d L).2)):=lh fun X u uv L pa pc hX h1 h2 h3 h4 h5=>by
  rw [hdd,← hkd]
  exact walked_any h1 (hd.on colE_held hX) h5 h2 h3 h4
 have HWO:Hid (∀ (X:World) (u:Sc) (uv:Value),Lr tbE 5 X u.tabs uv→Few u.tabs→Calls Tryz.prog 20 #[scV u uv,.agg dd] X fun e w'=>∃ tv',e=.returned (scV (withoutP u d) tv')∧Lr tbE 5 w' (withoutP u d).tabs tv'∧Below X.heap.size X w'):=lh fun X u uv hu hf=>by
  rw [hdd,← hkd]
  exact without_ref hu hf
 have HL0:=lh hL
 have HRK:=lh hrk
 have HI:=lh hI
 have HW:=lh hW
 have HBW:=lh hbW
 have HY0:=lh hY0
 have HY1:=lh hY1
 have HDD:=lh hdd
 have HKD:=lh hkd
 have JW0:=lh j0
 have JW1:=lh j1
 clear hW hbW hY0 hY1 j0 j1 hrk hL hr0 hI hQ hd hdz hkd
 go_enter Tryz.func5,Tryz.ntmps5
 rw [← hdd]
 clear hdd
 go_upto_region 1 with fail
 rw [← HW.out,HY0.out,HY1.out]
 go_wp2_with (go_at_call 7;refine haw.mono ?_;rintro e w1 ⟨rfl,b1⟩;refine Hid.out ?_)
 refine lh ?_
 have HB1:=lh (bgo HBW.out b1)
 have JY0:Hid (w1.heap[Y0]?=some (.cells (scA s (.slice ta s.tabs.length tc)) 24 (0,0))):=lh ((b1.block Y0 (blk_lt JW0.out)).trans JW0.out)
 have JY1:Hid (w1.heap[Y1]?=some (.cells dd 31 (0,0))):=lh ((b1.block Y1 (blk_lt JW1.out)).trans JW1.out)
 have hgr:=HGR.out w1 HB1.out
 clear haw b1 JW0 JW1 HGR
 have n1:¬ kd=1:=by omega
 have n2:¬ kd=2:=by omega
 have n4:¬ kd=4:=by omega
 have n6:¬ kd=6:=by omega
 have m1:(kd == 1)=false:=by simpa using n1
 have m2:(kd == 2)=false:=by simpa using n2
 have m4:(kd == 4)=false:=by simpa using n4
 have m6:(kd == 6)=false:=by simpa using n6
 have HKO:=lh hko
 clear hko
 have c0:w1.cell? ⟨Y0,0,none⟩=some (.int .i64 s.ver):=cell_blk JY0.out 0
 have c1:w1.cell? ⟨Y0,1,none⟩=some (.int .i64 s.last):=cell_blk JY0.out 1
 have c2:w1.cell? ⟨Y0,2,none⟩=some (.slice ta s.tabs.length tc):=cell_blk JY0.out 2
 have yd:=JY1.out
 rw [HDD.out] at yd
 have e0:w1.cell? ⟨Y1,0,none⟩=some (.int .i64 kd):=cell_blk yd 0
 have e1:w1.cell? ⟨Y1,1,none⟩=some (.string d.table):=cell_blk yd 1
 have e2:w1.cell? ⟨Y1,2,none⟩=some (.string d.name):=cell_blk yd 2
 have e3:w1.cell? ⟨Y1,3,none⟩=some (.string d.column):=cell_blk yd 3
 have e4:w1.cell? ⟨Y1,4,none⟩=some (.string d.parent):=cell_blk yd 4
 have e5:w1.cell? ⟨Y1,5,none⟩=some (.bool d.uq):=cell_blk yd 5
 have e6:w1.cell? ⟨Y1,6,none⟩=some (.int .i64 d.ty):=cell_blk yd 6
 have e7:w1.cell? ⟨Y1,7,none⟩=some (.int .i64 d.df.k):=cell_blk yd 7
 have e8:w1.cell? ⟨Y1,8,none⟩=some (.int .i64 d.df.n):=cell_blk yd 8
 have e9:w1.cell? ⟨Y1,9,none⟩=some (.string d.df.s):=cell_blk yd 9
 have e10:w1.cell? ⟨Y1,10,none⟩=some (.slice da d.cols.length dc):=cell_blk yd 10
 clear yd
 go_wp2_with (go_at_call 8;refine hgr.mono ?_;rintro e w2 ⟨g,rfl,hP,b2⟩;refine Hid.out ?_)
 refine lh ?_
 have HB2:=lh (bgo HB1.out b2)
 have HP:=lh hP
 clear c0 c1 c2 e0 e1 e2 e3 e4 e5 e6 e7 e8 e9 e10
 have JX0:Hid (w2.heap[Y0]?=some (.cells (scA s (.slice ta s.tabs.length tc)) 24 (0,0))):=lh ((b2.block Y0 (blk_lt JY0.out)).trans JY0.out)
 have JX1:Hid (w2.heap[Y1]?=some (.cells dd 31 (0,0))):=lh ((b2.block Y1 (blk_lt JY1.out)).trans JY1.out)
 clear JY0 JY1
 have JY0:=JX0
 have JY1:=JX1
 clear JX0 JX1
 clear hgr hP b2
 cases g with
 | true =>
  have haw:=awake_any w2
  go_wp2_with (go_at_call 7;refine haw.mono ?_;rintro e w9 ⟨rfl,b9⟩;refine Hid.out ?_)
  refine lh ?_
  have HB9:=lh (bgo HB2.out b9)
  clear haw b9
  go_wp2
  go_ret
  exact ⟨rfl,HB9.out⟩
 | false =>
  have c0:w2.cell? ⟨Y0,0,none⟩=some (.int .i64 s.ver):=cell_blk JY0.out 0
  have c1:w2.cell? ⟨Y0,1,none⟩=some (.int .i64 s.last):=cell_blk JY0.out 1
  have c2:w2.cell? ⟨Y0,2,none⟩=some (.slice ta s.tabs.length tc):=cell_blk JY0.out 2
  have yd:=JY1.out
  rw [HDD.out] at yd
  have e0:w2.cell? ⟨Y1,0,none⟩=some (.int .i64 kd):=cell_blk yd 0
  have e1:w2.cell? ⟨Y1,1,none⟩=some (.string d.table):=cell_blk yd 1
  have e2:w2.cell? ⟨Y1,2,none⟩=some (.string d.name):=cell_blk yd 2
  have e3:w2.cell? ⟨Y1,3,none⟩=some (.string d.column):=cell_blk yd 3
  have e4:w2.cell? ⟨Y1,4,none⟩=some (.string d.parent):=cell_blk yd 4
  have e5:w2.cell? ⟨Y1,5,none⟩=some (.bool d.uq):=cell_blk yd 5
  have e6:w2.cell? ⟨Y1,6,none⟩=some (.int .i64 d.ty):=cell_blk yd 6
  have e7:w2.cell? ⟨Y1,7,none⟩=some (.int .i64 d.df.k):=cell_blk yd 7
  have e8:w2.cell? ⟨Y1,8,none⟩=some (.int .i64 d.df.n):=cell_blk yd 8
  have e9:w2.cell? ⟨Y1,9,none⟩=some (.string d.df.s):=cell_blk yd 9
  have e10:w2.cell? ⟨Y1,10,none⟩=some (.slice da d.cols.length dc):=cell_blk yd 10
  clear yd
  have hck:=HCK.out w2 HB2.out
  go_wp2_with (go_at_call 13;refine hck.mono ?_;rintro e w3 ⟨rfl,b3⟩;refine Hid.out ?_)
  refine lh ?_
  have HB3:=lh (bgo HB2.out b3)
  clear c0 c1 c2 e0 e1 e2 e3 e4 e5 e6 e7 e8 e9 e10
  have JX0:Hid (w3.heap[Y0]?=some (.cells (scA s (.slice ta s.tabs.length tc)) 24 (0,0))):=lh ((b3.block Y0 (blk_lt JY0.out)).trans JY0.out)
  have JX1:Hid (w3.heap[Y1]?=some (.cells dd 31 (0,0))):=lh ((b3.block Y1 (blk_lt JY1.out)).trans JY1.out)
  clear JY0 JY1
  have JY0:=JX0
  have JY1:=JX1
  clear JX0 JX1
  clear hck b3 HCK
  cases hR:rightS s with
  | false =>
   have hk0:rk=100:=by rw [← HRK.out,hR];rfl
   subst hk0
   clear hR HRK
   have haw:=awake_any w3
   go_wp2_with (go_at_call 7;refine haw.mono ?_;rintro e w9 ⟨rfl,b9⟩;refine Hid.out ?_)
   refine lh ?_
   have HB9:=lh (bgo HB3.out b9)
   clear haw b9
   go_wp2
   go_ret
   exact ⟨rfl,HB9.out⟩
  | true =>
   have hk0:rk=0:=by rw [← HRK.out,hR];rfl
   subst hk0
   have HR:=lh hR
   clear hR HRK
   have c0:w3.cell? ⟨Y0,0,none⟩=some (.int .i64 s.ver):=cell_blk JY0.out 0
   have c1:w3.cell? ⟨Y0,1,none⟩=some (.int .i64 s.last):=cell_blk JY0.out 1
   have e0:w3.cell? ⟨Y1,0,none⟩=some (.int .i64 kd):=by
    have yd:=JY1.out
    rw [HDD.out] at yd
    exact cell_blk yd 0
   have hldS:(Instr.loadAt 24 (.pointer (some ⟨Y0,0,none⟩))).run Tryz.prog w3=.ok (.agg (scA s (.slice ta s.tabs.length tc))) w3:=load_row JY0.out Tryz.underlying24 rfl size24
   have hldD:(Instr.loadAt 31 (.pointer (some ⟨Y1,0,none⟩))).run Tryz.prog w3=.ok (.agg dd) w3:=load_row JY1.out Tryz.underlying31 rfl (by rw [HDD.out];exact size31)
   by_cases zv:562949953421312 < s.ver
   ·have zv':decide (562949953421312 < s.ver)=true:=decide_eq_true zv
    have haw:=awake_any w3
    go_wp2_with (go_at_call 7;refine haw.mono ?_;rintro e w9 ⟨rfl,b9⟩;refine Hid.out ?_)
    refine lh ?_
    have HB9:=lh (bgo HB3.out b9)
    clear haw b9
    go_wp2
    go_ret
    exact ⟨rfl,HB9.out⟩
   have zv':decide (562949953421312 < s.ver)=false:=decide_eq_false zv
   by_cases zl:562949953421312 < s.last
   ·have zl':decide (562949953421312 < s.last)=true:=decide_eq_true zl
    have haw:=awake_any w3
    go_wp2_with (go_at_call 7;refine haw.mono ?_;rintro e w9 ⟨rfl,b9⟩;refine Hid.out ?_)
    refine lh ?_
    have HB9:=lh (bgo HB3.out b9)
    clear haw b9
    go_wp2
    go_ret
    exact ⟨rfl,HB9.out⟩
   have zl':decide (562949953421312 < s.last)=false:=decide_eq_false zl
   have HV:Hid (s.ver≤562949953421312∧s.last≤562949953421312):=lh ⟨by omega,by omega⟩
   have HDC:Hid (d.cols.length≤300):=lh (by have:=HP.out trivial;omega)
   obtain ⟨sp,hsp⟩:∃ sp,stateP s d=sp:=⟨_,rfl⟩
   have hst:=HST.out w3 s (.slice ta s.tabs.length tc) sp (HL0.out.on tbE_held HB3.out) hsp
   have HSP:=lh hsp
   clear hsp
   go_wp2_with (first | (go_at_call 17;refine hst.mono ?_;rintro e w4 ⟨rfl,b4⟩;refine Hid.out ?_) | (refine wpl_load _ rfl (by first | rfl | (simp [Act.eval];done)) hldS ?_) | (refine wpl_load _ rfl (by first | rfl | (simp [Act.eval];done)) hldD ?_))
   refine lh ?_
   have HB4:=lh (bgo HB3.out b4)
   clear c0 c1 e0 hldS hldD zv zv' zl zl' hst
   have JX0:Hid (w4.heap[Y0]?=some (.cells (scA s (.slice ta s.tabs.length tc)) 24 (0,0))):=lh ((b4.block Y0 (blk_lt JY0.out)).trans JY0.out)
   have JX1:Hid (w4.heap[Y1]?=some (.cells dd 31 (0,0))):=lh ((b4.block Y1 (blk_lt JY1.out)).trans JY1.out)
   clear JY0 JY1
   have JY0:=JX0
   have JY1:=JX1
   clear JX0 JX1
   clear b4
   by_cases z0:sp=3
   ·subst z0
    have c0:w4.cell? ⟨Y0,0,none⟩=some (.int .i64 s.ver):=cell_blk JY0.out 0
    have c1:w4.cell? ⟨Y0,1,none⟩=some (.int .i64 s.last):=cell_blk JY0.out 1
    have e0:w4.cell? ⟨Y1,0,none⟩=some (.int .i64 kd):=by
     have yd:=JY1.out
     rw [HDD.out] at yd
     exact cell_blk yd 0
    have hldS:(Instr.loadAt 24 (.pointer (some ⟨Y0,0,none⟩))).run Tryz.prog w4=.ok (.agg (scA s (.slice ta s.tabs.length tc))) w4:=load_row JY0.out Tryz.underlying24 rfl size24
    have hldD:(Instr.loadAt 31 (.pointer (some ⟨Y1,0,none⟩))).run Tryz.prog w4=.ok (.agg dd) w4:=load_row JY1.out Tryz.underlying31 rfl (by rw [HDD.out];exact size31)
    have HSS:=lh (steps_plain (d:=d) HR.out (by rw [HKD.out];exact .inr ⟨by unfold addK;simp [n1,n2,n4,n6],HSP.out⟩) HV.out.1 HV.out.2)
    have hpa:=HPA.out w4 false
    go_wp2_with (first | (go_at_call 18;refine hpa.mono ?_;rintro e w5 ⟨pa,pc,rfl,hrow,b5⟩;refine Hid.out ?_) | (refine wpl_load _ rfl (by first | rfl | (simp [Act.eval];done)) hldS ?_) | (refine wpl_load _ rfl (by first | rfl | (simp [Act.eval];done)) hldD ?_))
    refine lh ?_
    have HB5:=lh (bgo HB4.out b5)
    clear c0 c1 e0 hldS hldD hpa
    have JX0:Hid (w5.heap[Y0]?=some (.cells (scA s (.slice ta s.tabs.length tc)) 24 (0,0))):=lh ((b5.block Y0 (blk_lt JY0.out)).trans JY0.out)
    have JX1:Hid (w5.heap[Y1]?=some (.cells dd 31 (0,0))):=lh ((b5.block Y1 (blk_lt JY1.out)).trans JY1.out)
    clear JY0 JY1
    have JY0:=JX0
    have JY1:=JX1
    clear JX0 JX1
    obtain ⟨n,hn⟩:∃ n,(pathP kd false).length=n:=⟨_,rfl⟩
    have hLm:Lr mvE 2 w5 (onP kd) (.slice pa n pc):=by rw [← hn];exact Lr.own mvL_len hrow
    rw [hn]
    have hn:(onP kd).length=n:=hn
    clear hrow b5
    have HSA:Hid (wkI s d (onP kd)∧(wk s d (onP kd)=([],false) ∨ ∃ l z,wk s d (onP kd)=(l,true)∧l.length=(onP kd).length∧NxAll s d s l∧(s :: l).getLast?=some z∧(1≤d.kind→d.kind≤7→stateP z d=if addK d.kind then 3 else 0))):=lh (by
     have h1:=HSS.out.ids
     have h2:=HSS.out.all
     rw [HKD.out] at h1 h2
     rw [HKD.out]
     exact ⟨h1,h2⟩)
    have hn5:n≤5:=by
     rw [← hn]
     unfold onP
     repeat' split
     all_goals simp
    have HWA:Hid (∀ X,Below w5.heap.size w5 X→Calls Tryz.prog 19 #[scV s (.slice ta s.tabs.length tc),.agg dd,.slice pa n pc] X (WkAns X (s :: (wk s d (onP kd)).1) (wk s d (onP kd)).2)):=lh fun X hX=>by
     have q:=HWK.out X s (.slice ta s.tabs.length tc) (onP kd) pa pc (bgo HB5.out hX) (HL0.out.on tbE_held (bgo HB5.out hX)) (by rw [hn];exact hLm.on mvE_held hX) (by omega) HSA.out.1 (by have:=HDC.out;omega)
     rw [hn] at q
     exact q
    have HN:=lh hn
    have HN5:=lh hn5
    clear hn hn5 hLm HWK HPA HSS
    have hwa:=HWA.out w5 (Below.refl _ _)
    clear HWA
    have c0:w5.cell? ⟨Y0,0,none⟩=some (.int .i64 s.ver):=cell_blk JY0.out 0
    have c1:w5.cell? ⟨Y0,1,none⟩=some (.int .i64 s.last):=cell_blk JY0.out 1
    have e0:w5.cell? ⟨Y1,0,none⟩=some (.int .i64 kd):=by
     have yd:=JY1.out
     rw [HDD.out] at yd
     exact cell_blk yd 0
    have hldS:(Instr.loadAt 24 (.pointer (some ⟨Y0,0,none⟩))).run Tryz.prog w5=.ok (.agg (scA s (.slice ta s.tabs.length tc))) w5:=load_row JY0.out Tryz.underlying24 rfl size24
    have hldD:(Instr.loadAt 31 (.pointer (some ⟨Y1,0,none⟩))).run Tryz.prog w5=.ok (.agg dd) w5:=load_row JY1.out Tryz.underlying31 rfl (by rw [HDD.out];exact size31)
    rcases HSA.out.2 with h | ⟨l,z,hwk,hll,hnx,hlast,hend⟩
    ·rw [h] at hwa
     clear h
     go_wp2_with (first | (go_at_call 19;refine hwa.mono ?_;rintro e w6 ⟨va,vc,rfl,h6,b6⟩;refine Hid.out ?_) | (refine wpl_load _ rfl (by first | rfl | (simp [Act.eval];done)) hldS ?_) | (refine wpl_load _ rfl (by first | rfl | (simp [Act.eval];done)) hldD ?_))
     refine lh ?_
     have HB6:=lh (bgo HB5.out b6)
     clear c0 c1 e0 hldS hldD hwa h6 b6
     go_wp2
     go_ret
     exact ⟨rfl,HB6.out⟩
    obtain ⟨k,hk⟩:∃ k,(s :: l).length=k:=⟨_,rfl⟩
    have hwa2:Calls Tryz.prog 19 #[scV s (.slice ta s.tabs.length tc),.agg dd,.slice pa n pc] w5 fun e w'=>∃ ad cap,e=.returned (.tuple #[.slice ad k cap,.bool true])∧Lr scE 3 w' (s :: l) (.slice ad k cap)∧Below w5.heap.size w5 w':=by
     rw [hwk] at hwa
     unfold WkAns at hwa
     simp only at hwa
     rw [hk] at hwa
     exact hwa
    have HK:Hid (k=n+1∧l.length=n):=lh (by
     have:=HN.out
     rw [this] at hll
     rw [List.length_cons] at hk
     exact ⟨by omega,hll⟩)
    have HLN:=lh hk
    have HNX:=lh hnx
    have HLA:=lh hlast
    have HEN:=lh hend
    clear hwa hwk hll hnx hlast hend hk HSA
    go_wp2_with (first | (go_at_call 19;refine hwa2.mono ?_;rintro e w6 ⟨va,vc,rfl,h6,b6⟩;refine Hid.out ?_) | (refine wpl_load _ rfl (by first | rfl | (simp [Act.eval];done)) hldS ?_) | (refine wpl_load _ rfl (by first | rfl | (simp [Act.eval];done)) hldD ?_))
    refine lh ?_
    have HB6:=lh (bgo HB5.out b6)
    clear c0 c1 e0 hldS hldD hwa2
    have JX0:Hid (w6.heap[Y0]?=some (.cells (scA s (.slice ta s.tabs.length tc)) 24 (0,0))):=lh ((b6.block Y0 (blk_lt JY0.out)).trans JY0.out)
    have JX1:Hid (w6.heap[Y1]?=some (.cells dd 31 (0,0))):=lh ((b6.block Y1 (blk_lt JY1.out)).trans JY1.out)
    clear JY0 JY1
    have JY0:=JX0
    have JY1:=JX1
    clear JX0 JX1
    obtain ⟨vb,vp,cs9,rfl,r9⟩:=cellsS h6 0 (by simp)
    clear r9
    have HS6:=lh h6
    have hkm:(k:Int)≤9223372036854775807:=by have:=HK.out;have:=HN5.out;omega
    have hnm:(n:Int)≤9223372036854775807:=by have:=HN5.out;omega
    clear b6 h6
    have c0:w6.cell? ⟨Y0,0,none⟩=some (.int .i64 s.ver):=cell_blk JY0.out 0
    have c1:w6.cell? ⟨Y0,1,none⟩=some (.int .i64 s.last):=cell_blk JY0.out 1
    have e0:w6.cell? ⟨Y1,0,none⟩=some (.int .i64 kd):=by
     have yd:=JY1.out
     rw [HDD.out] at yd
     exact cell_blk yd 0
    have hldS:(Instr.loadAt 24 (.pointer (some ⟨Y0,0,none⟩))).run Tryz.prog w6=.ok (.agg (scA s (.slice ta s.tabs.length tc))) w6:=load_row JY0.out Tryz.underlying24 rfl size24
    have hldD:(Instr.loadAt 31 (.pointer (some ⟨Y1,0,none⟩))).run Tryz.prog w6=.ok (.agg dd) w6:=load_row JY1.out Tryz.underlying31 rfl (by rw [HDD.out];exact size31)
    have hn0:n=0:=by
     rw [← HN.out]
     unfold onP
     have:=HKO.out
     repeat' split
     all_goals first | omega | rfl
    subst hn0
    by_cases kl:kd < 1
    ·have kl':decide (kd < 1)=true:=decide_eq_true kl
     go_wp2
     go_ret
     exact ⟨rfl,HB6.out⟩
    ·have kl':decide (kd < 1)=false:=decide_eq_false kl
     have kg:7 < kd:=by have:=HKO.out;omega
     have kg':decide (7 < kd)=true:=decide_eq_true kg
     go_wp2
     go_ret
     exact ⟨rfl,HB6.out⟩
   ·have z1:(sp == 3)=false:=by simpa using z0
    have z2:decide (sp=3)=false:=decide_eq_false z0
    have c0:w4.cell? ⟨Y0,0,none⟩=some (.int .i64 s.ver):=cell_blk JY0.out 0
    have c1:w4.cell? ⟨Y0,1,none⟩=some (.int .i64 s.last):=cell_blk JY0.out 1
    have e0:w4.cell? ⟨Y1,0,none⟩=some (.int .i64 kd):=by
     have yd:=JY1.out
     rw [HDD.out] at yd
     exact cell_blk yd 0
    have hldS:(Instr.loadAt 24 (.pointer (some ⟨Y0,0,none⟩))).run Tryz.prog w4=.ok (.agg (scA s (.slice ta s.tabs.length tc))) w4:=load_row JY0.out Tryz.underlying24 rfl size24
    have hldD:(Instr.loadAt 31 (.pointer (some ⟨Y1,0,none⟩))).run Tryz.prog w4=.ok (.agg dd) w4:=load_row JY1.out Tryz.underlying31 rfl (by rw [HDD.out];exact size31)
    go_wp2
    go_ret
    exact ⟨rfl,HB4.out⟩
end
end Go.Proofs.YtongmhfpoopebaaGreat
