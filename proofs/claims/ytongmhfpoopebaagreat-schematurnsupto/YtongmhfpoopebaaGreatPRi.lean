import Derived.Test.YtongmhfpoopebaaGreatPRh
import Derived.RegionTactic
namespace Go.Proofs.YtongmhfpoopebaaGreat
open Go.RowKit Go.Maps
structure Spo (B:Nat) (w w':World):Prop where
 fr:Fr w w' (fun k=>B≤k∧∃ cs,w.heap[k]?=some (.cells cs 50 (0,0)))
 sz:∀ (k:Nat) (cs:Array Value),w.heap[k]?=some (.cells cs 50 (0,0))→∃ cs',w'.heap[k]?=some (.cells cs' 50 (0,0))∧cs'.size=cs.size
theorem Spo.refl (B:Nat) (w:World):Spo B w w:=⟨Fr.refl _ _,fun _ cs h=>⟨cs,h,rfl⟩⟩
theorem Spo.set {B:Nat} {w w':World} (h:Spo B w w') {k i:Nat} {cs:Array Value} (hk:w.heap[k]?=some (.cells cs 50 (0,0))) (hB:B≤k) (v:Value):Spo B w (w'.setCell ⟨k,i,none⟩ v):=⟨h.fr.set (.inl ⟨hB,cs,hk⟩) v,fun k2 cs2 h2=>by
 obtain ⟨cs3,h3,e3⟩:=h.sz k2 cs2 h2
 by_cases q:k2=k
 ·subst q
  exact ⟨_,set_blk h3 v,by simpa using e3⟩
 ·exact ⟨cs3,(set_other v q).trans h3,e3⟩⟩
theorem Spo.cell {B:Nat} {w w':World} (h:Spo B w w') {k:Nat} {cs:Array Value} {e:TypeId} (hk:w.heap[k]?=some (.cells cs e (0,0))) (he:e≠50):w'.heap[k]?=some (.cells cs e (0,0)):=(h.fr.block k (blk_lt hk) (fun q=>by
 obtain ⟨_,cs2,h2⟩:=q
 rw [h2] at hk
 simp only [Option.some.injEq,Obj.cells.injEq] at hk
 exact he hk.2.1.symm)).trans hk
theorem Spo.below {B:Nat} {w w':World} (h:Spo B w w') (hB:B≤w.heap.size):Below B w w':=h.fr.toBelow (fun k hk q=>by have:=q.1;omega) hB
section
variable {w : World}
set_option maxHeartbeats 16000000 in
set_option maxRecDepth 100000 in
theorem turns_law {s:Sc} {tv:Value} {d:Dd} {st:Int} {da:Option Addr} {dc:Nat} (hL:Lr tbE 5 w s.tabs tv) (hI:ScIn s) (hdI:DdIn d) (hz:scB s≤1048576) (hd:Lr colE 7 w d.cols (.slice da d.cols.length dc)) (hdz:d.cols.length≤1048576):Calls Tryz.prog 4 #[scV s tv,.agg #[.int .i64 d.kind,.string d.table,.string d.name,.string d.column,.string d.parent,.bool d.uq,.int .i64 d.ty,.int .i64 d.df.k,.int .i64 d.df.n,.string d.df.s,.slice da d.cols.length dc],.int .i64 st] w fun e w'=>e=.returned (.bool true)∧Below w.heap.size w w':=by
 obtain ⟨ta,tc,rfl,hr0⟩:=hL
 have hL:Lr tbE 5 w s.tabs (.slice ta s.tabs.length tc):=⟨ta,tc,rfl,hr0⟩
 obtain ⟨W,hW⟩:∃ W,W=(w.alloc (.cells #[.int .i64 s.ver,.int .i64 s.last,.slice ta s.tabs.length tc] 24)).alloc (.cells #[.int .i64 d.kind,.string d.table,.string d.name,.string d.column,.string d.parent,.bool d.uq,.int .i64 d.ty,.int .i64 d.df.k,.int .i64 d.df.n,.string d.df.s,.slice da d.cols.length dc] 31):=⟨_,rfl⟩
 have hbW:Below w.heap.size w W:=by rw [hW];exact ((Below.refl _ w).alloc (Nat.le_refl _) _).alloc (by simp) _
 obtain ⟨Y0,hY0⟩:∃ Y0,w.heap.size=Y0:=⟨_,rfl⟩
 obtain ⟨Y1,hY1⟩:∃ Y1,Y0+1=Y1:=⟨_,rfl⟩
 have j0:W.heap[Y0]?=some (.cells #[.int .i64 s.ver,.int .i64 s.last,.slice ta s.tabs.length tc] 24 (0,0)):=by
  have:=heap_alloc_new w (.cells #[.int .i64 s.ver,.int .i64 s.last,.slice ta s.tabs.length tc] 24)
  rw [hW,←hY0,Below.heap_alloc _ _ _ (by simp only [World.size_alloc];omega)]
  exact this
 have j1:W.heap[Y1]?=some (.cells #[.int .i64 d.kind,.string d.table,.string d.name,.string d.column,.string d.parent,.bool d.uq,.int .i64 d.ty,.int .i64 d.df.k,.int .i64 d.df.n,.string d.df.s,.slice da d.cols.length dc] 31 (0,0)):=by
  have:=heap_alloc_new (w.alloc (.cells #[.int .i64 s.ver,.int .i64 s.last,.slice ta s.tabs.length tc] 24)) (.cells #[.int .i64 d.kind,.string d.table,.string d.name,.string d.column,.string d.parent,.bool d.uq,.int .i64 d.ty,.int .i64 d.df.k,.int .i64 d.df.n,.string d.df.s,.slice da d.cols.length dc] 31)
  simp only [World.size_alloc] at this
  rw [hW,←hY1,←hY0]
  exact this
 have haw:=awake_any W
 have HGR:Hid (∀ X,Below w.heap.size w X→Calls Tryz.prog 8 #[.agg #[.int .i64 s.ver,.int .i64 s.last,.slice ta s.tabs.length tc],.agg #[.int .i64 d.kind,.string d.table,.string d.name,.string d.column,.string d.parent,.bool d.uq,.int .i64 d.ty,.int .i64 d.df.k,.int .i64 d.df.n,.string d.df.s,.slice da d.cols.length dc]] X (GrAns X (s.tabs.length+d.cols.length+cntN s.tabs≤300))):=lh fun X hX=>by
  refine great_any (hL.on tbE_held hX) (by have:=tabs_B s;omega) (by omega) (fun t ht=>?_)
  have:=cntT_B t
  have:=tab_B ht
  omega
 have HL0:=lh hL
 have HD0:=lh hd
 have HI:=lh hI
 have HDI:=lh hdI
 have HZ:=lh (And.intro hz hdz)
 have HW:=lh hW
 have HBW:=lh hbW
 have HY0:=lh hY0
 have HY1:=lh hY1
 have JW0:=lh j0
 have JW1:=lh j1
 clear hW hbW hY0 hY1 j0 j1 hL hr0 hI hdI hz hd hdz
 go_enter Tryz.func4,Tryz.ntmps4
 go_upto_region 1 with fail
 rw [←HW.out,HY0.out,HY1.out]
 go_wp2_with (go_at_call 7;refine haw.mono ?_;rintro e w1 ⟨rfl,b1⟩;refine Hid.out ?_)
 refine lh ?_
 have HB1:=lh (bgo HBW.out b1)
 have JY0:=lh ((b1.block Y0 (blk_lt JW0.out)).trans JW0.out)
 have JY1:=lh ((b1.block Y1 (blk_lt JW1.out)).trans JW1.out)
 have hgr:=HGR.out w1 HB1.out
 have c0:w1.cell? ⟨Y0,0,none⟩=some (.int .i64 s.ver):=cell_blk JY0.out 0
 have c1:w1.cell? ⟨Y0,1,none⟩=some (.int .i64 s.last):=cell_blk JY0.out 1
 have c2:w1.cell? ⟨Y0,2,none⟩=some (.slice ta s.tabs.length tc):=cell_blk JY0.out 2
 have e0:w1.cell? ⟨Y1,0,none⟩=some (.int .i64 d.kind):=cell_blk JY1.out 0
 have e1:w1.cell? ⟨Y1,1,none⟩=some (.string d.table):=cell_blk JY1.out 1
 have e2:w1.cell? ⟨Y1,2,none⟩=some (.string d.name):=cell_blk JY1.out 2
 have e3:w1.cell? ⟨Y1,3,none⟩=some (.string d.column):=cell_blk JY1.out 3
 have e4:w1.cell? ⟨Y1,4,none⟩=some (.string d.parent):=cell_blk JY1.out 4
 have e5:w1.cell? ⟨Y1,5,none⟩=some (.bool d.uq):=cell_blk JY1.out 5
 have e6:w1.cell? ⟨Y1,6,none⟩=some (.int .i64 d.ty):=cell_blk JY1.out 6
 have e7:w1.cell? ⟨Y1,7,none⟩=some (.int .i64 d.df.k):=cell_blk JY1.out 7
 have e8:w1.cell? ⟨Y1,8,none⟩=some (.int .i64 d.df.n):=cell_blk JY1.out 8
 have e9:w1.cell? ⟨Y1,9,none⟩=some (.string d.df.s):=cell_blk JY1.out 9
 have e10:w1.cell? ⟨Y1,10,none⟩=some (.slice da d.cols.length dc):=cell_blk JY1.out 10
 clear haw b1 JW0 JW1 HGR
 go_wp2_with (go_at_call 8;refine hgr.mono ?_;rintro e w2 ⟨g,rfl,hP,b2⟩;refine Hid.out ?_)
 refine lh ?_
 have HB2:=lh (bgo HB1.out b2)
 have HP:=lh hP
 clear c0 c1 c2 e0 e1 e2 e3 e4 e5 e6 e7 e8 e9 e10
 have JX0:=lh ((b2.block Y0 (blk_lt JY0.out)).trans JY0.out)
 have JX1:=lh ((b2.block Y1 (blk_lt JY1.out)).trans JY1.out)
 clear JY0 JY1 hgr hP b2
 cases g with
 | true =>
  have haw:=awake_any w2
  go_wp2_with (go_at_call 7;refine haw.mono ?_;rintro e w9 ⟨rfl,b9⟩;refine Hid.out ?_)
  refine lh ?_
  have HB9:=lh (bgo HB2.out b9)
  clear haw b9
  go_wp2
  go_ret
  exact ⟨rfl,HB9.out⟩
 | false =>
  have HFW:=lh (few_of (m:=d.cols.length) (HP.out (by first | rfl | trivial)))
  have HFEW:Hid (Few s.tabs):=lh ⟨by have:=HFW.out.1;omega,fun t ht=>by
   have:=HFW.out.2 t ht
   unfold cntT at this
   exact ⟨by omega,by omega,by omega⟩⟩
  have hcp:=copy_any (HL0.out.on tbE_held HB2.out) HFEW.out
  have hldS:=load_row JX0.out Tryz.underlying24 rfl size24
  go_upto_region 3 with fail
  go_upto_region 4 with (first | (go_at_call 14;refine hcp.mono ?_;rintro e w3 ⟨G,tvm,rfl,hG,hD,b3⟩;refine Hid.out ?_) | (refine wpl_load _ rfl (by first | rfl | (simp [Act.eval];done)) hldS ?_))
  refine lh ?_
  clear hcp hldS
  obtain ⟨mad,mcap,hsh⟩:=own_shape hD.row
  subst hsh
  have hGl:G.length=s.tabs.length:=by rw [←hG,List.length_map]
  rw [hGl] at hD ⊢
  obtain ⟨V3,hV3⟩:∃ V3,V3=w3.alloc (.cells #[.int .i64 s.ver,.int .i64 s.last,.slice mad s.tabs.length mcap] 24):=⟨_,rfl⟩
  obtain ⟨P7,hP7⟩:∃ P7,w3.heap.size=P7:=⟨_,rfl⟩
  have jP7:V3.heap[P7]?=some (.cells #[.int .i64 s.ver,.int .i64 s.last,.slice mad s.tabs.length mcap] 24 (0,0)):=by rw [hV3,←hP7];exact heap_alloc_new w3 _
  have bV3:Below w3.heap.size w3 V3:=by rw [hV3];exact bnew _ _
  have b23:=bgo b3 bV3
  have HB3:=lh (bgo HB2.out b23)
  have HLM:Hid (Lr tbE 5 V3 s.tabs (.slice mad s.tabs.length mcap)):=lh (by
   have:=(hD.below bV3).reads
   rwa [hG] at this)
  have K0:=lh ((b23.block Y0 (blk_lt JX0.out)).trans JX0.out)
  have K1:=lh ((b23.block Y1 (blk_lt JX1.out)).trans JX1.out)
  have K7:=lh jP7
  have HLS:=lh (HL0.out.on tbE_held HB3.out)
  have HDS:=lh (HD0.out.on colE_held HB3.out)
  have HV3:=lh hV3
  have HP7:=lh hP7
  clear hG hD b3 hV3 hP7 jP7 bV3 b23 hGl
  go_upto_region 4 with fail
  rw [←HV3.out,HP7.out]
  have hld7:=load_row K7.out Tryz.underlying24 rfl size24
  have hldD:(Instr.loadAt 31 (.pointer (some ⟨Y1,0,none⟩))).run Tryz.prog V3=.ok (.agg #[.int .i64 d.kind,.string d.table,.string d.name,.string d.column,.string d.parent,.bool d.uq,.int .i64 d.ty,.int .i64 d.df.k,.int .i64 d.df.n,.string d.df.s,.slice da d.cols.length dc]) V3:=load_row K1.out Tryz.underlying31 rfl size31
  have htu:=turn_any (st:=st) HLM.out (fun t ht i hi=>by
   have h:=HI.out.t t ht
   unfold idsT at hi
   rw [List.mem_cons,List.mem_append,List.mem_append] at hi
   rcases hi with rfl | (hi | hi) | hi
   ·exact h.id
   ·obtain ⟨x,hx,rfl⟩:=List.mem_map.1 hi
    exact (h.c x hx).id
   ·obtain ⟨x,hx,rfl⟩:=List.mem_map.1 hi
    exact (h.i x hx).id
   ·obtain ⟨x,hx,rfl⟩:=List.mem_map.1 hi
    exact (h.k x hx).id) HDS.out (by have:=HFW.out;have:=HP.out (by first | rfl | trivial);omega)
  obtain ⟨res,hres⟩:∃ res,turnS s d st=res:=⟨_,rfl⟩
  rw [hres] at htu
  have HRS:=lh hres
  have HDC:Hid (d.cols.length≤1000000):=lh (by have:=HP.out (by first | rfl | trivial);omega)
  have HTM:Hid ((schL s).length≤1000000000):=lh (by have:=schL_len s;have:=HZ.out.1;omega)
  clear hres
  cases res with
  | error er =>
   go_upto_region 5 with (first | (go_at_call 15;refine htu.mono ?_;rintro e w4 ⟨rfl,hne,b4⟩;refine Hid.out ?_) | (refine wpl_load _ rfl (by first | rfl | (simp [Act.eval];done)) hld7 ?_) | (refine wpl_load _ rfl (by first | rfl | (simp [Act.eval];done)) hldD ?_))
   refine lh ?_
   clear htu hld7 hldD
   obtain ⟨V4,hV4⟩:∃ V4,V4=w4.alloc (.cells #[.int .i64 0,.int .i64 0,.slice none 0 0] 24):=⟨_,rfl⟩
   obtain ⟨P8,hP8⟩:∃ P8,w4.heap.size=P8:=⟨_,rfl⟩
   have jP8:V4.heap[P8]?=some (.cells #[.int .i64 0,.int .i64 0,.slice none 0 0] 24 (0,0)):=by rw [hV4,←hP8];exact heap_alloc_new w4 _
   have bV4:Below w4.heap.size w4 V4:=by rw [hV4];exact bnew _ _
   have b34:=bgo b4 bV4
   have HB4:=lh b34
   have M0:=lh ((b34.block Y0 (blk_lt K0.out)).trans K0.out)
   have M1:=lh ((b34.block Y1 (blk_lt K1.out)).trans K1.out)
   have M8:=lh jP8
   have HV4:=lh hV4
   have HP8:=lh hP8
   have HNE:=lh hne
   skip
   clear hV4 hP8 jP8 b34 b4 hne bV4
   go_upto_region 5 with fail
   rw [←HV4.out,HP8.out]
   have htr:=turn_ref (st:=st) (HLS.out.on tbE_held HB4.out) (HDS.out.on colE_held HB4.out) HDC.out
   rw [HRS.out] at htr
   have hldS:=load_row M0.out Tryz.underlying24 rfl size24
   have hldD:(Instr.loadAt 31 (.pointer (some ⟨Y1,0,none⟩))).run Tryz.prog V4=.ok (.agg #[.int .i64 d.kind,.string d.table,.string d.name,.string d.column,.string d.parent,.bool d.uq,.int .i64 d.ty,.int .i64 d.df.k,.int .i64 d.df.n,.string d.df.s,.slice da d.cols.length dc]) V4:=load_row M1.out Tryz.underlying31 rfl size31
   go_upto_region 6 with (first | (go_at_call 16;refine htr.mono ?_;rintro e w5 ⟨rfl,hne5,b5⟩;refine Hid.out ?_) | (refine wpl_load _ rfl (by first | rfl | (simp [Act.eval];done)) hldS ?_) | (refine wpl_load _ rfl (by first | rfl | (simp [Act.eval];done)) hldD ?_))
   refine lh ?_
   clear htr hldS hldD
   obtain ⟨V5,hV5⟩:∃ V5,V5=w5.alloc (.cells #[.int .i64 0,.int .i64 0,.slice none 0 0] 24):=⟨_,rfl⟩
   obtain ⟨PA,hPA⟩:∃ PA,w5.heap.size=PA:=⟨_,rfl⟩
   have jPA:V5.heap[PA]?=some (.cells #[.int .i64 0,.int .i64 0,.slice none 0 0] 24 (0,0)):=by rw [hV5,←hPA];exact heap_alloc_new w5 _
   have bV5:Below w5.heap.size w5 V5:=by rw [hV5];exact bnew _ _
   have b45:=bgo b5 bV5
   have N0:=lh ((b45.block Y0 (blk_lt M0.out)).trans M0.out)
   have N8:=lh ((b45.block P8 (blk_lt M8.out)).trans M8.out)
   have NA:=lh jPA
   have HB5:=lh (bgo HB4.out b45)
   have N7:=lh ((HB5.out.block P7 (blk_lt K7.out)).trans K7.out)
   have HV5:=lh hV5
   have HPA:=lh hPA
   have g1:(er == er)=true:=by simp
   have g2:(er != er)=false:=by simp
   have hnil:Lr tbE 5 V5 ([]:List Tb) (.slice none 0 0):=⟨none,0,rfl,fun _=>rfl,Nat.le_refl _,Nat.zero_le _,fun j hj=>absurd hj (by simp)⟩
   have hsm:=same_any (w:=V5) (s:=⟨0,0,[]⟩) (ta:=.slice none 0 0) (tb:=.slice none 0 0) hnil hnil ⟨by unfold I64;simp,by unfold I64;simp,by simp⟩ (by have h1:=schL_len ⟨0,0,[]⟩;have h2:scB ⟨0,0,[]⟩=1:=rfl;omega)
   clear hnil hne5
   clear hV5 hPA jPA bV5 b45 b5
   go_upto_region 6 with fail
   rw [←HV5.out,HPA.out]
   have u0:V5.cell? ⟨P8,0,none⟩=some (.int .i64 0):=cell_blk N8.out 0
   have u1:V5.cell? ⟨P8,1,none⟩=some (.int .i64 0):=cell_blk N8.out 1
   have u2:V5.cell? ⟨P8,2,none⟩=some (.slice none 0 0):=cell_blk N8.out 2
   have v0:V5.cell? ⟨PA,0,none⟩=some (.int .i64 0):=cell_blk NA.out 0
   have v1:V5.cell? ⟨PA,1,none⟩=some (.int .i64 0):=cell_blk NA.out 1
   have v2:V5.cell? ⟨PA,2,none⟩=some (.slice none 0 0):=cell_blk NA.out 2
   go_wp2_with (go_at_call 11;refine hsm.mono ?_;rintro e w6 ⟨rfl,b6⟩;refine Hid.out ?_)
   refine lh ?_
   clear hsm u0 u1 u2 v0 v1 v2
   have HB6:=lh (bgo HB5.out b6)
   have O0:=lh ((b6.block Y0 (blk_lt N0.out)).trans N0.out)
   have O8:=lh ((b6.block P8 (blk_lt N8.out)).trans N8.out)
   have O7:=lh ((b6.block P7 (blk_lt N7.out)).trans N7.out)
   skip
   clear b6
   have hsm:=same_any (HLM.out.on tbE_held HB6.out) (HLS.out.on tbE_held HB6.out) HI.out HTM.out
   have u0:w6.cell? ⟨P7,0,none⟩=some (.int .i64 s.ver):=cell_blk O7.out 0
   have u1:w6.cell? ⟨P7,1,none⟩=some (.int .i64 s.last):=cell_blk O7.out 1
   have u2:w6.cell? ⟨P7,2,none⟩=some (.slice mad s.tabs.length mcap):=cell_blk O7.out 2
   have v0:w6.cell? ⟨Y0,0,none⟩=some (.int .i64 s.ver):=cell_blk O0.out 0
   have v1:w6.cell? ⟨Y0,1,none⟩=some (.int .i64 s.last):=cell_blk O0.out 1
   have v2:w6.cell? ⟨Y0,2,none⟩=some (.slice ta s.tabs.length tc):=cell_blk O0.out 2
   go_wp2_with (go_at_call 11;refine hsm.mono ?_;rintro e w7 ⟨rfl,b7⟩;refine Hid.out ?_)
   refine lh ?_
   clear hsm
   have HB7:=lh (bgo HB6.out b7)
   have Q0:=lh ((b7.block Y0 (blk_lt O0.out)).trans O0.out)
   have Q8:=lh ((b7.block P8 (blk_lt O8.out)).trans O8.out)
   have Q7:=lh ((b7.block P7 (blk_lt O7.out)).trans O7.out)
   skip
   clear b7
   have x8:w7.cell? ⟨P8,2,none⟩=some (.slice none 0 0):=cell_blk Q8.out 2
   go_upto_region 8 with fail
   clear u0 u1 u2 v0 v1 v2
   go_wp2
   go_loopw [56] (fun iv wr=>iv=.int .i64 0∧wr=w7) (fun _ _=>0)
   case atStart=>exact ⟨rfl,rfl⟩
   case round =>
    obtain ⟨rfl,rfl⟩:=hrel
    obtain ⟨w7,hw7⟩:∃ w7,w7=wr:=⟨_,rfl⟩
    subst hw7
    have hbl:Below V3.heap.size V3 w7:=HB7.out
    have R0:=Q0.out
    have R7:=Q7.out
    have hsm:=same_any (HLM.out.on tbE_held hbl) (HLS.out.on tbE_held hbl) HI.out HTM.out
    have u0:w7.cell? ⟨P7,0,none⟩=some (.int .i64 s.ver):=cell_blk R7 0
    have u1:w7.cell? ⟨P7,1,none⟩=some (.int .i64 s.last):=cell_blk R7 1
    have u2:w7.cell? ⟨P7,2,none⟩=some (.slice mad s.tabs.length mcap):=cell_blk R7 2
    have v0:w7.cell? ⟨Y0,0,none⟩=some (.int .i64 s.ver):=cell_blk R0 0
    have v1:w7.cell? ⟨Y0,1,none⟩=some (.int .i64 s.last):=cell_blk R0 1
    have v2:w7.cell? ⟨Y0,2,none⟩=some (.slice ta s.tabs.length tc):=cell_blk R0 2
    have HBL:=lh hbl
    clear R0 R7 hbl
    go_upto_region 17 with fail
    go_wp2_with (go_at_call 11;refine hsm.mono ?_;rintro e w8 ⟨rfl,b8⟩;refine Hid.out ?_)
    refine lh ?_
    clear hsm u0 u1 u2 v0 v1 v2
    have HB8:=lh (bgo HB3.out (bgo HBL.out b8))
    clear b8
    go_wp2
    go_ret
    exact ⟨rfl,HB8.out⟩
  | ok s' =>
   go_upto_region 5 with (first | (go_at_call 15;refine htu.mono ?_;rintro e w4 ⟨G1,tv1,rfl,hG1,hD1,b4⟩;refine Hid.out ?_) | (refine wpl_load _ rfl (by first | rfl | (simp [Act.eval];done)) hld7 ?_) | (refine wpl_load _ rfl (by first | rfl | (simp [Act.eval];done)) hldD ?_))
   refine lh ?_
   clear htu hld7 hldD
   obtain ⟨aad,acap,hsh⟩:=own_shape hD1.row
   subst hsh
   obtain ⟨V4,hV4⟩:∃ V4,V4=w4.alloc (.cells (scA s' (.slice aad G1.length acap)) 24):=⟨_,rfl⟩
   obtain ⟨P8,hP8⟩:∃ P8,w4.heap.size=P8:=⟨_,rfl⟩
   have jP8:V4.heap[P8]?=some (.cells (scA s' (.slice aad G1.length acap)) 24 (0,0)):=by rw [hV4,←hP8];exact heap_alloc_new w4 _
   have bV4:Below w4.heap.size w4 V4:=by rw [hV4];exact bnew _ _
   have b34:=bgo b4 bV4
   have HB4:=lh b34
   have M0:=lh ((b34.block Y0 (blk_lt K0.out)).trans K0.out)
   have M1:=lh ((b34.block Y1 (blk_lt K1.out)).trans K1.out)
   have M8:=lh jP8
   have HV4:=lh hV4
   have HP8:=lh hP8
   have HD1:=lh (hD1.below bV4)
   have HG1:=lh hG1
   clear hV4 hP8 jP8 b34 b4 hD1 hG1 bV4
   go_upto_region 5 with fail
   rw [←HV4.out,HP8.out]
   have htr:=turn_ref (st:=st) (HLS.out.on tbE_held HB4.out) (HDS.out.on colE_held HB4.out) HDC.out
   rw [HRS.out] at htr
   have hldS:=load_row M0.out Tryz.underlying24 rfl size24
   have hldD:(Instr.loadAt 31 (.pointer (some ⟨Y1,0,none⟩))).run Tryz.prog V4=.ok (.agg #[.int .i64 d.kind,.string d.table,.string d.name,.string d.column,.string d.parent,.bool d.uq,.int .i64 d.ty,.int .i64 d.df.k,.int .i64 d.df.n,.string d.df.s,.slice da d.cols.length dc]) V4:=load_row M1.out Tryz.underlying31 rfl size31
   go_upto_region 6 with (first | (go_at_call 16;refine htr.mono ?_;rintro e w5 ⟨G2,tv2,rfl,hG2,hD2,b5⟩;refine Hid.out ?_) | (refine wpl_load _ rfl (by first | rfl | (simp [Act.eval];done)) hldS ?_) | (refine wpl_load _ rfl (by first | rfl | (simp [Act.eval];done)) hldD ?_))
   refine lh ?_
   clear htr hldS hldD
   obtain ⟨bad,bcap,hsh⟩:=own_shape hD2.row
   subst hsh
   obtain ⟨V5,hV5⟩:∃ V5,V5=w5.alloc (.cells (scA s' (.slice bad G2.length bcap)) 24):=⟨_,rfl⟩
   obtain ⟨PA,hPA⟩:∃ PA,w5.heap.size=PA:=⟨_,rfl⟩
   have jPA:V5.heap[PA]?=some (.cells (scA s' (.slice bad G2.length bcap)) 24 (0,0)):=by rw [hV5,←hPA];exact heap_alloc_new w5 _
   have bV5:Below w5.heap.size w5 V5:=by rw [hV5];exact bnew _ _
   have b45:=bgo b5 bV5
   have N0:=lh ((b45.block Y0 (blk_lt M0.out)).trans M0.out)
   have N8:=lh ((b45.block P8 (blk_lt M8.out)).trans M8.out)
   have NA:=lh jPA
   have HB5:=lh (bgo HB4.out b45)
   have N7:=lh ((HB5.out.block P7 (blk_lt K7.out)).trans K7.out)
   have HV5:=lh hV5
   have HPA:=lh hPA
   have HD1':=lh (HD1.out.below b45)
   clear HD1
   have HD1:=HD1'
   clear HD1'
   have HIB:=turn_in HI.out HDI.out HRS.out
   have hsm:=same_any (w:=V5) (s:=s') (ta:=.slice aad G1.length acap) (tb:=.slice bad G2.length bcap) (by have:=HD1.out.reads;rwa [HG1.out] at this) (by have:=(hD2.below bV5).reads;rwa [hG2] at this) HIB.1 (by have h1:=schL_len s';have h2:=HIB.2;omega)
   clear hG2 hD2 HIB
   clear hV5 hPA jPA bV5 b45 b5
   go_upto_region 6 with fail
   rw [←HV5.out,HPA.out]
   have u0:V5.cell? ⟨P8,0,none⟩=some (.int .i64 s'.ver):=cell_blk N8.out 0
   have u1:V5.cell? ⟨P8,1,none⟩=some (.int .i64 s'.last):=cell_blk N8.out 1
   have u2:V5.cell? ⟨P8,2,none⟩=some (.slice aad G1.length acap):=cell_blk N8.out 2
   have v0:V5.cell? ⟨PA,0,none⟩=some (.int .i64 s'.ver):=cell_blk NA.out 0
   have v1:V5.cell? ⟨PA,1,none⟩=some (.int .i64 s'.last):=cell_blk NA.out 1
   have v2:V5.cell? ⟨PA,2,none⟩=some (.slice bad G2.length bcap):=cell_blk NA.out 2
   go_wp2_with (go_at_call 11;refine hsm.mono ?_;rintro e w6 ⟨rfl,b6⟩;refine Hid.out ?_)
   refine lh ?_
   clear hsm u0 u1 u2 v0 v1 v2
   have HB6:=lh (bgo HB5.out b6)
   have O0:=lh ((b6.block Y0 (blk_lt N0.out)).trans N0.out)
   have O8:=lh ((b6.block P8 (blk_lt N8.out)).trans N8.out)
   have O7:=lh ((b6.block P7 (blk_lt N7.out)).trans N7.out)
   have HD6:=lh (HD1.out.below b6)
   clear b6
   have hsm:=same_any (HLM.out.on tbE_held HB6.out) (HLS.out.on tbE_held HB6.out) HI.out HTM.out
   have u0:w6.cell? ⟨P7,0,none⟩=some (.int .i64 s.ver):=cell_blk O7.out 0
   have u1:w6.cell? ⟨P7,1,none⟩=some (.int .i64 s.last):=cell_blk O7.out 1
   have u2:w6.cell? ⟨P7,2,none⟩=some (.slice mad s.tabs.length mcap):=cell_blk O7.out 2
   have v0:w6.cell? ⟨Y0,0,none⟩=some (.int .i64 s.ver):=cell_blk O0.out 0
   have v1:w6.cell? ⟨Y0,1,none⟩=some (.int .i64 s.last):=cell_blk O0.out 1
   have v2:w6.cell? ⟨Y0,2,none⟩=some (.slice ta s.tabs.length tc):=cell_blk O0.out 2
   go_wp2_with (go_at_call 11;refine hsm.mono ?_;rintro e w7 ⟨rfl,b7⟩;refine Hid.out ?_)
   refine lh ?_
   clear hsm
   have HB7:=lh (bgo HB6.out b7)
   have Q0:=lh ((b7.block Y0 (blk_lt O0.out)).trans O0.out)
   have Q8:=lh ((b7.block P8 (blk_lt O8.out)).trans O8.out)
   have Q7:=lh ((b7.block P7 (blk_lt O7.out)).trans O7.out)
   have HD7:=lh (HD6.out.below b7)
   clear b7
   have x8:w7.cell? ⟨P8,2,none⟩=some (.slice aad G1.length acap):=cell_blk Q8.out 2
   go_upto_region 8 with fail
   clear u0 u1 u2 v0 v1 v2
   have HDL:Hid (G1.length≤9223372036854775807):=lh (by
    obtain ⟨_,_,e,_,h1,h2,_⟩:=Lr.own gL_len HD7.out.row
    unfold maxLen at h2
    cases e
    omega)
   obtain ⟨n,hn⟩:∃ n,G1.length=n:=⟨_,rfl⟩
   have HN:=lh hn
   have hmn:(n:Int)≤9223372036854775807:=by have:=HDL.out;omega
   rw [hn] at x8
   clear hn
   obtain ⟨TB,hTB⟩:∃ TB:Nat,(∃ h:0<G1.length,True)→aad=some ⟨TB,0,none⟩:=by
    by_cases q:0<G1.length
    ·rcases HD7.out.row.2 with ⟨_,h0⟩ | ⟨g,cap',cur,hv',_⟩
     ·omega
     ·simp only [Value.slice.injEq] at hv'
      exact ⟨g,fun _=>hv'.1⟩
    ·exact ⟨0,fun ⟨h,_⟩=>absurd h q⟩
   have HTB:=lh hTB
   clear hTB
   have HQ8:Hid (w7.heap[P8]?=some (.cells (scA s' (.slice aad n acap)) 24 (0,0))):=lh (by rw [←HN.out];exact Q8.out)
   go_upto_region 9 with fail
   clear x8
   go_wp2
   go_loopw [56] (fun iv wr=>∃ i:Nat,i≤n∧iv=.int .i64 (i:Int)∧Spo V3.heap.size w7 wr) (fun iv _=>n - (intOf iv).toNat)
   case atStart=>exact ⟨0,Nat.zero_le _,rfl,Spo.refl _ _⟩
   case round =>
    obtain ⟨i,hi,rfl,hsp⟩:=hrel
    obtain ⟨V,rfl⟩:∃ V,V=wr:=⟨_,rfl⟩
    have HSP:=lh hsp
    have HI9:=lh hi
    clear hsp hi
    by_cases hlt:i<n
    ·skip
     have hiG:i<G1.length:=by rw [HN.out];exact hlt
     have k0:(0:Int)≤(i:Int):=by omega
     have k1:(i:Int)<(n:Int):=by omega
     have hta:=HTB.out ⟨by omega,trivial⟩
     subst hta
     obtain ⟨cT,hcT,_,_,_,_⟩:=row_blk (own_mono HD7.out.row (Nat.zero_le _))
     obtain ⟨g,hg⟩:∃ g,G1[i]=g:=⟨_,rfl⟩
     have hcr:=HD7.out.c G1[i] (List.getElem_mem hiG)
     have hcell:∀ j u,(gL G1[i])[j]?=some u→cT[i*5+j]?=some u:=fun j u hu=>by
      obtain ⟨_,_,e',_,_,_,hX⟩:=Lr.own gL_len HD7.out.row
      cases e'
      obtain ⟨b,o,cs,e2,_,hE,_,hh⟩:=hX i hiG
      cases e2
      rw [hE] at hh
      have:=hh j u hu
      rw [Nat.zero_add,cell_blk hcT] at this
      exact this
     rw [hg] at hcr hcell
     obtain ⟨t1,cv1,iv1,kv1⟩:=g
     simp only at hcr
     obtain ⟨ca,cc,e1⟩:=own_shape hcr
     subst e1
     have HCT:Hid (w7.heap[TB]?=some (.cells cT 35 (0,0))∧cT[i*5+2]?=some (.slice ca t1.cols.length cc)):=lh ⟨hcT,hcell 2 _ rfl⟩
     have HCR:=lh hcr
     obtain ⟨m,hm⟩:∃ m,t1.cols.length=m:=⟨_,rfl⟩
     have HM:=lh hm
     have hmm:(m:Int)≤9223372036854775807:=by
      obtain ⟨_,_,e,_,h1,h2,_⟩:=Lr.own colL_len hcr
      unfold maxLen at h2
      cases e
      omega
     have x8:V.cell? ⟨P8,2,none⟩=some (.slice (some ⟨TB,0,none⟩) n acap):=cell_blk (HSP.out.cell HQ8.out (by decide)) 2
     have y2:V.cell? ⟨TB,i*5+2,none⟩=some (.slice ca m cc):=by rw [←hm];exact (cell_blk (HSP.out.cell HCT.out.1 (by decide)) _).trans HCT.out.2
     have HLT:=lh hlt
     clear hcT hcr hcell hg hm hiG hlt
     go_upto_region 12 with fail
     clear x8 y2
     go_wp2
     go_loopw [66] (fun iv wr=>∃ k:Nat,k≤m∧iv=.int .i64 (k:Int)∧Spo V3.heap.size w7 wr) (fun iv _=>m - (intOf iv).toNat)
     case atStart=>exact ⟨0,Nat.zero_le _,rfl,HSP.out⟩
     case round =>
      obtain ⟨k,hk,rfl,hsp⟩:=hrel
      obtain ⟨U,rfl⟩:∃ U,U=wr:=⟨_,rfl⟩
      have HSU:=lh hsp
      have HK:=lh hk
      clear hsp hk
      by_cases hlk:k<m
      ·skip
       have l0:(0:Int)≤(k:Int):=by omega
       have l1:(k:Int)<(m:Int):=by omega
       obtain ⟨cb,hcb⟩:∃ cb:Nat,ca=some ⟨cb,0,none⟩:=by
        rcases HCR.out.2 with ⟨_,h0⟩ | ⟨g,cap',cur,hv',_⟩
        ·have:=HM.out
         omega
        ·simp only [Value.slice.injEq] at hv'
         exact ⟨g,hv'.1⟩
       subst hcb
       obtain ⟨cur,hcur,hc1,hc2,hcs,_⟩:=row_blk (own_mono HCR.out (Nat.zero_le _))
       have hge:=(own_ge HCR.out cb rfl).1
       obtain ⟨cs',hcu,hcz⟩:=HSU.out.sz cb cur hcur
       have hin:k*7+1<cs'.size:=by
        have:=HM.out
        rw [hcz,hcs]
        omega
       have x8:U.cell? ⟨P8,2,none⟩=some (.slice (some ⟨TB,0,none⟩) n acap):=cell_blk (HSU.out.cell HQ8.out (by decide)) 2
       have y2:U.cell? ⟨TB,i*5+2,none⟩=some (.slice (some ⟨cb,0,none⟩) m cc):=by rw [←HM.out];exact (cell_blk (HSU.out.cell HCT.out.1 (by decide)) _).trans HCT.out.2
       have y3:U.cell? ⟨cb,k*7+1,none⟩=some cs'[k*7+1]:=(cell_blk hcu _).trans (Array.getElem?_eq_getElem hin)
       have f3:U.frozen? ⟨cb,k*7+1,none⟩=false:=frozen_blk hcu _
       obtain ⟨U2,hU2⟩:∃ U2,U2=U.setCell ⟨cb,k*7+1,none⟩ (.string ⟨#[115,112,111,105,108,116]⟩):=⟨_,rfl⟩
       have HS2:Hid (Spo V3.heap.size w7 U2):=lh (by rw [hU2];exact HSU.out.set hcur hge _)
       have HU2:=lh hU2
       have HLK:=lh hlk
       clear hcur hc1 hc2 hcs hge hcu hcz hU2 hlk
       go_upto_region 15 with fail
       rw [←HU2.out]
       clear x8 y2 y3 f3 hin
       go_wp2
       go_roundw
       case rel=>exact ⟨k+1,HLK.out,by go_num,HS2.out⟩
       case measure=>have:=HLK.out;simp [intOf];omega
      ·have l1:¬ (k:Int)<(m:Int):=by omega
       clear hlk
       go_wp2
       go_roundw
       case rel=>exact ⟨i+1,HLT.out,by go_num,HSU.out⟩
       case measure=>have:=HLT.out;simp [intOf];omega
    ·have k1:¬ (i:Int)<(n:Int):=by omega
     clear hlt
     have hbl:Below V3.heap.size V3 V:=HB7.out.trans (HSP.out.below HB7.out.size)
     have R0:=HSP.out.cell Q0.out (by decide)
     have R7:=HSP.out.cell Q7.out (by decide)
     have hsm:=same_any (HLM.out.on tbE_held hbl) (HLS.out.on tbE_held hbl) HI.out HTM.out
     have u0:V.cell? ⟨P7,0,none⟩=some (.int .i64 s.ver):=cell_blk R7 0
     have u1:V.cell? ⟨P7,1,none⟩=some (.int .i64 s.last):=cell_blk R7 1
     have u2:V.cell? ⟨P7,2,none⟩=some (.slice mad s.tabs.length mcap):=cell_blk R7 2
     have v0:V.cell? ⟨Y0,0,none⟩=some (.int .i64 s.ver):=cell_blk R0 0
     have v1:V.cell? ⟨Y0,1,none⟩=some (.int .i64 s.last):=cell_blk R0 1
     have v2:V.cell? ⟨Y0,2,none⟩=some (.slice ta s.tabs.length tc):=cell_blk R0 2
     have HBL:=lh hbl
     clear R0 R7 hbl
     go_upto_region 17 with fail
     go_wp2_with (go_at_call 11;refine hsm.mono ?_;rintro e w8 ⟨rfl,b8⟩;refine Hid.out ?_)
     refine lh ?_
     clear hsm u0 u1 u2 v0 v1 v2
     have HB8:=lh (bgo HB3.out (bgo HBL.out b8))
     clear b8
     go_wp2
     go_ret
     exact ⟨rfl,HB8.out⟩
theorem turns_any {s:Sc} {tv cv:Value} {d:Dd} {st:Int} (hL:Lr tbE 5 w s.tabs tv) (hI:ScIn s) (hdI:DdIn d) (hz:scB s≤1048576) (hd:Lr colE 7 w d.cols cv) (hdz:ddB d≤1048576):Calls Tryz.prog 4 #[scV s tv,ddV d cv,.int .i64 st] w fun e w'=>e=.returned (.bool true)∧Below w.heap.size w w':=by
 obtain ⟨da,dc,e,_⟩:=hd.shape
 subst e
 refine turns_law hL hI hdI hz hd ?_
 have:=sum_ge (f:=colB) (fun x=>by unfold colB;omega) d.cols
 unfold ddB at hdz
 omega
end
end Go.Proofs.YtongmhfpoopebaaGreat
