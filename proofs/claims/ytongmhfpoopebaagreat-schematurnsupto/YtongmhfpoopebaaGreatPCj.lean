import Derived.Test.YtongmhfpoopebaaGreatPCb
import Derived.Test.YtongmhfpoopebaaGreatPCc
import Derived.Test.YtongmhfpoopebaaGreatPCd
import Derived.Test.YtongmhfpoopebaaGreatPCe
import Derived.Test.YtongmhfpoopebaaGreatPCf
import Derived.Test.YtongmhfpoopebaaGreatPCg
import Derived.Test.YtongmhfpoopebaaGreatPCh
namespace Go.Proofs.YtongmhfpoopebaaGreat
open Go.RowKit Go.Maps
section
variable {w : World}
theorem ChAns.ret {w w':World} {B A:Nat} {s:Sc} {res:Except Int Sc} {e:Ending} (h:ChAns w B A s res e w'):∃ er:Int,e=.returned (.int .i64 er):=by
 cases res with
 | error er=>exact ⟨er,h.1⟩
 | ok s'=>exact ⟨0,h.1⟩
theorem ChAns.from {w W w':World} {B A:Nat} {s:Sc} {res:Except Int Sc} {e:Ending} (h:ChAns W B A s res e w') (hb:Below B w W):ChAns w B A s res e w':=by
 cases res with
 | error er=>exact ⟨h.1,h.2.1,hb.trans h.2.2⟩
 | ok s'=>exact ⟨h.1,h.2.1,hb.trans h.2.2⟩
set_option maxHeartbeats 2000000 in
set_option maxRecDepth 100000 in
theorem chg_lo {B A:Nat} {s:Sc} {G:List Gt} {tv:Value} {d:Dd} {st:Int} {da:Option Addr} {dn dc:Nat} (h:Df w B A s G tv) (hK:d.kind<1):Calls Tryz.prog 35 #[.pointer (some ⟨A,0,none⟩),.agg #[.int .i64 d.kind,.string d.table,.string d.name,.string d.column,.string d.parent,.bool d.uq,.int .i64 d.ty,.int .i64 d.df.k,.int .i64 d.df.n,.string d.df.s,.slice da dn dc],.int .i64 st] w (ChAns w B A s (.error 1)):=by
 have HDF:=lh h
 obtain ⟨ta,tc,hsh0⟩:=own_shape h.dr.row
 obtain ⟨tn,htn⟩:∃ tn,G.length=tn:=⟨_,rfl⟩
 rw [htn] at hsh0
 subst hsh0
 obtain ⟨W,hW⟩:∃ W,W=(w.alloc (.cells #[.pointer (some ⟨A,0,none⟩)] 77)).alloc (.cells #[.int .i64 d.kind,.string d.table,.string d.name,.string d.column,.string d.parent,.bool d.uq,.int .i64 d.ty,.int .i64 d.df.k,.int .i64 d.df.n,.string d.df.s,.slice da dn dc] 31):=⟨_,rfl⟩
 have hbW:Below w.heap.size w W:=by rw [hW];exact ((Below.refl _ w).alloc (Nat.le_refl _) _).alloc (by simp) _
 obtain ⟨Y0,hY0⟩:∃ Y0,w.heap.size=Y0:=⟨_,rfl⟩
 obtain ⟨Y1,hY1⟩:∃ Y1,Y0+1=Y1:=⟨_,rfl⟩
 have jY0:W.heap[Y0]?=some (.cells #[.pointer (some ⟨A,0,none⟩)] 77 (0,0)):=by
  have:=heap_alloc_new w (.cells #[.pointer (some ⟨A,0,none⟩)] 77)
  rw [hW,←hY0]
  rw [Below.heap_alloc _ _ _ (by simp only [World.size_alloc];omega)]
  exact this
 have jY1:W.heap[Y1]?=some (.cells #[.int .i64 d.kind,.string d.table,.string d.name,.string d.column,.string d.parent,.bool d.uq,.int .i64 d.ty,.int .i64 d.df.k,.int .i64 d.df.n,.string d.df.s,.slice da dn dc] 31 (0,0)):=by
  have:=heap_alloc_new (w.alloc (.cells #[.pointer (some ⟨A,0,none⟩)] 77)) (.cells #[.int .i64 d.kind,.string d.table,.string d.name,.string d.column,.string d.parent,.bool d.uq,.int .i64 d.ty,.int .i64 d.df.k,.int .i64 d.df.n,.string d.df.s,.slice da dn dc] 31)
  simp only [World.size_alloc] at this
  rw [hW,←hY1,←hY0]
  exact this
 have hBw:B≤w.heap.size:=Nat.le_trans h.hA (Nat.le_of_lt (blk_lt h.ob))
 have c0:W.cell? ⟨Y0,0,none⟩=some (.pointer (some ⟨A,0,none⟩)):=cell_blk jY0 0
 have c1:W.cell? ⟨A,2,none⟩=some (.slice ta tn tc):=cell_on hbW (cell_blk h.ob 2)
 have dk:W.cell? ⟨Y1,0,none⟩=some (.int .i64 d.kind):=cell_blk jY1 0
 have HBw:=lh hBw
 have HW:=lh hW
 have HBW:=lh hbW
 have HY0:=lh hY0
 have HY1:=lh hY1
 clear hW hbW hY0 hY1 hBw htn
 clear jY0 jY1 h c0 c1
 have g1:decide (d.kind<1)=true:=decide_eq_true hK
 go_enter Tryz.func35,Tryz.ntmps35
 go_upto_region 1 with fail
 rw [←HW.out,HY0.out,HY1.out]
 go_wp2
 go_ret
 exact ChAns.intro_err rfl (by decide) (HBW.out.mono HBw.out)
set_option maxHeartbeats 2000000 in
set_option maxRecDepth 100000 in
theorem chg_hi {B A:Nat} {s:Sc} {G:List Gt} {tv:Value} {d:Dd} {st:Int} {da:Option Addr} {dn dc:Nat} (h:Df w B A s G tv) (hK0:¬ d.kind<1) (hK:7<d.kind):Calls Tryz.prog 35 #[.pointer (some ⟨A,0,none⟩),.agg #[.int .i64 d.kind,.string d.table,.string d.name,.string d.column,.string d.parent,.bool d.uq,.int .i64 d.ty,.int .i64 d.df.k,.int .i64 d.df.n,.string d.df.s,.slice da dn dc],.int .i64 st] w (ChAns w B A s (.error 1)):=by
 have HDF:=lh h
 obtain ⟨ta,tc,hsh0⟩:=own_shape h.dr.row
 obtain ⟨tn,htn⟩:∃ tn,G.length=tn:=⟨_,rfl⟩
 rw [htn] at hsh0
 subst hsh0
 obtain ⟨W,hW⟩:∃ W,W=(w.alloc (.cells #[.pointer (some ⟨A,0,none⟩)] 77)).alloc (.cells #[.int .i64 d.kind,.string d.table,.string d.name,.string d.column,.string d.parent,.bool d.uq,.int .i64 d.ty,.int .i64 d.df.k,.int .i64 d.df.n,.string d.df.s,.slice da dn dc] 31):=⟨_,rfl⟩
 have hbW:Below w.heap.size w W:=by rw [hW];exact ((Below.refl _ w).alloc (Nat.le_refl _) _).alloc (by simp) _
 obtain ⟨Y0,hY0⟩:∃ Y0,w.heap.size=Y0:=⟨_,rfl⟩
 obtain ⟨Y1,hY1⟩:∃ Y1,Y0+1=Y1:=⟨_,rfl⟩
 have jY0:W.heap[Y0]?=some (.cells #[.pointer (some ⟨A,0,none⟩)] 77 (0,0)):=by
  have:=heap_alloc_new w (.cells #[.pointer (some ⟨A,0,none⟩)] 77)
  rw [hW,←hY0]
  rw [Below.heap_alloc _ _ _ (by simp only [World.size_alloc];omega)]
  exact this
 have jY1:W.heap[Y1]?=some (.cells #[.int .i64 d.kind,.string d.table,.string d.name,.string d.column,.string d.parent,.bool d.uq,.int .i64 d.ty,.int .i64 d.df.k,.int .i64 d.df.n,.string d.df.s,.slice da dn dc] 31 (0,0)):=by
  have:=heap_alloc_new (w.alloc (.cells #[.pointer (some ⟨A,0,none⟩)] 77)) (.cells #[.int .i64 d.kind,.string d.table,.string d.name,.string d.column,.string d.parent,.bool d.uq,.int .i64 d.ty,.int .i64 d.df.k,.int .i64 d.df.n,.string d.df.s,.slice da dn dc] 31)
  simp only [World.size_alloc] at this
  rw [hW,←hY1,←hY0]
  exact this
 have hBw:B≤w.heap.size:=Nat.le_trans h.hA (Nat.le_of_lt (blk_lt h.ob))
 have c0:W.cell? ⟨Y0,0,none⟩=some (.pointer (some ⟨A,0,none⟩)):=cell_blk jY0 0
 have c1:W.cell? ⟨A,2,none⟩=some (.slice ta tn tc):=cell_on hbW (cell_blk h.ob 2)
 have dk:W.cell? ⟨Y1,0,none⟩=some (.int .i64 d.kind):=cell_blk jY1 0
 have HBw:=lh hBw
 have HW:=lh hW
 have HBW:=lh hbW
 have HY0:=lh hY0
 have HY1:=lh hY1
 clear hW hbW hY0 hY1 hBw htn
 clear jY0 jY1 h c0 c1
 have g1:decide (d.kind<1)=false:=decide_eq_false hK0
 have g2:decide (7<d.kind)=true:=decide_eq_true hK
 go_enter Tryz.func35,Tryz.ntmps35
 go_upto_region 1 with fail
 rw [←HW.out,HY0.out,HY1.out]
 go_wp2
 go_ret
 exact ChAns.intro_err rfl (by decide) (HBW.out.mono HBw.out)
set_option maxHeartbeats 2000000 in
set_option maxRecDepth 100000 in
theorem chg1 {B A:Nat} {s:Sc} {G:List Gt} {tv:Value} {d:Dd} {st:Int} {da:Option Addr} {dn dc:Nat} (h:Df w B A s G tv) (hK:d.kind=1) (hl:farB s.last=true) (h6:s.tabs.length≤6) (hdn:dn=d.cols.length) (hd:Lr colE 7 w d.cols (.slice da d.cols.length dc)) (hz:d.cols.length≤1000000) (hdB:∀ b p n cc,(Value.slice da d.cols.length dc)=.slice (some ⟨b,p,none⟩) n cc→d.cols.length≠0→b<B):Calls Tryz.prog 35 #[.pointer (some ⟨A,0,none⟩),.agg #[.int .i64 d.kind,.string d.table,.string d.name,.string d.column,.string d.parent,.bool d.uq,.int .i64 d.ty,.int .i64 d.df.k,.int .i64 d.df.n,.string d.df.s,.slice da dn dc],.int .i64 st] w (ChAns w B A s (createS s d st)):=by
 subst hdn
 have HDF:=lh h
 obtain ⟨ta,tc,hsh0⟩:=own_shape h.dr.row
 obtain ⟨tn,htn⟩:∃ tn,G.length=tn:=⟨_,rfl⟩
 rw [htn] at hsh0
 subst hsh0
 obtain ⟨W,hW⟩:∃ W,W=(w.alloc (.cells #[.pointer (some ⟨A,0,none⟩)] 77)).alloc (.cells #[.int .i64 d.kind,.string d.table,.string d.name,.string d.column,.string d.parent,.bool d.uq,.int .i64 d.ty,.int .i64 d.df.k,.int .i64 d.df.n,.string d.df.s,.slice da d.cols.length dc] 31):=⟨_,rfl⟩
 have hbW:Below w.heap.size w W:=by rw [hW];exact ((Below.refl _ w).alloc (Nat.le_refl _) _).alloc (by simp) _
 obtain ⟨Y0,hY0⟩:∃ Y0,w.heap.size=Y0:=⟨_,rfl⟩
 obtain ⟨Y1,hY1⟩:∃ Y1,Y0+1=Y1:=⟨_,rfl⟩
 have jY0:W.heap[Y0]?=some (.cells #[.pointer (some ⟨A,0,none⟩)] 77 (0,0)):=by
  have:=heap_alloc_new w (.cells #[.pointer (some ⟨A,0,none⟩)] 77)
  rw [hW,←hY0]
  rw [Below.heap_alloc _ _ _ (by simp only [World.size_alloc];omega)]
  exact this
 have jY1:W.heap[Y1]?=some (.cells #[.int .i64 d.kind,.string d.table,.string d.name,.string d.column,.string d.parent,.bool d.uq,.int .i64 d.ty,.int .i64 d.df.k,.int .i64 d.df.n,.string d.df.s,.slice da d.cols.length dc] 31 (0,0)):=by
  have:=heap_alloc_new (w.alloc (.cells #[.pointer (some ⟨A,0,none⟩)] 77)) (.cells #[.int .i64 d.kind,.string d.table,.string d.name,.string d.column,.string d.parent,.bool d.uq,.int .i64 d.ty,.int .i64 d.df.k,.int .i64 d.df.n,.string d.df.s,.slice da d.cols.length dc] 31)
  simp only [World.size_alloc] at this
  rw [hW,←hY1,←hY0]
  exact this
 have hBw:B≤w.heap.size:=Nat.le_trans h.hA (Nat.le_of_lt (blk_lt h.ob))
 have c0:W.cell? ⟨Y0,0,none⟩=some (.pointer (some ⟨A,0,none⟩)):=cell_blk jY0 0
 have c1:W.cell? ⟨A,2,none⟩=some (.slice ta tn tc):=cell_on hbW (cell_blk h.ob 2)
 have DW:Df W B A s G (.slice ta tn tc):=⟨(hbW.block A (blk_lt h.ob)).trans h.ob,h.dr.below hbW,h.tabs,h.hA⟩
 have hcall:=addT_any (st:=st) DW hl h6 (hd.on colE_held hbW) hz hdB
 have dk:W.cell? ⟨Y1,0,none⟩=some (.int .i64 1):=by rw [←hK];exact cell_blk jY1 0
 have d1:W.cell? ⟨Y1,1,none⟩=some (.string d.table):=cell_blk jY1 1
 have d2:W.cell? ⟨Y1,2,none⟩=some (.string d.name):=cell_blk jY1 2
 have d3:W.cell? ⟨Y1,3,none⟩=some (.string d.column):=cell_blk jY1 3
 have d4:W.cell? ⟨Y1,4,none⟩=some (.string d.parent):=cell_blk jY1 4
 have d5:W.cell? ⟨Y1,5,none⟩=some (.bool d.uq):=cell_blk jY1 5
 have d6:W.cell? ⟨Y1,6,none⟩=some (.int .i64 d.ty):=cell_blk jY1 6
 have d7:W.cell? ⟨Y1,7,none⟩=some (.int .i64 d.df.k):=cell_blk jY1 7
 have d8:W.cell? ⟨Y1,8,none⟩=some (.int .i64 d.df.n):=cell_blk jY1 8
 have d9:W.cell? ⟨Y1,9,none⟩=some (.string d.df.s):=cell_blk jY1 9
 have d10:W.cell? ⟨Y1,10,none⟩=some (.slice da d.cols.length dc):=cell_blk jY1 10
 rw [hK] at hcall
 have HBw:=lh hBw
 have HW:=lh hW
 have HBW:=lh hbW
 have HY0:=lh hY0
 have HY1:=lh hY1
 clear hW hbW hY0 hY1 hBw htn
 clear jY0 jY1 h c1 DW hd hz hdB hl h6 hK
 go_enter Tryz.func35,Tryz.ntmps35
 go_upto_region 1 with fail
 rw [←HW.out,HY0.out,HY1.out]
 go_wp2_with (go_at_call 64;refine hcall.mono ?_;intro e9 w9 h9;obtain ⟨er,rfl⟩:=h9.ret;refine Hid.out ?_)
 refine lh ?_
 have H9:=lh h9
 clear hcall h9
 go_wp2
 go_ret
 exact H9.out.from (HBW.out.mono HBw.out)
set_option maxHeartbeats 2000000 in
set_option maxRecDepth 100000 in
theorem chg_no {B A:Nat} {s:Sc} {G:List Gt} {tv:Value} {d:Dd} {st:Int} {da:Option Addr} {dn dc:Nat} (h:Df w B A s G tv) (hK:1<d.kind∧d.kind≤7) (hfd:fidx (fun t=>decide (t.nm=d.table)) s.tabs=-1):Calls Tryz.prog 35 #[.pointer (some ⟨A,0,none⟩),.agg #[.int .i64 d.kind,.string d.table,.string d.name,.string d.column,.string d.parent,.bool d.uq,.int .i64 d.ty,.int .i64 d.df.k,.int .i64 d.df.n,.string d.df.s,.slice da dn dc],.int .i64 st] w (ChAns w B A s (.error 150)):=by
 have HDF:=lh h
 obtain ⟨ta,tc,hsh0⟩:=own_shape h.dr.row
 obtain ⟨tn,htn⟩:∃ tn,G.length=tn:=⟨_,rfl⟩
 rw [htn] at hsh0
 subst hsh0
 obtain ⟨W,hW⟩:∃ W,W=(w.alloc (.cells #[.pointer (some ⟨A,0,none⟩)] 77)).alloc (.cells #[.int .i64 d.kind,.string d.table,.string d.name,.string d.column,.string d.parent,.bool d.uq,.int .i64 d.ty,.int .i64 d.df.k,.int .i64 d.df.n,.string d.df.s,.slice da dn dc] 31):=⟨_,rfl⟩
 have hbW:Below w.heap.size w W:=by rw [hW];exact ((Below.refl _ w).alloc (Nat.le_refl _) _).alloc (by simp) _
 obtain ⟨Y0,hY0⟩:∃ Y0,w.heap.size=Y0:=⟨_,rfl⟩
 obtain ⟨Y1,hY1⟩:∃ Y1,Y0+1=Y1:=⟨_,rfl⟩
 have jY0:W.heap[Y0]?=some (.cells #[.pointer (some ⟨A,0,none⟩)] 77 (0,0)):=by
  have:=heap_alloc_new w (.cells #[.pointer (some ⟨A,0,none⟩)] 77)
  rw [hW,←hY0]
  rw [Below.heap_alloc _ _ _ (by simp only [World.size_alloc];omega)]
  exact this
 have jY1:W.heap[Y1]?=some (.cells #[.int .i64 d.kind,.string d.table,.string d.name,.string d.column,.string d.parent,.bool d.uq,.int .i64 d.ty,.int .i64 d.df.k,.int .i64 d.df.n,.string d.df.s,.slice da dn dc] 31 (0,0)):=by
  have:=heap_alloc_new (w.alloc (.cells #[.pointer (some ⟨A,0,none⟩)] 77)) (.cells #[.int .i64 d.kind,.string d.table,.string d.name,.string d.column,.string d.parent,.bool d.uq,.int .i64 d.ty,.int .i64 d.df.k,.int .i64 d.df.n,.string d.df.s,.slice da dn dc] 31)
  simp only [World.size_alloc] at this
  rw [hW,←hY1,←hY0]
  exact this
 have hBw:B≤w.heap.size:=Nat.le_trans h.hA (Nat.le_of_lt (blk_lt h.ob))
 have c0:W.cell? ⟨Y0,0,none⟩=some (.pointer (some ⟨A,0,none⟩)):=cell_blk jY0 0
 have c1:W.cell? ⟨A,2,none⟩=some (.slice ta tn tc):=cell_on hbW (cell_blk h.ob 2)
 have dk:W.cell? ⟨Y1,0,none⟩=some (.int .i64 d.kind):=cell_blk jY1 0
 have c2:W.cell? ⟨Y1,1,none⟩=some (.string d.table):=cell_blk jY1 1
 have HC5:Hid (∀ X,Below W.heap.size W X→Calls Tryz.prog 22 #[.slice ta tn tc,.string d.table] X fun e w'=>e=.returned (.int .i64 (-1))∧Below X.heap.size X w'):=fun X hX=>by
  have q:=tabN_any (w:=X) d.table (by have z:=(h.dr.below (bgo hbW hX)).reads;rw [h.tabs] at z;exact z)
  rw [hfd] at q
  exact q
 have HBw:=lh hBw
 have HW:=lh hW
 have HBW:=lh hbW
 have HY0:=lh hY0
 have HY1:=lh hY1
 clear hW hbW hY0 hY1 hBw htn
 clear jY0 jY1 h hfd
 have g1:decide (d.kind<1)=false:=decide_eq_false (by omega)
 have g2:decide (7<d.kind)=false:=decide_eq_false (by omega)
 have g3:decide (d.kind=1)=false:=decide_eq_false (by omega)
 have g1':¬ d.kind<1:=by omega
 have g2':¬ 7<d.kind:=by omega
 have g3':¬ d.kind=1:=by omega
 go_enter Tryz.func35,Tryz.ntmps35
 go_upto_region 1 with fail
 rw [←HW.out,HY0.out,HY1.out]
 go_upto_region 5 with fail
 refine wp_region_fl (fun _ X9=>Below W.heap.size W X9) (fun X9 X'=>Below X9.heap.size X9 X') [
  fun v9 _=>v9=.pointer (some ⟨A,0,none⟩),
  fun v9 _=>v9=.pointer (some ⟨A,0,none⟩),
  fun v9 _=>v9=.pointer (some ⟨A,2,none⟩),
  fun v9 _=>v9=.slice ta tn tc,
  fun v9 _=>v9=.pointer (some ⟨Y1,1,none⟩),
  fun v9 _=>v9=.string d.table,
  fun v9 _=>v9=.int .i64 (-1),
  fun v9 _=>v9=.int .i64 (-1)]
  (by kernel_rfl) (by kernel_rfl) (by kernel_rfl) ?st ?g0 ?os ?en
 case st=>exact ⟨fun _ _ _ _ h=>h,fun _ _ _ _ h=>h,fun _ _ _ _ h=>h,fun _ _ _ _ h=>h,fun _ _ _ _ h=>h,fun _ _ _ _ h=>h,fun _ _ _ _ h=>h,fun _ _ _ _ h=>h,trivial⟩
 case g0=>exact ⟨rfl,rfl,rfl,Nat.le_refl _,fun _ _=>rfl⟩
 case os =>
  refine ⟨?_,?_,?_,?_,?_,?_,?_,?_,trivial⟩
  ·exact fun ρ X9 fl hg hn hl hp ho hc hf hr=>.inl ⟨rfl,Runs.val _ (op_load77 (show ρ (.tmp 3)=.pointer (some ⟨Y0,0,none⟩) from ho 3 rfl) (cell_on hg c0)) ⟨hg,Below.refl _ _,rfl⟩⟩
  ·exact fun ρ X9 fl hg hn hl hp ho hc hf hr=>.inl ⟨rfl,Runs.val _ (op_nil (show ρ (.tmp 25)=.pointer (some ⟨A,0,none⟩) from hr 0 25 rfl rfl)) ⟨hg,Below.refl _ _,rfl⟩⟩
  ·exact fun ρ X9 fl hg hn hl hp ho hc hf hr=>.inl ⟨rfl,Runs.val _ (op_f24_2 (show ρ (.tmp 26)=.pointer (some ⟨A,0,none⟩) from hr 1 26 rfl rfl)) ⟨hg,Below.refl _ _,rfl⟩⟩
  ·exact fun ρ X9 fl hg hn hl hp ho hc hf hr=>.inl ⟨rfl,Runs.val _ (op_load22 (show ρ (.tmp 27)=.pointer (some ⟨A,2,none⟩) from hr 2 27 rfl rfl) (cell_on hg c1)) ⟨hg,Below.refl _ _,rfl⟩⟩
  ·exact fun ρ X9 fl hg hn hl hp ho hc hf hr=>.inl ⟨rfl,Runs.val _ (op_f31_1 (show ρ (.tmp 4)=.pointer (some ⟨Y1,0,none⟩) from ho 4 rfl)) ⟨hg,Below.refl _ _,rfl⟩⟩
  ·exact fun ρ X9 fl hg hn hl hp ho hc hf hr=>.inl ⟨rfl,Runs.val _ (op_load9 (show ρ (.tmp 29)=.pointer (some ⟨Y1,1,none⟩) from hr 4 29 rfl rfl) (cell_on hg c2)) ⟨hg,Below.refl _ _,rfl⟩⟩
  ·refine fun ρ X9 fl hg hn hl hp ho hc hf hr=>.inl ⟨rfl,?_⟩
   refine Runs.goes 22 #[.slice ta tn tc,.string d.table] (op_call2 hf (goes22 _ _) (show ρ (.tmp 28)=.slice ta tn tc from hr 3 28 rfl rfl) (show ρ (.tmp 30)=.string d.table from hr 5 30 rfl rfl)) ((HC5.out X9 hg).mono ?_)
   rintro e7 w7 ⟨rfl,b7⟩
   exact ⟨_,rfl,bgo hg b7,b7,rfl⟩
  ·exact fun ρ X9 fl hg hn hl hp ho hc hf hr=>.inl ⟨rfl,Runs.val _ (op_assign (show ρ (.tmp 31)=.int .i64 (-1) from hr 6 31 rfl rfl)) ⟨hg,Below.refl _ _,rfl⟩⟩
 case en =>
  intro a U fl hfl b3 hs hd ho hr
  obtain ⟨x,hx,hxt⟩:=act_put hs hd ho
  have x7:x 7=.int .i64 (-1):=(hxt 7).symm.trans (hr 7 7 rfl)
  change a=putAll _ x [25,26,27,28,29,30,31,7] at hx
  simp only [putAll,Act.put,List.setIfInBounds_toArray,List.set_cons_zero,List.set_cons_succ,x7] at hx
  clear hs hd ho hr hxt x7
  subst hx
  go_wp2
  go_ret
  exact ChAns.intro_err rfl (by decide) ((bgo HBW.out b3).mono HBw.out)
theorem change_any {B A:Nat} {s:Sc} {G:List Gt} {tv:Value} {d:Dd} {st:Int} {da:Option Addr} {dn dc:Nat} (h:Df w B A s G tv) (hl:farB s.last=true) (hcnt:∀ t ∈ s.tabs,cntB t=true) (h6:s.tabs.length≤6) (hdn:dn=d.cols.length) (hd:Lr colE 7 w d.cols (.slice da d.cols.length dc)) (hz:d.cols.length≤1000000) (hdB:∀ b p n cc,(Value.slice da d.cols.length dc)=.slice (some ⟨b,p,none⟩) n cc→d.cols.length≠0→b<B):Calls Tryz.prog 35 #[.pointer (some ⟨A,0,none⟩),.agg #[.int .i64 d.kind,.string d.table,.string d.name,.string d.column,.string d.parent,.bool d.uq,.int .i64 d.ty,.int .i64 d.df.k,.int .i64 d.df.n,.string d.df.s,.slice da dn dc],.int .i64 st] w (ChAns w B A s (changeS s d st)):=by
 unfold changeS
 by_cases k0:d.kind<1∨7<d.kind
 ·rw [if_pos k0]
  by_cases k1:d.kind<1
  ·exact chg_lo h k1
  ·exact chg_hi h k1 (by omega)
 ·rw [if_neg k0]
  by_cases k1:d.kind=1
  ·rw [if_pos k1]
   exact chg1 h k1 hl h6 hdn hd hz hdB
  ·rw [if_neg k1]
   rcases fidx_cases (fun t=>decide (t.nm=d.table)) s.tabs with ⟨hf,hn⟩ | ⟨i,hi,hf,hp,hb⟩
   ·have e:s.tabs.findIdx? (fun t=>decide (t.nm=d.table))=none:=List.findIdx?_eq_none_iff.mpr (fun x hx=>hn x hx)
    rw [e]
    exact chg_no h (by omega) hf
   ·have e:s.tabs.findIdx? (fun t=>decide (t.nm=d.table))=some i:=List.findIdx?_eq_some_iff_getElem.mpr ⟨hi,hp,fun j hj=>by rw [hb j (by omega) hj];decide⟩
    rw [e]
    simp only [List.getElem?_eq_getElem hi]
    have hk:d.kind=2∨d.kind=3∨d.kind=4∨d.kind=5∨d.kind=6∨d.kind=7:=by omega
    rcases hk with q | q | q | q | q | q
    ·exact chg2 h q hl hcnt hi rfl hf
    ·exact chg3 h q hl hcnt hi rfl hf
    ·exact chg4 h q hl hcnt hi rfl hf
    ·exact chg5 h q hl hcnt hi rfl hf
    ·exact chg6 h q hl hcnt hi rfl hf
    ·exact chg7 h q hl hcnt hi rfl hf
end
end Go.Proofs.YtongmhfpoopebaaGreat
