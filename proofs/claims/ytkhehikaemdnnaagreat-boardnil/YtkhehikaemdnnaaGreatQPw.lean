import Derived.Test.YtkhehikaemdnnaaGreatQCb
import Derived.Test.YtkhehikaemdnnaaGreatQCc
import Derived.Test.YtkhehikaemdnnaaGreatQCd
import Derived.Test.YtkhehikaemdnnaaGreatQCe
import Derived.Test.YtkhehikaemdnnaaGreatQCf
import Derived.Test.YtkhehikaemdnnaaGreatQCg
import Derived.Test.YtkhehikaemdnnaaGreatQCh
namespace Go.Proofs.YtkhehikaemdnnaaGreat
set_option maxRecDepth 100000
set_option maxHeartbeats 2000000
open Go.RowKit Go.Maps
section
variable {w : World}
theorem ChAns.ret{w w':World}{B A:Nat}{s:Sc}{res:Except Int Sc}{e:Ending}(h:ChAns w B A s res e w'):∃ er:Int,e=.returned (.int .i64 er):=by
 cases res with
 | error er=>exact⟨er,h.1⟩
 | ok s'=>exact⟨0,h.1⟩
theorem ChAns.from{w W w':World}{B A:Nat}{s:Sc}{res:Except Int Sc}{e:Ending}(h:ChAns W B A s res e w')(hb:Below B w W):ChAns w B A s res e w':=by
 cases res with
 | error er=>exact⟨h.1,h.2.1,hb.trans h.2.2⟩
 | ok s'=>exact⟨h.1,h.2.1,hb.trans h.2.2⟩
theorem chg_lo{B A:Nat}{s:Sc}{G:List Gt}{tv:Value}{d:Dd}{st:Int}{da:Option Addr}{dn dc:Nat}(h:Df w B A s G tv)(hK:d.kind<1):Calls Tryz.prog 91 #[.pointer (some ⟨A,0,none⟩),.agg (dqA d (.slice da dn dc)),.int .i64 st] w (ChAns w B A s (.error 1)):=by
 have HDF:=lh h;obtain⟨ta,tc,hsh0⟩:=own_shape h.dr.row;obtain⟨tn,htn⟩:∃ tn,G.length=tn:=⟨_,rfl⟩
 rw [htn]at hsh0;subst hsh0;obtain⟨W,hW⟩:∃ W,W=(w.alloc (.cells #[.pointer (some ⟨A,0,none⟩)] 151)).alloc (.cells (dqA d (.slice da dn dc)) 45):=⟨_,rfl⟩
 have hbW:=bw2 hW;obtain⟨Y0,hY0⟩:∃ Y0,w.heap.size=Y0:=⟨_,rfl⟩
 obtain⟨Y1,hY1⟩:∃ Y1,Y0+1=Y1:=⟨_,rfl⟩
 have jY0:W.heap[Y0]?=some (.cells #[.pointer (some ⟨A,0,none⟩)] 151 (0,0)):=nw21 hW hY0;have jY1:W.heap[Y1]?=some (.cells (dqA d (.slice da dn dc)) 45 (0,0)):=nw22 hW hY0 hY1;have hBw:B<=w.heap.size:=Nat.le_trans h.hA (Nat.le_of_lt (blk_lt h.ob));have c0:W.cell? ⟨Y0,0,none⟩=some (.pointer (some ⟨A,0,none⟩)):=cell_blk jY0 0;have c1:W.cell? ⟨A,2,none⟩=some (.slice ta tn tc):=cell_on hbW (cell_blk h.ob 2);have dk:W.cell? ⟨Y1,0,none⟩=some (.int .i64 d.kind):=cell_blk jY1 0;have HBw:=lh hBw;have HW:=lh hW;have HBW:=lh hbW;have HY0:=lh hY0;have HY1:=lh hY1;clear hW hbW hY0 hY1 hBw htn;clear jY0 jY1 h c0 c1;have g1:decide (d.kind<1)=true:=decide_eq_true hK;go_enter Tryz.func91,Tryz.ntmps91;go_upto_region 1 with fail
 rw [<-HW.out,HY0.out,HY1.out];go_wp2;go_ret;exact ChAns.intro_err rfl (by decide) (HBW.out.mono HBw.out)
theorem chg_hi{B A:Nat}{s:Sc}{G:List Gt}{tv:Value}{d:Dd}{st:Int}{da:Option Addr}{dn dc:Nat}(h:Df w B A s G tv)(hK0:¬ d.kind<1)(hK:7<d.kind):Calls Tryz.prog 91 #[.pointer (some ⟨A,0,none⟩),.agg (dqA d (.slice da dn dc)),.int .i64 st] w (ChAns w B A s (.error 1)):=by
 have HDF:=lh h;obtain⟨ta,tc,hsh0⟩:=own_shape h.dr.row;obtain⟨tn,htn⟩:∃ tn,G.length=tn:=⟨_,rfl⟩
 rw [htn]at hsh0;subst hsh0;obtain⟨W,hW⟩:∃ W,W=(w.alloc (.cells #[.pointer (some ⟨A,0,none⟩)] 151)).alloc (.cells (dqA d (.slice da dn dc)) 45):=⟨_,rfl⟩
 have hbW:=bw2 hW;obtain⟨Y0,hY0⟩:∃ Y0,w.heap.size=Y0:=⟨_,rfl⟩
 obtain⟨Y1,hY1⟩:∃ Y1,Y0+1=Y1:=⟨_,rfl⟩
 have jY0:W.heap[Y0]?=some (.cells #[.pointer (some ⟨A,0,none⟩)] 151 (0,0)):=nw21 hW hY0;have jY1:W.heap[Y1]?=some (.cells (dqA d (.slice da dn dc)) 45 (0,0)):=nw22 hW hY0 hY1;have hBw:B<=w.heap.size:=Nat.le_trans h.hA (Nat.le_of_lt (blk_lt h.ob));have c0:W.cell? ⟨Y0,0,none⟩=some (.pointer (some ⟨A,0,none⟩)):=cell_blk jY0 0;have c1:W.cell? ⟨A,2,none⟩=some (.slice ta tn tc):=cell_on hbW (cell_blk h.ob 2);have dk:W.cell? ⟨Y1,0,none⟩=some (.int .i64 d.kind):=cell_blk jY1 0;have HBw:=lh hBw;have HW:=lh hW;have HBW:=lh hbW;have HY0:=lh hY0;have HY1:=lh hY1;clear hW hbW hY0 hY1 hBw htn;clear jY0 jY1 h c0 c1;have g1:decide (d.kind<1)=false:=decide_eq_false hK0;have g2:decide (7<d.kind)=true:=decide_eq_true hK;go_enter Tryz.func91,Tryz.ntmps91;go_upto_region 1 with fail
 rw [<-HW.out,HY0.out,HY1.out];go_wp2;go_ret;exact ChAns.intro_err rfl (by decide) (HBW.out.mono HBw.out)
theorem chg1{B A:Nat}{s:Sc}{G:List Gt}{tv:Value}{d:Dd}{st:Int}{da:Option Addr}{dn dc:Nat}(h:Df w B A s G tv)(hK:d.kind=1)(hl:farB s.last=true)(h6:s.tabs.length<=6)(hdn:dn=d.cols.length)(hd:Lr colE 7 w d.cols (.slice da d.cols.length dc))(hz:d.cols.length<=1000000)(hdB:∀ b p n cc,(Value.slice da d.cols.length dc)=.slice (some ⟨b,p,none⟩) n cc->d.cols.length≠0->b<B):Calls Tryz.prog 91 #[.pointer (some ⟨A,0,none⟩),.agg (dqA d (.slice da dn dc)),.int .i64 st] w (ChAns w B A s (createS s d st)):=by
 subst hdn;have HDF:=lh h;obtain⟨ta,tc,hsh0⟩:=own_shape h.dr.row;obtain⟨tn,htn⟩:∃ tn,G.length=tn:=⟨_,rfl⟩
 rw [htn]at hsh0;subst hsh0;obtain⟨W,hW⟩:∃ W,W=(w.alloc (.cells #[.pointer (some ⟨A,0,none⟩)] 151)).alloc (.cells (dqA d (.slice da d.cols.length dc)) 45):=⟨_,rfl⟩
 have hbW:=bw2 hW;obtain⟨Y0,hY0⟩:∃ Y0,w.heap.size=Y0:=⟨_,rfl⟩
 obtain⟨Y1,hY1⟩:∃ Y1,Y0+1=Y1:=⟨_,rfl⟩
 have jY0:W.heap[Y0]?=some (.cells #[.pointer (some ⟨A,0,none⟩)] 151 (0,0)):=nw21 hW hY0;have jY1:W.heap[Y1]?=some (.cells (dqA d (.slice da d.cols.length dc)) 45 (0,0)):=nw22 hW hY0 hY1;have hBw:B<=w.heap.size:=Nat.le_trans h.hA (Nat.le_of_lt (blk_lt h.ob));have c0:W.cell? ⟨Y0,0,none⟩=some (.pointer (some ⟨A,0,none⟩)):=cell_blk jY0 0;have c1:W.cell? ⟨A,2,none⟩=some (.slice ta tn tc):=cell_on hbW (cell_blk h.ob 2);have DW:Df W B A s G (.slice ta tn tc):=⟨(hbW.block A (blk_lt h.ob)).trans h.ob,h.dr.below hbW,h.tabs,h.hA⟩
 have hcall:=addT_any (st:=st) DW hl h6 (hd.on colE_held hbW) hz hdB;have dk:W.cell? ⟨Y1,0,none⟩=some (.int .i64 1):=by rw [<-hK];exact cell_blk jY1 0
 have d1:W.cell? ⟨Y1,1,none⟩=some (.string d.table):=cell_blk jY1 1;have d2:W.cell? ⟨Y1,2,none⟩=some (.string d.name):=cell_blk jY1 2;have d3:W.cell? ⟨Y1,3,none⟩=some (.string d.column):=cell_blk jY1 3;have d4:W.cell? ⟨Y1,4,none⟩=some (.string d.parent):=cell_blk jY1 4;have d5:W.cell? ⟨Y1,5,none⟩=some (.bool d.uq):=cell_blk jY1 5;have d6:W.cell? ⟨Y1,6,none⟩=some (.int .i64 d.ty):=cell_blk jY1 6;have d7:W.cell? ⟨Y1,7,none⟩=some (.int .i64 d.df.k):=cell_blk jY1 7;have d8:W.cell? ⟨Y1,8,none⟩=some (.int .i64 d.df.n):=cell_blk jY1 8;have d9:W.cell? ⟨Y1,9,none⟩=some (.string d.df.s):=cell_blk jY1 9;have d10:W.cell? ⟨Y1,10,none⟩=some (.slice da d.cols.length dc):=cell_blk jY1 10;rw [dqA,hK]at hcall;have HBw:=lh hBw;have HW:=lh hW;have HBW:=lh hbW;have HY0:=lh hY0;have HY1:=lh hY1;clear hW hbW hY0 hY1 hBw htn;clear jY0 jY1 h c1 DW hd hz hdB hl h6 hK;go_enter Tryz.func91,Tryz.ntmps91;go_upto_region 1 with fail
 rw [<-HW.out,HY0.out,HY1.out];go_wp2_with (go_at_call 116;refine hcall.mono ?_;intro e9 w9 h9;obtain⟨er,rfl⟩:=h9.ret;refine Hid.out ?_)
 refine lh ?_;have H9:=lh h9;clear hcall h9;go_wp2;go_ret;exact H9.out.from (HBW.out.mono HBw.out)
theorem chg_no{B A:Nat}{s:Sc}{G:List Gt}{tv:Value}{d:Dd}{st:Int}{da:Option Addr}{dn dc:Nat}(h:Df w B A s G tv)(hK:1<d.kind/\d.kind<=7)(hfd:fidx (fun t=>decide (t.nm=d.table)) s.tabs=-1):Calls Tryz.prog 91 #[.pointer (some ⟨A,0,none⟩),.agg (dqA d (.slice da dn dc)),.int .i64 st] w (ChAns w B A s (.error 150)):=by
 have HDF:=lh h;obtain⟨ta,tc,hsh0⟩:=own_shape h.dr.row;obtain⟨tn,htn⟩:∃ tn,G.length=tn:=⟨_,rfl⟩
 rw [htn]at hsh0;subst hsh0;obtain⟨W,hW⟩:∃ W,W=(w.alloc (.cells #[.pointer (some ⟨A,0,none⟩)] 151)).alloc (.cells (dqA d (.slice da dn dc)) 45):=⟨_,rfl⟩
 have hbW:=bw2 hW;obtain⟨Y0,hY0⟩:∃ Y0,w.heap.size=Y0:=⟨_,rfl⟩
 obtain⟨Y1,hY1⟩:∃ Y1,Y0+1=Y1:=⟨_,rfl⟩
 have jY0:W.heap[Y0]?=some (.cells #[.pointer (some ⟨A,0,none⟩)] 151 (0,0)):=nw21 hW hY0;have jY1:W.heap[Y1]?=some (.cells (dqA d (.slice da dn dc)) 45 (0,0)):=nw22 hW hY0 hY1;have hBw:B<=w.heap.size:=Nat.le_trans h.hA (Nat.le_of_lt (blk_lt h.ob));have c0:W.cell? ⟨Y0,0,none⟩=some (.pointer (some ⟨A,0,none⟩)):=cell_blk jY0 0;have c1:W.cell? ⟨A,2,none⟩=some (.slice ta tn tc):=cell_on hbW (cell_blk h.ob 2);have dk:W.cell? ⟨Y1,0,none⟩=some (.int .i64 d.kind):=cell_blk jY1 0;have c2:W.cell? ⟨Y1,1,none⟩=some (.string d.table):=cell_blk jY1 1;have HC5:Hid (∀ X,Below W.heap.size W X->Calls Tryz.prog 97 #[.slice ta tn tc,.string d.table] X fun e w'=>e=.returned (.int .i64 (-1))/\Below X.heap.size X w'):=fun X hX=>by
  have q:=tabN_any (w:=X) d.table (by have z:=(h.dr.below (bgo hbW hX)).reads;rw [h.tabs]at z;exact z);rw [hfd]at q;exact q
 have HBw:=lh hBw;have HW:=lh hW;have HBW:=lh hbW;have HY0:=lh hY0;have HY1:=lh hY1;clear hW hbW hY0 hY1 hBw htn;clear jY0 jY1 h hfd;have g1:decide (d.kind<1)=false:=decide_eq_false (by omega);have g2:decide (7<d.kind)=false:=decide_eq_false (by omega);have g3:decide (d.kind=1)=false:=decide_eq_false (by omega);have g1':¬ d.kind<1:=by omega
 have g2':¬ 7<d.kind:=by omega
 have g3':¬ d.kind=1:=by omega
 go_enter Tryz.func91,Tryz.ntmps91;go_upto_region 1 with fail
 rw [<-HW.out,HY0.out,HY1.out];go_upto_region 5 with fail
 refine wp_region_fl (fun _ X9=>Below W.heap.size W X9) (fun X9 X'=>Below X9.heap.size X9 X') [
  fun v9 _=>v9=.pointer (some ⟨A,0,none⟩),fun v9 _=>v9=.pointer (some ⟨A,0,none⟩),fun v9 _=>v9=.pointer (some ⟨A,2,none⟩),fun v9 _=>v9=.slice ta tn tc,fun v9 _=>v9=.pointer (some ⟨Y1,1,none⟩),fun v9 _=>v9=.string d.table,fun v9 _=>v9=.int .i64 (-1),fun v9 _=>v9=.int .i64 (-1)]
  (by kernel_rfl) (by kernel_rfl) (by kernel_rfl) ?st ?g0 ?os ?en
 case st=>
  iterate 8 refine⟨fun _ _ _ _ h=>h,?_⟩
  exact trivial
 case g0=>exact⟨rfl,rfl,rfl,Nat.le_refl _,fun _ _=>rfl⟩
 case os =>
  refine⟨?_,?_,?_,?_,?_,?_,?_,?_,trivial⟩
  ·exact fun ρ _ _ hg _ _ _ ho _ _ _=>rv (op_load151 (show ρ (.tmp 3)=.pointer (some ⟨Y0,0,none⟩)from ho 3 rfl) (cell_on hg c0)) ⟨hg,Below.refl _ _,rfl⟩
  ·exact fun ρ _ _ hg _ _ _ _ _ _ hr=>rv (op_nil (show ρ (.tmp 25)=.pointer (some ⟨A,0,none⟩)from hr 0 25 rfl rfl)) ⟨hg,Below.refl _ _,rfl⟩
  ·exact fun ρ _ _ hg _ _ _ _ _ _ hr=>rv (op_f30_2 (show ρ (.tmp 26)=.pointer (some ⟨A,0,none⟩)from hr 1 26 rfl rfl)) ⟨hg,Below.refl _ _,rfl⟩
  ·exact fun ρ _ _ hg _ _ _ _ _ _ hr=>rv (op_load28 (show ρ (.tmp 27)=.pointer (some ⟨A,2,none⟩)from hr 2 27 rfl rfl) (cell_on hg c1)) ⟨hg,Below.refl _ _,rfl⟩
  ·exact fun ρ _ _ hg _ _ _ ho _ _ _=>rv (op_f45_1 (show ρ (.tmp 4)=.pointer (some ⟨Y1,0,none⟩)from ho 4 rfl)) ⟨hg,Below.refl _ _,rfl⟩
  ·exact fun ρ _ _ hg _ _ _ _ _ _ hr=>rv (op_load9 (show ρ (.tmp 29)=.pointer (some ⟨Y1,1,none⟩)from hr 4 29 rfl rfl) (cell_on hg c2)) ⟨hg,Below.refl _ _,rfl⟩
  ·refine fun ρ X9 fl hg hn hl hp ho hc hf hr=>.inl ⟨rfl,?_⟩;refine Runs.goes 97 #[.slice ta tn tc,.string d.table] (op_call2 hf (goes97 _ _) (show ρ (.tmp 28)=.slice ta tn tc from hr 3 28 rfl rfl) (show ρ (.tmp 30)=.string d.table from hr 5 30 rfl rfl)) ((HC5.out X9 hg).mono ?_);rintro e7 w7 ⟨rfl,b7⟩;exact⟨_,rfl,bgo hg b7,b7,rfl⟩
  ·exact fun ρ _ _ hg _ _ _ _ _ _ hr=>rv (op_assign (show ρ (.tmp 31)=.int .i64 (-1)from hr 6 31 rfl rfl)) ⟨hg,Below.refl _ _,rfl⟩
 case en =>
  intro a U fl hfl b3 hs hd ho hr;obtain⟨x,hx,hxt⟩:=act_put hs hd ho;have x7:x 7=.int .i64 (-1):=(hxt 7).symm.trans (hr 7 7 rfl);change a=putAll _ x [25,26,27,28,29,30,31,7]at hx;simp only [putAll,Act.put,List.setIfInBounds_toArray,List.set_cons_zero,List.set_cons_succ,x7]at hx;clear hs hd ho hr hxt x7;subst hx;go_wp2;go_ret;exact ChAns.intro_err rfl (by decide) ((bgo HBW.out b3).mono HBw.out)
theorem change_any{B A:Nat}{s:Sc}{G:List Gt}{tv:Value}{d:Dd}{st:Int}{da:Option Addr}{dn dc:Nat}(h:Df w B A s G tv)(hl:farB s.last=true)(hcnt:∀ t ∈ s.tabs,cntB t=true)(h6:s.tabs.length<=6)(hdn:dn=d.cols.length)(hd:Lr colE 7 w d.cols (.slice da d.cols.length dc))(hz:d.cols.length<=1000000)(hdB:∀ b p n cc,(Value.slice da d.cols.length dc)=.slice (some ⟨b,p,none⟩) n cc->d.cols.length≠0->b<B):Calls Tryz.prog 91 #[.pointer (some ⟨A,0,none⟩),.agg (dqA d (.slice da dn dc)),.int .i64 st] w (ChAns w B A s (changeS s d st)):=by
 unfold changeS;by_cases k0:d.kind<1\/7<d.kind
 ·rw [if_pos k0];by_cases k1:d.kind<1
  ·exact chg_lo h k1
  ·exact chg_hi h k1 (by omega)
 ·rw [if_neg k0];by_cases k1:d.kind=1
  ·rw [if_pos k1];exact chg1 h k1 hl h6 hdn hd hz hdB
  ·rw [if_neg k1];rcases fidx_cases (fun t=>decide (t.nm=d.table)) s.tabs with⟨hf,hn⟩ | ⟨i,hi,hf,hp,hb⟩
   ·have e:s.tabs.findIdx? (fun t=>decide (t.nm=d.table))=none:=List.findIdx?_eq_none_iff.mpr (fun x hx=>hn x hx);rw [e];exact chg_no h (by omega) hf
   ·have e:s.tabs.findIdx? (fun t=>decide (t.nm=d.table))=some i:=List.findIdx?_eq_some_iff_getElem.mpr ⟨hi,hp,fun j hj=>by rw [hb j (by omega) hj];decide⟩;rw [e];simp only [List.getElem?_eq_getElem hi];have hk:d.kind=2\/d.kind=3\/d.kind=4\/d.kind=5\/d.kind=6\/d.kind=7:=by omega
    rcases hk with q | q | q | q | q | q
    ·exact chg2 h q hl hcnt hi rfl hf
    ·exact chg3 h q hl hcnt hi rfl hf
    ·exact chg4 h q hl hcnt hi rfl hf
    ·exact chg5 h q hl hcnt hi rfl hf
    ·exact chg6 h q hl hcnt hi rfl hf
    ·exact chg7 h q hl hcnt hi rfl hf
end
end Go.Proofs.YtkhehikaemdnnaaGreat
namespace Go.Proofs.YtkhehikaemdnnaaGreat
set_option maxRecDepth 100000
set_option maxHeartbeats 4000000
open Go.RowKit Go.Maps
theorem changeT_ver{s s':Sc}{d:Dd}{st:Int}{i:Nat}{t:Tb}(h:changeT s d st i t=.ok s'):s'.ver=s.ver+1:=by
 unfold changeT at h
 repeat' split at h
 all_goals first
  | (cases h;rfl)
  | cases h
theorem changeS_ver{s s':Sc}{d:Dd}{st:Int}(h:changeS s d st=.ok s'):s'.ver=s.ver+1:=by
 unfold changeS createS at h
 repeat' split at h
 all_goals first
  | exact changeT_ver h
  | (cases h;rfl)
  | cases h
theorem right_parts{s:Sc}(h:rightS s=true):farB s.ver=true/\farB s.last=true/\s.tabs.length<=6/\∀ t ∈ s.tabs,cntB t=true:=by
 unfold rightS at h;simp only [Bool.and_eq_true,decide_eq_true_eq,List.all_eq_true]at h;obtain⟨⟨⟨⟨⟨⟨⟨h1,h2⟩,h3⟩,h4⟩,_⟩,_⟩,_⟩,_⟩:=h;refine⟨h1,h2,h3,fun t ht=>?_⟩;have:=h4 t ht;unfold tabB at this;simp only [Bool.and_eq_true]at this;exact this.1.1
def TuAns(w:World)(res:Except Int Sc)(e:Ending)(w':World):Prop:=match res with
 | .error er=>e=.returned (.tuple #[.agg #[.int .i64 0,.int .i64 0,.slice none 0 0],.int .i64 er])/\er≠0/\Below w.heap.size w w'
 | .ok s'=>∃ G tv,e=.returned (.tuple #[.agg (scA s' tv),.int .i64 0])/\G.map Prod.fst=s'.tabs/\Dr w' w.heap.size G tv/\Below w.heap.size w w'
section
variable {w : World}
theorem turn_any{s:Sc}{tv:Value}{d:Dd}{st:Int}{da:Option Addr}{dc:Nat}(hL:Lr tbE 5 w s.tabs tv)(hI:∀ t ∈ s.tabs,∀ i ∈ idsT t,I64 i)(hd:Lr colE 7 w d.cols (.slice da d.cols.length dc))(hz:d.cols.length<=1000000):Calls Tryz.prog 66 #[scV s tv,.agg (dqA d (.slice da d.cols.length dc)),.int .i64 st] w (TuAns w (turnS s d st)):=by
 obtain⟨ta,tc,rfl,hr0⟩:=hL;have hL:Lr tbE 5 w s.tabs (.slice ta s.tabs.length tc):=⟨ta,tc,rfl,hr0⟩
 obtain⟨W,hW⟩:∃ W,W=((w.alloc (.cells #[.int .i64 s.ver,.int .i64 s.last,.slice ta s.tabs.length tc] 30)).alloc (.cells (dqA d (.slice da d.cols.length dc)) 45)).alloc (.cells #[.int .i64 0,.int .i64 0,.slice none 0 0] 30):=⟨_,rfl⟩
 have hbW:=bw3 hW;obtain⟨Y0,hY0⟩:∃ Y0,w.heap.size=Y0:=⟨_,rfl⟩
 obtain⟨Y1,hY1⟩:∃ Y1,Y0+1=Y1:=⟨_,rfl⟩
 obtain⟨Y2,hY2⟩:∃ Y2,Y1+1=Y2:=⟨_,rfl⟩
 have jY0:W.heap[Y0]?=some (.cells #[.int .i64 s.ver,.int .i64 s.last,.slice ta s.tabs.length tc] 30 (0,0)):=nw31 hW hY0;have jY1:W.heap[Y1]?=some (.cells (dqA d (.slice da d.cols.length dc)) 45 (0,0)):=nw32 hW hY0 hY1;have jY2:W.heap[Y2]?=some (.cells #[.int .i64 0,.int .i64 0,.slice none 0 0] 30 (0,0)):=nw33 hW hY0 hY1 hY2;have hge:w.heap.size<=Y2:=by omega
 have HGE:=lh hge;have HST:Hid (∀ X,Below W.heap.size W X->∃ X',(Instr.storeAt 30 (.pointer (some ⟨Y2,0,none⟩)) (.agg #[.int .i64 0,.int .i64 0,.slice none 0 0])).run Tryz.prog X=.ok () X'/\X'.heap[Y2]?=some (.cells #[.int .i64 0,.int .i64 0,.slice none 0 0] 30 (0,0))/\Below w.heap.size w X'):=fun X hX=>by
  have j:=(hX.block Y2 (blk_lt jY2)).trans jY2;obtain⟨X',e,j',f⟩:=sets_row j #[.int .i64 0,.int .i64 0,.slice none 0 0] rfl;exact⟨X',by rw [e];exact store_row j rfl size30 (by simp [Value.oneCell']),j',(bgo hbW hX).trans (f.toBelow (fun k hk q=>by rw [q]at hk;omega) (bgo hbW hX).size)⟩
 have hr:=right_sch (hL.on tbE_held hbW) hI;have d0:W.cell? ⟨Y0,0,none⟩=some (.int .i64 s.ver):=cell_blk jY0 0;have d1:W.cell? ⟨Y0,1,none⟩=some (.int .i64 s.last):=cell_blk jY0 1;have d2:W.cell? ⟨Y0,2,none⟩=some (.slice ta s.tabs.length tc):=cell_blk jY0 2;have HL:=lh (hL.on tbE_held hbW);have HD:=lh hd;have HZ:=lh hz;have JJ:=lh (And.intro jY0 (And.intro jY1 jY2));have HW:=lh hW;have HBW:=lh hbW;have HY0:=lh hY0;have HY1:=lh hY1;have HY2:=lh hY2;clear hW hbW hY0 hY1 hY2 jY0 jY1 jY2 hge hL hr0 hI hd hz;go_enter Tryz.func66,Tryz.ntmps66;go_upto_region 1 with fail
 rw [<-HW.out,HY0.out,HY1.out,HY2.out];cases q1:rightS s with
 | false =>
  rw [q1]at hr;have HR:Hid (turnS s d st=.error 100):=by unfold turnS;rw [if_pos (.inl q1)];exact lh rfl
  clear q1;go_upto_region 2 with (go_at_call 73;refine hr.mono ?_;rintro e w1 ⟨rfl,b1⟩;refine Hid.out ?_)
  refine lh ?_;obtain⟨X',hst,j',hb'⟩:=HST.out w1 b1;have HX:=lh (And.intro j' hb');clear hr j' hb' b1 d0 d1 d2;go_wp2_with (refine wpl_store _ _ rfl (by simp [Act.eval]) (by simp [Act.eval]) hst ?_)
  refine bodyPost_ret (results_two rfl rfl rfl (load_var HX.out.1 Tryz.underlying30 rfl size30)) rfl ?_;rw [HR.out];exact⟨rfl,by decide,HX.out.2⟩
 | true =>
  rw [q1]at hr;have HQ1:=lh q1;clear q1;by_cases v1:st<0
  ·have HR:Hid (turnS s d st=.error 100):=by unfold turnS;rw [if_pos (.inr (.inl v1))];exact lh rfl
   have g1:decide (st<0)=true:=decide_eq_true v1;go_upto_region 2 with (go_at_call 73;refine hr.mono ?_;rintro e w1 ⟨rfl,b1⟩;refine Hid.out ?_)
   refine lh ?_;obtain⟨X',hst,j',hb'⟩:=HST.out w1 b1;have HX:=lh (And.intro j' hb');clear hr j' hb' b1 d0 d1 d2;go_wp2_with (refine wpl_store _ _ rfl (by simp [Act.eval]) (by simp [Act.eval]) hst ?_)
   refine bodyPost_ret (results_two rfl rfl rfl (load_var HX.out.1 Tryz.underlying30 rfl size30)) rfl ?_;rw [HR.out];exact⟨rfl,by decide,HX.out.2⟩
  by_cases v2:3<st
  ·have HR:Hid (turnS s d st=.error 100):=by unfold turnS;rw [if_pos (.inr (.inr v2))];exact lh rfl
   have g1:decide (st<0)=false:=decide_eq_false v1;have g2:decide (3<st)=true:=decide_eq_true v2;go_upto_region 2 with (go_at_call 73;refine hr.mono ?_;rintro e w1 ⟨rfl,b1⟩;refine Hid.out ?_)
   refine lh ?_;obtain⟨X',hst,j',hb'⟩:=HST.out w1 b1;have HX:=lh (And.intro j' hb');clear hr j' hb' b1 d0 d1 d2;go_wp2_with (refine wpl_store _ _ rfl (by simp [Act.eval]) (by simp [Act.eval]) hst ?_)
   refine bodyPost_ret (results_two rfl rfl rfl (load_var HX.out.1 Tryz.underlying30 rfl size30)) rfl ?_;rw [HR.out];exact⟨rfl,by decide,HX.out.2⟩
  have HR:Hid (turnS s d st=changeS s d st):=by unfold turnS;rw [if_neg (by rw [HQ1.out];simp;omega)];exact lh rfl
  have g1:decide (st<0)=false:=decide_eq_false v1;have g2:decide (3<st)=false:=decide_eq_false v2;go_upto_region 3 with (go_at_call 73;refine hr.mono ?_;rintro e U ⟨rfl,b1⟩;refine Hid.out ?_)
  refine lh ?_;have hcl:=cloneS_any (HL.out.on tbE_held b1) ⟨by have:=(right_parts HQ1.out).2.2.1;omega,fun t ht=>(tab_few ((right_parts HQ1.out).2.2.2 t ht)).1⟩;have e0:=cell_on b1 d0;have e1:=cell_on b1 d1;have e2:=cell_on b1 d2;have B1:=lh b1;clear hr b1 d0 d1 d2 g1 g2;go_upto_region 4 with (go_at_call 90;refine hcl.mono ?_;rintro e U1 ⟨G,tv',rfl,hG,hDr,b2⟩;refine Hid.out ?_)
  refine lh ?_;obtain⟨ta',tc',hsh⟩:=own_shape hDr.row;subst hsh;obtain⟨A,hA⟩:∃ A,U1.heap.size=A:=⟨_,rfl⟩
  have jA:=heap_alloc_new U1 (.cells #[.int .i64 0,.int .i64 0,.slice none 0 0] 30);have bA:=bnew U1 (.cells #[.int .i64 0,.int .i64 0,.slice none 0 0] 30);obtain⟨V1,eV,jV,fV⟩:=sets_row jA (scA s (.slice ta' G.length tc')) rfl;have hst:(Instr.storeAt 30 (.pointer (some ⟨U1.heap.size,0,none⟩)) (.agg (scA s (.slice ta' G.length tc')))).run Tryz.prog (U1.alloc (.cells #[.int .i64 0,.int .i64 0,.slice none 0 0] 30))=.ok () V1:=by
   rw [eV];exact store_row jA rfl size30 (by simp [Value.oneCell'])
  have b3:Below U1.heap.size U1 V1:=bA.trans (fV.toBelow (fun k hk q=>by omega) bA.size);have bUV:Below U.heap.size U V1:=bgo b2 b3;have bWV:Below W.heap.size W V1:=bgo B1.out bUV;have bwV:Below w.heap.size w V1:=bgo HBW.out bWV;have hWU:W.heap.size<=U.heap.size:=B1.out.size;have hwU:w.heap.size<=U.heap.size:=Nat.le_trans HBW.out.size hWU;have hUA:U.heap.size<=A:=by rw [<-hA];exact b2.size
  rw [hA]at jV;have DF:Df V1 U.heap.size A s G (.slice ta' G.length tc'):=⟨jV,hDr.below b3,hG,hUA⟩
  have hch:=change_any (st:=st) (da:=da) (dc:=dc) (d:=d) DF (right_parts HQ1.out).2.1 (right_parts HQ1.out).2.2.2 (right_parts HQ1.out).2.2.1 rfl (HD.out.on colE_held bwV) HZ.out (by
   intro b p n cc e hn;obtain⟨da',dc',ed,_,q1,q2,hX⟩:=HD.out;obtain⟨b',p',cs,eb,hbl,_⟩:=hX 0 (by omega);cases ed;cases e;cases eb;omega)
  have hld:=load_row ((bWV.block Y1 (blk_lt JJ.out.2.1)).trans JJ.out.2.1) Tryz.underlying45 rfl size45;have BWV:=lh bWV;have HUA:=lh (And.intro hWU (And.intro hwU hUA));have HA:=lh hA;clear hcl e0 e1 e2 jA bA eV jV fV b3 bUV bWV bwV hWU hwU hUA DF hG hDr b2 hA;go_upto_region 4 with (refine wpl_store _ _ rfl (by simp [Act.eval]) (by simp [Act.eval]) hst ?_)
  rw [HA.out];clear hst;cases qc:changeS s d st with
  | error er =>
   rw [qc]at hch;have HR2:Hid (turnS s d st=.error er):=lh (HR.out.trans qc);clear qc;go_upto_region 6 with (first|(refine wpl_load _ rfl (by simp [Act.eval,Act.put]) hld ?_)|(go_at_call 91;refine hch.mono ?_;rintro e w3 ⟨rfl,hne,b3⟩;refine Hid.out ?_))
   refine lh ?_;obtain⟨X',hst,j',hb'⟩:=HST.out w3 (BWV.out.trans (b3.mono HUA.out.1));have HX:=lh (And.intro j' hb');have hne':¬ er=0:=hne;clear hch hld j' hb' b3;go_wp2_with (refine wpl_store _ _ rfl (by simp [Act.eval]) (by simp [Act.eval]) hst ?_)
   refine bodyPost_ret (results_two rfl rfl rfl (load_var HX.out.1 Tryz.underlying30 rfl size30)) rfl ?_;rw [HR2.out];exact⟨rfl,hne,HX.out.2⟩
  | ok s' =>
   rw [qc]at hch;have HR2:Hid (turnS s d st=.ok s'):=lh (HR.out.trans qc);have HV:Hid (s'.ver=s.ver+1):=lh (changeS_ver qc);clear qc;go_upto_region 7 with (first|(refine wpl_load _ rfl (by simp [Act.eval,Act.put]) hld ?_)|(go_at_call 91;refine hch.mono ?_;rintro e w3 ⟨rfl,⟨G',tv9,hDf⟩,b3⟩;refine Hid.out ?_))
   refine lh ?_;obtain⟨v3,v4⟩:0<=s.ver/\s.ver<=1125899906842624:=by
    have q:=(right_parts HQ1.out).1;unfold farB at q;simp only [Bool.and_eq_true,decide_eq_true_eq]at q;exact q
   obtain⟨ta9,tc9,hsh⟩:=own_shape hDf.dr.row;subst hsh;have u0:w3.cell? ⟨A,0,none⟩=some (.int .i64 s.ver):=cell_blk hDf.ob 0;have z0:w3.frozen? ⟨A,0,none⟩=false:=frozen_blk hDf.ob 0;have bW3:Below W.heap.size W w3:=BWV.out.trans (b3.mono HUA.out.1);have jY:w3.heap[Y2]?=some (.cells #[.int .i64 0,.int .i64 0,.slice none 0 0] 30 (0,0)):=(bW3.block Y2 (blk_lt JJ.out.2.2)).trans JJ.out.2.2;have hne:Y2≠A:=by
    have q1:=blk_lt JJ.out.2.2;have q2:=HUA.out;omega
   obtain⟨X1,hX1⟩:∃ X1,X1=w3.setCell ⟨A,0,none⟩ (.int .i64 (s.ver+1)):=⟨_,rfl⟩
   have jA1:X1.heap[A]?=some (.cells (scA s' (.slice ta9 G'.length tc9)) 30 (0,0)):=by
    rw [hX1,set_blk hDf.ob];unfold scA;rw [HV.out];rfl
   have jY1':X1.heap[Y2]?=some (.cells #[.int .i64 0,.int .i64 0,.slice none 0 0] 30 (0,0)):=by rw [hX1,set_other _ hne];exact jY
   have hld2:=load_row jA1 Tryz.underlying30 rfl size30;obtain⟨X4,e4,j4,f4⟩:=sets_row jY1' (scA s' (.slice ta9 G'.length tc9)) rfl;have hst:(Instr.storeAt 30 (.pointer (some ⟨Y2,0,none⟩)) (.agg (scA s' (.slice ta9 G'.length tc9)))).run Tryz.prog X1=.ok () X4:=by
    rw [e4];exact store_row jY1' rfl size30 (by simp [Value.oneCell'])
   have f3:Fr w3 X4 (fun k=>k=A\/k=Y2):=by
    refine Fr.trans ?_ (f4.mono (fun k hk=>.inr hk));rw [hX1];exact Fr.set (S:=fun k=>k=A\/k=Y2) (a:=⟨A,0,none⟩) (Fr.refl _ _) (.inl (.inl rfl)) _
   have HE:Hid (Dr X4 w.heap.size G' (.slice ta9 G'.length tc9)/\Below w.heap.size w X4):=by
    refine⟨(hDf.dr.keep f3 (fun k hk=>.inr (fun cs e q=>?_))).mono HUA.out.2.1,(bgo HBW.out bW3).trans (f3.toBelow (fun k hk q=>?_) (bgo HBW.out bW3).size)⟩
    ·rcases hk with rfl | rfl
     ·rw [hDf.ob]at q;simp only [Option.some.injEq,Obj.cells.injEq]at q;rw [<-q.2.1]
      decide
     ·rw [jY]at q;simp only [Option.some.injEq,Obj.cells.injEq]at q;rw [<-q.2.1]
      decide
    ·have q1:=HGE.out;have q2:=HUA.out;rcases q with q | q <;> omega
   have HG9:Hid (G'.map Prod.fst=s'.tabs):=hDf.tabs;have J4:=lh j4;have HX1:=lh hX1;clear hch hld hDf b3 bW3 jY hne hX1 jA1 jY1' e4 j4 f4 f3;go_upto_region 8 with fail
   rw [<-HX1.out];go_wp2_with (first|(refine wpl_load _ rfl (by simp [Act.eval]) hld2 ?_)|(refine wpl_store _ _ rfl (by simp [Act.eval,Act.put]) (by simp [Act.eval,Act.put]) hst ?_))
   refine bodyPost_ret (results_two rfl rfl rfl (load_var J4.out Tryz.underlying30 rfl size30)) rfl ?_;rw [HR2.out];exact⟨G',_,rfl,HG9.out,HE.out.1,HE.out.2⟩
end
end Go.Proofs.YtkhehikaemdnnaaGreat
namespace Go.Proofs.YtkhehikaemdnnaaGreat
open Go.RowKit Go.Maps
def v0:Vl:=⟨0,0,⟨#[]⟩⟩
def exC:List Col:=[⟨0,⟨#[97]⟩,1,0,v0⟩,⟨0,⟨#[98]⟩,2,0,v0⟩]
theorem col_nil(X:World):Lr colE 7 X [] (.slice none 0 0):=⟨none,0,rfl,fun _=>rfl,Nat.le_refl _,Nat.zero_le _,fun i hi=>absurd hi (by simp)⟩
theorem ex_cols{X:World}{F:Nat}(h:X.heap[F]?=some (.cells #[.int .i64 0,.string ⟨#[97]⟩,.int .i64 1,.int .i64 0,.int .i64 0,.int .i64 0,.string ⟨#[]⟩,.int .i64 0,.string ⟨#[98]⟩,.int .i64 2,.int .i64 0,.int .i64 0,.int .i64 0,.string ⟨#[]⟩] 56 (0,0))):Lr colE 7 X exC (.slice (some ⟨F,0,none⟩) 2 2) :=
 ⟨some ⟨F,0,none⟩,2,rfl,(fun e=>by cases e),Nat.le_refl _,(by unfold maxLen;omega),fun i hi=>by
  have h0:i=0\/i=1:=by have:i<2:=hi;omega
  rcases h0 with rfl | rfl
  ·exact⟨F,0,colL ⟨0,⟨#[97]⟩,1,0,v0⟩,rfl,blk_lt h,rfl,rfl,fun j u hu=>by
    have hj:j<7:=(List.getElem?_eq_some_iff.1 hu).1;rw [show 0+0*7+j=j from by omega,cell_blk h j]
    match j,hj,hu with
    | 0,_,hu=>exact hu
    | 1,_,hu=>exact hu
    | 2,_,hu=>exact hu
    | 3,_,hu=>exact hu
    | 4,_,hu=>exact hu
    | 5,_,hu=>exact hu
    | 6,_,hu=>exact hu⟩
  ·exact⟨F,0,colL ⟨0,⟨#[98]⟩,2,0,v0⟩,rfl,blk_lt h,rfl,rfl,fun j u hu=>by
    have hj:j<7:=(List.getElem?_eq_some_iff.1 hu).1;rw [show 0+1*7+j=7+j from by omega,cell_blk h (7+j)]
    match j,hj,hu with
    | 0,_,hu=>exact hu
    | 1,_,hu=>exact hu
    | 2,_,hu=>exact hu
    | 3,_,hu=>exact hu
    | 4,_,hu=>exact hu
    | 5,_,hu=>exact hu
    | 6,_,hu=>exact hu⟩⟩
end Go.Proofs.YtkhehikaemdnnaaGreat
