import Derived.Test.YtkhehikaemdnnaaGreatQLh0
namespace Go.Proofs.YtkhehikaemdnnaaGreat
set_option maxRecDepth 100000
set_option maxHeartbeats 16000000
open Go.RowKit
section
variable {w : World}
theorem ent_nil_run{B:Nat}{s0 s1:Int}{tv lv jvs rv cv:Value}{J:List (Jb × Value)}{L:List Nat}{j:Jb}(hB:w.heap[B]?=some (.cells (bdA s0 s1 tv lv jvs rv (.map none)) 88 (0,0)))(hJ0:J=[])(hJ:w.ownsRow 0 66 22 jvs J.length (J.flatMap jrow))(hr:RunL w rv L)(hc:Reads (fun k=>k=B\/jvs.ownBlock=some k\/RunBlk rv k\/(Value.map none)=.map (some k)) w fun V=>Lr colE 7 V j.ddl.cols cv)(hz:j.ddl.cols.length<=1000000)(hJz:J.length<=100000)(hLz:L.length<=100000)(ht:TdOk j.asker)(hid:j.id=(J.length:Int)+1)(hnew:(J.map Prod.fst).findIdx? (fun x=>decide (x.asker=j.asker))=none)(hen:j.en=0):Calls Tryz.prog 50 #[.pointer (some ⟨B,0,none⟩),.agg (jbA j cv)] w (EntAns w B s0 s1 tv lv jvs rv (.map none) J (L ++ [J.length]) j):=by
 obtain⟨ja,jc,rfl⟩:=own_shape hJ;obtain⟨ra,rc,rfl,hr0⟩:=hr;have hr:RunL w (.slice ra L.length rc) L:=⟨ra,rc,rfl,hr0⟩
 clear hr0;obtain⟨ca,cc,rfl,hc0⟩:=hc.now;clear hc0;obtain⟨W,hW⟩:∃ W,W=w.alloc (.cells (jbA j (.slice ca j.ddl.cols.length cc)) 66):=⟨_,rfl⟩
 have hb:=bw1 hW;obtain⟨Y3,hY3⟩:∃ Q,w.heap.size=Q:=⟨_,rfl⟩
 have j3:W.heap[Y3]?=some (.cells (jbA j (.slice ca j.ddl.cols.length cc)) 66 (0,0)):=by rw [hW,<-hY3];exact heap_alloc_new w _
 have hBW:=(hb.block B (blk_lt hB)).trans hB;have HLT:Hid (B<w.heap.size/\(∀ k,(Value.slice ja J.length jc).ownBlock=some k->k<w.heap.size)/\∀ k,RunBlk (.slice ra L.length rc) k->k<w.heap.size):=lh ⟨blk_lt hB,own_lt hJ,fun k hk=>run_lt hr hk⟩;have HNE:Hid ((∀ k,(Value.slice ja J.length jc).ownBlock=some k->k≠B/\¬ RunBlk (.slice ra L.length rc) k)/\¬ RunBlk (.slice ra L.length rc) B):=lh ⟨fun k hk=>by
  obtain⟨_,h1⟩:=own_ty hJ hk;exact⟨ty_ne h1 hB (by decide),fun q=>by
   obtain⟨_,h2⟩:=run_ty hr q;exact ty_ne h1 h2 (by decide) rfl⟩,fun q=>by
  obtain⟨_,h2⟩:=run_ty hr q;exact ty_ne hB h2 (by decide) rfl⟩
 have HW:=lh hW;have HY3:=lh hY3;have HB:=lh hb;have JZ:Hid (J.length<=100000/\L.length<=100000):=lh ⟨hJz,hLz⟩;have TD:=lh ht;have IDJ:=lh hid;have NEW:=lh hnew;have CZ:=lh hz;have HJO:=own_below hJ hb;have HRO:=hr.stays (w':=W) fun k hk=>hb.block k (run_lt hr hk);have HCR:=lh hc;have HEN:=lh hen;have c6:W.cell? ⟨B,6,none⟩=some (.map none):=cell_blk hBW 6;have hmk:=@run_makeMap Tryz.prog;obtain⟨V,hV⟩:∃ V,V=W.alloc (.map #[] 0):=⟨_,rfl⟩
 have bV:Below W.heap.size W V:=by rw [hV];exact bnew _ _
 have mV:Mt V W.heap.size 0 (fun _=>none):=by rw [hV];exact Mt.made W
 have hBV:=(bV.block B (blk_lt hBW)).trans hBW;have zV:V.frozen? ⟨B,6,none⟩=false:=frozen_blk hBV _;have cV:V.cell? ⟨B,6,none⟩=some (.map none):=cell_blk hBV 6;obtain⟨m,hm⟩:∃ m,W.heap.size=m:=⟨_,rfl⟩
 rw [hm]at mV;have hst:(Instr.storeAt 86 (.pointer (some ⟨B,6,none⟩)) (.map (some m))).run Tryz.prog V=.ok () (V.setCell ⟨B,6,none⟩ (.map (some m))):=by
  clear hBV mV bV hV hmk hm HW HB HJO HRO HCR HLT HNE c6
  go_simp
 obtain⟨U,hU⟩:∃ U,U=V.setCell ⟨B,6,none⟩ (.map (some m)):=⟨_,rfl⟩
 have fU:Fr V U (fun k=>k=B):=by rw [hU];exact(Fr.refl V (fun k=>k=B)).set (a:=⟨B,6,none⟩) (.inl rfl) _
 have BU:Hid (U.heap[B]?=some (.cells (bdA s0 s1 tv lv (.slice ja J.length jc) (.slice ra L.length rc) (.map (some m))) 88 (0,0))):=lh (by rw [hU];exact set_blk hBV _);rw [<-hU]at hst;have hBm:B≠m:=by have:=blk_lt hBW;omega
 have FWU:Fr W U (fun k=>k=B):=(Fr.ofBelow _ bV).trans fU;have MU:Hid (Mt U m 0 (idOf (J.map Prod.fst))):=lh ((mV.like (fU.block m mV.lt (fun q=>hBm q.symm))).same fun t=>by rw [hJ0];rfl);have NLE:Hid (0<=J.length):=lh (Nat.zero_le _);have HNM:Hid (B≠m/\(Value.slice ja J.length jc).ownBlock≠some m/\¬ RunBlk (.slice ra L.length rc) m/\Y3≠m/\w.heap.size<=m):=lh ⟨hBm,fun q=>by have:=HLT.out.2.1 m q;have:=HB.out.size;omega,fun q=>by have:=HLT.out.2.2 m q;have:=HB.out.size;omega,by have:=blk_lt j3;omega,by have:=HB.out.size;omega⟩;have JU:=lh (own_blk (w':=U) HJO (fun g hg hl=>FWU.block g hl (HNE.out.1 g hg).1));have RU:=lh (HRO.stays (w':=U) fun k hk=>FWU.block k (run_lt HRO hk) (fun q=>HNE.out.2 (by rw [show k=B from q]at hk;exact hk)));have J3U:=lh ((FWU.block Y3 (blk_lt j3) (fun q=>by have:=HLT.out.1;have q':Y3=B:=q;omega)).trans j3);have FU:Hid (Fr w U (fun k=>k=B\/(Value.slice ja J.length jc).ownBlock=some k\/RunBlk (.slice ra L.length rc) k\/(Value.map none)=.map (some k))):=lh ((Fr.ofBelow _ HB.out).trans (FWU.mono fun k q=>.inl q));have HST:=lh (show(Instr.storeAt 86 (.pointer (some ⟨B,6,none⟩)) (.map (some W.heap.size))).run Tryz.prog (W.alloc (.map #[] 0))=.ok () U from by rw [hm,<-hV];exact hst);have HMS:=lh hm;clear hm hV bV mV hBV zV cV hst hU fU hBm FWU hJ0;clear hW hb hY3 j3 hBW hB hJ hr hc hz hJz hLz ht hid hnew HJO HRO;obtain⟨cs,hcs⟩:∃ cs,jbA j (.slice ca j.ddl.cols.length cc)=cs:=⟨_,rfl⟩
 have HCS:=lh hcs;rw [hcs]at HW ⊢;clear hcs;go_enter Tryz.func50,Tryz.ntmps50;go_upto_region 1 with fail
 rw [<-HW.out,HY3.out];go_upto_region 3 with (first|(refine wpl_op (.bool true) rfl (op_isnil86 (a:=none) (by simp [Act.eval]) (by simp [Act.eval])) ?_)|(refine wpl_store _ _ rfl (by simp [Act.eval]) (by simp [Act.eval]) HST.out ?_))
 clear hmk;clear c6;have RT:Hid (U.rangeAt Y3 2 (tdL j.asker)):=lh (range_part (range_blk J3U.out) 2 3);refine wp_region_fin (fun X9=>Below U.heap.size U X9) (fun X9 X8=>Below X9.heap.size X9 X8) [
  fun v9 _=>v9=.pointer (some ⟨B,0,none⟩),fun v9 _=>v9=.pointer (some ⟨B,0,none⟩),fun v9 _=>v9=.pointer (some ⟨B,6,none⟩),fun v9 _=>v9=.map (some m),fun v9 _=>v9=.pointer (some ⟨Y3,2,none⟩),fun v9 _=>v9=tdV j.asker,fun v9 _=>v9=.pointer (some ⟨Y3,0,none⟩),fun v9 _=>v9=.int .i64 j.id]
  (fun _ X9=>Mt X9 m (0+1) (idOf (J.map Prod.fst ++ [j]))/\Fr U X9 (fun k=>k=m)) rfl (by kernel_rfl) (by kernel_rfl) (by kernel_rfl) (by kernel_rfl) ?st ?g0 ?os ?la ?en
 case st=>
  iterate 8 refine⟨fun _ _ _ _ h=>h,?_⟩
  exact trivial
 case g0=>exact⟨rfl,rfl,rfl,Nat.le_refl _,fun _ _=>rfl⟩
 case os =>
  refine⟨?_,?_,?_,?_,?_,?_,?_,?_,trivial⟩
  ·exact⟨rfl,fun ρ _ hg ho _ _ _=>Runs.val _ (op_move (show ρ (.tmp 0)=.pointer (some ⟨B,0,none⟩)from ho 0 rfl)) ⟨hg,Below.refl _ _,rfl⟩⟩
  ·exact⟨rfl,fun ρ _ hg _ _ _ hr=>Runs.val _ (op_nil (show ρ (.tmp 13)=.pointer (some ⟨B,0,none⟩)from hr 0 13 rfl rfl)) ⟨hg,Below.refl _ _,rfl⟩⟩
  ·exact⟨rfl,fun ρ _ hg _ _ _ hr=>Runs.val _ (op_f88_4 (show ρ (.tmp 14)=.pointer (some ⟨B,0,none⟩)from hr 1 14 rfl rfl)) ⟨hg,Below.refl _ _,rfl⟩⟩
  ·exact⟨rfl,fun ρ _ hg _ _ _ hr=>Runs.val _ (op_load86 (show ρ (.tmp 15)=.pointer (some ⟨B,6,none⟩)from hr 2 15 rfl rfl) (cell_on hg (cell_blk BU.out 6))) ⟨hg,Below.refl _ _,rfl⟩⟩
  ·exact⟨rfl,fun ρ _ hg ho _ _ _=>Runs.val _ (op_f66_2 (show ρ (.tmp 3)=.pointer (some ⟨Y3,0,none⟩)from ho 3 rfl)) ⟨hg,Below.refl _ _,rfl⟩⟩
  ·exact⟨rfl,fun ρ X9 hg _ _ _ hr=>Runs.val _ (op_loadAt (show ρ (.tmp 17)=.pointer (some ⟨Y3,2,none⟩)from hr 4 17 rfl rfl) (run_loadAt_mid X9 Y3 2 38 (tdL j.asker) _ (range_on hg RT.out) Tryz.underlying38 rfl size38)) ⟨hg,Below.refl _ _,rfl⟩⟩
  ·exact⟨rfl,fun ρ _ hg ho _ _ _=>Runs.val _ (op_f66_0 (show ρ (.tmp 3)=.pointer (some ⟨Y3,0,none⟩)from ho 3 rfl)) ⟨hg,Below.refl _ _,rfl⟩⟩
  ·exact⟨rfl,fun ρ _ hg _ _ _ hr=>Runs.val _ (op_load3 (show ρ (.tmp 19)=.pointer (some ⟨Y3,0,none⟩)from hr 6 19 rfl rfl) (cell_on hg (cell_blk J3U.out 0))) ⟨hg,Below.refl _ _,rfl⟩⟩
 case la =>
  refine⟨rfl,fun ρ X9 hg ho hc hf hr=>?_⟩;obtain⟨w8,hrun,hm8,hg8⟩:=map_put (MU.out.on hg) (by rw [List.length_map];exact NLE.out) (by rw [List.length_map];have:=JZ.out.1;omega) TD.out (by rw [List.length_map];exact IDJ.out) NEW.out;exact Runs.skips (op_mapUpdate (show ρ (.tmp 16)=.map (some m)from hr 3 16 (by decide) rfl) (show ρ (.tmp 18)=tdV j.asker from hr 5 18 (by decide) rfl) (show ρ (.tmp 20)=.int .i64 j.id from hr 7 20 (by decide) rfl) hrun) ⟨hm8,Fr.grown ((Fr.refl U (fun k=>k=m)).below hg) hg8 (fun k hk=>.inl (Option.some.inj hk).symm)⟩
 case en =>
  intro a9 U3 wb v9 hF hs9 hd9 ho9 hv9 hr9;obtain⟨x9,hx,hxt⟩:=act_put hs9 hd9 ho9;change a9=putAll _ x9 [13,14,15,16,17,18,19,20]at hx;simp only [putAll,Act.put,List.setIfInBounds_toArray,List.set_cons_zero,List.set_cons_succ]at hx;subst hx;clear hs9 hd9 ho9 hv9 hr9 hxt;generalize x9 13=z13,x9 14=z14,x9 15=z15,x9 16=z16,x9 17=z17,x9 18=z18,x9 19=z19,x9 20=z20;obtain⟨hm3,f3⟩:=hF;have MU3:=lh hm3;have FU3:Hid (Fr w U3 (fun k=>k=B\/(Value.slice ja J.length jc).ownBlock=some k\/RunBlk (.slice ra L.length rc) k\/(Value.map none)=.map (some k))):=lh (FU.out.step f3 (fun k q=>.inr (by have q2:k=m:=q;have:=HNM.out;omega)));have BU3:=lh ((f3.block B (blk_lt BU.out) HNM.out.1).trans BU.out);have JU3:=lh (own_blk (w':=U3) JU.out (fun g hg hl=>f3.block g hl (fun q=>HNM.out.2.1 (by rw [hg,show g=m from q]))));have RU3:=lh (RU.out.stays (w':=U3) fun k hk=>f3.block k (run_lt RU.out hk) (fun q=>HNM.out.2.2.1 (by rw [show k=m from q]at hk;exact hk)));have J33:=lh ((f3.block Y3 (blk_lt J3U.out) (fun q=>HNM.out.2.2.2.1 q)).trans J3U.out);have hen:=HEN.out;clear hm3 f3;have c20:U3.cell? ⟨Y3,20,none⟩=some (.int .i64 0):=by
   have:U3.cell? ⟨Y3,20,none⟩=some (.int .i64 j.en):=cell_blk J33.out 20;rw [hen]at this;exact this
  clear hen;go_upto_region 5 with fail
  clear c20;refine wp_region_gs (fun fl r X9=>Ch3 (fun X=>Below U3.heap.size U3 X) (fun (v:Value) (X:World)=>∃ Y,v=.slice (some ⟨Y,0,none⟩) 1 1/\X.cell? ⟨Y,0,none⟩=some (.int .i64 (J.length:Int))/\Below U3.heap.size U3 X) (fun (_ u:Value) (X:World)=>(∃ a n c,u=.slice a n c)/\RunL X u (L ++ [J.length])/\(∀ k,RunBlk u k->RunBlk (.slice ra L.length rc) k\/U3.heap.size<=k)/\Fr U3 X (fun k=>RunBlk (.slice ra L.length rc) k)) (fun (_ u:Value) (X:World)=>(∃ a n c,u=.slice a n c)/\RunL X u (L ++ [J.length])/\(∀ k,RunBlk u k->RunBlk (.slice ra L.length rc) k\/U3.heap.size<=k)/\X.heap[B]?=some (.cells (bdA s0 s1 tv lv (.slice ja J.length jc) u (.map (some m))) 88 (0,0))/\Fr U3 X (fun k=>k=B\/RunBlk (.slice ra L.length rc) k)) (fl 10) (fl 11) (fl 14) (r 34) (r 35) X9) (fun _ _=>True) [
   fun v9 _=>v9=.pointer (some ⟨B,0,none⟩),fun v9 _=>v9=.pointer (some ⟨B,0,none⟩),fun v9 _=>v9=.pointer (some ⟨B,0,none⟩),fun v9 _=>v9=.pointer (some ⟨B,5,none⟩),fun v9 _=>v9=(.slice ra L.length rc),fun v9 _=>v9=.pointer (some ⟨B,0,none⟩),fun v9 _=>v9=.pointer (some ⟨B,0,none⟩),fun v9 _=>v9=.pointer (some ⟨B,4,none⟩),fun v9 _=>v9=(.slice ja J.length jc),fun v9 _=>v9=.int .i64 (J.length:Int),fun _ _=>True,fun _ _=>True,fun v9 _=>v9=.pointer (some ⟨B,0,none⟩),fun v9 _=>v9=.pointer (some ⟨B,5,none⟩),fun _ _=>True]
   (by kernel_rfl) (by kernel_rfl) (by kernel_rfl) ?st ?g0 ?os ?en
  case st=>
   iterate 15 refine⟨fun _ _ _ _ h=>h,?_⟩
   exact trivial
  case g0=>exact(show Below _ _ _ from⟨rfl,rfl,rfl,Nat.le_refl _,fun _ _=>rfl⟩)
  case os =>
   refine⟨?_,?_,?_,?_,?_,?_,?_,?_,?_,?_,?_,?_,?_,?_,?_,trivial⟩
   all_goals intro ρ X9 fl hg hn hl hp ho hc hf hr
   ·exact rvq (op_move (show ρ (.tmp 0)=.pointer (some ⟨B,0,none⟩)from ho 0 rfl)) ⟨fun r9 h1 h2=>Ch3.same hg rfl rfl rfl (h1 34 (by decide)) (h1 35 (by decide)),trivial,rfl⟩
   ·exact rvq (op_move (show ρ (.tmp 0)=.pointer (some ⟨B,0,none⟩)from ho 0 rfl)) ⟨fun r9 h1 h2=>Ch3.same hg rfl rfl rfl (h1 34 (by decide)) (h1 35 (by decide)),trivial,rfl⟩
   ·exact rvq (op_nil (show ρ (.tmp 25)=.pointer (some ⟨B,0,none⟩)from hr 1 25 rfl rfl)) ⟨fun r9 h1 h2=>Ch3.same hg rfl rfl rfl (h1 34 (by decide)) (h1 35 (by decide)),trivial,rfl⟩
   ·exact rvq (op_f88_3 (show ρ (.tmp 26)=.pointer (some ⟨B,0,none⟩)from hr 2 26 rfl rfl)) ⟨fun r9 h1 h2=>Ch3.same hg rfl rfl rfl (h1 34 (by decide)) (h1 35 (by decide)),trivial,rfl⟩
   ·have f79:fl 11=false:=(show fl 11=false from by cases q9:fl 11 with | false=>rfl | true=>exact absurd (hl 11 _ 4 rfl (by kernel_rfl) q9) (by rw [hn];decide))
    have fs9:fl 14=false:=(show fl 14=false from by cases q9:fl 14 with | false=>rfl | true=>exact absurd (hl 11 _ 4 rfl (by kernel_rfl) (hl 14 _ 11 rfl (by kernel_rfl) q9)) (by rw [hn];decide))
    have b9:Below U3.heap.size U3 X9:=by
     have hg:Ch3 _ _ _ _ (fl 10) (fl 11) (fl 14) (ρ (.tmp 34)) (ρ (.tmp 35)) X9:=hg;cases e1:fl 10 <;> rw [e1,f79,fs9]at hg
     ·exact(show Below _ _ _ from hg)
     ·obtain⟨_,_,_,g9⟩:=(show(fun (v:Value) (X:World)=>∃ Y,v=.slice (some ⟨Y,0,none⟩) 1 1/\X.cell? ⟨Y,0,none⟩=some (.int .i64 (J.length:Int))/\Below U3.heap.size U3 X) _ _ from hg);exact g9
    exact rvq (op_load85 (show ρ (.tmp 27)=.pointer (some ⟨B,5,none⟩)from hr 3 27 rfl rfl) (cell_on b9 (cell_blk BU3.out 5))) ⟨fun r9 h1 h2=>Ch3.same hg rfl rfl rfl (h1 34 (by decide)) (h1 35 (by decide)),trivial,rfl⟩
   ·exact rvq (op_move (show ρ (.tmp 0)=.pointer (some ⟨B,0,none⟩)from ho 0 rfl)) ⟨fun r9 h1 h2=>Ch3.same hg rfl rfl rfl (h1 34 (by decide)) (h1 35 (by decide)),trivial,rfl⟩
   ·exact rvq (op_nil (show ρ (.tmp 29)=.pointer (some ⟨B,0,none⟩)from hr 5 29 rfl rfl)) ⟨fun r9 h1 h2=>Ch3.same hg rfl rfl rfl (h1 34 (by decide)) (h1 35 (by decide)),trivial,rfl⟩
   ·exact rvq (op_f88_2 (show ρ (.tmp 30)=.pointer (some ⟨B,0,none⟩)from hr 6 30 rfl rfl)) ⟨fun r9 h1 h2=>Ch3.same hg rfl rfl rfl (h1 34 (by decide)) (h1 35 (by decide)),trivial,rfl⟩
   ·have f69:fl 10=false:=(show fl 10=false from by cases q9:fl 10 with | false=>rfl | true=>exact absurd (hl 9 _ 8 rfl (by kernel_rfl) (hl 10 _ 9 rfl (by kernel_rfl) q9)) (by rw [hn];decide))
    have f79:fl 11=false:=(show fl 11=false from by cases q9:fl 11 with | false=>rfl | true=>exact absurd (hl 9 _ 8 rfl (by kernel_rfl) (hl 10 _ 9 rfl (by kernel_rfl) (hl 11 _ 10 rfl (by kernel_rfl) q9))) (by rw [hn];decide))
    have fs9:fl 14=false:=(show fl 14=false from by cases q9:fl 14 with | false=>rfl | true=>exact absurd (hl 9 _ 8 rfl (by kernel_rfl) (hl 10 _ 9 rfl (by kernel_rfl) (hl 11 _ 10 rfl (by kernel_rfl) (hl 14 _ 11 rfl (by kernel_rfl) q9)))) (by rw [hn];decide))
    have b9:Below U3.heap.size U3 X9:=by
     have hg:Ch3 _ _ _ _ (fl 10) (fl 11) (fl 14) (ρ (.tmp 34)) (ρ (.tmp 35)) X9:=hg;rw [f69,f79,fs9]at hg;exact(show Below _ _ _ from hg)
    exact rvq (op_load32 (show ρ (.tmp 31)=.pointer (some ⟨B,4,none⟩)from hr 7 31 rfl rfl) (cell_on b9 (cell_blk BU3.out 4))) ⟨fun r9 h1 h2=>Ch3.same hg rfl rfl rfl (h1 34 (by decide)) (h1 35 (by decide)),trivial,rfl⟩
   ·exact rvq (op_len32 (show ρ (.tmp 32)=(.slice ja J.length jc)from hr 8 32 rfl rfl)) ⟨fun r9 h1 h2=>Ch3.same hg rfl rfl rfl (h1 34 (by decide)) (h1 35 (by decide)),trivial,rfl⟩
   ·have hg:Ch3 _ _ _ _ (fl 10) (fl 11) (fl 14) ((fun t=>ρ (.tmp t)) 34) ((fun t=>ρ (.tmp t)) 35) X9:=hg;have f09:fl 10=false:=hn;have f19:fl 11=false:=(show fl 11=false from by cases q9:fl 11 with | false=>rfl | true=>exact absurd (hl 11 _ 10 rfl (by kernel_rfl) q9) (by rw [hn];decide))
    have f29:fl 14=false:=(show fl 14=false from by cases q9:fl 14 with | false=>rfl | true=>exact absurd (hl 11 _ 10 rfl (by kernel_rfl) (hl 14 _ 11 rfl (by kernel_rfl) q9)) (by rw [hn];decide))
    rw [f09,f19,f29]at hg;have hA:(fun X=>Below U3.heap.size U3 X)  X9:=hg;have hA:Below U3.heap.size U3 X9:=hA;refine(rvq (op_s85 (show ρ (.tmp 33)=.int .i64 (J.length:Int)from hr 9 33 rfl rfl)) ⟨fun r9 h1 h2=>?_,trivial,trivial⟩);show Ch3 _ _ _ _ true (fl 11) (fl 14) (r9 34) (r9 35) _
    rw [f19,f29,h2 34 rfl];exact⟨X9.heap.size,rfl,cell_blk (heap_alloc_new X9 _) 0,bgo hA (bnew _ _)⟩
   ·have hg:Ch3 _ _ _ _ (fl 10) (fl 11) (fl 14) ((fun t=>ρ (.tmp t)) 34) ((fun t=>ρ (.tmp t)) 35) X9:=hg;have f09:fl 10=true:=hp 10 (by kernel_rfl);have f19:fl 11=false:=hn;have f29:fl 14=false:=(show fl 14=false from by cases q9:fl 14 with | false=>rfl | true=>exact absurd (hl 14 _ 11 rfl (by kernel_rfl) q9) (by rw [hn];decide))
    rw [f09,f19,f29]at hg;have hA:(fun (v:Value) (X:World)=>∃ Y,v=.slice (some ⟨Y,0,none⟩) 1 1/\X.cell? ⟨Y,0,none⟩=some (.int .i64 (J.length:Int))/\Below U3.heap.size U3 X) (ρ (.tmp 34)) X9:=hg;obtain⟨Y,e34,hY,b9⟩:=hA;obtain⟨ad',cap',X',hrun,hrl,hfr,hob⟩:=run_run (RU3.out.stays (w':=X9) fun k hk=>b9.block k (run_lt RU3.out hk)) hY (by have:=JZ.out.2;omega);refine(rvq (op_append85 (show ρ (.tmp 28)=(.slice ra L.length rc)from hr 4 28 rfl rfl) e34 hrun) ⟨fun r9 h1 h2=>?_,trivial,trivial⟩);show Ch3 _ _ _ _ (fl 10) true (fl 14) (r9 34) (r9 35) X'
    rw [f29,h2 35 rfl];exact⟨⟨_,_,_,rfl⟩,hrl,fun k hk=>orm (hob k hk) id fun q=>Nat.le_trans b9.size q,(Fr.ofBelow _ b9).trans hfr⟩
   ·exact rvq (op_nil (show ρ (.tmp 24)=.pointer (some ⟨B,0,none⟩)from hr 0 24 rfl rfl)) ⟨fun r9 h1 h2=>Ch3.same hg rfl rfl rfl (h1 34 (by decide)) (h1 35 (by decide)),trivial,rfl⟩
   ·exact rvq (op_f88_3 (show ρ (.tmp 36)=.pointer (some ⟨B,0,none⟩)from hr 12 36 rfl rfl)) ⟨fun r9 h1 h2=>Ch3.same hg rfl rfl rfl (h1 34 (by decide)) (h1 35 (by decide)),trivial,rfl⟩
   ·have hg:Ch3 _ _ _ _ (fl 10) (fl 11) (fl 14) ((fun t=>ρ (.tmp t)) 34) ((fun t=>ρ (.tmp t)) 35) X9:=hg;have f09:fl 10=true:=hp 10 (by kernel_rfl);have f19:fl 11=true:=hp 11 (by kernel_rfl);have f29:fl 14=false:=hn;rw [f09,f19,f29]at hg;have hA:(fun (_ u:Value) (X:World)=>(∃ a n c,u=.slice a n c)/\RunL X u (L ++ [J.length])/\(∀ k,RunBlk u k->RunBlk (.slice ra L.length rc) k\/U3.heap.size<=k)/\Fr U3 X (fun k=>RunBlk (.slice ra L.length rc) k)) (ρ (.tmp 34)) (ρ (.tmp 35)) X9:=hg;obtain⟨⟨a9,n9,m9,e35⟩,hrl,hob,hfr⟩:=hA;rw [e35]at hrl hob;have jB9:=(hfr.block B (blk_lt BU3.out) HNE.out.2).trans BU3.out;have z9:X9.frozen? ⟨B,5,none⟩=false:=frozen_blk jB9 _;have c9:X9.cell? ⟨B,5,none⟩=some (.slice ra L.length rc):=cell_blk jB9 5;have hst:(Instr.storeAt 85 (.pointer (some ⟨B,5,none⟩)) (.slice a9 n9 m9)).run Tryz.prog X9=.ok () (X9.setCell ⟨B,5,none⟩ (.slice a9 n9 m9)):=by
     clear hg hr ho hrl hob hfr jB9
     go_simp
    have nB:¬ RunBlk (.slice a9 n9 m9) B:=fun e=>by
     rcases hob B e with e' | e'
     ·exact HNE.out.2 e'
     ·have:=blk_lt BU3.out;omega
    refine .inl ⟨rfl,Runs.skips (op_storeAt (show ρ (.tmp 37)=.pointer (some ⟨B,5,none⟩)from hr 13 37 rfl rfl) e35 hst) ⟨fun r9 h1 h2=>?_,trivial,trivial⟩⟩;show Ch3 _ _ _ _ (fl 10) (fl 11) true (r9 34) (r9 35) _
    rw [h1 35 (by decide),e35];exact⟨⟨_,_,_,rfl⟩,hrl.stays fun k hk=>((Fr.refl X9 (fun k=>k=B)).set (a:=⟨B,5,none⟩) (.inl rfl) _).block k (run_lt hrl hk) (fun q9=>nB (by rw [show k=B from q9]at hk;exact hk)),hob,set_blk jB9 _,(hfr.mono fun k q9=>.inr q9).set (a:=⟨B,5,none⟩) (.inl (.inl rfl)) _⟩
  case en =>
   intro a9 U5 fl hfl hG9 hs9 hd9 ho9 hr9;obtain⟨x9,hx,hxt⟩:=act_put hs9 hd9 ho9;have hG9:Ch3 _ _ _ _ (fl 10) (fl 11) (fl 14) ((fun t=>a9.tmps.getD t undef) 34) ((fun t=>a9.tmps.getD t undef) 35) U5:=hG9;rw [hfl 10 (by decide),hfl 11 (by decide),hfl 14 (by decide)]at hG9;have hG9:(fun (_ u:Value) (X:World)=>(∃ a n c,u=.slice a n c)/\RunL X u (L ++ [J.length])/\(∀ k,RunBlk u k->RunBlk (.slice ra L.length rc) k\/U3.heap.size<=k)/\X.heap[B]?=some (.cells (bdA s0 s1 tv lv (.slice ja J.length jc) u (.map (some m))) 88 (0,0))/\Fr U3 X (fun k=>k=B\/RunBlk (.slice ra L.length rc) k)) (a9.tmps.getD 34 undef) (a9.tmps.getD 35 undef) U5:=hG9;rw [show a9.tmps.getD 34 undef=x9 34 from hxt 34]at hG9;rw [show a9.tmps.getD 35 undef=x9 35 from hxt 35]at hG9;change a9=putAll _ x9 [24,25,26,27,28,29,30,31,32,33,34,35,36,37]at hx;simp only [putAll,Act.put,List.setIfInBounds_toArray,List.set_cons_zero,List.set_cons_succ]at hx;subst hx;clear hs9 hd9 ho9 hr9 hfl hxt;generalize x9 24=z24,x9 25=z25,x9 26=z26,x9 27=z27,x9 28=z28,x9 29=z29,x9 30=z30,x9 31=z31,x9 32=z32,x9 33=z33,x9 34=z34,x9 35=z35,x9 36=z36,x9 37=z37 at hG9 ⊢;obtain⟨⟨a5,n5,m5,rfl⟩,hrl,hob,jB5,f35⟩:=hG9;have BU5:=lh jB5;have RU5:=lh hrl;have OB5:Hid (∀ k,RunBlk (.slice a5 n5 m5) k->RunBlk (.slice ra L.length rc) k\/w.heap.size<=k):=lh fun k hk=>orm (hob k hk) id fun q=>Nat.le_trans FU3.out.size q;have F35:=lh f35;have FU5:Hid (Fr w U5 (fun k=>k=B\/(Value.slice ja J.length jc).ownBlock=some k\/RunBlk (.slice ra L.length rc) k\/(Value.map none)=.map (some k))):=lh (FU3.out.trans (f35.mono fun k q=>by
    rcases q with q | q
    ·exact .inl q
    ·exact .inr (.inr (.inl q))))
   have JU5:=lh (own_blk (w':=U5) JU3.out (fun g hg hl=>f35.block g hl (fun q=>by
    rcases q with q | q
    ·exact(HNE.out.1 g hg).1 q
    ·exact(HNE.out.1 g hg).2 q)))
   have J35:=lh ((f35.block Y3 (blk_lt J33.out) (fun q=>by
    have h3:=HY3.out;rcases q with q | q
    ·have:=HLT.out.1;omega
    ·have:=HLT.out.2.2 Y3 q;omega)).trans J33.out)
   have MU5:=lh (MU3.out.like (f35.block m MU3.out.lt (fun q=>by
    rcases q with q | q
    ·exact HNM.out.1 q.symm
    ·exact HNM.out.2.2.1 q)))
   clear hrl hob jB5 f35;go_upto_region 6 with fail
   refine wp_region_gs (fun fl r X9=>Ch3 (fun X=>Below U5.heap.size U5 X) (fun (v:Value) (X:World)=>∃ Y a c,v=.slice (some ⟨Y,0,none⟩) 1 1/\X.heap[Y]?=some (.cells (jbA j (.slice a j.ddl.cols.length c)) 66 (0,0))/\X.ownsRow U5.heap.size 56 7 (.slice a j.ddl.cols.length c) j.ddl.cols.length (j.ddl.cols.flatMap colL)/\Below U5.heap.size U5 X) (fun (_ u:Value) (X:World)=>∃ a c,(∃ a n c,u=.slice a n c)/\X.ownsRow U5.heap.size 56 7 (.slice a j.ddl.cols.length c) j.ddl.cols.length (j.ddl.cols.flatMap colL)/\X.ownsRow 0 66 22 u (J.length+1) ((J ++ [(j,Value.slice a j.ddl.cols.length c)]).flatMap jrow)/\(∀ k,u.ownBlock=some k->(Value.slice ja J.length jc).ownBlock=some k\/U5.heap.size<=k)/\Fr U5 X (fun k=>(Value.slice ja J.length jc).ownBlock=some k)) (fun (_ u:Value) (X:World)=>∃ a c,(∃ a n c,u=.slice a n c)/\X.ownsRow U5.heap.size 56 7 (.slice a j.ddl.cols.length c) j.ddl.cols.length (j.ddl.cols.flatMap colL)/\X.ownsRow 0 66 22 u (J.length+1) ((J ++ [(j,Value.slice a j.ddl.cols.length c)]).flatMap jrow)/\(∀ k,u.ownBlock=some k->(Value.slice ja J.length jc).ownBlock=some k\/U5.heap.size<=k)/\X.heap[B]?=some (.cells (bdA s0 s1 tv lv u (.slice a5 n5 m5) (.map (some m))) 88 (0,0))/\Fr U5 X (fun k=>k=B\/(Value.slice ja J.length jc).ownBlock=some k)) (fl 7) (fl 8) (fl 11) (r 45) (r 46) X9) (TypN 56) [
    fun v9 _=>v9=.pointer (some ⟨B,0,none⟩),fun v9 _=>v9=.pointer (some ⟨B,0,none⟩),fun v9 _=>v9=.pointer (some ⟨B,0,none⟩),fun v9 _=>v9=.pointer (some ⟨B,4,none⟩),fun v9 _=>v9=(.slice ja J.length jc),fun v9 _=>v9=.agg cs,fun v9 X9=>∃ a c,v9=.agg (jbA j (.slice a j.ddl.cols.length c))/\X9.ownsRow U5.heap.size 56 7 (.slice a j.ddl.cols.length c) j.ddl.cols.length (j.ddl.cols.flatMap colL),fun _ _=>True,fun _ _=>True,fun v9 _=>v9=.pointer (some ⟨B,0,none⟩),fun v9 _=>v9=.pointer (some ⟨B,4,none⟩),fun _ _=>True]
    (by kernel_rfl) (by kernel_rfl) (by kernel_rfl) ?st ?g0 ?os ?en
   case st=>
    iterate 6 refine⟨fun _ _ _ _ h=>h,?_⟩
    refine⟨(fun _ _ _ hS h=>by obtain⟨a,c,e,h⟩:=h;exact⟨a,c,e,own_typN h hS⟩),?_⟩
    iterate 5 refine⟨fun _ _ _ _ h=>h,?_⟩
    exact trivial
   case g0=>exact(show Below _ _ _ from⟨rfl,rfl,rfl,Nat.le_refl _,fun _ _=>rfl⟩)
   case os =>
    refine⟨?_,?_,?_,?_,?_,?_,?_,?_,?_,?_,?_,?_,trivial⟩
    all_goals intro ρ X9 fl hg hn hl hp ho hc hf hr
    ·exact rvq (op_move (show ρ (.tmp 0)=.pointer (some ⟨B,0,none⟩)from ho 0 rfl)) ⟨fun r9 h1 h2=>Ch3.same hg rfl rfl rfl (h1 45 (by decide)) (h1 46 (by decide)),TypN.refl _ _,rfl⟩
    ·exact rvq (op_move (show ρ (.tmp 0)=.pointer (some ⟨B,0,none⟩)from ho 0 rfl)) ⟨fun r9 h1 h2=>Ch3.same hg rfl rfl rfl (h1 45 (by decide)) (h1 46 (by decide)),TypN.refl _ _,rfl⟩
    ·exact rvq (op_nil (show ρ (.tmp 39)=.pointer (some ⟨B,0,none⟩)from hr 1 39 rfl rfl)) ⟨fun r9 h1 h2=>Ch3.same hg rfl rfl rfl (h1 45 (by decide)) (h1 46 (by decide)),TypN.refl _ _,rfl⟩
    ·exact rvq (op_f88_2 (show ρ (.tmp 40)=.pointer (some ⟨B,0,none⟩)from hr 2 40 rfl rfl)) ⟨fun r9 h1 h2=>Ch3.same hg rfl rfl rfl (h1 45 (by decide)) (h1 46 (by decide)),TypN.refl _ _,rfl⟩
    ·have f79:fl 8=false:=(show fl 8=false from by cases q9:fl 8 with | false=>rfl | true=>exact absurd (hl 8 _ 4 rfl (by kernel_rfl) q9) (by rw [hn];decide))
     have fs9:fl 11=false:=(show fl 11=false from by cases q9:fl 11 with | false=>rfl | true=>exact absurd (hl 8 _ 4 rfl (by kernel_rfl) (hl 11 _ 8 rfl (by kernel_rfl) q9)) (by rw [hn];decide))
     have b9:Below U5.heap.size U5 X9:=by
      have hg:Ch3 _ _ _ _ (fl 7) (fl 8) (fl 11) (ρ (.tmp 45)) (ρ (.tmp 46)) X9:=hg;cases e1:fl 7 <;> rw [e1,f79,fs9]at hg
      ·exact(show Below _ _ _ from hg)
      ·obtain⟨_,_,_,_,_,_,g9⟩:=(show(fun (v:Value) (X:World)=>∃ Y a c,v=.slice (some ⟨Y,0,none⟩) 1 1/\X.heap[Y]?=some (.cells (jbA j (.slice a j.ddl.cols.length c)) 66 (0,0))/\X.ownsRow U5.heap.size 56 7 (.slice a j.ddl.cols.length c) j.ddl.cols.length (j.ddl.cols.flatMap colL)/\Below U5.heap.size U5 X) _ _ from hg);exact g9
     exact rvq (op_load32 (show ρ (.tmp 41)=.pointer (some ⟨B,4,none⟩)from hr 3 41 rfl rfl) (cell_on b9 (cell_blk BU5.out 4))) ⟨fun r9 h1 h2=>Ch3.same hg rfl rfl rfl (h1 45 (by decide)) (h1 46 (by decide)),TypN.refl _ _,rfl⟩
    ·have f69:fl 7=false:=(show fl 7=false from by cases q9:fl 7 with | false=>rfl | true=>exact absurd (hl 6 _ 5 rfl (by kernel_rfl) (hl 7 _ 6 rfl (by kernel_rfl) q9)) (by rw [hn];decide))
     have f79:fl 8=false:=(show fl 8=false from by cases q9:fl 8 with | false=>rfl | true=>exact absurd (hl 6 _ 5 rfl (by kernel_rfl) (hl 7 _ 6 rfl (by kernel_rfl) (hl 8 _ 7 rfl (by kernel_rfl) q9))) (by rw [hn];decide))
     have fs9:fl 11=false:=(show fl 11=false from by cases q9:fl 11 with | false=>rfl | true=>exact absurd (hl 6 _ 5 rfl (by kernel_rfl) (hl 7 _ 6 rfl (by kernel_rfl) (hl 8 _ 7 rfl (by kernel_rfl) (hl 11 _ 8 rfl (by kernel_rfl) q9)))) (by rw [hn];decide))
     have b9:Below U5.heap.size U5 X9:=by
      have hg:Ch3 _ _ _ _ (fl 7) (fl 8) (fl 11) (ρ (.tmp 45)) (ρ (.tmp 46)) X9:=hg;rw [f69,f79,fs9]at hg;exact(show Below _ _ _ from hg)
     have hld9:(Instr.loadAt 66 (.pointer (some ⟨Y3,0,none⟩))).run Tryz.prog X9=.ok (.agg cs) X9:=by
      rw [<-HCS.out];exact load_row ((b9.block Y3 (blk_lt J35.out)).trans J35.out) Tryz.underlying66 rfl size66
     exact rvq (op_loadAt (show ρ (.tmp 3)=.pointer (some ⟨Y3,0,none⟩)from ho 3 rfl) hld9) ⟨fun r9 h1 h2=>Ch3.same hg rfl rfl rfl (h1 45 (by decide)) (h1 46 (by decide)),TypN.refl _ _,rfl⟩
    ·have f69:fl 7=false:=(show fl 7=false from by cases q9:fl 7 with | false=>rfl | true=>exact absurd (hl 7 _ 6 rfl (by kernel_rfl) q9) (by rw [hn];decide))
     have f79:fl 8=false:=(show fl 8=false from by cases q9:fl 8 with | false=>rfl | true=>exact absurd (hl 7 _ 6 rfl (by kernel_rfl) (hl 8 _ 7 rfl (by kernel_rfl) q9)) (by rw [hn];decide))
     have fs9:fl 11=false:=(show fl 11=false from by cases q9:fl 11 with | false=>rfl | true=>exact absurd (hl 7 _ 6 rfl (by kernel_rfl) (hl 8 _ 7 rfl (by kernel_rfl) (hl 11 _ 8 rfl (by kernel_rfl) q9))) (by rw [hn];decide))
     have b9:Below U5.heap.size U5 X9:=by
      have hg:Ch3 _ _ _ _ (fl 7) (fl 8) (fl 11) (ρ (.tmp 45)) (ρ (.tmp 46)) X9:=hg;rw [f69,f79,fs9]at hg;exact(show Below _ _ _ from hg)
     have hcl:=cloneJob_any (HCR.out X9 (Nat.le_trans FU5.out.size b9.size) (fun k hk hn=>(b9.block k (Nat.lt_of_lt_of_le hk FU5.out.size)).trans (FU5.out.block k hk hn))) CZ.out;rw [HCS.out]at hcl;refine .inl ⟨rfl,Runs.goes 45 #[.agg cs] (op_call1 hf (by go_simp) (show ρ (.tmp 43)=.agg cs from hr 5 43 rfl rfl)) (hcl.mono ?_)⟩;rintro e7 w7 ⟨a7,c7,rfl,ho7,b7⟩;refine⟨_,rfl,fun r9 h1 h2=>?_,TypN.on b7,a7,c7,rfl,own_mono ho7 b9.size⟩;have hg:Ch3 _ _ _ _ (fl 7) (fl 8) (fl 11) (ρ (.tmp 45)) (ρ (.tmp 46)) X9:=hg;rw [f69,f79,fs9]at hg;show Ch3 _ _ _ _ (fl 7) (fl 8) (fl 11) (r9 45) (r9 46) w7
     rw [f69,f79,fs9];exact bgo (show Below _ _ _ from hg) b7
    ·have hg:Ch3 _ _ _ _ (fl 7) (fl 8) (fl 11) ((fun t=>ρ (.tmp t)) 45) ((fun t=>ρ (.tmp t)) 46) X9:=hg;have f09:fl 7=false:=hn;have f19:fl 8=false:=(show fl 8=false from by cases q9:fl 8 with | false=>rfl | true=>exact absurd (hl 8 _ 7 rfl (by kernel_rfl) q9) (by rw [hn];decide))
     have f29:fl 11=false:=(show fl 11=false from by cases q9:fl 11 with | false=>rfl | true=>exact absurd (hl 8 _ 7 rfl (by kernel_rfl) (hl 11 _ 8 rfl (by kernel_rfl) q9)) (by rw [hn];decide))
     rw [f09,f19,f29]at hg;have hA:(fun X=>Below U5.heap.size U5 X)  X9:=hg;have hA:Below U5.heap.size U5 X9:=hA;obtain⟨a7,c7,e44,ho7⟩:∃ a c,ρ (.tmp 44)=.agg (jbA j (.slice a j.ddl.cols.length c))/\X9.ownsRow U5.heap.size 56 7 (.slice a j.ddl.cols.length c) j.ddl.cols.length (j.ddl.cols.flatMap colL):=hr 6 44 rfl rfl;refine(rvq (op_s32 e44) ⟨fun r9 h1 h2=>?_,TypN.on (bnew _ _),trivial⟩);show Ch3 _ _ _ _ true (fl 8) (fl 11) (r9 45) (r9 46) _
     rw [f19,f29,h2 45 rfl];exact⟨X9.heap.size,a7,c7,rfl,heap_alloc_new X9 _,own_below ho7 (bnew _ _),bgo hA (bnew _ _)⟩
    ·have hg:Ch3 _ _ _ _ (fl 7) (fl 8) (fl 11) ((fun t=>ρ (.tmp t)) 45) ((fun t=>ρ (.tmp t)) 46) X9:=hg;have f09:fl 7=true:=hp 7 (by kernel_rfl);have f19:fl 8=false:=hn;have f29:fl 11=false:=(show fl 11=false from by cases q9:fl 11 with | false=>rfl | true=>exact absurd (hl 11 _ 8 rfl (by kernel_rfl) q9) (by rw [hn];decide))
     rw [f09,f19,f29]at hg;have hA:(fun (v:Value) (X:World)=>∃ Y a c,v=.slice (some ⟨Y,0,none⟩) 1 1/\X.heap[Y]?=some (.cells (jbA j (.slice a j.ddl.cols.length c)) 66 (0,0))/\X.ownsRow U5.heap.size 56 7 (.slice a j.ddl.cols.length c) j.ddl.cols.length (j.ddl.cols.flatMap colL)/\Below U5.heap.size U5 X) (ρ (.tmp 45)) X9:=hg;obtain⟨Y,a7,c7,e45,jY,ho7,b9⟩:=hA;have ho9:=own_below JU5.out b9;obtain⟨ad',cap',X',hrun,hown,hgr,hob⟩:=run_job (w:=X9) (m:=1) (c:=1) (news:=jbL j (.slice a7 j.ddl.cols.length c7)) (ad:=some ⟨Y,0,none⟩) ho9 (Nat.zero_le _) (.inr ⟨_,rfl,rfl,fun i u hu=>by rw [add_at,cell_blk jY,Nat.zero_add,<-hu,<-Array.getElem?_toList]⟩) (oneJb j a7 j.ddl.cols.length c7) (by have:=JZ.out.1;omega);have fX:Fr X9 X' (fun k=>(Value.slice ja J.length jc).ownBlock=some k):=Fr.grown (Fr.refl _ _) hgr (fun k hk=>.inl hk);have hty:TypN 56 X9 X':=⟨_,fX,fun k q cs hc=>by
      obtain⟨cs2,hc2⟩:=own_ty ho9 q;rw [hc2]at hc;simp at hc⟩
     refine(rvq (op_append32 (show ρ (.tmp 42)=(.slice ja J.length jc)from hr 4 42 rfl rfl) e45 hrun) ⟨fun r9 h1 h2=>?_,hty,trivial⟩);show Ch3 _ _ _ _ (fl 7) true (fl 11) (r9 45) (r9 46) X'
     rw [f29,h2 46 rfl];refine⟨a7,c7,⟨_,_,_,rfl⟩,own_typN ho7 hty,?_,fun k hk=>?_,(Fr.ofBelow _ b9).trans fX⟩
     ·rw [List.flatMap_append];simpa using hown
     ·rcases hob with e | e
      ·exact .inl (e.symm.trans hk)
      ·rw [e]at hk;cases hk;exact .inr b9.size
    ·exact rvq (op_nil (show ρ (.tmp 38)=.pointer (some ⟨B,0,none⟩)from hr 0 38 rfl rfl)) ⟨fun r9 h1 h2=>Ch3.same hg rfl rfl rfl (h1 45 (by decide)) (h1 46 (by decide)),TypN.refl _ _,rfl⟩
    ·exact rvq (op_f88_2 (show ρ (.tmp 47)=.pointer (some ⟨B,0,none⟩)from hr 9 47 rfl rfl)) ⟨fun r9 h1 h2=>Ch3.same hg rfl rfl rfl (h1 45 (by decide)) (h1 46 (by decide)),TypN.refl _ _,rfl⟩
    ·have hg:Ch3 _ _ _ _ (fl 7) (fl 8) (fl 11) ((fun t=>ρ (.tmp t)) 45) ((fun t=>ρ (.tmp t)) 46) X9:=hg;have f09:fl 7=true:=hp 7 (by kernel_rfl);have f19:fl 8=true:=hp 8 (by kernel_rfl);have f29:fl 11=false:=hn;rw [f09,f19,f29]at hg;have hA:(fun (_ u:Value) (X:World)=>∃ a c,(∃ a n c,u=.slice a n c)/\X.ownsRow U5.heap.size 56 7 (.slice a j.ddl.cols.length c) j.ddl.cols.length (j.ddl.cols.flatMap colL)/\X.ownsRow 0 66 22 u (J.length+1) ((J ++ [(j,Value.slice a j.ddl.cols.length c)]).flatMap jrow)/\(∀ k,u.ownBlock=some k->(Value.slice ja J.length jc).ownBlock=some k\/U5.heap.size<=k)/\Fr U5 X (fun k=>(Value.slice ja J.length jc).ownBlock=some k)) (ρ (.tmp 45)) (ρ (.tmp 46)) X9:=hg;obtain⟨a7,c7,⟨a9,n9,m9,e46⟩,ho7,hown,hob,hfr⟩:=hA;rw [e46]at hown hob;have nB0:(Value.slice ja J.length jc).ownBlock≠some B:=fun q=>(HNE.out.1 B q).1 rfl;have jB9:=(hfr.block B (blk_lt BU5.out) nB0).trans BU5.out;have z9:X9.frozen? ⟨B,4,none⟩=false:=frozen_blk jB9 _;have c9:X9.cell? ⟨B,4,none⟩=some (.slice ja J.length jc):=cell_blk jB9 4;have hst:(Instr.storeAt 32 (.pointer (some ⟨B,4,none⟩)) (.slice a9 n9 m9)).run Tryz.prog X9=.ok () (X9.setCell ⟨B,4,none⟩ (.slice a9 n9 m9)):=by
      clear hg hr ho hown hob hfr jB9 ho7
      go_simp
     have f11:Fr X9 (X9.setCell ⟨B,4,none⟩ (.slice a9 n9 m9)) (fun k=>k=B):=(Fr.refl X9 (fun k=>k=B)).set (a:=⟨B,4,none⟩) (.inl rfl) _;have hty:TypN 56 X9 (X9.setCell ⟨B,4,none⟩ (.slice a9 n9 m9)):=⟨_,f11,fun k q cs hc=>by
      rw [show k=B from q,jB9]at hc;simp at hc⟩
     have nB:(Value.slice a9 n9 m9).ownBlock≠some B:=fun e=>by
      rcases hob B e with e' | e'
      ·exact nB0 e'
      ·have:=blk_lt BU5.out;omega
     refine .inl ⟨rfl,Runs.skips (op_storeAt (show ρ (.tmp 48)=.pointer (some ⟨B,4,none⟩)from hr 10 48 rfl rfl) e46 hst) ⟨fun r9 h1 h2=>?_,hty,trivial⟩⟩;show Ch3 _ _ _ _ (fl 7) (fl 8) true (r9 45) (r9 46) _
     rw [h1 46 (by decide),e46];exact⟨a7,c7,⟨_,_,_,rfl⟩,own_typN ho7 hty,own_blk hown (fun g hg hl=>f11.block g hl (fun q9=>nB (by rw [hg,show g=B from q9]))),hob,set_blk jB9 _,(hfr.mono fun k q9=>.inr q9).set (a:=⟨B,4,none⟩) (.inl (.inl rfl)) _⟩
   case en =>
    intro a9 U6 fl hfl hG9 hs9 hd9 ho9 hr9;obtain⟨x9,hx,hxt⟩:=act_put hs9 hd9 ho9;have hG9:Ch3 _ _ _ _ (fl 7) (fl 8) (fl 11) ((fun t=>a9.tmps.getD t undef) 45) ((fun t=>a9.tmps.getD t undef) 46) U6:=hG9;rw [hfl 7 (by decide),hfl 8 (by decide),hfl 11 (by decide)]at hG9;have hG9:(fun (_ u:Value) (X:World)=>∃ a c,(∃ a n c,u=.slice a n c)/\X.ownsRow U5.heap.size 56 7 (.slice a j.ddl.cols.length c) j.ddl.cols.length (j.ddl.cols.flatMap colL)/\X.ownsRow 0 66 22 u (J.length+1) ((J ++ [(j,Value.slice a j.ddl.cols.length c)]).flatMap jrow)/\(∀ k,u.ownBlock=some k->(Value.slice ja J.length jc).ownBlock=some k\/U5.heap.size<=k)/\X.heap[B]?=some (.cells (bdA s0 s1 tv lv u (.slice a5 n5 m5) (.map (some m))) 88 (0,0))/\Fr U5 X (fun k=>k=B\/(Value.slice ja J.length jc).ownBlock=some k)) (a9.tmps.getD 45 undef) (a9.tmps.getD 46 undef) U6:=hG9;rw [show a9.tmps.getD 45 undef=x9 45 from hxt 45]at hG9;rw [show a9.tmps.getD 46 undef=x9 46 from hxt 46]at hG9;change a9=putAll _ x9 [38,39,40,41,42,43,44,45,46,47,48]at hx;simp only [putAll,Act.put,List.setIfInBounds_toArray,List.set_cons_zero,List.set_cons_succ]at hx;subst hx;clear hs9 hd9 ho9 hr9 hfl hxt;generalize x9 38=z38,x9 39=z39,x9 40=z40,x9 41=z41,x9 42=z42,x9 43=z43,x9 44=z44,x9 45=z45,x9 46=z46,x9 47=z47,x9 48=z48 at hG9 ⊢;obtain⟨a7,c7,⟨a9,n9,m9,rfl⟩,ho7,hown,hob,jB9,f9⟩:=hG9;have H9:=lh (And.intro ho7 (And.intro hown (And.intro hob (And.intro jB9 f9))));clear ho7 hown hob jB9 f9;go_wp2;refine bodyPost_end (results_none rfl _ _ _) rfl ?_;obtain⟨ho7,hown,hob,jB9,f9⟩:=H9.out;refine⟨rfl,_,_,_,_,jB9,.inr ⟨m,_,rfl,?_,MU5.out.like (f9.block m MU5.out.lt (fun q=>by
     rcases q with q | q
     ·exact HNM.out.1 q.symm
     ·exact HNM.out.2.1 q))⟩,hown,RU5.out.stays (fun k hk=>f9.block k (run_lt RU5.out hk) (fun q=>?_)),own_mono ho7 FU5.out.size,fun k hk=>orm (hob k hk) id fun q=>Nat.le_trans FU5.out.size q,OB5.out,fun m' e=>.inr (by cases e;exact HNM.out.2.2.2.2),FU5.out.trans (f9.mono fun k q=>by
     rcases q with q | q
     ·exact .inl q
     ·exact .inr (.inl q))⟩
    ·have:=NLE.out;rw [List.length_append,List.length_map,List.length_singleton];omega
    ·have hty:=RU5.out;obtain⟨_,h2⟩:=run_ty hty hk;rcases q with q | q
     ·exact ty_ne BU5.out h2 (by decide) q.symm
     ·obtain⟨_,h1⟩:=own_ty JU5.out q;exact ty_ne h1 h2 (by decide) rfl
end
end Go.Proofs.YtkhehikaemdnnaaGreat
