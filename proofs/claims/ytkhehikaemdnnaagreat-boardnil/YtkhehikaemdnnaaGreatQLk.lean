import Derived.Test.YtkhehikaemdnnaaGreatQLj
namespace Go.Proofs.YtkhehikaemdnnaaGreat
set_option maxRecDepth 100000
set_option maxHeartbeats 16000000
open Go.RowKit
section
variable {w : World}
theorem sub_new_some{B:Nat}{m n:Nat}{s0 s1:Int}{tv lv jvs rv cv:Value}{J:List (Jb × Value)}{L:List Nat}{c:Cm}{r:Rest}{t:Int}(hB:w.heap[B]?=some (.cells (bdA s0 s1 tv lv jvs rv (.map (some m))) 88 (0,0)))(hM:Mt w m n (idOf (J.map Prod.fst)))(hn:n<=J.length)(hJ:w.ownsRow 0 66 22 jvs J.length (J.flatMap jrow))(hr:RunL w rv L)(hc:Reads (fun k=>k=B\/jvs.ownBlock=some k\/RunBlk rv k\/(Value.map (some m))=.map (some k)) w fun V=>Lr colE 7 V c.ddl.cols cv)(hz:c.ddl.cols.length<=1000000)(hJz:J.length<=100000)(hLz:L.length<=100000)(ht:TdOk c.asker)(hnew:(J.map Prod.fst).findIdx? (fun x=>decide (x.asker=c.asker))=none)(hp:¬ pathP c.ddl.kind false=[])(hmy:L.length<4):Calls Tryz.prog 28 #[.pointer (some ⟨B,0,none⟩),.int .i64 t,.agg (cmA c r cv)] w (SubAns w B s0 s1 tv lv jvs rv (.map (some m)) J (L ++ [J.length]) ⟨(J.length:Int)+1,c.call,c.asker,c.ddl,0,false,false,⟨#[]⟩,0,0⟩):=by
 obtain⟨ja,jc,rfl⟩:=own_shape hJ;obtain⟨ra,rc,rfl,hr0⟩:=hr;have hr:RunL w (.slice ra L.length rc) L:=⟨ra,rc,rfl,hr0⟩
 clear hr0;obtain⟨ca,cc,rfl,hc0⟩:=hc.now;clear hc0;obtain⟨W,hW⟩:∃ W,W=(w.alloc (.cells (cmA c r (.slice ca c.ddl.cols.length cc)) 48)).alloc (.cells zR 53):=⟨_,rfl⟩
 have hb:=bw2 hW;obtain⟨Y5,hY5⟩:∃ Q,w.heap.size=Q:=⟨_,rfl⟩
 obtain⟨Y6,hY6⟩:∃ Q,Y5+1=Q:=⟨_,rfl⟩
 have j5:W.heap[Y5]?=some (.cells (cmA c r (.slice ca c.ddl.cols.length cc)) 48 (0,0)):=nw21 hW hY5;have j6:W.heap[Y6]?=some (.cells zR 53 (0,0)):=nw22 hW hY5 hY6;have HJ:=lh (And.intro j5 j6);have HN:Hid (w.heap.size=Y5/\Y5+1=Y6):=lh ⟨hY5,hY6⟩;have HW:=lh hW;have HB:=lh hb;have hrd:W.rangeAt Y5 15 (ddA c.ddl (.slice ca c.ddl.cols.length cc)).toList:=range_part (range_blk j5) 15 11;have hld:(Instr.loadAt 45 (.pointer (some ⟨Y5,15,none⟩))).run Tryz.prog W=.ok (.agg (ddA c.ddl (.slice ca c.ddl.cols.length cc))) W:=run_loadAt_mid W Y5 15 45 ((ddA c.ddl (.slice ca c.ddl.cols.length cc)).toList) _ hrd Tryz.underlying45 rfl size45;have HLD:=lh hld;have HRD:=lh hrd;have hpa:=path_any W (ddA c.ddl (.slice ca c.ddl.cols.length cc)) c.ddl.kind false rfl;have hlp:(pathP c.ddl.kind false).length<=5:=by
  unfold pathP onP backP
  repeat' split
  all_goals simp
 have HBW:=lh ((hb.block B (blk_lt hB)).trans hB);have HTD:=lh ht;have HLT:Hid (B<w.heap.size/\(∀ k,(Value.slice ja J.length jc).ownBlock=some k->k<w.heap.size)/\(∀ k,RunBlk (.slice ra L.length rc) k->k<w.heap.size)/\∀ k,(.map (some m))=Value.map (some k)->k<w.heap.size):=lh ⟨blk_lt hB,own_lt hJ,fun k hk=>run_lt hr hk,fun k hk=>by cases hk;exact hM.lt⟩;have HBO:=lh hB;have HJO:=lh hJ;have HRO:=lh hr;have HCR:=lh hc;have HCZ:=lh hz;have HJZ:Hid (J.length<=100000/\L.length<=100000):=lh ⟨hJz,hLz⟩;have HNEW:=lh hnew;have HMY:=lh hmy;have HMO:=lh hM;have HNN:=lh hn;clear hW hb hY5 hY6 j5 j6 hrd hld ht hB hJ hr hc hz hJz hLz hnew hmy hM hn;obtain⟨cs,hcs⟩:∃ cs,cmA c r (.slice ca c.ddl.cols.length cc)=cs:=⟨_,rfl⟩
 have HCS:=lh hcs;rw [hcs]at HW HJ ⊢;clear hcs;obtain⟨ds,hds⟩:∃ ds,ddA c.ddl (.slice ca c.ddl.cols.length cc)=ds:=⟨_,rfl⟩
 have HDS:=lh hds;rw [hds]at HLD HRD hpa;clear hds;obtain⟨pl,hpl⟩:∃ pl,(pathP c.ddl.kind false).length=pl:=⟨_,rfl⟩
 have q0:¬ (pl:Int)=0:=fun q=>hp (List.length_eq_zero_iff.1 (by omega));have hpb:Calls Tryz.prog 64 #[.agg ds,.bool false] W fun e w'=>∃ ad cap,e=.returned (.slice ad pl cap)/\Below W.heap.size W w':=hpa.mono fun e w' ⟨ad,cap,h1,_,h3⟩=>⟨ad,cap,by rw [h1,hpl],h3⟩
 have q1:(pl:Int)<=9223372036854775807:=by omega
 clear hpa hp hpl;go_enter Tryz.func28,Tryz.ntmps28;go_upto_region 1 with fail
 rw [<-HW.out,HN.out.1,HN.out.2];go_upto_region 3 with (first|(go_at_call 64;refine hpb.mono ?_;rintro e v1 ⟨ad,cap,rfl,b1⟩;have B1:=lh b1;have BB:=lh (bgo HB.out b1);clear hpb b1)|(refine wpl_load _ rfl (by simp [Act.eval]) HLD.out ?_))
 have BV:=lh ((B1.out.block B (blk_lt HBW.out)).trans HBW.out);have J5V:=lh ((B1.out.block Y5 (blk_lt HJ.out.1)).trans HJ.out.1);have J6V:=lh ((B1.out.block Y6 (blk_lt HJ.out.2)).trans HJ.out.2);have RTD:Hid (v1.rangeAt Y5 1 (tdL c.asker)):=lh (range_on B1.out (by have:=range_part (range_blk HJ.out.1) 1 3;rw [<-HCS.out]at this;exact this));refine wp_region_fb (fun _ X9=>Below v1.heap.size v1 X9) (fun X9 X8=>Below X9.heap.size X9 X8) [
  fun v9 _=>v9=.pointer (some ⟨B,0,none⟩),fun v9 _=>v9=.pointer (some ⟨B,0,none⟩),fun v9 _=>v9=.pointer (some ⟨B,6,none⟩),fun v9 _=>v9=.map (some m),fun v9 _=>v9=.pointer (some ⟨Y5,1,none⟩),fun v9 _=>v9=tdV c.asker,fun v9 _=>v9=.tuple #[.int .i64 0,.bool false],fun v9 _=>v9=.tuple #[.int .i64 0,.bool false],fun v9 _=>v9=.int .i64 0,fun v9 _=>v9=.bool false,fun v9 _=>v9=.int .i64 0,fun v9 _=>v9=.bool false]
  (by kernel_rfl) (by kernel_rfl) (by kernel_rfl) ?st ?g0 ?os ?en
 case st=>
  iterate 12 refine⟨fun _ _ _ _ h=>h,?_⟩
  exact trivial
 case g0=>exact⟨rfl,rfl,rfl,Nat.le_refl _,fun _ _=>rfl⟩
 case os =>
  refine⟨?_,?_,?_,?_,?_,?_,?_,?_,?_,?_,?_,?_,trivial⟩
  all_goals intro ρ X9 fl hg hn hl hp ho hc hf hr
  ·exact rvq (op_move (show ρ (.tmp 0)=.pointer (some ⟨B,0,none⟩)from ho 0 rfl)) ⟨hg,Below.refl _ _,rfl⟩
  ·exact rvq (op_nil (show ρ (.tmp 17)=.pointer (some ⟨B,0,none⟩)from hr 0 17 rfl rfl)) ⟨hg,Below.refl _ _,rfl⟩
  ·exact rvq (op_f88_4 (show ρ (.tmp 18)=.pointer (some ⟨B,0,none⟩)from hr 1 18 rfl rfl)) ⟨hg,Below.refl _ _,rfl⟩
  ·exact rvq (op_load86 (show ρ (.tmp 19)=.pointer (some ⟨B,6,none⟩)from hr 2 19 rfl rfl) (cell_on hg (cell_blk BV.out 6))) ⟨hg,Below.refl _ _,rfl⟩
  ·exact rvq (op_f48_1 (show ρ (.tmp 5)=.pointer (some ⟨Y5,0,none⟩)from ho 5 rfl)) ⟨hg,Below.refl _ _,rfl⟩
  ·exact rvq (op_loadAt (show ρ (.tmp 21)=.pointer (some ⟨Y5,1,none⟩)from hr 4 21 rfl rfl) (run_loadAt_mid X9 Y5 1 38 (tdL c.asker) _ (range_on hg RTD.out) Tryz.underlying38 rfl size38)) ⟨hg,Below.refl _ _,rfl⟩
  ·exact rvq (op_lookup86 (show ρ (.tmp 20)=.map (some m)from hr 3 20 rfl rfl) (show ρ (.tmp 22)=tdV c.asker from hr 5 22 rfl rfl) (by have h9:=(HMO.out.on (bgo BB.out hg)).look (T:=86) Tryz.underlying86 (zero3 X9) HTD.out;rw [show idOf (J.map Prod.fst) c.asker=none from by unfold idOf;rw [HNEW.out];rfl]at h9;exact h9)) ⟨hg,Below.refl _ _,rfl⟩
  ·exact rvq (op_move (show ρ (.tmp 23)=.tuple #[.int .i64 0,.bool false]from hr 6 23 rfl rfl)) ⟨hg,Below.refl _ _,rfl⟩
  ·exact rvq (op_extract0 (show ρ (.tmp 16)=.tuple #[.int .i64 0,.bool false]from hr 7 16 rfl rfl)) ⟨hg,Below.refl _ _,rfl⟩
  ·exact rvq (op_extract1 (show ρ (.tmp 16)=.tuple #[.int .i64 0,.bool false]from hr 7 16 rfl rfl)) ⟨hg,Below.refl _ _,rfl⟩
  ·exact rvq (op_assign (show ρ (.tmp 24)=.int .i64 0 from hr 8 24 rfl rfl)) ⟨hg,Below.refl _ _,rfl⟩
  ·exact rvq (op_assign (show ρ (.tmp 25)=.bool false from hr 9 25 rfl rfl)) ⟨hg,Below.refl _ _,rfl⟩
 case en =>
  intro a9 v3 fl hfl b6 hs9 hd9 ho9 hr9;obtain⟨x9,hx,hxt⟩:=act_put hs9 hd9 ho9;have xk7:x9 7=.int .i64 0:=(hxt 7).symm.trans (hr9 10 7 rfl);have xk8:x9 8=.bool false:=(hxt 8).symm.trans (hr9 11 8 rfl);change a9=putAll _ x9 [17,18,19,20,21,22,23,16,24,25,7,8]at hx;simp only [putAll,Act.put,List.setIfInBounds_toArray,List.set_cons_zero,List.set_cons_succ,xk7,xk8]at hx;subst hx;clear hs9 hd9 ho9 hr9 hfl xk7 xk8;generalize x9 17=z17,x9 18=z18,x9 19=z19,x9 20=z20,x9 21=z21,x9 22=z22,x9 23=z23,x9 16=z16,x9 24=z24,x9 25=z25;have B3:=lh (bgo BB.out b6);have BV3:=lh ((b6.block B (blk_lt BV.out)).trans BV.out);have J53:=lh ((b6.block Y5 (blk_lt J5V.out)).trans J5V.out);have J63:=lh ((b6.block Y6 (blk_lt J6V.out)).trans J6V.out);have R3:=lh (range_on b6 RTD.out);have RD3:=lh (range_on (bgo B1.out b6) HRD.out);have C14:Hid (v3.cell? ⟨Y5,14,none⟩=some (.int .i64 c.call)):=lh (by have:=cell_blk J53.out 14;rw [this,<-HCS.out];rfl);have JLN:Hid ((J.length:Int)+1<=9223372036854775807∧-9223372036854775808<=(J.length:Int)+1):=lh (by have:=HJZ.out.1;omega);clear b6;go_upto_region 6 with fail
  refine wp_region_gs (fun fl r X9=>Ch2 (fun X=>Below v3.heap.size v3 X) (Box1 v3 66 22) (Box2 v3 66 (jbA (⟨(J.length:Int)+1,c.call,c.asker,c.ddl,0,false,false,⟨#[]⟩,0,0⟩:Jb) (.slice ca c.ddl.cols.length cc))) (fl 13) (fl 14) (r 9) X9) (fun _ _=>True) [
   fun v9 _=>v9=.pointer (some ⟨B,0,none⟩),fun v9 _=>v9=.pointer (some ⟨B,0,none⟩),fun v9 _=>v9=.pointer (some ⟨B,4,none⟩),fun v9 _=>v9=(.slice ja J.length jc),fun v9 _=>v9=.int .i64 (J.length:Int),fun v9 _=>v9=.int .i64 ((J.length:Int)+1),fun v9 _=>v9=.pointer (some ⟨Y5,14,none⟩),fun v9 _=>v9=.int .i64 c.call,fun v9 _=>v9=.pointer (some ⟨Y5,1,none⟩),fun v9 _=>v9=tdV c.asker,fun v9 _=>v9=.pointer (some ⟨Y5,15,none⟩),fun v9 _=>v9=.agg (ddA c.ddl (.slice ca c.ddl.cols.length cc)),fun v9 _=>v9=.agg (jbA (⟨(J.length:Int)+1,c.call,c.asker,c.ddl,0,false,false,⟨#[]⟩,0,0⟩:Jb) (.slice ca c.ddl.cols.length cc)),fun _ _=>True,fun _ _=>True]
   (by kernel_rfl) (by kernel_rfl) (by kernel_rfl) ?st ?g0 ?os ?en
  case st=>
   iterate 15 refine⟨fun _ _ _ _ h=>h,?_⟩
   exact trivial
  case g0=>exact(show Below _ _ _ from⟨rfl,rfl,rfl,Nat.le_refl _,fun _ _=>rfl⟩)
  case os =>
   refine⟨?_,?_,?_,?_,?_,?_,?_,?_,?_,?_,?_,?_,?_,?_,?_,trivial⟩
   all_goals intro ρ X9 fl hg hn hl hp ho hc hf hr
   ·exact rvq (op_move (show ρ (.tmp 0)=.pointer (some ⟨B,0,none⟩)from ho 0 rfl)) ⟨fun r9 h1 h2=>Ch2.same hg rfl rfl (h1 9 (by decide)),trivial,rfl⟩
   ·exact rvq (op_nil (show ρ (.tmp 29)=.pointer (some ⟨B,0,none⟩)from hr 0 29 rfl rfl)) ⟨fun r9 h1 h2=>Ch2.same hg rfl rfl (h1 9 (by decide)),trivial,rfl⟩
   ·exact rvq (op_f88_2 (show ρ (.tmp 30)=.pointer (some ⟨B,0,none⟩)from hr 1 30 rfl rfl)) ⟨fun r9 h1 h2=>Ch2.same hg rfl rfl (h1 9 (by decide)),trivial,rfl⟩
   ·have b9:Below v3.heap.size v3 X9:=by
     have hg:Ch2 _ _ _ (fl 13) (fl 14) (ρ (.tmp 9)) X9:=hg;cases e1:fl 13 <;> cases e2:fl 14 <;> rw [e1,e2]at hg
     ·exact(show Below _ _ _ from hg)
     ·exact Box2.b hg
     ·exact Box1.b hg
     ·exact Box2.b hg
    exact rvq (op_load32 (show ρ (.tmp 31)=.pointer (some ⟨B,4,none⟩)from hr 2 31 rfl rfl) (cell_on b9 (cell_blk BV3.out 4))) ⟨fun r9 h1 h2=>Ch2.same hg rfl rfl (h1 9 (by decide)),trivial,rfl⟩
   ·exact rvq (op_len32 (show ρ (.tmp 32)=(.slice ja J.length jc)from hr 3 32 rfl rfl)) ⟨fun r9 h1 h2=>Ch2.same hg rfl rfl (h1 9 (by decide)),trivial,rfl⟩
   ·exact rvq (op_add3c (show ρ (.tmp 33)=.int .i64 (J.length:Int)from hr 4 33 rfl rfl) (hc _) JLN.out.2 JLN.out.1) ⟨fun r9 h1 h2=>Ch2.same hg rfl rfl (h1 9 (by decide)),trivial,rfl⟩
   ·exact rvq (op_f48_10 (show ρ (.tmp 5)=.pointer (some ⟨Y5,0,none⟩)from ho 5 rfl)) ⟨fun r9 h1 h2=>Ch2.same hg rfl rfl (h1 9 (by decide)),trivial,rfl⟩
   ·have b9:Below v3.heap.size v3 X9:=by
     have hg:Ch2 _ _ _ (fl 13) (fl 14) (ρ (.tmp 9)) X9:=hg;cases e1:fl 13 <;> cases e2:fl 14 <;> rw [e1,e2]at hg
     ·exact(show Below _ _ _ from hg)
     ·exact Box2.b hg
     ·exact Box1.b hg
     ·exact Box2.b hg
    exact rvq (op_load3 (show ρ (.tmp 35)=.pointer (some ⟨Y5,14,none⟩)from hr 6 35 rfl rfl) (cell_on b9 C14.out)) ⟨fun r9 h1 h2=>Ch2.same hg rfl rfl (h1 9 (by decide)),trivial,rfl⟩
   ·exact rvq (op_f48_1 (show ρ (.tmp 5)=.pointer (some ⟨Y5,0,none⟩)from ho 5 rfl)) ⟨fun r9 h1 h2=>Ch2.same hg rfl rfl (h1 9 (by decide)),trivial,rfl⟩
   ·have b9:Below v3.heap.size v3 X9:=by
     have hg:Ch2 _ _ _ (fl 13) (fl 14) (ρ (.tmp 9)) X9:=hg;cases e1:fl 13 <;> cases e2:fl 14 <;> rw [e1,e2]at hg
     ·exact(show Below _ _ _ from hg)
     ·exact Box2.b hg
     ·exact Box1.b hg
     ·exact Box2.b hg
    exact rvq (op_loadAt (show ρ (.tmp 37)=.pointer (some ⟨Y5,1,none⟩)from hr 8 37 rfl rfl) (run_loadAt_mid X9 Y5 1 38 (tdL c.asker) _ (range_on b9 R3.out) Tryz.underlying38 rfl size38)) ⟨fun r9 h1 h2=>Ch2.same hg rfl rfl (h1 9 (by decide)),trivial,rfl⟩
   ·exact rvq (op_f48_11 (show ρ (.tmp 5)=.pointer (some ⟨Y5,0,none⟩)from ho 5 rfl)) ⟨fun r9 h1 h2=>Ch2.same hg rfl rfl (h1 9 (by decide)),trivial,rfl⟩
   ·have b9:Below v3.heap.size v3 X9:=by
     have hg:Ch2 _ _ _ (fl 13) (fl 14) (ρ (.tmp 9)) X9:=hg;cases e1:fl 13 <;> cases e2:fl 14 <;> rw [e1,e2]at hg
     ·exact(show Below _ _ _ from hg)
     ·exact Box2.b hg
     ·exact Box1.b hg
     ·exact Box2.b hg
    exact rvq (op_loadAt (show ρ (.tmp 39)=.pointer (some ⟨Y5,15,none⟩)from hr 10 39 rfl rfl) (run_loadAt_mid X9 Y5 15 45 ((ddA c.ddl (.slice ca c.ddl.cols.length cc)).toList) _ (by rw [HDS.out];exact range_on b9 RD3.out) Tryz.underlying45 rfl size45)) ⟨fun r9 h1 h2=>Ch2.same hg rfl rfl (h1 9 (by decide)),trivial,rfl⟩
   ·exact rvq (op_b66 (show ρ (.tmp 34)=.int .i64 ((J.length:Int)+1)from hr 5 34 rfl rfl) (show ρ (.tmp 36)=.int .i64 c.call from hr 7 36 rfl rfl) (show ρ (.tmp 38)=tdV c.asker from hr 9 38 rfl rfl) (show ρ (.tmp 40)=.agg (ddA c.ddl (.slice ca c.ddl.cols.length cc))from hr 11 40 rfl rfl)) ⟨fun r9 h1 h2=>Ch2.same hg rfl rfl (h1 9 (by decide)),trivial,rfl⟩
   ·have hg:Ch2 _ _ _ (fl 13) (fl 14) ((fun t=>ρ (.tmp t)) 9) X9:=hg;have f09:fl 13=false:=hn;have f19:fl 14=false:=(show fl 14=false from by cases q9:fl 14 with | false=>rfl | true=>exact absurd (hl 14 _ 13 rfl (by kernel_rfl) q9) (by rw [hn];decide))
    rw [f09,f19]at hg;have hA:(fun X=>Below v3.heap.size v3 X)  X9:=hg;refine(rvq op_alloc66 ⟨fun r9 h1 h2=>?_,trivial,trivial⟩);show Ch2 _ _ _ true (fl 14) (r9 9) _
    rw [f19,h2 9 rfl];exact⟨X9.heap.size,_,rfl,hA.size,heap_alloc_new X9 _,rfl,bgo hA (bnew _ _)⟩
   ·have hg:Ch2 _ _ _ (fl 13) (fl 14) ((fun t=>ρ (.tmp t)) 9) X9:=hg;have f09:fl 13=true:=hp 13 (by kernel_rfl);have f19:fl 14=false:=hn;rw [f09,f19]at hg;have hA:(Box1 v3 66 22) (ρ (.tmp 9)) X9:=hg;obtain⟨Y,z,e8,hY,hzz,hn3,hb9⟩:=hA;obtain⟨X',hst,j',f'⟩:=st_row hzz (us:=(jbA (⟨(J.length:Int)+1,c.call,c.asker,c.ddl,0,false,false,⟨#[]⟩,0,0⟩:Jb) (.slice ca c.ddl.cols.length cc))) (by rw [hn3];rfl) size66 (by simp [Value.oneCell']);refine .inl ⟨rfl,Runs.skips (op_storeAt e8 (show ρ (.tmp 41)=.agg (jbA (⟨(J.length:Int)+1,c.call,c.asker,c.ddl,0,false,false,⟨#[]⟩,0,0⟩:Jb) (.slice ca c.ddl.cols.length cc))from hr 12 41 rfl rfl) hst) ⟨fun r9 h1 h2=>?_,trivial,trivial⟩⟩;show Ch2 _ _ _ (fl 13) true (r9 9) X'
    rw [f09,h1 9 (by decide)];exact⟨Y,e8,hY,j',hb9.trans (f'.toBelow (fun k hk q=>by omega) hb9.size)⟩
  case en =>
   intro a9 v4 fl hfl hG9 hs9 hd9 ho9 hr9;obtain⟨x9,hx,hxt⟩:=act_put hs9 hd9 ho9;have hG9:Ch2 _ _ _ (fl 13) (fl 14) ((fun t=>a9.tmps.getD t undef) 9) v4:=hG9;rw [hfl 13 (by decide),hfl 14 (by decide)]at hG9;have hG9:(Box2 v3 66 (jbA (⟨(J.length:Int)+1,c.call,c.asker,c.ddl,0,false,false,⟨#[]⟩,0,0⟩:Jb) (.slice ca c.ddl.cols.length cc))) (a9.tmps.getD 9 undef) v4:=hG9;rw [show a9.tmps.getD 9 undef=x9 9 from hxt 9]at hG9;change a9=putAll _ x9 [29,30,31,32,33,34,35,36,37,38,39,40,41,9]at hx;simp only [putAll,Act.put,List.setIfInBounds_toArray,List.set_cons_zero,List.set_cons_succ]at hx;subst hx;clear hs9 hd9 ho9 hr9 hfl hxt;generalize x9 29=z29,x9 30=z30,x9 31=z31,x9 32=z32,x9 33=z33,x9 34=z34,x9 35=z35,x9 36=z36,x9 37=z37,x9 38=z38,x9 39=z39,x9 40=z40,x9 41=z41,x9 9=z9 at hG9 ⊢;obtain⟨Y9,rfl,hY9,j9,b4⟩:=hG9;have B4:=lh (bgo B3.out b4);have J64:=lh ((b4.block Y6 (blk_lt J63.out)).trans J63.out);have BV4:=lh ((b4.block B (blk_lt BV3.out)).trans BV3.out);have H9:=lh (Nat.le_trans B3.out.size hY9);have H96:Hid (Y6≠Y9):=lh (by have:=blk_lt J63.out;omega);have J9:=lh j9;have c5:v4.cell? ⟨B,5,none⟩=some (.slice ra L.length rc):=cell_blk BV4.out 5;have q3:(L.length:Int)<=9223372036854775807:=by have:=HJZ.out;omega
   have q4:¬ (4:Int)<=(L.length:Int):=by have:=HMY.out;omega
   clear j9 b4 hY9;have J9X:=lh J9.out;have B6:=lh B4.out;have J66:=lh J64.out;have HLJ:=lh (load_row J9X.out Tryz.underlying66 rfl size66);have hent:=ent_some_run (j:=(⟨(J.length:Int)+1,c.call,c.asker,c.ddl,0,false,false,⟨#[]⟩,0,0⟩:Jb)) (cv:=(.slice ca c.ddl.cols.length cc)) (L:=L) (J:=J) ((B6.out.block B HLT.out.1).trans HBO.out) (HMO.out.on B6.out) HNN.out (own_below HJO.out B6.out) (HRO.out.stays fun k hk=>B6.out.block k (HLT.out.2.2.1 k hk)) (HCR.out.below B6.out) HCZ.out HJZ.out.1 HJZ.out.2 HTD.out rfl HNEW.out rfl;obtain⟨js9,hjs9⟩:∃ js9,jbA (⟨(J.length:Int)+1,c.call,c.asker,c.ddl,0,false,false,⟨#[]⟩,0,0⟩:Jb) (.slice ca c.ddl.cols.length cc)=js9:=⟨_,rfl⟩
   rw [hjs9]at hent HLJ;clear hjs9;go_wp2_with (first|(go_at_call 50;refine hent.mono ?_;rintro e w9 hE9;have e9:=hE9.1;subst e9;have c90:w9.cell? ⟨Y9,0,none⟩=some (.int .i64 ((J.length:Int)+1)):=(cell_like (hE9.frame Y9 (blk_lt J9X.out) (by have:=H9.out;have:=HLT.out;omega) (fun k hk=>by have:=HLT.out.2.1 k hk;have:=H9.out;omega) (fun k hk=>by have:=HLT.out.2.2.1 k hk;have:=H9.out;omega) (fun k hk=>by have:=HLT.out.2.2.2 k hk;have:=H9.out;omega)) 0).trans (cell_blk J9X.out 0);have j6:=(hE9.frame Y6 (blk_lt J66.out) (by have:=HN.out;have:=HLT.out;omega) (fun k hk=>by have:=HLT.out.2.1 k hk;have:=HN.out;omega) (fun k hk=>by have:=HLT.out.2.2.1 k hk;have:=HN.out;omega) (fun k hk=>by have:=HLT.out.2.2.2 k hk;have:=HN.out;omega)).trans J66.out;obtain⟨X',hst,j',f'⟩:=st_row j6 (us:=rsA ⟨0,0,0,(J.length:Int)+1,true⟩) rfl size53 (by simp [Value.oneCell']);have HS:=lh hst;have HX:=lh (And.intro j' (And.intro f' hE9));clear hent j6 hst j' f' hE9)|(refine wpl_load _ rfl (by simp [Act.eval]) HLJ.out ?_)|(refine wpl_store _ _ rfl (by simp [Act.eval]) (by simp [Act.eval]) HS.out ?_))
   refine bodyPost_ret (results_one rfl rfl (load_var HX.out.1 Tryz.underlying53 rfl size53)) rfl ?_;exact⟨rfl,HX.out.2.2.lift B6.out HX.out.2.1 (show w.heap.size<=Y6 from by have h1:=HN.out.1;have h2:=HN.out.2;omega) (blk_lt J66.out) HLT.out.1 HLT.out.2.1 HLT.out.2.2.1 HLT.out.2.2.2⟩
theorem sub_new_some_many{B:Nat}{m n:Nat}{s0 s1:Int}{tv lv jvs rv cv:Value}{J:List (Jb × Value)}{L:List Nat}{c:Cm}{r:Rest}{t:Int}(hB:w.heap[B]?=some (.cells (bdA s0 s1 tv lv jvs rv (.map (some m))) 88 (0,0)))(hM:Mt w m n (idOf (J.map Prod.fst)))(hn:n<=J.length)(hJ:w.ownsRow 0 66 22 jvs J.length (J.flatMap jrow))(hr:RunL w rv L)(hc:Reads (fun k=>k=B\/jvs.ownBlock=some k\/RunBlk rv k\/(Value.map (some m))=.map (some k)) w fun V=>Lr colE 7 V c.ddl.cols cv)(hz:c.ddl.cols.length<=1000000)(hJz:J.length<=100000)(hLz:L.length<=100000)(ht:TdOk c.asker)(hnew:(J.map Prod.fst).findIdx? (fun x=>decide (x.asker=c.asker))=none)(hp:¬ pathP c.ddl.kind false=[])(hmy:4<=L.length):Calls Tryz.prog 28 #[.pointer (some ⟨B,0,none⟩),.int .i64 t,.agg (cmA c r cv)] w (SubAns w B s0 s1 tv lv jvs rv (.map (some m)) J L ⟨(J.length:Int)+1,c.call,c.asker,c.ddl,0,false,false,⟨#[]⟩,3,156⟩):=by
 obtain⟨ja,jc,rfl⟩:=own_shape hJ;obtain⟨ra,rc,rfl,hr0⟩:=hr;have hr:RunL w (.slice ra L.length rc) L:=⟨ra,rc,rfl,hr0⟩
 clear hr0;obtain⟨ca,cc,rfl,hc0⟩:=hc.now;clear hc0;obtain⟨W,hW⟩:∃ W,W=(w.alloc (.cells (cmA c r (.slice ca c.ddl.cols.length cc)) 48)).alloc (.cells zR 53):=⟨_,rfl⟩
 have hb:=bw2 hW;obtain⟨Y5,hY5⟩:∃ Q,w.heap.size=Q:=⟨_,rfl⟩
 obtain⟨Y6,hY6⟩:∃ Q,Y5+1=Q:=⟨_,rfl⟩
 have j5:W.heap[Y5]?=some (.cells (cmA c r (.slice ca c.ddl.cols.length cc)) 48 (0,0)):=nw21 hW hY5;have j6:W.heap[Y6]?=some (.cells zR 53 (0,0)):=nw22 hW hY5 hY6;have HJ:=lh (And.intro j5 j6);have HN:Hid (w.heap.size=Y5/\Y5+1=Y6):=lh ⟨hY5,hY6⟩;have HW:=lh hW;have HB:=lh hb;have hrd:W.rangeAt Y5 15 (ddA c.ddl (.slice ca c.ddl.cols.length cc)).toList:=range_part (range_blk j5) 15 11;have hld:(Instr.loadAt 45 (.pointer (some ⟨Y5,15,none⟩))).run Tryz.prog W=.ok (.agg (ddA c.ddl (.slice ca c.ddl.cols.length cc))) W:=run_loadAt_mid W Y5 15 45 ((ddA c.ddl (.slice ca c.ddl.cols.length cc)).toList) _ hrd Tryz.underlying45 rfl size45;have HLD:=lh hld;have HRD:=lh hrd;have hpa:=path_any W (ddA c.ddl (.slice ca c.ddl.cols.length cc)) c.ddl.kind false rfl;have hlp:(pathP c.ddl.kind false).length<=5:=by
  unfold pathP onP backP
  repeat' split
  all_goals simp
 have HBW:=lh ((hb.block B (blk_lt hB)).trans hB);have HTD:=lh ht;have HLT:Hid (B<w.heap.size/\(∀ k,(Value.slice ja J.length jc).ownBlock=some k->k<w.heap.size)/\(∀ k,RunBlk (.slice ra L.length rc) k->k<w.heap.size)/\∀ k,(.map (some m))=Value.map (some k)->k<w.heap.size):=lh ⟨blk_lt hB,own_lt hJ,fun k hk=>run_lt hr hk,fun k hk=>by cases hk;exact hM.lt⟩;have HBO:=lh hB;have HJO:=lh hJ;have HRO:=lh hr;have HCR:=lh hc;have HCZ:=lh hz;have HJZ:Hid (J.length<=100000/\L.length<=100000):=lh ⟨hJz,hLz⟩;have HNEW:=lh hnew;have HMY:=lh hmy;have HMO:=lh hM;have HNN:=lh hn;clear hW hb hY5 hY6 j5 j6 hrd hld ht hB hJ hr hc hz hJz hLz hnew hmy hM hn;obtain⟨cs,hcs⟩:∃ cs,cmA c r (.slice ca c.ddl.cols.length cc)=cs:=⟨_,rfl⟩
 have HCS:=lh hcs;rw [hcs]at HW HJ ⊢;clear hcs;obtain⟨ds,hds⟩:∃ ds,ddA c.ddl (.slice ca c.ddl.cols.length cc)=ds:=⟨_,rfl⟩
 have HDS:=lh hds;rw [hds]at HLD HRD hpa;clear hds;obtain⟨pl,hpl⟩:∃ pl,(pathP c.ddl.kind false).length=pl:=⟨_,rfl⟩
 have q0:¬ (pl:Int)=0:=fun q=>hp (List.length_eq_zero_iff.1 (by omega));have hpb:Calls Tryz.prog 64 #[.agg ds,.bool false] W fun e w'=>∃ ad cap,e=.returned (.slice ad pl cap)/\Below W.heap.size W w':=hpa.mono fun e w' ⟨ad,cap,h1,_,h3⟩=>⟨ad,cap,by rw [h1,hpl],h3⟩
 have q1:(pl:Int)<=9223372036854775807:=by omega
 clear hpa hp hpl;go_enter Tryz.func28,Tryz.ntmps28;go_upto_region 1 with fail
 rw [<-HW.out,HN.out.1,HN.out.2];go_upto_region 3 with (first|(go_at_call 64;refine hpb.mono ?_;rintro e v1 ⟨ad,cap,rfl,b1⟩;have B1:=lh b1;have BB:=lh (bgo HB.out b1);clear hpb b1)|(refine wpl_load _ rfl (by simp [Act.eval]) HLD.out ?_))
 have BV:=lh ((B1.out.block B (blk_lt HBW.out)).trans HBW.out);have J5V:=lh ((B1.out.block Y5 (blk_lt HJ.out.1)).trans HJ.out.1);have J6V:=lh ((B1.out.block Y6 (blk_lt HJ.out.2)).trans HJ.out.2);have RTD:Hid (v1.rangeAt Y5 1 (tdL c.asker)):=lh (range_on B1.out (by have:=range_part (range_blk HJ.out.1) 1 3;rw [<-HCS.out]at this;exact this));refine wp_region_fb (fun _ X9=>Below v1.heap.size v1 X9) (fun X9 X8=>Below X9.heap.size X9 X8) [
  fun v9 _=>v9=.pointer (some ⟨B,0,none⟩),fun v9 _=>v9=.pointer (some ⟨B,0,none⟩),fun v9 _=>v9=.pointer (some ⟨B,6,none⟩),fun v9 _=>v9=.map (some m),fun v9 _=>v9=.pointer (some ⟨Y5,1,none⟩),fun v9 _=>v9=tdV c.asker,fun v9 _=>v9=.tuple #[.int .i64 0,.bool false],fun v9 _=>v9=.tuple #[.int .i64 0,.bool false],fun v9 _=>v9=.int .i64 0,fun v9 _=>v9=.bool false,fun v9 _=>v9=.int .i64 0,fun v9 _=>v9=.bool false]
  (by kernel_rfl) (by kernel_rfl) (by kernel_rfl) ?st ?g0 ?os ?en
 case st=>
  iterate 12 refine⟨fun _ _ _ _ h=>h,?_⟩
  exact trivial
 case g0=>exact⟨rfl,rfl,rfl,Nat.le_refl _,fun _ _=>rfl⟩
 case os =>
  refine⟨?_,?_,?_,?_,?_,?_,?_,?_,?_,?_,?_,?_,trivial⟩
  all_goals intro ρ X9 fl hg hn hl hp ho hc hf hr
  ·exact rvq (op_move (show ρ (.tmp 0)=.pointer (some ⟨B,0,none⟩)from ho 0 rfl)) ⟨hg,Below.refl _ _,rfl⟩
  ·exact rvq (op_nil (show ρ (.tmp 17)=.pointer (some ⟨B,0,none⟩)from hr 0 17 rfl rfl)) ⟨hg,Below.refl _ _,rfl⟩
  ·exact rvq (op_f88_4 (show ρ (.tmp 18)=.pointer (some ⟨B,0,none⟩)from hr 1 18 rfl rfl)) ⟨hg,Below.refl _ _,rfl⟩
  ·exact rvq (op_load86 (show ρ (.tmp 19)=.pointer (some ⟨B,6,none⟩)from hr 2 19 rfl rfl) (cell_on hg (cell_blk BV.out 6))) ⟨hg,Below.refl _ _,rfl⟩
  ·exact rvq (op_f48_1 (show ρ (.tmp 5)=.pointer (some ⟨Y5,0,none⟩)from ho 5 rfl)) ⟨hg,Below.refl _ _,rfl⟩
  ·exact rvq (op_loadAt (show ρ (.tmp 21)=.pointer (some ⟨Y5,1,none⟩)from hr 4 21 rfl rfl) (run_loadAt_mid X9 Y5 1 38 (tdL c.asker) _ (range_on hg RTD.out) Tryz.underlying38 rfl size38)) ⟨hg,Below.refl _ _,rfl⟩
  ·exact rvq (op_lookup86 (show ρ (.tmp 20)=.map (some m)from hr 3 20 rfl rfl) (show ρ (.tmp 22)=tdV c.asker from hr 5 22 rfl rfl) (by have h9:=(HMO.out.on (bgo BB.out hg)).look (T:=86) Tryz.underlying86 (zero3 X9) HTD.out;rw [show idOf (J.map Prod.fst) c.asker=none from by unfold idOf;rw [HNEW.out];rfl]at h9;exact h9)) ⟨hg,Below.refl _ _,rfl⟩
  ·exact rvq (op_move (show ρ (.tmp 23)=.tuple #[.int .i64 0,.bool false]from hr 6 23 rfl rfl)) ⟨hg,Below.refl _ _,rfl⟩
  ·exact rvq (op_extract0 (show ρ (.tmp 16)=.tuple #[.int .i64 0,.bool false]from hr 7 16 rfl rfl)) ⟨hg,Below.refl _ _,rfl⟩
  ·exact rvq (op_extract1 (show ρ (.tmp 16)=.tuple #[.int .i64 0,.bool false]from hr 7 16 rfl rfl)) ⟨hg,Below.refl _ _,rfl⟩
  ·exact rvq (op_assign (show ρ (.tmp 24)=.int .i64 0 from hr 8 24 rfl rfl)) ⟨hg,Below.refl _ _,rfl⟩
  ·exact rvq (op_assign (show ρ (.tmp 25)=.bool false from hr 9 25 rfl rfl)) ⟨hg,Below.refl _ _,rfl⟩
 case en =>
  intro a9 v3 fl hfl b6 hs9 hd9 ho9 hr9;obtain⟨x9,hx,hxt⟩:=act_put hs9 hd9 ho9;have xk7:x9 7=.int .i64 0:=(hxt 7).symm.trans (hr9 10 7 rfl);have xk8:x9 8=.bool false:=(hxt 8).symm.trans (hr9 11 8 rfl);change a9=putAll _ x9 [17,18,19,20,21,22,23,16,24,25,7,8]at hx;simp only [putAll,Act.put,List.setIfInBounds_toArray,List.set_cons_zero,List.set_cons_succ,xk7,xk8]at hx;subst hx;clear hs9 hd9 ho9 hr9 hfl xk7 xk8;generalize x9 17=z17,x9 18=z18,x9 19=z19,x9 20=z20,x9 21=z21,x9 22=z22,x9 23=z23,x9 16=z16,x9 24=z24,x9 25=z25;have B3:=lh (bgo BB.out b6);have BV3:=lh ((b6.block B (blk_lt BV.out)).trans BV.out);have J53:=lh ((b6.block Y5 (blk_lt J5V.out)).trans J5V.out);have J63:=lh ((b6.block Y6 (blk_lt J6V.out)).trans J6V.out);have R3:=lh (range_on b6 RTD.out);have RD3:=lh (range_on (bgo B1.out b6) HRD.out);have C14:Hid (v3.cell? ⟨Y5,14,none⟩=some (.int .i64 c.call)):=lh (by have:=cell_blk J53.out 14;rw [this,<-HCS.out];rfl);have JLN:Hid ((J.length:Int)+1<=9223372036854775807∧-9223372036854775808<=(J.length:Int)+1):=lh (by have:=HJZ.out.1;omega);clear b6;go_upto_region 6 with fail
  refine wp_region_gs (fun fl r X9=>Ch2 (fun X=>Below v3.heap.size v3 X) (Box1 v3 66 22) (Box2 v3 66 (jbA (⟨(J.length:Int)+1,c.call,c.asker,c.ddl,0,false,false,⟨#[]⟩,0,0⟩:Jb) (.slice ca c.ddl.cols.length cc))) (fl 13) (fl 14) (r 9) X9) (fun _ _=>True) [
   fun v9 _=>v9=.pointer (some ⟨B,0,none⟩),fun v9 _=>v9=.pointer (some ⟨B,0,none⟩),fun v9 _=>v9=.pointer (some ⟨B,4,none⟩),fun v9 _=>v9=(.slice ja J.length jc),fun v9 _=>v9=.int .i64 (J.length:Int),fun v9 _=>v9=.int .i64 ((J.length:Int)+1),fun v9 _=>v9=.pointer (some ⟨Y5,14,none⟩),fun v9 _=>v9=.int .i64 c.call,fun v9 _=>v9=.pointer (some ⟨Y5,1,none⟩),fun v9 _=>v9=tdV c.asker,fun v9 _=>v9=.pointer (some ⟨Y5,15,none⟩),fun v9 _=>v9=.agg (ddA c.ddl (.slice ca c.ddl.cols.length cc)),fun v9 _=>v9=.agg (jbA (⟨(J.length:Int)+1,c.call,c.asker,c.ddl,0,false,false,⟨#[]⟩,0,0⟩:Jb) (.slice ca c.ddl.cols.length cc)),fun _ _=>True,fun _ _=>True]
   (by kernel_rfl) (by kernel_rfl) (by kernel_rfl) ?st ?g0 ?os ?en
  case st=>
   iterate 15 refine⟨fun _ _ _ _ h=>h,?_⟩
   exact trivial
  case g0=>exact(show Below _ _ _ from⟨rfl,rfl,rfl,Nat.le_refl _,fun _ _=>rfl⟩)
  case os =>
   refine⟨?_,?_,?_,?_,?_,?_,?_,?_,?_,?_,?_,?_,?_,?_,?_,trivial⟩
   all_goals intro ρ X9 fl hg hn hl hp ho hc hf hr
   ·exact rvq (op_move (show ρ (.tmp 0)=.pointer (some ⟨B,0,none⟩)from ho 0 rfl)) ⟨fun r9 h1 h2=>Ch2.same hg rfl rfl (h1 9 (by decide)),trivial,rfl⟩
   ·exact rvq (op_nil (show ρ (.tmp 29)=.pointer (some ⟨B,0,none⟩)from hr 0 29 rfl rfl)) ⟨fun r9 h1 h2=>Ch2.same hg rfl rfl (h1 9 (by decide)),trivial,rfl⟩
   ·exact rvq (op_f88_2 (show ρ (.tmp 30)=.pointer (some ⟨B,0,none⟩)from hr 1 30 rfl rfl)) ⟨fun r9 h1 h2=>Ch2.same hg rfl rfl (h1 9 (by decide)),trivial,rfl⟩
   ·have b9:Below v3.heap.size v3 X9:=by
     have hg:Ch2 _ _ _ (fl 13) (fl 14) (ρ (.tmp 9)) X9:=hg;cases e1:fl 13 <;> cases e2:fl 14 <;> rw [e1,e2]at hg
     ·exact(show Below _ _ _ from hg)
     ·exact Box2.b hg
     ·exact Box1.b hg
     ·exact Box2.b hg
    exact rvq (op_load32 (show ρ (.tmp 31)=.pointer (some ⟨B,4,none⟩)from hr 2 31 rfl rfl) (cell_on b9 (cell_blk BV3.out 4))) ⟨fun r9 h1 h2=>Ch2.same hg rfl rfl (h1 9 (by decide)),trivial,rfl⟩
   ·exact rvq (op_len32 (show ρ (.tmp 32)=(.slice ja J.length jc)from hr 3 32 rfl rfl)) ⟨fun r9 h1 h2=>Ch2.same hg rfl rfl (h1 9 (by decide)),trivial,rfl⟩
   ·exact rvq (op_add3c (show ρ (.tmp 33)=.int .i64 (J.length:Int)from hr 4 33 rfl rfl) (hc _) JLN.out.2 JLN.out.1) ⟨fun r9 h1 h2=>Ch2.same hg rfl rfl (h1 9 (by decide)),trivial,rfl⟩
   ·exact rvq (op_f48_10 (show ρ (.tmp 5)=.pointer (some ⟨Y5,0,none⟩)from ho 5 rfl)) ⟨fun r9 h1 h2=>Ch2.same hg rfl rfl (h1 9 (by decide)),trivial,rfl⟩
   ·have b9:Below v3.heap.size v3 X9:=by
     have hg:Ch2 _ _ _ (fl 13) (fl 14) (ρ (.tmp 9)) X9:=hg;cases e1:fl 13 <;> cases e2:fl 14 <;> rw [e1,e2]at hg
     ·exact(show Below _ _ _ from hg)
     ·exact Box2.b hg
     ·exact Box1.b hg
     ·exact Box2.b hg
    exact rvq (op_load3 (show ρ (.tmp 35)=.pointer (some ⟨Y5,14,none⟩)from hr 6 35 rfl rfl) (cell_on b9 C14.out)) ⟨fun r9 h1 h2=>Ch2.same hg rfl rfl (h1 9 (by decide)),trivial,rfl⟩
   ·exact rvq (op_f48_1 (show ρ (.tmp 5)=.pointer (some ⟨Y5,0,none⟩)from ho 5 rfl)) ⟨fun r9 h1 h2=>Ch2.same hg rfl rfl (h1 9 (by decide)),trivial,rfl⟩
   ·have b9:Below v3.heap.size v3 X9:=by
     have hg:Ch2 _ _ _ (fl 13) (fl 14) (ρ (.tmp 9)) X9:=hg;cases e1:fl 13 <;> cases e2:fl 14 <;> rw [e1,e2]at hg
     ·exact(show Below _ _ _ from hg)
     ·exact Box2.b hg
     ·exact Box1.b hg
     ·exact Box2.b hg
    exact rvq (op_loadAt (show ρ (.tmp 37)=.pointer (some ⟨Y5,1,none⟩)from hr 8 37 rfl rfl) (run_loadAt_mid X9 Y5 1 38 (tdL c.asker) _ (range_on b9 R3.out) Tryz.underlying38 rfl size38)) ⟨fun r9 h1 h2=>Ch2.same hg rfl rfl (h1 9 (by decide)),trivial,rfl⟩
   ·exact rvq (op_f48_11 (show ρ (.tmp 5)=.pointer (some ⟨Y5,0,none⟩)from ho 5 rfl)) ⟨fun r9 h1 h2=>Ch2.same hg rfl rfl (h1 9 (by decide)),trivial,rfl⟩
   ·have b9:Below v3.heap.size v3 X9:=by
     have hg:Ch2 _ _ _ (fl 13) (fl 14) (ρ (.tmp 9)) X9:=hg;cases e1:fl 13 <;> cases e2:fl 14 <;> rw [e1,e2]at hg
     ·exact(show Below _ _ _ from hg)
     ·exact Box2.b hg
     ·exact Box1.b hg
     ·exact Box2.b hg
    exact rvq (op_loadAt (show ρ (.tmp 39)=.pointer (some ⟨Y5,15,none⟩)from hr 10 39 rfl rfl) (run_loadAt_mid X9 Y5 15 45 ((ddA c.ddl (.slice ca c.ddl.cols.length cc)).toList) _ (by rw [HDS.out];exact range_on b9 RD3.out) Tryz.underlying45 rfl size45)) ⟨fun r9 h1 h2=>Ch2.same hg rfl rfl (h1 9 (by decide)),trivial,rfl⟩
   ·exact rvq (op_b66 (show ρ (.tmp 34)=.int .i64 ((J.length:Int)+1)from hr 5 34 rfl rfl) (show ρ (.tmp 36)=.int .i64 c.call from hr 7 36 rfl rfl) (show ρ (.tmp 38)=tdV c.asker from hr 9 38 rfl rfl) (show ρ (.tmp 40)=.agg (ddA c.ddl (.slice ca c.ddl.cols.length cc))from hr 11 40 rfl rfl)) ⟨fun r9 h1 h2=>Ch2.same hg rfl rfl (h1 9 (by decide)),trivial,rfl⟩
   ·have hg:Ch2 _ _ _ (fl 13) (fl 14) ((fun t=>ρ (.tmp t)) 9) X9:=hg;have f09:fl 13=false:=hn;have f19:fl 14=false:=(show fl 14=false from by cases q9:fl 14 with | false=>rfl | true=>exact absurd (hl 14 _ 13 rfl (by kernel_rfl) q9) (by rw [hn];decide))
    rw [f09,f19]at hg;have hA:(fun X=>Below v3.heap.size v3 X)  X9:=hg;refine(rvq op_alloc66 ⟨fun r9 h1 h2=>?_,trivial,trivial⟩);show Ch2 _ _ _ true (fl 14) (r9 9) _
    rw [f19,h2 9 rfl];exact⟨X9.heap.size,_,rfl,hA.size,heap_alloc_new X9 _,rfl,bgo hA (bnew _ _)⟩
   ·have hg:Ch2 _ _ _ (fl 13) (fl 14) ((fun t=>ρ (.tmp t)) 9) X9:=hg;have f09:fl 13=true:=hp 13 (by kernel_rfl);have f19:fl 14=false:=hn;rw [f09,f19]at hg;have hA:(Box1 v3 66 22) (ρ (.tmp 9)) X9:=hg;obtain⟨Y,z,e8,hY,hzz,hn3,hb9⟩:=hA;obtain⟨X',hst,j',f'⟩:=st_row hzz (us:=(jbA (⟨(J.length:Int)+1,c.call,c.asker,c.ddl,0,false,false,⟨#[]⟩,0,0⟩:Jb) (.slice ca c.ddl.cols.length cc))) (by rw [hn3];rfl) size66 (by simp [Value.oneCell']);refine .inl ⟨rfl,Runs.skips (op_storeAt e8 (show ρ (.tmp 41)=.agg (jbA (⟨(J.length:Int)+1,c.call,c.asker,c.ddl,0,false,false,⟨#[]⟩,0,0⟩:Jb) (.slice ca c.ddl.cols.length cc))from hr 12 41 rfl rfl) hst) ⟨fun r9 h1 h2=>?_,trivial,trivial⟩⟩;show Ch2 _ _ _ (fl 13) true (r9 9) X'
    rw [f09,h1 9 (by decide)];exact⟨Y,e8,hY,j',hb9.trans (f'.toBelow (fun k hk q=>by omega) hb9.size)⟩
  case en =>
   intro a9 v4 fl hfl hG9 hs9 hd9 ho9 hr9;obtain⟨x9,hx,hxt⟩:=act_put hs9 hd9 ho9;have hG9:Ch2 _ _ _ (fl 13) (fl 14) ((fun t=>a9.tmps.getD t undef) 9) v4:=hG9;rw [hfl 13 (by decide),hfl 14 (by decide)]at hG9;have hG9:(Box2 v3 66 (jbA (⟨(J.length:Int)+1,c.call,c.asker,c.ddl,0,false,false,⟨#[]⟩,0,0⟩:Jb) (.slice ca c.ddl.cols.length cc))) (a9.tmps.getD 9 undef) v4:=hG9;rw [show a9.tmps.getD 9 undef=x9 9 from hxt 9]at hG9;change a9=putAll _ x9 [29,30,31,32,33,34,35,36,37,38,39,40,41,9]at hx;simp only [putAll,Act.put,List.setIfInBounds_toArray,List.set_cons_zero,List.set_cons_succ]at hx;subst hx;clear hs9 hd9 ho9 hr9 hfl hxt;generalize x9 29=z29,x9 30=z30,x9 31=z31,x9 32=z32,x9 33=z33,x9 34=z34,x9 35=z35,x9 36=z36,x9 37=z37,x9 38=z38,x9 39=z39,x9 40=z40,x9 41=z41,x9 9=z9 at hG9 ⊢;obtain⟨Y9,rfl,hY9,j9,b4⟩:=hG9;have B4:=lh (bgo B3.out b4);have J64:=lh ((b4.block Y6 (blk_lt J63.out)).trans J63.out);have BV4:=lh ((b4.block B (blk_lt BV3.out)).trans BV3.out);have H9:=lh (Nat.le_trans B3.out.size hY9);have H96:Hid (Y6≠Y9):=lh (by have:=blk_lt J63.out;omega);have J9:=lh j9;have c5:v4.cell? ⟨B,5,none⟩=some (.slice ra L.length rc):=cell_blk BV4.out 5;have q3:(L.length:Int)<=9223372036854775807:=by have:=HJZ.out;omega
   have q4:(4:Int)<=(L.length:Int):=by have:=HMY.out;omega
   clear j9 b4 hY9;have z20:v4.frozen? ⟨Y9,20,none⟩=false:=frozen_blk J9.out _;have c20:v4.cell? ⟨Y9,20,none⟩=some (.int .i64 0):=cell_blk J9.out 20;have hs20:(Instr.storeAt 3 (.pointer (some ⟨Y9,20,none⟩)) (.int .i64 3)).run Tryz.prog v4=.ok () (v4.setCell ⟨Y9,20,none⟩ (.int .i64 3)):=by
    clear c5 q3 q4
    go_simp
   obtain⟨v5,hv5⟩:∃ v5,v5=v4.setCell ⟨Y9,20,none⟩ (.int .i64 3):=⟨_,rfl⟩
   have j95:=set_blk (i:=20) J9.out (.int .i64 3);have f5:Fr v4 v5 (fun k=>k=Y9):=by rw [hv5];exact(Fr.refl v4 (fun k=>k=Y9)).set (a:=⟨Y9,20,none⟩) (.inl rfl) _
   rw [<-hv5]at hs20 j95;clear hv5;have z21:v5.frozen? ⟨Y9,21,none⟩=false:=frozen_blk j95 _;have c21:v5.cell? ⟨Y9,21,none⟩=some (.int .i64 0):=cell_blk j95 21;have hs21:(Instr.storeAt 46 (.pointer (some ⟨Y9,21,none⟩)) (.int .i64 156)).run Tryz.prog v5=.ok () (v5.setCell ⟨Y9,21,none⟩ (.int .i64 156)):=by
    clear c5 q3 q4 j95 z20 c20 hs20
    go_simp
   obtain⟨v6,hv6⟩:∃ v6,v6=v5.setCell ⟨Y9,21,none⟩ (.int .i64 156):=⟨_,rfl⟩
   have j96:v6.heap[Y9]?=some (.cells (jbA (⟨(J.length:Int)+1,c.call,c.asker,c.ddl,0,false,false,⟨#[]⟩,3,156⟩:Jb) (.slice ca c.ddl.cols.length cc)) 66 (0,0)):=by rw [hv6];exact set_blk (i:=21) j95 (.int .i64 156)
   have f6:Fr v4 v6 (fun k=>k=Y9):=by rw [hv6];exact f5.set (a:=⟨Y9,21,none⟩) (.inl rfl) _
   rw [<-hv6]at hs21;have HS20:=lh hs20;have HS21:=lh hs21;have J9X:=lh j96;have B6:=lh (B4.out.trans (f6.toBelow (fun k hk q=>by have q':k=Y9:=q;have:=H9.out;omega) B4.out.size));have J66:=lh ((f6.block Y6 (blk_lt J64.out) H96.out).trans J64.out);clear z20 c20 hs20 j95 f5 z21 c21 hs21 hv6 j96 f6;have HLJ:=lh (load_row J9X.out Tryz.underlying66 rfl size66);have hent:=ent_some_not (j:=(⟨(J.length:Int)+1,c.call,c.asker,c.ddl,0,false,false,⟨#[]⟩,3,156⟩:Jb)) (cv:=(.slice ca c.ddl.cols.length cc)) (L:=L) (J:=J) ((B6.out.block B HLT.out.1).trans HBO.out) (HMO.out.on B6.out) HNN.out (own_below HJO.out B6.out) (HRO.out.stays fun k hk=>B6.out.block k (HLT.out.2.2.1 k hk)) (HCR.out.below B6.out) HCZ.out HJZ.out.1 HJZ.out.2 HTD.out rfl HNEW.out (show ¬ (3:Int)=0 by decide);obtain⟨js9,hjs9⟩:∃ js9,jbA (⟨(J.length:Int)+1,c.call,c.asker,c.ddl,0,false,false,⟨#[]⟩,3,156⟩:Jb) (.slice ca c.ddl.cols.length cc)=js9:=⟨_,rfl⟩
   rw [hjs9]at hent HLJ;clear hjs9;go_wp2_with (first|(go_at_call 50;refine hent.mono ?_;rintro e w9 hE9;have e9:=hE9.1;subst e9;have c90:w9.cell? ⟨Y9,0,none⟩=some (.int .i64 ((J.length:Int)+1)):=(cell_like (hE9.frame Y9 (blk_lt J9X.out) (by have:=H9.out;have:=HLT.out;omega) (fun k hk=>by have:=HLT.out.2.1 k hk;have:=H9.out;omega) (fun k hk=>by have:=HLT.out.2.2.1 k hk;have:=H9.out;omega) (fun k hk=>by have:=HLT.out.2.2.2 k hk;have:=H9.out;omega)) 0).trans (cell_blk J9X.out 0);have j6:=(hE9.frame Y6 (blk_lt J66.out) (by have:=HN.out;have:=HLT.out;omega) (fun k hk=>by have:=HLT.out.2.1 k hk;have:=HN.out;omega) (fun k hk=>by have:=HLT.out.2.2.1 k hk;have:=HN.out;omega) (fun k hk=>by have:=HLT.out.2.2.2 k hk;have:=HN.out;omega)).trans J66.out;obtain⟨X',hst,j',f'⟩:=st_row j6 (us:=rsA ⟨0,0,0,(J.length:Int)+1,true⟩) rfl size53 (by simp [Value.oneCell']);have HS:=lh hst;have HX:=lh (And.intro j' (And.intro f' hE9));clear hent j6 hst j' f' hE9)|(refine wpl_load _ rfl (by simp [Act.eval]) HLJ.out ?_)|(refine wpl_store _ _ rfl (by simp [Act.eval]) (by simp [Act.eval]) HS20.out ?_)|(refine wpl_store _ _ rfl (by simp [Act.eval]) (by simp [Act.eval]) HS21.out ?_)|(refine wpl_store _ _ rfl (by simp [Act.eval]) (by simp [Act.eval]) HS.out ?_))
   refine bodyPost_ret (results_one rfl rfl (load_var HX.out.1 Tryz.underlying53 rfl size53)) rfl ?_;exact⟨rfl,HX.out.2.2.lift B6.out HX.out.2.1 (show w.heap.size<=Y6 from by have h1:=HN.out.1;have h2:=HN.out.2;omega) (blk_lt J66.out) HLT.out.1 HLT.out.2.1 HLT.out.2.2.1 HLT.out.2.2.2⟩
theorem sub_new_nil{B:Nat}{s0 s1:Int}{tv lv jvs rv cv:Value}{J:List (Jb × Value)}{L:List Nat}{c:Cm}{r:Rest}{t:Int}(hB:w.heap[B]?=some (.cells (bdA s0 s1 tv lv jvs rv (.map none)) 88 (0,0)))(hJ0:J=[])(hJ:w.ownsRow 0 66 22 jvs J.length (J.flatMap jrow))(hr:RunL w rv L)(hc:Reads (fun k=>k=B\/jvs.ownBlock=some k\/RunBlk rv k\/(Value.map none)=.map (some k)) w fun V=>Lr colE 7 V c.ddl.cols cv)(hz:c.ddl.cols.length<=1000000)(hJz:J.length<=100000)(hLz:L.length<=100000)(ht:TdOk c.asker)(hnew:(J.map Prod.fst).findIdx? (fun x=>decide (x.asker=c.asker))=none)(hp:¬ pathP c.ddl.kind false=[])(hmy:L.length<4):Calls Tryz.prog 28 #[.pointer (some ⟨B,0,none⟩),.int .i64 t,.agg (cmA c r cv)] w (SubAns w B s0 s1 tv lv jvs rv (.map none) J (L ++ [J.length]) ⟨(J.length:Int)+1,c.call,c.asker,c.ddl,0,false,false,⟨#[]⟩,0,0⟩):=by
 obtain⟨ja,jc,rfl⟩:=own_shape hJ;obtain⟨ra,rc,rfl,hr0⟩:=hr;have hr:RunL w (.slice ra L.length rc) L:=⟨ra,rc,rfl,hr0⟩
 clear hr0;obtain⟨ca,cc,rfl,hc0⟩:=hc.now;clear hc0;obtain⟨W,hW⟩:∃ W,W=(w.alloc (.cells (cmA c r (.slice ca c.ddl.cols.length cc)) 48)).alloc (.cells zR 53):=⟨_,rfl⟩
 have hb:=bw2 hW;obtain⟨Y5,hY5⟩:∃ Q,w.heap.size=Q:=⟨_,rfl⟩
 obtain⟨Y6,hY6⟩:∃ Q,Y5+1=Q:=⟨_,rfl⟩
 have j5:W.heap[Y5]?=some (.cells (cmA c r (.slice ca c.ddl.cols.length cc)) 48 (0,0)):=nw21 hW hY5;have j6:W.heap[Y6]?=some (.cells zR 53 (0,0)):=nw22 hW hY5 hY6;have HJ:=lh (And.intro j5 j6);have HN:Hid (w.heap.size=Y5/\Y5+1=Y6):=lh ⟨hY5,hY6⟩;have HW:=lh hW;have HB:=lh hb;have hrd:W.rangeAt Y5 15 (ddA c.ddl (.slice ca c.ddl.cols.length cc)).toList:=range_part (range_blk j5) 15 11;have hld:(Instr.loadAt 45 (.pointer (some ⟨Y5,15,none⟩))).run Tryz.prog W=.ok (.agg (ddA c.ddl (.slice ca c.ddl.cols.length cc))) W:=run_loadAt_mid W Y5 15 45 ((ddA c.ddl (.slice ca c.ddl.cols.length cc)).toList) _ hrd Tryz.underlying45 rfl size45;have HLD:=lh hld;have HRD:=lh hrd;have hpa:=path_any W (ddA c.ddl (.slice ca c.ddl.cols.length cc)) c.ddl.kind false rfl;have hlp:(pathP c.ddl.kind false).length<=5:=by
  unfold pathP onP backP
  repeat' split
  all_goals simp
 have HBW:=lh ((hb.block B (blk_lt hB)).trans hB);have HTD:=lh ht;have HLT:Hid (B<w.heap.size/\(∀ k,(Value.slice ja J.length jc).ownBlock=some k->k<w.heap.size)/\(∀ k,RunBlk (.slice ra L.length rc) k->k<w.heap.size)/\∀ k,(.map none)=Value.map (some k)->k<w.heap.size):=lh ⟨blk_lt hB,own_lt hJ,fun k hk=>run_lt hr hk,fun k hk=>by cases hk⟩;have HBO:=lh hB;have HJO:=lh hJ;have HRO:=lh hr;have HCR:=lh hc;have HCZ:=lh hz;have HJZ:Hid (J.length<=100000/\L.length<=100000):=lh ⟨hJz,hLz⟩;have HNEW:=lh hnew;have HMY:=lh hmy;have HJ0:=lh hJ0;clear hW hb hY5 hY6 j5 j6 hrd hld ht hB hJ hr hc hz hJz hLz hnew hmy hJ0;obtain⟨cs,hcs⟩:∃ cs,cmA c r (.slice ca c.ddl.cols.length cc)=cs:=⟨_,rfl⟩
 have HCS:=lh hcs;rw [hcs]at HW HJ ⊢;clear hcs;obtain⟨ds,hds⟩:∃ ds,ddA c.ddl (.slice ca c.ddl.cols.length cc)=ds:=⟨_,rfl⟩
 have HDS:=lh hds;rw [hds]at HLD HRD hpa;clear hds;obtain⟨pl,hpl⟩:∃ pl,(pathP c.ddl.kind false).length=pl:=⟨_,rfl⟩
 have q0:¬ (pl:Int)=0:=fun q=>hp (List.length_eq_zero_iff.1 (by omega));have hpb:Calls Tryz.prog 64 #[.agg ds,.bool false] W fun e w'=>∃ ad cap,e=.returned (.slice ad pl cap)/\Below W.heap.size W w':=hpa.mono fun e w' ⟨ad,cap,h1,_,h3⟩=>⟨ad,cap,by rw [h1,hpl],h3⟩
 have q1:(pl:Int)<=9223372036854775807:=by omega
 clear hpa hp hpl;go_enter Tryz.func28,Tryz.ntmps28;go_upto_region 1 with fail
 rw [<-HW.out,HN.out.1,HN.out.2];go_upto_region 3 with (first|(go_at_call 64;refine hpb.mono ?_;rintro e v1 ⟨ad,cap,rfl,b1⟩;have B1:=lh b1;have BB:=lh (bgo HB.out b1);clear hpb b1)|(refine wpl_load _ rfl (by simp [Act.eval]) HLD.out ?_))
 have BV:=lh ((B1.out.block B (blk_lt HBW.out)).trans HBW.out);have J5V:=lh ((B1.out.block Y5 (blk_lt HJ.out.1)).trans HJ.out.1);have J6V:=lh ((B1.out.block Y6 (blk_lt HJ.out.2)).trans HJ.out.2);have RTD:Hid (v1.rangeAt Y5 1 (tdL c.asker)):=lh (range_on B1.out (by have:=range_part (range_blk HJ.out.1) 1 3;rw [<-HCS.out]at this;exact this));refine wp_region_fb (fun _ X9=>Below v1.heap.size v1 X9) (fun X9 X8=>Below X9.heap.size X9 X8) [
  fun v9 _=>v9=.pointer (some ⟨B,0,none⟩),fun v9 _=>v9=.pointer (some ⟨B,0,none⟩),fun v9 _=>v9=.pointer (some ⟨B,6,none⟩),fun v9 _=>v9=.map none,fun v9 _=>v9=.pointer (some ⟨Y5,1,none⟩),fun v9 _=>v9=tdV c.asker,fun v9 _=>v9=.tuple #[.int .i64 0,.bool false],fun v9 _=>v9=.tuple #[.int .i64 0,.bool false],fun v9 _=>v9=.int .i64 0,fun v9 _=>v9=.bool false,fun v9 _=>v9=.int .i64 0,fun v9 _=>v9=.bool false]
  (by kernel_rfl) (by kernel_rfl) (by kernel_rfl) ?st ?g0 ?os ?en
 case st=>
  iterate 12 refine⟨fun _ _ _ _ h=>h,?_⟩
  exact trivial
 case g0=>exact⟨rfl,rfl,rfl,Nat.le_refl _,fun _ _=>rfl⟩
 case os =>
  refine⟨?_,?_,?_,?_,?_,?_,?_,?_,?_,?_,?_,?_,trivial⟩
  all_goals intro ρ X9 fl hg hn hl hp ho hc hf hr
  ·exact rvq (op_move (show ρ (.tmp 0)=.pointer (some ⟨B,0,none⟩)from ho 0 rfl)) ⟨hg,Below.refl _ _,rfl⟩
  ·exact rvq (op_nil (show ρ (.tmp 17)=.pointer (some ⟨B,0,none⟩)from hr 0 17 rfl rfl)) ⟨hg,Below.refl _ _,rfl⟩
  ·exact rvq (op_f88_4 (show ρ (.tmp 18)=.pointer (some ⟨B,0,none⟩)from hr 1 18 rfl rfl)) ⟨hg,Below.refl _ _,rfl⟩
  ·exact rvq (op_load86 (show ρ (.tmp 19)=.pointer (some ⟨B,6,none⟩)from hr 2 19 rfl rfl) (cell_on hg (cell_blk BV.out 6))) ⟨hg,Below.refl _ _,rfl⟩
  ·exact rvq (op_f48_1 (show ρ (.tmp 5)=.pointer (some ⟨Y5,0,none⟩)from ho 5 rfl)) ⟨hg,Below.refl _ _,rfl⟩
  ·exact rvq (op_loadAt (show ρ (.tmp 21)=.pointer (some ⟨Y5,1,none⟩)from hr 4 21 rfl rfl) (run_loadAt_mid X9 Y5 1 38 (tdL c.asker) _ (range_on hg RTD.out) Tryz.underlying38 rfl size38)) ⟨hg,Below.refl _ _,rfl⟩
  ·exact rvq (op_lookup86 (show ρ (.tmp 20)=.map none from hr 3 20 rfl rfl) (show ρ (.tmp 22)=tdV c.asker from hr 5 22 rfl rfl) look_nil) ⟨hg,Below.refl _ _,rfl⟩
  ·exact rvq (op_move (show ρ (.tmp 23)=.tuple #[.int .i64 0,.bool false]from hr 6 23 rfl rfl)) ⟨hg,Below.refl _ _,rfl⟩
  ·exact rvq (op_extract0 (show ρ (.tmp 16)=.tuple #[.int .i64 0,.bool false]from hr 7 16 rfl rfl)) ⟨hg,Below.refl _ _,rfl⟩
  ·exact rvq (op_extract1 (show ρ (.tmp 16)=.tuple #[.int .i64 0,.bool false]from hr 7 16 rfl rfl)) ⟨hg,Below.refl _ _,rfl⟩
  ·exact rvq (op_assign (show ρ (.tmp 24)=.int .i64 0 from hr 8 24 rfl rfl)) ⟨hg,Below.refl _ _,rfl⟩
  ·exact rvq (op_assign (show ρ (.tmp 25)=.bool false from hr 9 25 rfl rfl)) ⟨hg,Below.refl _ _,rfl⟩
 case en =>
  intro a9 v3 fl hfl b6 hs9 hd9 ho9 hr9;obtain⟨x9,hx,hxt⟩:=act_put hs9 hd9 ho9;have xk7:x9 7=.int .i64 0:=(hxt 7).symm.trans (hr9 10 7 rfl);have xk8:x9 8=.bool false:=(hxt 8).symm.trans (hr9 11 8 rfl);change a9=putAll _ x9 [17,18,19,20,21,22,23,16,24,25,7,8]at hx;simp only [putAll,Act.put,List.setIfInBounds_toArray,List.set_cons_zero,List.set_cons_succ,xk7,xk8]at hx;subst hx;clear hs9 hd9 ho9 hr9 hfl xk7 xk8;generalize x9 17=z17,x9 18=z18,x9 19=z19,x9 20=z20,x9 21=z21,x9 22=z22,x9 23=z23,x9 16=z16,x9 24=z24,x9 25=z25;have B3:=lh (bgo BB.out b6);have BV3:=lh ((b6.block B (blk_lt BV.out)).trans BV.out);have J53:=lh ((b6.block Y5 (blk_lt J5V.out)).trans J5V.out);have J63:=lh ((b6.block Y6 (blk_lt J6V.out)).trans J6V.out);have R3:=lh (range_on b6 RTD.out);have RD3:=lh (range_on (bgo B1.out b6) HRD.out);have C14:Hid (v3.cell? ⟨Y5,14,none⟩=some (.int .i64 c.call)):=lh (by have:=cell_blk J53.out 14;rw [this,<-HCS.out];rfl);have JLN:Hid ((J.length:Int)+1<=9223372036854775807∧-9223372036854775808<=(J.length:Int)+1):=lh (by have:=HJZ.out.1;omega);clear b6;go_upto_region 6 with fail
  refine wp_region_gs (fun fl r X9=>Ch2 (fun X=>Below v3.heap.size v3 X) (Box1 v3 66 22) (Box2 v3 66 (jbA (⟨(J.length:Int)+1,c.call,c.asker,c.ddl,0,false,false,⟨#[]⟩,0,0⟩:Jb) (.slice ca c.ddl.cols.length cc))) (fl 13) (fl 14) (r 9) X9) (fun _ _=>True) [
   fun v9 _=>v9=.pointer (some ⟨B,0,none⟩),fun v9 _=>v9=.pointer (some ⟨B,0,none⟩),fun v9 _=>v9=.pointer (some ⟨B,4,none⟩),fun v9 _=>v9=(.slice ja J.length jc),fun v9 _=>v9=.int .i64 (J.length:Int),fun v9 _=>v9=.int .i64 ((J.length:Int)+1),fun v9 _=>v9=.pointer (some ⟨Y5,14,none⟩),fun v9 _=>v9=.int .i64 c.call,fun v9 _=>v9=.pointer (some ⟨Y5,1,none⟩),fun v9 _=>v9=tdV c.asker,fun v9 _=>v9=.pointer (some ⟨Y5,15,none⟩),fun v9 _=>v9=.agg (ddA c.ddl (.slice ca c.ddl.cols.length cc)),fun v9 _=>v9=.agg (jbA (⟨(J.length:Int)+1,c.call,c.asker,c.ddl,0,false,false,⟨#[]⟩,0,0⟩:Jb) (.slice ca c.ddl.cols.length cc)),fun _ _=>True,fun _ _=>True]
   (by kernel_rfl) (by kernel_rfl) (by kernel_rfl) ?st ?g0 ?os ?en
  case st=>
   iterate 15 refine⟨fun _ _ _ _ h=>h,?_⟩
   exact trivial
  case g0=>exact(show Below _ _ _ from⟨rfl,rfl,rfl,Nat.le_refl _,fun _ _=>rfl⟩)
  case os =>
   refine⟨?_,?_,?_,?_,?_,?_,?_,?_,?_,?_,?_,?_,?_,?_,?_,trivial⟩
   all_goals intro ρ X9 fl hg hn hl hp ho hc hf hr
   ·exact rvq (op_move (show ρ (.tmp 0)=.pointer (some ⟨B,0,none⟩)from ho 0 rfl)) ⟨fun r9 h1 h2=>Ch2.same hg rfl rfl (h1 9 (by decide)),trivial,rfl⟩
   ·exact rvq (op_nil (show ρ (.tmp 29)=.pointer (some ⟨B,0,none⟩)from hr 0 29 rfl rfl)) ⟨fun r9 h1 h2=>Ch2.same hg rfl rfl (h1 9 (by decide)),trivial,rfl⟩
   ·exact rvq (op_f88_2 (show ρ (.tmp 30)=.pointer (some ⟨B,0,none⟩)from hr 1 30 rfl rfl)) ⟨fun r9 h1 h2=>Ch2.same hg rfl rfl (h1 9 (by decide)),trivial,rfl⟩
   ·have b9:Below v3.heap.size v3 X9:=by
     have hg:Ch2 _ _ _ (fl 13) (fl 14) (ρ (.tmp 9)) X9:=hg;cases e1:fl 13 <;> cases e2:fl 14 <;> rw [e1,e2]at hg
     ·exact(show Below _ _ _ from hg)
     ·exact Box2.b hg
     ·exact Box1.b hg
     ·exact Box2.b hg
    exact rvq (op_load32 (show ρ (.tmp 31)=.pointer (some ⟨B,4,none⟩)from hr 2 31 rfl rfl) (cell_on b9 (cell_blk BV3.out 4))) ⟨fun r9 h1 h2=>Ch2.same hg rfl rfl (h1 9 (by decide)),trivial,rfl⟩
   ·exact rvq (op_len32 (show ρ (.tmp 32)=(.slice ja J.length jc)from hr 3 32 rfl rfl)) ⟨fun r9 h1 h2=>Ch2.same hg rfl rfl (h1 9 (by decide)),trivial,rfl⟩
   ·exact rvq (op_add3c (show ρ (.tmp 33)=.int .i64 (J.length:Int)from hr 4 33 rfl rfl) (hc _) JLN.out.2 JLN.out.1) ⟨fun r9 h1 h2=>Ch2.same hg rfl rfl (h1 9 (by decide)),trivial,rfl⟩
   ·exact rvq (op_f48_10 (show ρ (.tmp 5)=.pointer (some ⟨Y5,0,none⟩)from ho 5 rfl)) ⟨fun r9 h1 h2=>Ch2.same hg rfl rfl (h1 9 (by decide)),trivial,rfl⟩
   ·have b9:Below v3.heap.size v3 X9:=by
     have hg:Ch2 _ _ _ (fl 13) (fl 14) (ρ (.tmp 9)) X9:=hg;cases e1:fl 13 <;> cases e2:fl 14 <;> rw [e1,e2]at hg
     ·exact(show Below _ _ _ from hg)
     ·exact Box2.b hg
     ·exact Box1.b hg
     ·exact Box2.b hg
    exact rvq (op_load3 (show ρ (.tmp 35)=.pointer (some ⟨Y5,14,none⟩)from hr 6 35 rfl rfl) (cell_on b9 C14.out)) ⟨fun r9 h1 h2=>Ch2.same hg rfl rfl (h1 9 (by decide)),trivial,rfl⟩
   ·exact rvq (op_f48_1 (show ρ (.tmp 5)=.pointer (some ⟨Y5,0,none⟩)from ho 5 rfl)) ⟨fun r9 h1 h2=>Ch2.same hg rfl rfl (h1 9 (by decide)),trivial,rfl⟩
   ·have b9:Below v3.heap.size v3 X9:=by
     have hg:Ch2 _ _ _ (fl 13) (fl 14) (ρ (.tmp 9)) X9:=hg;cases e1:fl 13 <;> cases e2:fl 14 <;> rw [e1,e2]at hg
     ·exact(show Below _ _ _ from hg)
     ·exact Box2.b hg
     ·exact Box1.b hg
     ·exact Box2.b hg
    exact rvq (op_loadAt (show ρ (.tmp 37)=.pointer (some ⟨Y5,1,none⟩)from hr 8 37 rfl rfl) (run_loadAt_mid X9 Y5 1 38 (tdL c.asker) _ (range_on b9 R3.out) Tryz.underlying38 rfl size38)) ⟨fun r9 h1 h2=>Ch2.same hg rfl rfl (h1 9 (by decide)),trivial,rfl⟩
   ·exact rvq (op_f48_11 (show ρ (.tmp 5)=.pointer (some ⟨Y5,0,none⟩)from ho 5 rfl)) ⟨fun r9 h1 h2=>Ch2.same hg rfl rfl (h1 9 (by decide)),trivial,rfl⟩
   ·have b9:Below v3.heap.size v3 X9:=by
     have hg:Ch2 _ _ _ (fl 13) (fl 14) (ρ (.tmp 9)) X9:=hg;cases e1:fl 13 <;> cases e2:fl 14 <;> rw [e1,e2]at hg
     ·exact(show Below _ _ _ from hg)
     ·exact Box2.b hg
     ·exact Box1.b hg
     ·exact Box2.b hg
    exact rvq (op_loadAt (show ρ (.tmp 39)=.pointer (some ⟨Y5,15,none⟩)from hr 10 39 rfl rfl) (run_loadAt_mid X9 Y5 15 45 ((ddA c.ddl (.slice ca c.ddl.cols.length cc)).toList) _ (by rw [HDS.out];exact range_on b9 RD3.out) Tryz.underlying45 rfl size45)) ⟨fun r9 h1 h2=>Ch2.same hg rfl rfl (h1 9 (by decide)),trivial,rfl⟩
   ·exact rvq (op_b66 (show ρ (.tmp 34)=.int .i64 ((J.length:Int)+1)from hr 5 34 rfl rfl) (show ρ (.tmp 36)=.int .i64 c.call from hr 7 36 rfl rfl) (show ρ (.tmp 38)=tdV c.asker from hr 9 38 rfl rfl) (show ρ (.tmp 40)=.agg (ddA c.ddl (.slice ca c.ddl.cols.length cc))from hr 11 40 rfl rfl)) ⟨fun r9 h1 h2=>Ch2.same hg rfl rfl (h1 9 (by decide)),trivial,rfl⟩
   ·have hg:Ch2 _ _ _ (fl 13) (fl 14) ((fun t=>ρ (.tmp t)) 9) X9:=hg;have f09:fl 13=false:=hn;have f19:fl 14=false:=(show fl 14=false from by cases q9:fl 14 with | false=>rfl | true=>exact absurd (hl 14 _ 13 rfl (by kernel_rfl) q9) (by rw [hn];decide))
    rw [f09,f19]at hg;have hA:(fun X=>Below v3.heap.size v3 X)  X9:=hg;refine(rvq op_alloc66 ⟨fun r9 h1 h2=>?_,trivial,trivial⟩);show Ch2 _ _ _ true (fl 14) (r9 9) _
    rw [f19,h2 9 rfl];exact⟨X9.heap.size,_,rfl,hA.size,heap_alloc_new X9 _,rfl,bgo hA (bnew _ _)⟩
   ·have hg:Ch2 _ _ _ (fl 13) (fl 14) ((fun t=>ρ (.tmp t)) 9) X9:=hg;have f09:fl 13=true:=hp 13 (by kernel_rfl);have f19:fl 14=false:=hn;rw [f09,f19]at hg;have hA:(Box1 v3 66 22) (ρ (.tmp 9)) X9:=hg;obtain⟨Y,z,e8,hY,hzz,hn3,hb9⟩:=hA;obtain⟨X',hst,j',f'⟩:=st_row hzz (us:=(jbA (⟨(J.length:Int)+1,c.call,c.asker,c.ddl,0,false,false,⟨#[]⟩,0,0⟩:Jb) (.slice ca c.ddl.cols.length cc))) (by rw [hn3];rfl) size66 (by simp [Value.oneCell']);refine .inl ⟨rfl,Runs.skips (op_storeAt e8 (show ρ (.tmp 41)=.agg (jbA (⟨(J.length:Int)+1,c.call,c.asker,c.ddl,0,false,false,⟨#[]⟩,0,0⟩:Jb) (.slice ca c.ddl.cols.length cc))from hr 12 41 rfl rfl) hst) ⟨fun r9 h1 h2=>?_,trivial,trivial⟩⟩;show Ch2 _ _ _ (fl 13) true (r9 9) X'
    rw [f09,h1 9 (by decide)];exact⟨Y,e8,hY,j',hb9.trans (f'.toBelow (fun k hk q=>by omega) hb9.size)⟩
  case en =>
   intro a9 v4 fl hfl hG9 hs9 hd9 ho9 hr9;obtain⟨x9,hx,hxt⟩:=act_put hs9 hd9 ho9;have hG9:Ch2 _ _ _ (fl 13) (fl 14) ((fun t=>a9.tmps.getD t undef) 9) v4:=hG9;rw [hfl 13 (by decide),hfl 14 (by decide)]at hG9;have hG9:(Box2 v3 66 (jbA (⟨(J.length:Int)+1,c.call,c.asker,c.ddl,0,false,false,⟨#[]⟩,0,0⟩:Jb) (.slice ca c.ddl.cols.length cc))) (a9.tmps.getD 9 undef) v4:=hG9;rw [show a9.tmps.getD 9 undef=x9 9 from hxt 9]at hG9;change a9=putAll _ x9 [29,30,31,32,33,34,35,36,37,38,39,40,41,9]at hx;simp only [putAll,Act.put,List.setIfInBounds_toArray,List.set_cons_zero,List.set_cons_succ]at hx;subst hx;clear hs9 hd9 ho9 hr9 hfl hxt;generalize x9 29=z29,x9 30=z30,x9 31=z31,x9 32=z32,x9 33=z33,x9 34=z34,x9 35=z35,x9 36=z36,x9 37=z37,x9 38=z38,x9 39=z39,x9 40=z40,x9 41=z41,x9 9=z9 at hG9 ⊢;obtain⟨Y9,rfl,hY9,j9,b4⟩:=hG9;have B4:=lh (bgo B3.out b4);have J64:=lh ((b4.block Y6 (blk_lt J63.out)).trans J63.out);have BV4:=lh ((b4.block B (blk_lt BV3.out)).trans BV3.out);have H9:=lh (Nat.le_trans B3.out.size hY9);have H96:Hid (Y6≠Y9):=lh (by have:=blk_lt J63.out;omega);have J9:=lh j9;have c5:v4.cell? ⟨B,5,none⟩=some (.slice ra L.length rc):=cell_blk BV4.out 5;have q3:(L.length:Int)<=9223372036854775807:=by have:=HJZ.out;omega
   have q4:¬ (4:Int)<=(L.length:Int):=by have:=HMY.out;omega
   clear j9 b4 hY9;have J9X:=lh J9.out;have B6:=lh B4.out;have J66:=lh J64.out;have HLJ:=lh (load_row J9X.out Tryz.underlying66 rfl size66);have hent:=ent_nil_run (j:=(⟨(J.length:Int)+1,c.call,c.asker,c.ddl,0,false,false,⟨#[]⟩,0,0⟩:Jb)) (cv:=(.slice ca c.ddl.cols.length cc)) (L:=L) (J:=J) ((B6.out.block B HLT.out.1).trans HBO.out) HJ0.out (own_below HJO.out B6.out) (HRO.out.stays fun k hk=>B6.out.block k (HLT.out.2.2.1 k hk)) (HCR.out.below B6.out) HCZ.out HJZ.out.1 HJZ.out.2 HTD.out rfl HNEW.out rfl;obtain⟨js9,hjs9⟩:∃ js9,jbA (⟨(J.length:Int)+1,c.call,c.asker,c.ddl,0,false,false,⟨#[]⟩,0,0⟩:Jb) (.slice ca c.ddl.cols.length cc)=js9:=⟨_,rfl⟩
   rw [hjs9]at hent HLJ;clear hjs9;go_wp2_with (first|(go_at_call 50;refine hent.mono ?_;rintro e w9 hE9;have e9:=hE9.1;subst e9;have c90:w9.cell? ⟨Y9,0,none⟩=some (.int .i64 ((J.length:Int)+1)):=(cell_like (hE9.frame Y9 (blk_lt J9X.out) (by have:=H9.out;have:=HLT.out;omega) (fun k hk=>by have:=HLT.out.2.1 k hk;have:=H9.out;omega) (fun k hk=>by have:=HLT.out.2.2.1 k hk;have:=H9.out;omega) (fun k hk=>by have:=HLT.out.2.2.2 k hk;have:=H9.out;omega)) 0).trans (cell_blk J9X.out 0);have j6:=(hE9.frame Y6 (blk_lt J66.out) (by have:=HN.out;have:=HLT.out;omega) (fun k hk=>by have:=HLT.out.2.1 k hk;have:=HN.out;omega) (fun k hk=>by have:=HLT.out.2.2.1 k hk;have:=HN.out;omega) (fun k hk=>by have:=HLT.out.2.2.2 k hk;have:=HN.out;omega)).trans J66.out;obtain⟨X',hst,j',f'⟩:=st_row j6 (us:=rsA ⟨0,0,0,(J.length:Int)+1,true⟩) rfl size53 (by simp [Value.oneCell']);have HS:=lh hst;have HX:=lh (And.intro j' (And.intro f' hE9));clear hent j6 hst j' f' hE9)|(refine wpl_load _ rfl (by simp [Act.eval]) HLJ.out ?_)|(refine wpl_store _ _ rfl (by simp [Act.eval]) (by simp [Act.eval]) HS.out ?_))
   refine bodyPost_ret (results_one rfl rfl (load_var HX.out.1 Tryz.underlying53 rfl size53)) rfl ?_;exact⟨rfl,HX.out.2.2.lift B6.out HX.out.2.1 (show w.heap.size<=Y6 from by have h1:=HN.out.1;have h2:=HN.out.2;omega) (blk_lt J66.out) HLT.out.1 HLT.out.2.1 HLT.out.2.2.1 HLT.out.2.2.2⟩
end
end Go.Proofs.YtkhehikaemdnnaaGreat
