import Derived.Test.YtkhehikaemdnnaaGreatQLh
import Derived.Test.YtkhehikaemdnnaaGreatQLi
import Derived.Test.YtkhehikaemdnnaaGreatQLd0
namespace Go.Proofs.YtkhehikaemdnnaaGreat
set_option maxRecDepth 100000
set_option maxHeartbeats 8000000
open Go.RowKit Go.Maps
section
variable {ρ : Operand -> Value} {X : World} {d : Option Tmp} {ty : TypeId} {ps : String} {af : Array Edge} {g : Option (Nat × Bool)}
theorem op_alloc66:(execOp ρ ⟨d,.alloc 66,ty,ps,af,g⟩).run Tryz.prog X=.ok (.value (.pointer (some ⟨X.heap.size,0,none⟩))) (X.alloc (.cells zJ 66)):=by
 simp only [execOp]
 go_simp
theorem op_b66{x y z u:Operand}{n m:Int}{t:Td}{dd:Dd}{a:Option Addr}{k l:Nat}(e0:ρ x=.int .i64 n)(e1:ρ y=.int .i64 m)(e2:ρ z=tdV t)(e3:ρ u=.agg (ddA dd (.slice a k l))):(execOp ρ ⟨d,.build 66 #[(0,x),(1,y),(2,z),(3,u)],ty,ps,af,g⟩).run Tryz.prog X=.ok (.value (.agg (jbA ⟨n,m,t,dd,0,false,false,⟨#[]⟩,0,0⟩ (.slice a k l)))) X:=by
 simp only [execOp];simp [e0,e1,e2,e3]
 go_simp
theorem op_lookup86{x y:Operand}{v1 v2 v':Value}(e:ρ x=v1)(e2:ρ y=v2)(h:(Instr.lookup 86 v1 v2 true).run Tryz.prog X=.ok v' X):(execOp ρ ⟨d,.lookup 86 x y true,ty,ps,af,g⟩).run Tryz.prog X=.ok (.value v') X:=by
 simp only [execOp,e,e2];simp [h]
end
theorem zero3(w:World):(zeroValue 3).run Tryz.prog w=.ok (.int .i64 0) w:=by kernel_rfl
theorem look_nil{w:World}{t:Td}:(Instr.lookup 86 (.map none) (tdV t) true).run Tryz.prog w=.ok (.tuple #[.int .i64 0,.bool false]) w:=by
 kernel_rfl
theorem EntAns.lift{w X w9 w':World}{B Y:Nat}{s0 s1:Int}{tv lv jvs rv mv:Value}{J:List (Jb × Value)}{RX:List Nat}{j:Jb}{e:Ending}(h:EntAns X B s0 s1 tv lv jvs rv mv J RX j e w9)(hb:Below w.heap.size w X)(hf:Fr w9 w' (fun k=>k=Y))(hY:w.heap.size<=Y)(hX:Y<X.heap.size)(hB:B<w.heap.size)(hj:∀ k,jvs.ownBlock=some k->k<w.heap.size)(hr:∀ k,RunBlk rv k->k<w.heap.size)(hm:∀ m,mv=.map (some m)->m<w.heap.size):EntAns w B s0 s1 tv lv jvs rv mv J RX j e w':=by
 obtain⟨h0,jvs',rv',mv',cv',h1,h2,h3,h4,h5,h6,h7,h8,h9⟩:=h;have hs:=hb.size;have h9s:=h9.size;refine⟨h0,jvs',rv',mv',cv',(hf.block B (by omega) (fun q=>by have q':B=Y:=q;omega)).trans h1,h2.like fun m hmm=>hf.block m (h2.lt m hmm) (fun q=>by
  have q':m=Y:=q;rcases h8 m hmm with q2 | q2
  ·have:=hm m q2;omega
  ·omega),own_blk h3 fun g hg hl=>hf.block g hl (fun q=>by
  have q':g=Y:=q;rcases h6 g hg with q2 | q2
  ·have:=hj g q2;omega
  ·omega),h4.stays fun k hk=>hf.block k (run_lt h4 hk) (fun q=>by
  have q':k=Y:=q;rcases h7 k hk with q2 | q2
  ·have:=hr k q2;omega
  ·omega),own_mono (own_blk h5 fun g hg hl=>hf.block g hl (fun q=>by
  have q':g=Y:=q;rcases h5.2 with q3 | ⟨g',cap,cur,hv,h0,_⟩
  ·rw [q3.1]at hg;cases hg
  ·rw [hv]at hg;have e:g'=g:=by simpa [Value.ownBlock]using hg
   omega)) hs,fun k hk=>orm (h6 k hk) id fun q=>Nat.le_trans hs q,fun k hk=>orm (h7 k hk) id fun q=>Nat.le_trans hs q,fun m hmm=>orm (h8 m hmm) id fun q=>Nat.le_trans hs q,((Fr.ofBelow _ hb).trans h9).step hf (fun k q=>.inr (by have q':k=Y:=q;omega))⟩
theorem EntAns.frame{w w':World}{B:Nat}{s0 s1:Int}{tv lv jvs rv mv:Value}{J:List (Jb × Value)}{RX:List Nat}{j:Jb}{e:Ending}(h:EntAns w B s0 s1 tv lv jvs rv mv J RX j e w')(Y:Nat)(hY:Y<w.heap.size)(hB:Y≠B)(hj:∀ k,jvs.ownBlock=some k->k≠Y)(hr:∀ k,RunBlk rv k->k≠Y)(hm:∀ k,mv=.map (some k)->k≠Y):w'.heap[Y]?=w.heap[Y]?:=by
 obtain⟨_,_,_,_,_,_,_,_,_,_,_,_,_,hf⟩:=h;refine hf.block Y hY fun q=>?_;rcases q with q | q | q | q
 ·exact hB q
 ·exact hj Y q rfl
 ·exact hr Y q rfl
 ·exact hm Y q rfl
section
variable {w : World}
def SubAns(w:World)(B:Nat)(s0 s1:Int)(tv lv jvs rv mv:Value)(J:List (Jb × Value))(RX:List Nat)(j:Jb)(e:Ending)(w':World):Prop:=e=.returned (.agg (rsA ⟨0,0,0,(J.length:Int)+1,true⟩))/\EntAns w B s0 s1 tv lv jvs rv mv J RX j (.returned (.tuple #[])) w'
def SubOld(w:World)(n:Int)(e:Ending)(w':World):Prop:=e=.returned (.agg (rsA ⟨0,0,0,n,false⟩))/\Below w.heap.size w w'
theorem sub_bad{B:Nat}{c:Cm}{r:Rest}{t:Int}{ca:Option Addr}{cc:Nat}(hp:pathP c.ddl.kind false=[]):Calls Tryz.prog 28 #[.pointer (some ⟨B,0,none⟩),.int .i64 t,.agg (cmA c r (.slice ca c.ddl.cols.length cc))] w (AdvNo w 1):=by
 obtain⟨W,hW⟩:∃ W,W=(w.alloc (.cells (cmA c r (.slice ca c.ddl.cols.length cc)) 48)).alloc (.cells zR 53):=⟨_,rfl⟩
 have hb:=bw2 hW;obtain⟨Y5,hY5⟩:∃ Q,w.heap.size=Q:=⟨_,rfl⟩
 obtain⟨Y6,hY6⟩:∃ Q,Y5+1=Q:=⟨_,rfl⟩
 have j5:W.heap[Y5]?=some (.cells (cmA c r (.slice ca c.ddl.cols.length cc)) 48 (0,0)):=nw21 hW hY5;have j6:W.heap[Y6]?=some (.cells zR 53 (0,0)):=nw22 hW hY5 hY6;have HJ:=lh (And.intro j5 j6);have HN:Hid (w.heap.size=Y5/\Y5+1=Y6):=lh ⟨hY5,hY6⟩;have HW:=lh hW;have HB:=lh hb;have hrd:W.rangeAt Y5 15 (ddA c.ddl (.slice ca c.ddl.cols.length cc)).toList:=range_part (range_blk j5) 15 11;have hld:(Instr.loadAt 45 (.pointer (some ⟨Y5,15,none⟩))).run Tryz.prog W=.ok (.agg (ddA c.ddl (.slice ca c.ddl.cols.length cc))) W:=run_loadAt_mid W Y5 15 45 ((ddA c.ddl (.slice ca c.ddl.cols.length cc)).toList) _ hrd Tryz.underlying45 rfl size45;have HLD:=lh hld;have HRD:=lh hrd;have hpa:=path_any W (ddA c.ddl (.slice ca c.ddl.cols.length cc)) c.ddl.kind false rfl;have hlp:(pathP c.ddl.kind false).length<=5:=by
  unfold pathP onP backP
  repeat' split
  all_goals simp
 clear hW hb hY5 hY6 j5 j6 hrd hld;obtain⟨cs,hcs⟩:∃ cs,cmA c r (.slice ca c.ddl.cols.length cc)=cs:=⟨_,rfl⟩
 have HCS:=lh hcs;rw [hcs]at HW HJ ⊢;clear hcs;obtain⟨ds,hds⟩:∃ ds,ddA c.ddl (.slice ca c.ddl.cols.length cc)=ds:=⟨_,rfl⟩
 have HDS:=lh hds;rw [hds]at HLD HRD hpa;clear hds;rw [hp]at hpa;clear hp;go_enter Tryz.func28,Tryz.ntmps28;go_upto_region 1 with fail
 rw [<-HW.out,HN.out.1,HN.out.2];go_wp2_with (first|(go_at_call 64;refine hpa.mono ?_;rintro e w1 ⟨ad,cap,rfl,_,b1⟩;have BB:=lh (bgo HB.out b1);have j6:=(b1.block Y6 (blk_lt HJ.out.2)).trans HJ.out.2;obtain⟨X',hst,j',f'⟩:=st_row j6 (us:=rsA (rsE 1)) rfl size53 (by simp [Value.oneCell']);have HS:=lh hst;have HX:=lh (And.intro j' f');clear hpa j6 hst j' f' b1)|(refine wpl_load _ rfl (by simp [Act.eval]) HLD.out ?_)|(refine wpl_store _ _ rfl (by simp [Act.eval]) (by simp [Act.eval]) HS.out ?_))
 refine bodyPost_ret (results_one rfl rfl (load_var HX.out.1 Tryz.underlying53 rfl size53)) rfl ?_;exact⟨rfl,BB.out.trans (HX.out.2.toBelow (fun k hk q=>by have h1:=HN.out.1;have h2:=HN.out.2;omega) BB.out.size)⟩
theorem sub_old{B m n:Nat}{s0 s1:Int}{tv lv jvs rv:Value}{js:List Jb}{c:Cm}{r:Rest}{t:Int}{ca:Option Addr}{cc i:Nat}(hB:w.heap[B]?=some (.cells (bdA s0 s1 tv lv jvs rv (.map (some m))) 88 (0,0)))(hM:Mt w m n (idOf js))(ht:TdOk c.asker)(hp:¬ pathP c.ddl.kind false=[])(hi:idOf js c.asker=some (.int .i64 ((i:Int)+1))):Calls Tryz.prog 28 #[.pointer (some ⟨B,0,none⟩),.int .i64 t,.agg (cmA c r (.slice ca c.ddl.cols.length cc))] w (SubOld w ((i:Int)+1)):=by
 obtain⟨W,hW⟩:∃ W,W=(w.alloc (.cells (cmA c r (.slice ca c.ddl.cols.length cc)) 48)).alloc (.cells zR 53):=⟨_,rfl⟩
 have hb:=bw2 hW;obtain⟨Y5,hY5⟩:∃ Q,w.heap.size=Q:=⟨_,rfl⟩
 obtain⟨Y6,hY6⟩:∃ Q,Y5+1=Q:=⟨_,rfl⟩
 have j5:W.heap[Y5]?=some (.cells (cmA c r (.slice ca c.ddl.cols.length cc)) 48 (0,0)):=nw21 hW hY5;have j6:W.heap[Y6]?=some (.cells zR 53 (0,0)):=nw22 hW hY5 hY6;have HJ:=lh (And.intro j5 j6);have HN:Hid (w.heap.size=Y5/\Y5+1=Y6):=lh ⟨hY5,hY6⟩;have HW:=lh hW;have HB:=lh hb;have hrd:W.rangeAt Y5 15 (ddA c.ddl (.slice ca c.ddl.cols.length cc)).toList:=range_part (range_blk j5) 15 11;have hld:(Instr.loadAt 45 (.pointer (some ⟨Y5,15,none⟩))).run Tryz.prog W=.ok (.agg (ddA c.ddl (.slice ca c.ddl.cols.length cc))) W:=run_loadAt_mid W Y5 15 45 ((ddA c.ddl (.slice ca c.ddl.cols.length cc)).toList) _ hrd Tryz.underlying45 rfl size45;have HLD:=lh hld;have HRD:=lh hrd;have hpa:=path_any W (ddA c.ddl (.slice ca c.ddl.cols.length cc)) c.ddl.kind false rfl;have hlp:(pathP c.ddl.kind false).length<=5:=by
  unfold pathP onP backP
  repeat' split
  all_goals simp
 have HBW:=lh ((hb.block B (blk_lt hB)).trans hB);have HTD:=lh ht;have HMW:=lh (hM.on hb);have HI:=lh hi;clear hW hb hY5 hY6 j5 j6 hrd hld ht hM hi hB;obtain⟨cs,hcs⟩:∃ cs,cmA c r (.slice ca c.ddl.cols.length cc)=cs:=⟨_,rfl⟩
 have HCS:=lh hcs;rw [hcs]at HW HJ ⊢;clear hcs;obtain⟨ds,hds⟩:∃ ds,ddA c.ddl (.slice ca c.ddl.cols.length cc)=ds:=⟨_,rfl⟩
 have HDS:=lh hds;rw [hds]at HLD HRD hpa;clear hds;obtain⟨pl,hpl⟩:∃ pl,(pathP c.ddl.kind false).length=pl:=⟨_,rfl⟩
 have q0:¬ (pl:Int)=0:=fun q=>hp (List.length_eq_zero_iff.1 (by omega));have hpb:Calls Tryz.prog 64 #[.agg ds,.bool false] W fun e w'=>∃ ad cap,e=.returned (.slice ad pl cap)/\Below W.heap.size W w':=hpa.mono fun e w' ⟨ad,cap,h1,_,h3⟩=>⟨ad,cap,by rw [h1,hpl],h3⟩
 have q1:(pl:Int)<=9223372036854775807:=by omega
 clear hpa hp hpl;go_enter Tryz.func28,Tryz.ntmps28;go_upto_region 1 with fail
 rw [<-HW.out,HN.out.1,HN.out.2];go_upto_region 3 with (first|(go_at_call 64;refine hpb.mono ?_;rintro e v1 ⟨ad,cap,rfl,b1⟩;have B1:=lh b1;have BB:=lh (bgo HB.out b1);clear hpb b1)|(refine wpl_load _ rfl (by simp [Act.eval]) HLD.out ?_))
 have BV:=lh ((B1.out.block B (blk_lt HBW.out)).trans HBW.out);have J5V:=lh ((B1.out.block Y5 (blk_lt HJ.out.1)).trans HJ.out.1);have J6V:=lh ((B1.out.block Y6 (blk_lt HJ.out.2)).trans HJ.out.2);have RTD:Hid (v1.rangeAt Y5 1 (tdL c.asker)):=lh (range_on B1.out (by have:=range_part (range_blk HJ.out.1) 1 3;rw [<-HCS.out]at this;exact this));refine wp_region_fb (fun _ X9=>Below v1.heap.size v1 X9) (fun X9 X8=>Below X9.heap.size X9 X8) [
  fun v9 _=>v9=.pointer (some ⟨B,0,none⟩),fun v9 _=>v9=.pointer (some ⟨B,0,none⟩),fun v9 _=>v9=.pointer (some ⟨B,6,none⟩),fun v9 _=>v9=.map (some m),fun v9 _=>v9=.pointer (some ⟨Y5,1,none⟩),fun v9 _=>v9=tdV c.asker,fun v9 _=>v9=.tuple #[.int .i64 ((i:Int)+1),.bool true],fun v9 _=>v9=.tuple #[.int .i64 ((i:Int)+1),.bool true],fun v9 _=>v9=.int .i64 ((i:Int)+1),fun v9 _=>v9=.bool true,fun v9 _=>v9=.int .i64 ((i:Int)+1),fun v9 _=>v9=.bool true]
  (by kernel_rfl) (by kernel_rfl) (by kernel_rfl) ?st ?g0 ?os ?en
 case st=>
  iterate 12 refine⟨fun _ _ _ _ h=>h,?_⟩
  exact trivial
 case g0=>exact⟨rfl,rfl,rfl,Nat.le_refl _,fun _ _=>rfl⟩
 case os =>
  refine⟨?_,?_,?_,?_,?_,?_,?_,?_,?_,?_,?_,?_,trivial⟩
  all_goals intro ρ X9 fl hg hn hl hp ho hc hf hr
  ·exact rvq (op_move (show ρ (.tmp 0)=.pointer (some ⟨B,0,none⟩)from ho 0 rfl)) ⟨hg,Below.refl _ _,rfl⟩
  ·exact rvq (op_nil (show ρ (.tmp 17)=.pointer (some ⟨B,0,none⟩)from hr 0 17 rfl rfl)) ⟨hg,Below.refl _ _,rfl⟩
  ·exact rvq (op_f88_4 (show ρ (.tmp 18)=.pointer (some ⟨B,0,none⟩)from hr 1 18 rfl rfl)) ⟨hg,Below.refl _ _,rfl⟩
  ·exact rvq (op_load86 (show ρ (.tmp 19)=.pointer (some ⟨B,6,none⟩)from hr 2 19 rfl rfl) (cell_on hg (cell_blk BV.out 6))) ⟨hg,Below.refl _ _,rfl⟩
  ·exact rvq (op_f48_1 (show ρ (.tmp 5)=.pointer (some ⟨Y5,0,none⟩)from ho 5 rfl)) ⟨hg,Below.refl _ _,rfl⟩
  ·exact rvq (op_loadAt (show ρ (.tmp 21)=.pointer (some ⟨Y5,1,none⟩)from hr 4 21 rfl rfl) (run_loadAt_mid X9 Y5 1 38 (tdL c.asker) _ (range_on hg RTD.out) Tryz.underlying38 rfl size38)) ⟨hg,Below.refl _ _,rfl⟩
  ·exact rvq (op_lookup86 (show ρ (.tmp 20)=.map (some m)from hr 3 20 rfl rfl) (show ρ (.tmp 22)=tdV c.asker from hr 5 22 rfl rfl) (by have h9:=(HMW.out.on (bgo B1.out hg)).look (T:=86) Tryz.underlying86 (zero3 X9) HTD.out;rw [HI.out]at h9;exact h9)) ⟨hg,Below.refl _ _,rfl⟩
  ·exact rvq (op_move (show ρ (.tmp 23)=.tuple #[.int .i64 ((i:Int)+1),.bool true]from hr 6 23 rfl rfl)) ⟨hg,Below.refl _ _,rfl⟩
  ·exact rvq (op_extract0 (show ρ (.tmp 16)=.tuple #[.int .i64 ((i:Int)+1),.bool true]from hr 7 16 rfl rfl)) ⟨hg,Below.refl _ _,rfl⟩
  ·exact rvq (op_extract1 (show ρ (.tmp 16)=.tuple #[.int .i64 ((i:Int)+1),.bool true]from hr 7 16 rfl rfl)) ⟨hg,Below.refl _ _,rfl⟩
  ·exact rvq (op_assign (show ρ (.tmp 24)=.int .i64 ((i:Int)+1)from hr 8 24 rfl rfl)) ⟨hg,Below.refl _ _,rfl⟩
  ·exact rvq (op_assign (show ρ (.tmp 25)=.bool true from hr 9 25 rfl rfl)) ⟨hg,Below.refl _ _,rfl⟩
 case en =>
  intro a9 v3 fl hfl b6 hs9 hd9 ho9 hr9;obtain⟨x9,hx,hxt⟩:=act_put hs9 hd9 ho9;have xk7:x9 7=.int .i64 ((i:Int)+1):=(hxt 7).symm.trans (hr9 10 7 rfl);have xk8:x9 8=.bool true:=(hxt 8).symm.trans (hr9 11 8 rfl);change a9=putAll _ x9 [17,18,19,20,21,22,23,16,24,25,7,8]at hx;simp only [putAll,Act.put,List.setIfInBounds_toArray,List.set_cons_zero,List.set_cons_succ,xk7,xk8]at hx;subst hx;clear hs9 hd9 ho9 hr9 hfl xk7 xk8;generalize x9 17=z17,x9 18=z18,x9 19=z19,x9 20=z20,x9 21=z21,x9 22=z22,x9 23=z23,x9 16=z16,x9 24=z24,x9 25=z25;have BV3:=lh (bgo BB.out b6);obtain⟨X',hst,j',f'⟩:=st_row ((b6.block Y6 (blk_lt J6V.out)).trans J6V.out) (us:=rsA ⟨0,0,0,(i:Int)+1,false⟩) rfl size53 (by simp [Value.oneCell']);have HS:=lh hst;have HX:=lh (And.intro j' f');clear hst j' f' b6;go_wp2_with (refine wpl_store _ _ rfl (by simp [Act.eval]) (by simp [Act.eval]) HS.out ?_)
  refine bodyPost_ret (results_one rfl rfl (load_var HX.out.1 Tryz.underlying53 rfl size53)) rfl ?_;exact⟨rfl,BV3.out.trans (HX.out.2.toBelow (fun k hk q=>by have h1:=HN.out.1;have h2:=HN.out.2;omega) BV3.out.size)⟩
end
end Go.Proofs.YtkhehikaemdnnaaGreat
