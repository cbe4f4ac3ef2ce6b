import Derived.Test.YtkhehikaemdnnaaGreatQLd0
namespace Go.Proofs.YtkhehikaemdnnaaGreat
set_option maxRecDepth 100000
set_option maxHeartbeats 16000000
open Go.RowKit
section
variable {w : World}
theorem adv_A2{B jb o p:Nat}{c:Cm}{r:Rest}{cv jv lv tv jvs rv mv:Value}{t:Int}{j:Jb}{s:Sc}(hh:TurnIs w B c r cv [1,2,3] (.pointer (some ⟨jb,o,none⟩)))(hB:w.heap[B]?=some (.cells (bdA s.ver s.last tv lv jvs rv mv) 88 (0,0)))(h:JobAt w jb o j jv)(hp:j.phase=(p:Int))(hlt:p<j.path.length)(hm:j.move.1=2)(hdr:j.drain=false):Calls Tryz.prog 30 #[.pointer (some ⟨B,0,none⟩),.int .i64 t,.agg (cmA c r cv)] w (AdvNo w 160):=by
 obtain⟨W,hW⟩:∃ W,W=(w.alloc (.cells (cmA c r cv) 48)).alloc (.cells zR 53):=⟨_,rfl⟩
 have hb:=bw2 hW;obtain⟨Y5,hY5⟩:∃ Q,w.heap.size=Q:=⟨_,rfl⟩
 obtain⟨Y6,hY6⟩:∃ Q,Y5+1=Q:=⟨_,rfl⟩
 have j5:W.heap[Y5]?=some (.cells (cmA c r cv) 48 (0,0)):=nw21 hW hY5;have j6:W.heap[Y6]?=some (.cells zR 53 (0,0)):=nw22 hW hY5 hY6;have hld:(Instr.loadAt 48 (.pointer (some ⟨Y5,0,none⟩))).run Tryz.prog W=.ok (.agg (cmA c r cv)) W:=load_row j5 Tryz.underlying48 rfl size48;have hbX:Below w.heap.size w (W.alloc (.cells #[.int .i64 1,.int .i64 2,.int .i64 3] 3)):=hb.alloc hb.size _;have hc:=hh (W.alloc (.cells #[.int .i64 1,.int .i64 2,.int .i64 3] 3)) hbX (.slice (some ⟨W.heap.size,0,none⟩) 3 3) (ints_new3 W);have HJ:=lh (And.intro j5 j6);have HN:Hid (w.heap.size=Y5/\Y5+1=Y6):=lh ⟨hY5,hY6⟩;have HW:=lh hW;have HB:=lh hb;have HLD:=lh hld;have HBB:=lh hB;have HJA:=lh h;have HPP:=lh hp;have HLT:=lh hlt;have HMV:=lh hm;have HDR:=lh hdr;clear hh hW hb hY5 hY6 j5 j6 hld hbX hB h hp hlt hm hdr;obtain⟨cs,hcs⟩:∃ cs,cmA c r cv=cs:=⟨_,rfl⟩
 rw [hcs]at HW HLD HJ hc ⊢;clear hcs;obtain⟨m2,hm2⟩:∃ m2,j.move.2=m2:=⟨_,rfl⟩
 have HM2:=lh hm2;clear hm2;go_enter Tryz.func30,Tryz.ntmps30;go_upto_region 1 with fail
 rw [<-HW.out,HN.out.1,HN.out.2];go_upto_region 4 with (first|(go_at_call 65;refine hc.mono ?_;rintro e v6 ⟨rfl,b6⟩;have B6:=lh (bgo (bnew W _) b6);have BB:=lh (bgo HB.out B6.out);have J6:=lh ((B6.out.block Y6 (blk_lt HJ.out.2)).trans HJ.out.2);clear b6 hc)|(refine wpl_load _ rfl (by simp [Act.eval]) HLD.out ?_))
 have JBV:=lh ((BB.out.block B (blk_lt HBB.out)).trans HBB.out);have CB:=lh (show v6.cell? ⟨B,0,none⟩=some (.int .i64 s.ver)from cell_blk JBV.out 0);have hmv:=HMV.out;have hm2:=HM2.out;refine wp_region_gs (fun fl r X9=>Ch2 (fun X=>Below v6.heap.size v6 X) (Box1 v6 74 2) (Box2 v6 74 #[.int .i64 2,.int .i64 m2]) (fl 7) (fl 8) (r 8) X9) (fun _ _=>True) [
  fun v9 _=>v9=.pointer (some ⟨jb,o,none⟩),fun v9 _=>v9=.agg #[.int .i64 2,.int .i64 m2],fun v9 _=>v9=.pointer (some ⟨B,0,none⟩),fun v9 _=>v9=.pointer (some ⟨B,0,none⟩),fun v9 _=>v9=.pointer (some ⟨B,0,none⟩),fun v9 _=>v9=.pointer (some ⟨B,0,none⟩),fun v9 _=>v9=.int .i64 s.ver,fun _ _=>True,fun _ _=>True,fun v9 _=>v9=.int .i64 s.ver]
  (by kernel_rfl) (by kernel_rfl) (by kernel_rfl) ?st ?g0 ?os ?en
 case st=>
  iterate 10 refine⟨fun _ _ _ _ h=>h,?_⟩
  exact trivial
 case g0=>exact(show Below _ _ _ from⟨rfl,rfl,rfl,Nat.le_refl _,fun _ _=>rfl⟩)
 case os =>
  refine⟨?_,?_,?_,?_,?_,?_,?_,?_,?_,?_,trivial⟩
  all_goals intro ρ X9 fl hg hn hl hp ho hc hf hr
  ·exact rvq (op_move (show ρ (.tmp 7)=.pointer (some ⟨jb,o,none⟩)from ho 7 rfl)) ⟨fun r9 h1 h2=>Ch2.same hg rfl rfl (h1 8 (by decide)),trivial,rfl⟩
  ·have b9:Below v6.heap.size v6 X9:=by
    have hg:Ch2 _ _ _ (fl 7) (fl 8) (ρ (.tmp 8)) X9:=hg;cases e1:fl 7 <;> cases e2:fl 8 <;> rw [e1,e2]at hg
    ·exact(show Below _ _ _ from hg)
    ·exact Box2.b hg
    ·exact Box1.b hg
    ·exact Box2.b hg
   have hmj:=move_job (range_on (bgo BB.out b9) HJA.out) HPP.out HLT.out;rw [hmv,hm2]at hmj;refine .inl ⟨rfl,Runs.goes 54 #[.pointer (some ⟨jb,o,none⟩)] (op_call1 hf (by go_simp) (show ρ (.tmp 19)=.pointer (some ⟨jb,o,none⟩)from hr 0 19 rfl rfl)) (hmj.mono ?_)⟩;rintro e7 w7 ⟨rfl,b7⟩;exact⟨_,rfl,fun r9 h1 h2=>Ch2.turn hg (fun q=>bgo q b7) (fun q=>q.go b7) (fun q=>q.go b7) rfl rfl (h1 8 (by decide)),trivial,rfl⟩
  ·exact rvq (op_move (show ρ (.tmp 0)=.pointer (some ⟨B,0,none⟩)from ho 0 rfl)) ⟨fun r9 h1 h2=>Ch2.same hg rfl rfl (h1 8 (by decide)),trivial,rfl⟩
  ·exact rvq (op_nil (show ρ (.tmp 21)=.pointer (some ⟨B,0,none⟩)from hr 2 21 rfl rfl)) ⟨fun r9 h1 h2=>Ch2.same hg rfl rfl (h1 8 (by decide)),trivial,rfl⟩
  ·exact rvq (op_f88_0 (show ρ (.tmp 22)=.pointer (some ⟨B,0,none⟩)from hr 3 22 rfl rfl)) ⟨fun r9 h1 h2=>Ch2.same hg rfl rfl (h1 8 (by decide)),trivial,rfl⟩
  ·exact rvq (op_f30_0 (show ρ (.tmp 23)=.pointer (some ⟨B,0,none⟩)from hr 4 23 rfl rfl)) ⟨fun r9 h1 h2=>Ch2.same hg rfl rfl (h1 8 (by decide)),trivial,rfl⟩
  ·have b9:Below v6.heap.size v6 X9:=by
    have hg:Ch2 _ _ _ (fl 7) (fl 8) (ρ (.tmp 8)) X9:=hg;cases e1:fl 7 <;> cases e2:fl 8 <;> rw [e1,e2]at hg
    ·exact(show Below _ _ _ from hg)
    ·exact Box2.b hg
    ·exact Box1.b hg
    ·exact Box2.b hg
   exact rvq (op_load3 (show ρ (.tmp 24)=.pointer (some ⟨B,0,none⟩)from hr 5 24 rfl rfl) (cell_on b9 CB.out)) ⟨fun r9 h1 h2=>Ch2.same hg rfl rfl (h1 8 (by decide)),trivial,rfl⟩
  ·have hg:Ch2 _ _ _ (fl 7) (fl 8) ((fun t=>ρ (.tmp t)) 8) X9:=hg;have f09:fl 7=false:=hn;have f19:fl 8=false:=(show fl 8=false from by cases q9:fl 8 with | false=>rfl | true=>exact absurd (hl 8 _ 7 rfl (by kernel_rfl) q9) (by rw [hn];decide))
   rw [f09,f19]at hg;have hA:(fun X=>Below v6.heap.size v6 X)  X9:=hg;refine(rvq op_alloc74 ⟨fun r9 h1 h2=>?_,trivial,trivial⟩);show Ch2 _ _ _ true (fl 8) (r9 8) _
   rw [f19,h2 8 rfl];exact⟨X9.heap.size,_,rfl,hA.size,heap_alloc_new X9 _,rfl,bgo hA (bnew _ _)⟩
  ·have hg:Ch2 _ _ _ (fl 7) (fl 8) ((fun t=>ρ (.tmp t)) 8) X9:=hg;have f09:fl 7=true:=hp 7 (by kernel_rfl);have f19:fl 8=false:=hn;rw [f09,f19]at hg;have hA:(Box1 v6 74 2) (ρ (.tmp 8)) X9:=hg;obtain⟨Y,z,e8,hY,hzz,hn3,hb9⟩:=hA;obtain⟨X',hst,j',f'⟩:=st_row hzz (us:=#[.int .i64 2,.int .i64 m2]) (by rw [hn3];rfl) size74 (by simp [Value.oneCell']);refine .inl ⟨rfl,Runs.skips (op_storeAt e8 (show ρ (.tmp 20)=.agg #[.int .i64 2,.int .i64 m2]from hr 1 20 rfl rfl) hst) ⟨fun r9 h1 h2=>?_,trivial,trivial⟩⟩;show Ch2 _ _ _ (fl 7) true (r9 8) X'
   rw [f09,h1 8 (by decide)];exact⟨Y,e8,hY,j',hb9.trans (f'.toBelow (fun k hk q=>by omega) hb9.size)⟩
  ·exact rvq (op_assign (show ρ (.tmp 25)=.int .i64 s.ver from hr 6 25 rfl rfl)) ⟨fun r9 h1 h2=>Ch2.same hg rfl rfl (h1 8 (by decide)),trivial,rfl⟩
 case en =>
  intro a9 w4 fl hfl hG9 hs9 hd9 ho9 hr9;obtain⟨x9,hx,hxt⟩:=act_put hs9 hd9 ho9;have hG9:Ch2 _ _ _ (fl 7) (fl 8) ((fun t=>a9.tmps.getD t undef) 8) w4:=hG9;rw [hfl 7 (by decide),hfl 8 (by decide)]at hG9;have hG9:(Box2 v6 74 #[.int .i64 2,.int .i64 m2]) (a9.tmps.getD 8 undef) w4:=hG9;have xk9:x9 9=.int .i64 s.ver:=(hxt 9).symm.trans (hr9 9 9 rfl);rw [show a9.tmps.getD 8 undef=x9 8 from hxt 8]at hG9;change a9=putAll _ x9 [19,20,21,22,23,24,25,8,9]at hx;simp only [putAll,Act.put,List.setIfInBounds_toArray,List.set_cons_zero,List.set_cons_succ,xk9]at hx;subst hx;clear hs9 hd9 ho9 hr9 hfl hxt xk9;generalize x9 19=z19,x9 20=z20,x9 21=z21,x9 22=z22,x9 23=z23,x9 24=z24,x9 25=z25,x9 8=z8 at hG9 ⊢;obtain⟨Y8,rfl,hY8,j8,b8⟩:=hG9;have HB8:=lh (bgo BB.out b8);have J8:=lh j8;have c80:w4.cell? ⟨Y8,0,none⟩=some (.int .i64 2):=cell_blk j8 0;have H80:=lh c80;have JB4:=lh ((b8.block B (blk_lt JBV.out)).trans JBV.out);have J46:=lh ((b8.block Y6 (blk_lt J6.out)).trans J6.out);have H8:=lh (Nat.le_trans BB.out.size hY8);clear j8 b8 hY8 hmv;have c18:w4.cell? ⟨jb,o+18,none⟩=some (.bool false):=by
   have:=range_on HB8.out HJA.out 18 _ rfl;rw [HDR.out]at this;exact this
  obtain⟨X',hst,j',f'⟩:=st_row J46.out (us:=rsA (rsE 160)) rfl size53 (by simp [Value.oneCell']);have HS:=lh hst;have HX:=lh (And.intro j' f');clear hst j' f';go_wp2_with (refine wpl_store _ _ rfl (by simp [Act.eval]) (by simp [Act.eval]) HS.out ?_)
  refine bodyPost_ret (results_one rfl rfl (load_var HX.out.1 Tryz.underlying53 rfl size53)) rfl ?_;exact⟨rfl,HB8.out.trans (HX.out.2.toBelow (fun k hk q=>by have h1:=HN.out.1;have h2:=HN.out.2;omega) HB8.out.size)⟩
theorem adv_B1{B jb o p:Nat}{c:Cm}{r:Rest}{cv jv lv tv jvs rv mv:Value}{t:Int}{j:Jb}{s:Sc}{L:List Le}(hh:TurnIs w B c r cv [1,2,3] (.pointer (some ⟨jb,o,none⟩)))(hB:w.heap[B]?=some (.cells (bdA s.ver s.last tv lv jvs rv mv) 88 (0,0)))(h:JobAt w jb o j jv)(hp:j.phase=(p:Int))(hlt:p<j.path.length)(hm:j.move.1=1)(hl:Lr leE 3 w L lv)(ht:At t)(hk:LeOk L)(hv:I64 s.ver/\s.ver+1<=9223372036854775807)(hcl:(L.all fun l=>!(decide (l.ver<s.ver) && forceB t l))=false):Calls Tryz.prog 30 #[.pointer (some ⟨B,0,none⟩),.int .i64 t,.agg (cmA c r cv)] w (AdvNo w 161):=by
 obtain⟨la,lc,rfl,hl0⟩:=hl;have hl:Lr leE 3 w L (.slice la L.length lc):=⟨la,lc,rfl,hl0⟩
 clear hl0;obtain⟨W,hW⟩:∃ W,W=(w.alloc (.cells (cmA c r cv) 48)).alloc (.cells zR 53):=⟨_,rfl⟩
 have hb:=bw2 hW;obtain⟨Y5,hY5⟩:∃ Q,w.heap.size=Q:=⟨_,rfl⟩
 obtain⟨Y6,hY6⟩:∃ Q,Y5+1=Q:=⟨_,rfl⟩
 have j5:W.heap[Y5]?=some (.cells (cmA c r cv) 48 (0,0)):=nw21 hW hY5;have j6:W.heap[Y6]?=some (.cells zR 53 (0,0)):=nw22 hW hY5 hY6;have hld:(Instr.loadAt 48 (.pointer (some ⟨Y5,0,none⟩))).run Tryz.prog W=.ok (.agg (cmA c r cv)) W:=load_row j5 Tryz.underlying48 rfl size48;have hbX:Below w.heap.size w (W.alloc (.cells #[.int .i64 1,.int .i64 2,.int .i64 3] 3)):=hb.alloc hb.size _;have hc:=hh (W.alloc (.cells #[.int .i64 1,.int .i64 2,.int .i64 3] 3)) hbX (.slice (some ⟨W.heap.size,0,none⟩) 3 3) (ints_new3 W);have HJ:=lh (And.intro j5 j6);have HN:Hid (w.heap.size=Y5/\Y5+1=Y6):=lh ⟨hY5,hY6⟩;have HW:=lh hW;have HB:=lh hb;have HLD:=lh hld;have HBB:=lh hB;have HJA:=lh h;have HPP:=lh hp;have HLT:=lh hlt;have HMV:=lh hm;have HL:=lh hl;have HAT:=lh ht;have HLK:=lh hk;have HVR:=lh hv;have HCL:=lh hcl;clear hh hW hb hY5 hY6 j5 j6 hld hbX hB h hp hlt hm hl ht hk hv hcl;obtain⟨cs,hcs⟩:∃ cs,cmA c r cv=cs:=⟨_,rfl⟩
 rw [hcs]at HW HLD HJ hc ⊢;clear hcs;obtain⟨m2,hm2⟩:∃ m2,j.move.2=m2:=⟨_,rfl⟩
 have HM2:=lh hm2;clear hm2;go_enter Tryz.func30,Tryz.ntmps30;go_upto_region 1 with fail
 rw [<-HW.out,HN.out.1,HN.out.2];go_upto_region 4 with (first|(go_at_call 65;refine hc.mono ?_;rintro e v6 ⟨rfl,b6⟩;have B6:=lh (bgo (bnew W _) b6);have BB:=lh (bgo HB.out B6.out);have J6:=lh ((B6.out.block Y6 (blk_lt HJ.out.2)).trans HJ.out.2);clear b6 hc)|(refine wpl_load _ rfl (by simp [Act.eval]) HLD.out ?_))
 have JBV:=lh ((BB.out.block B (blk_lt HBB.out)).trans HBB.out);have CB:=lh (show v6.cell? ⟨B,0,none⟩=some (.int .i64 s.ver)from cell_blk JBV.out 0);have hmv:=HMV.out;have hm2:=HM2.out;refine wp_region_gs (fun fl r X9=>Ch2 (fun X=>Below v6.heap.size v6 X) (Box1 v6 74 2) (Box2 v6 74 #[.int .i64 1,.int .i64 m2]) (fl 7) (fl 8) (r 8) X9) (fun _ _=>True) [
  fun v9 _=>v9=.pointer (some ⟨jb,o,none⟩),fun v9 _=>v9=.agg #[.int .i64 1,.int .i64 m2],fun v9 _=>v9=.pointer (some ⟨B,0,none⟩),fun v9 _=>v9=.pointer (some ⟨B,0,none⟩),fun v9 _=>v9=.pointer (some ⟨B,0,none⟩),fun v9 _=>v9=.pointer (some ⟨B,0,none⟩),fun v9 _=>v9=.int .i64 s.ver,fun _ _=>True,fun _ _=>True,fun v9 _=>v9=.int .i64 s.ver]
  (by kernel_rfl) (by kernel_rfl) (by kernel_rfl) ?st ?g0 ?os ?en
 case st=>
  iterate 10 refine⟨fun _ _ _ _ h=>h,?_⟩
  exact trivial
 case g0=>exact(show Below _ _ _ from⟨rfl,rfl,rfl,Nat.le_refl _,fun _ _=>rfl⟩)
 case os =>
  refine⟨?_,?_,?_,?_,?_,?_,?_,?_,?_,?_,trivial⟩
  all_goals intro ρ X9 fl hg hn hl hp ho hc hf hr
  ·exact rvq (op_move (show ρ (.tmp 7)=.pointer (some ⟨jb,o,none⟩)from ho 7 rfl)) ⟨fun r9 h1 h2=>Ch2.same hg rfl rfl (h1 8 (by decide)),trivial,rfl⟩
  ·have b9:Below v6.heap.size v6 X9:=by
    have hg:Ch2 _ _ _ (fl 7) (fl 8) (ρ (.tmp 8)) X9:=hg;cases e1:fl 7 <;> cases e2:fl 8 <;> rw [e1,e2]at hg
    ·exact(show Below _ _ _ from hg)
    ·exact Box2.b hg
    ·exact Box1.b hg
    ·exact Box2.b hg
   have hmj:=move_job (range_on (bgo BB.out b9) HJA.out) HPP.out HLT.out;rw [hmv,hm2]at hmj;refine .inl ⟨rfl,Runs.goes 54 #[.pointer (some ⟨jb,o,none⟩)] (op_call1 hf (by go_simp) (show ρ (.tmp 19)=.pointer (some ⟨jb,o,none⟩)from hr 0 19 rfl rfl)) (hmj.mono ?_)⟩;rintro e7 w7 ⟨rfl,b7⟩;exact⟨_,rfl,fun r9 h1 h2=>Ch2.turn hg (fun q=>bgo q b7) (fun q=>q.go b7) (fun q=>q.go b7) rfl rfl (h1 8 (by decide)),trivial,rfl⟩
  ·exact rvq (op_move (show ρ (.tmp 0)=.pointer (some ⟨B,0,none⟩)from ho 0 rfl)) ⟨fun r9 h1 h2=>Ch2.same hg rfl rfl (h1 8 (by decide)),trivial,rfl⟩
  ·exact rvq (op_nil (show ρ (.tmp 21)=.pointer (some ⟨B,0,none⟩)from hr 2 21 rfl rfl)) ⟨fun r9 h1 h2=>Ch2.same hg rfl rfl (h1 8 (by decide)),trivial,rfl⟩
  ·exact rvq (op_f88_0 (show ρ (.tmp 22)=.pointer (some ⟨B,0,none⟩)from hr 3 22 rfl rfl)) ⟨fun r9 h1 h2=>Ch2.same hg rfl rfl (h1 8 (by decide)),trivial,rfl⟩
  ·exact rvq (op_f30_0 (show ρ (.tmp 23)=.pointer (some ⟨B,0,none⟩)from hr 4 23 rfl rfl)) ⟨fun r9 h1 h2=>Ch2.same hg rfl rfl (h1 8 (by decide)),trivial,rfl⟩
  ·have b9:Below v6.heap.size v6 X9:=by
    have hg:Ch2 _ _ _ (fl 7) (fl 8) (ρ (.tmp 8)) X9:=hg;cases e1:fl 7 <;> cases e2:fl 8 <;> rw [e1,e2]at hg
    ·exact(show Below _ _ _ from hg)
    ·exact Box2.b hg
    ·exact Box1.b hg
    ·exact Box2.b hg
   exact rvq (op_load3 (show ρ (.tmp 24)=.pointer (some ⟨B,0,none⟩)from hr 5 24 rfl rfl) (cell_on b9 CB.out)) ⟨fun r9 h1 h2=>Ch2.same hg rfl rfl (h1 8 (by decide)),trivial,rfl⟩
  ·have hg:Ch2 _ _ _ (fl 7) (fl 8) ((fun t=>ρ (.tmp t)) 8) X9:=hg;have f09:fl 7=false:=hn;have f19:fl 8=false:=(show fl 8=false from by cases q9:fl 8 with | false=>rfl | true=>exact absurd (hl 8 _ 7 rfl (by kernel_rfl) q9) (by rw [hn];decide))
   rw [f09,f19]at hg;have hA:(fun X=>Below v6.heap.size v6 X)  X9:=hg;refine(rvq op_alloc74 ⟨fun r9 h1 h2=>?_,trivial,trivial⟩);show Ch2 _ _ _ true (fl 8) (r9 8) _
   rw [f19,h2 8 rfl];exact⟨X9.heap.size,_,rfl,hA.size,heap_alloc_new X9 _,rfl,bgo hA (bnew _ _)⟩
  ·have hg:Ch2 _ _ _ (fl 7) (fl 8) ((fun t=>ρ (.tmp t)) 8) X9:=hg;have f09:fl 7=true:=hp 7 (by kernel_rfl);have f19:fl 8=false:=hn;rw [f09,f19]at hg;have hA:(Box1 v6 74 2) (ρ (.tmp 8)) X9:=hg;obtain⟨Y,z,e8,hY,hzz,hn3,hb9⟩:=hA;obtain⟨X',hst,j',f'⟩:=st_row hzz (us:=#[.int .i64 1,.int .i64 m2]) (by rw [hn3];rfl) size74 (by simp [Value.oneCell']);refine .inl ⟨rfl,Runs.skips (op_storeAt e8 (show ρ (.tmp 20)=.agg #[.int .i64 1,.int .i64 m2]from hr 1 20 rfl rfl) hst) ⟨fun r9 h1 h2=>?_,trivial,trivial⟩⟩;show Ch2 _ _ _ (fl 7) true (r9 8) X'
   rw [f09,h1 8 (by decide)];exact⟨Y,e8,hY,j',hb9.trans (f'.toBelow (fun k hk q=>by omega) hb9.size)⟩
  ·exact rvq (op_assign (show ρ (.tmp 25)=.int .i64 s.ver from hr 6 25 rfl rfl)) ⟨fun r9 h1 h2=>Ch2.same hg rfl rfl (h1 8 (by decide)),trivial,rfl⟩
 case en =>
  intro a9 w4 fl hfl hG9 hs9 hd9 ho9 hr9;obtain⟨x9,hx,hxt⟩:=act_put hs9 hd9 ho9;have hG9:Ch2 _ _ _ (fl 7) (fl 8) ((fun t=>a9.tmps.getD t undef) 8) w4:=hG9;rw [hfl 7 (by decide),hfl 8 (by decide)]at hG9;have hG9:(Box2 v6 74 #[.int .i64 1,.int .i64 m2]) (a9.tmps.getD 8 undef) w4:=hG9;have xk9:x9 9=.int .i64 s.ver:=(hxt 9).symm.trans (hr9 9 9 rfl);rw [show a9.tmps.getD 8 undef=x9 8 from hxt 8]at hG9;change a9=putAll _ x9 [19,20,21,22,23,24,25,8,9]at hx;simp only [putAll,Act.put,List.setIfInBounds_toArray,List.set_cons_zero,List.set_cons_succ,xk9]at hx;subst hx;clear hs9 hd9 ho9 hr9 hfl hxt xk9;generalize x9 19=z19,x9 20=z20,x9 21=z21,x9 22=z22,x9 23=z23,x9 24=z24,x9 25=z25,x9 8=z8 at hG9 ⊢;obtain⟨Y8,rfl,hY8,j8,b8⟩:=hG9;have HB8:=lh (bgo BB.out b8);have J8:=lh j8;have c80:w4.cell? ⟨Y8,0,none⟩=some (.int .i64 1):=cell_blk j8 0;have H80:=lh c80;have JB4:=lh ((b8.block B (blk_lt JBV.out)).trans JBV.out);have J46:=lh ((b8.block Y6 (blk_lt J6.out)).trans J6.out);have H8:=lh (Nat.le_trans BB.out.size hY8);clear j8 b8 hY8 hmv;have hcl9:=clear_any (t:=t) (below:=s.ver) JB4.out (HL.out.on leE_held HB8.out) HAT.out HLK.out;rw [HCL.out]at hcl9;have q1:-9223372036854775808<=s.ver:=by have h1:=HVR.out;unfold I64 at h1;omega
  have q2:s.ver+1<=9223372036854775807:=by have h1:=HVR.out;omega
  have q3:-9223372036854775808<=s.ver+1:=by omega
  go_wp2_with (first|(go_at_call 16;refine hcl9.mono ?_;rintro e w5 ⟨rfl,b5⟩;have B5:=lh (bgo HB8.out b5);obtain⟨X',hst,j',f'⟩:=st_row ((b5.block Y6 (blk_lt J46.out)).trans J46.out) (us:=rsA (rsE 161)) rfl size53 (by simp [Value.oneCell']);have HS:=lh hst;have HX:=lh (And.intro j' f');clear b5 hst j' f' hcl9)|(refine wpl_store _ _ rfl (by simp [Act.eval]) (by simp [Act.eval]) HS.out ?_))
  refine bodyPost_ret (results_one rfl rfl (load_var HX.out.1 Tryz.underlying53 rfl size53)) rfl ?_;exact⟨rfl,B5.out.trans (HX.out.2.toBelow (fun k hk q=>by have h1:=HN.out.1;have h2:=HN.out.2;omega) B5.out.size)⟩
theorem adv_B2{B jb o p:Nat}{c:Cm}{r:Rest}{cv jv lv tv jvs rv mv:Value}{t:Int}{j:Jb}{s:Sc}{L:List Le}(hh:TurnIs w B c r cv [1,2,3] (.pointer (some ⟨jb,o,none⟩)))(hB:w.heap[B]?=some (.cells (bdA s.ver s.last tv lv jvs rv mv) 88 (0,0)))(h:JobAt w jb o j jv)(hp:j.phase=(p:Int))(hlt:p<j.path.length)(hm:j.move.1=2)(hdr:j.drain=true)(hl:Lr leE 3 w L lv)(ht:At t)(hk:LeOk L)(hv:I64 s.ver/\s.ver+1<=9223372036854775807)(hcl:(L.all fun l=>!(decide (l.ver<(s.ver+1)) && forceB t l))=false):Calls Tryz.prog 30 #[.pointer (some ⟨B,0,none⟩),.int .i64 t,.agg (cmA c r cv)] w (AdvNo w 161):=by
 obtain⟨la,lc,rfl,hl0⟩:=hl;have hl:Lr leE 3 w L (.slice la L.length lc):=⟨la,lc,rfl,hl0⟩
 clear hl0;obtain⟨W,hW⟩:∃ W,W=(w.alloc (.cells (cmA c r cv) 48)).alloc (.cells zR 53):=⟨_,rfl⟩
 have hb:=bw2 hW;obtain⟨Y5,hY5⟩:∃ Q,w.heap.size=Q:=⟨_,rfl⟩
 obtain⟨Y6,hY6⟩:∃ Q,Y5+1=Q:=⟨_,rfl⟩
 have j5:W.heap[Y5]?=some (.cells (cmA c r cv) 48 (0,0)):=nw21 hW hY5;have j6:W.heap[Y6]?=some (.cells zR 53 (0,0)):=nw22 hW hY5 hY6;have hld:(Instr.loadAt 48 (.pointer (some ⟨Y5,0,none⟩))).run Tryz.prog W=.ok (.agg (cmA c r cv)) W:=load_row j5 Tryz.underlying48 rfl size48;have hbX:Below w.heap.size w (W.alloc (.cells #[.int .i64 1,.int .i64 2,.int .i64 3] 3)):=hb.alloc hb.size _;have hc:=hh (W.alloc (.cells #[.int .i64 1,.int .i64 2,.int .i64 3] 3)) hbX (.slice (some ⟨W.heap.size,0,none⟩) 3 3) (ints_new3 W);have HJ:=lh (And.intro j5 j6);have HN:Hid (w.heap.size=Y5/\Y5+1=Y6):=lh ⟨hY5,hY6⟩;have HW:=lh hW;have HB:=lh hb;have HLD:=lh hld;have HBB:=lh hB;have HJA:=lh h;have HPP:=lh hp;have HLT:=lh hlt;have HMV:=lh hm;have HDR:=lh hdr;have HL:=lh hl;have HAT:=lh ht;have HLK:=lh hk;have HVR:=lh hv;have HCL:=lh hcl;clear hh hW hb hY5 hY6 j5 j6 hld hbX hB h hp hlt hm hdr hl ht hk hv hcl;obtain⟨cs,hcs⟩:∃ cs,cmA c r cv=cs:=⟨_,rfl⟩
 rw [hcs]at HW HLD HJ hc ⊢;clear hcs;obtain⟨m2,hm2⟩:∃ m2,j.move.2=m2:=⟨_,rfl⟩
 have HM2:=lh hm2;clear hm2;go_enter Tryz.func30,Tryz.ntmps30;go_upto_region 1 with fail
 rw [<-HW.out,HN.out.1,HN.out.2];go_upto_region 4 with (first|(go_at_call 65;refine hc.mono ?_;rintro e v6 ⟨rfl,b6⟩;have B6:=lh (bgo (bnew W _) b6);have BB:=lh (bgo HB.out B6.out);have J6:=lh ((B6.out.block Y6 (blk_lt HJ.out.2)).trans HJ.out.2);clear b6 hc)|(refine wpl_load _ rfl (by simp [Act.eval]) HLD.out ?_))
 have JBV:=lh ((BB.out.block B (blk_lt HBB.out)).trans HBB.out);have CB:=lh (show v6.cell? ⟨B,0,none⟩=some (.int .i64 s.ver)from cell_blk JBV.out 0);have hmv:=HMV.out;have hm2:=HM2.out;refine wp_region_gs (fun fl r X9=>Ch2 (fun X=>Below v6.heap.size v6 X) (Box1 v6 74 2) (Box2 v6 74 #[.int .i64 2,.int .i64 m2]) (fl 7) (fl 8) (r 8) X9) (fun _ _=>True) [
  fun v9 _=>v9=.pointer (some ⟨jb,o,none⟩),fun v9 _=>v9=.agg #[.int .i64 2,.int .i64 m2],fun v9 _=>v9=.pointer (some ⟨B,0,none⟩),fun v9 _=>v9=.pointer (some ⟨B,0,none⟩),fun v9 _=>v9=.pointer (some ⟨B,0,none⟩),fun v9 _=>v9=.pointer (some ⟨B,0,none⟩),fun v9 _=>v9=.int .i64 s.ver,fun _ _=>True,fun _ _=>True,fun v9 _=>v9=.int .i64 s.ver]
  (by kernel_rfl) (by kernel_rfl) (by kernel_rfl) ?st ?g0 ?os ?en
 case st=>
  iterate 10 refine⟨fun _ _ _ _ h=>h,?_⟩
  exact trivial
 case g0=>exact(show Below _ _ _ from⟨rfl,rfl,rfl,Nat.le_refl _,fun _ _=>rfl⟩)
 case os =>
  refine⟨?_,?_,?_,?_,?_,?_,?_,?_,?_,?_,trivial⟩
  all_goals intro ρ X9 fl hg hn hl hp ho hc hf hr
  ·exact rvq (op_move (show ρ (.tmp 7)=.pointer (some ⟨jb,o,none⟩)from ho 7 rfl)) ⟨fun r9 h1 h2=>Ch2.same hg rfl rfl (h1 8 (by decide)),trivial,rfl⟩
  ·have b9:Below v6.heap.size v6 X9:=by
    have hg:Ch2 _ _ _ (fl 7) (fl 8) (ρ (.tmp 8)) X9:=hg;cases e1:fl 7 <;> cases e2:fl 8 <;> rw [e1,e2]at hg
    ·exact(show Below _ _ _ from hg)
    ·exact Box2.b hg
    ·exact Box1.b hg
    ·exact Box2.b hg
   have hmj:=move_job (range_on (bgo BB.out b9) HJA.out) HPP.out HLT.out;rw [hmv,hm2]at hmj;refine .inl ⟨rfl,Runs.goes 54 #[.pointer (some ⟨jb,o,none⟩)] (op_call1 hf (by go_simp) (show ρ (.tmp 19)=.pointer (some ⟨jb,o,none⟩)from hr 0 19 rfl rfl)) (hmj.mono ?_)⟩;rintro e7 w7 ⟨rfl,b7⟩;exact⟨_,rfl,fun r9 h1 h2=>Ch2.turn hg (fun q=>bgo q b7) (fun q=>q.go b7) (fun q=>q.go b7) rfl rfl (h1 8 (by decide)),trivial,rfl⟩
  ·exact rvq (op_move (show ρ (.tmp 0)=.pointer (some ⟨B,0,none⟩)from ho 0 rfl)) ⟨fun r9 h1 h2=>Ch2.same hg rfl rfl (h1 8 (by decide)),trivial,rfl⟩
  ·exact rvq (op_nil (show ρ (.tmp 21)=.pointer (some ⟨B,0,none⟩)from hr 2 21 rfl rfl)) ⟨fun r9 h1 h2=>Ch2.same hg rfl rfl (h1 8 (by decide)),trivial,rfl⟩
  ·exact rvq (op_f88_0 (show ρ (.tmp 22)=.pointer (some ⟨B,0,none⟩)from hr 3 22 rfl rfl)) ⟨fun r9 h1 h2=>Ch2.same hg rfl rfl (h1 8 (by decide)),trivial,rfl⟩
  ·exact rvq (op_f30_0 (show ρ (.tmp 23)=.pointer (some ⟨B,0,none⟩)from hr 4 23 rfl rfl)) ⟨fun r9 h1 h2=>Ch2.same hg rfl rfl (h1 8 (by decide)),trivial,rfl⟩
  ·have b9:Below v6.heap.size v6 X9:=by
    have hg:Ch2 _ _ _ (fl 7) (fl 8) (ρ (.tmp 8)) X9:=hg;cases e1:fl 7 <;> cases e2:fl 8 <;> rw [e1,e2]at hg
    ·exact(show Below _ _ _ from hg)
    ·exact Box2.b hg
    ·exact Box1.b hg
    ·exact Box2.b hg
   exact rvq (op_load3 (show ρ (.tmp 24)=.pointer (some ⟨B,0,none⟩)from hr 5 24 rfl rfl) (cell_on b9 CB.out)) ⟨fun r9 h1 h2=>Ch2.same hg rfl rfl (h1 8 (by decide)),trivial,rfl⟩
  ·have hg:Ch2 _ _ _ (fl 7) (fl 8) ((fun t=>ρ (.tmp t)) 8) X9:=hg;have f09:fl 7=false:=hn;have f19:fl 8=false:=(show fl 8=false from by cases q9:fl 8 with | false=>rfl | true=>exact absurd (hl 8 _ 7 rfl (by kernel_rfl) q9) (by rw [hn];decide))
   rw [f09,f19]at hg;have hA:(fun X=>Below v6.heap.size v6 X)  X9:=hg;refine(rvq op_alloc74 ⟨fun r9 h1 h2=>?_,trivial,trivial⟩);show Ch2 _ _ _ true (fl 8) (r9 8) _
   rw [f19,h2 8 rfl];exact⟨X9.heap.size,_,rfl,hA.size,heap_alloc_new X9 _,rfl,bgo hA (bnew _ _)⟩
  ·have hg:Ch2 _ _ _ (fl 7) (fl 8) ((fun t=>ρ (.tmp t)) 8) X9:=hg;have f09:fl 7=true:=hp 7 (by kernel_rfl);have f19:fl 8=false:=hn;rw [f09,f19]at hg;have hA:(Box1 v6 74 2) (ρ (.tmp 8)) X9:=hg;obtain⟨Y,z,e8,hY,hzz,hn3,hb9⟩:=hA;obtain⟨X',hst,j',f'⟩:=st_row hzz (us:=#[.int .i64 2,.int .i64 m2]) (by rw [hn3];rfl) size74 (by simp [Value.oneCell']);refine .inl ⟨rfl,Runs.skips (op_storeAt e8 (show ρ (.tmp 20)=.agg #[.int .i64 2,.int .i64 m2]from hr 1 20 rfl rfl) hst) ⟨fun r9 h1 h2=>?_,trivial,trivial⟩⟩;show Ch2 _ _ _ (fl 7) true (r9 8) X'
   rw [f09,h1 8 (by decide)];exact⟨Y,e8,hY,j',hb9.trans (f'.toBelow (fun k hk q=>by omega) hb9.size)⟩
  ·exact rvq (op_assign (show ρ (.tmp 25)=.int .i64 s.ver from hr 6 25 rfl rfl)) ⟨fun r9 h1 h2=>Ch2.same hg rfl rfl (h1 8 (by decide)),trivial,rfl⟩
 case en =>
  intro a9 w4 fl hfl hG9 hs9 hd9 ho9 hr9;obtain⟨x9,hx,hxt⟩:=act_put hs9 hd9 ho9;have hG9:Ch2 _ _ _ (fl 7) (fl 8) ((fun t=>a9.tmps.getD t undef) 8) w4:=hG9;rw [hfl 7 (by decide),hfl 8 (by decide)]at hG9;have hG9:(Box2 v6 74 #[.int .i64 2,.int .i64 m2]) (a9.tmps.getD 8 undef) w4:=hG9;have xk9:x9 9=.int .i64 s.ver:=(hxt 9).symm.trans (hr9 9 9 rfl);rw [show a9.tmps.getD 8 undef=x9 8 from hxt 8]at hG9;change a9=putAll _ x9 [19,20,21,22,23,24,25,8,9]at hx;simp only [putAll,Act.put,List.setIfInBounds_toArray,List.set_cons_zero,List.set_cons_succ,xk9]at hx;subst hx;clear hs9 hd9 ho9 hr9 hfl hxt xk9;generalize x9 19=z19,x9 20=z20,x9 21=z21,x9 22=z22,x9 23=z23,x9 24=z24,x9 25=z25,x9 8=z8 at hG9 ⊢;obtain⟨Y8,rfl,hY8,j8,b8⟩:=hG9;have HB8:=lh (bgo BB.out b8);have J8:=lh j8;have c80:w4.cell? ⟨Y8,0,none⟩=some (.int .i64 2):=cell_blk j8 0;have H80:=lh c80;have JB4:=lh ((b8.block B (blk_lt JBV.out)).trans JBV.out);have J46:=lh ((b8.block Y6 (blk_lt J6.out)).trans J6.out);have H8:=lh (Nat.le_trans BB.out.size hY8);clear j8 b8 hY8 hmv;have c18:w4.cell? ⟨jb,o+18,none⟩=some (.bool true):=by
   have:=range_on HB8.out HJA.out 18 _ rfl;rw [HDR.out]at this;exact this
  have hcl9:=clear_any (t:=t) (below:=(s.ver+1)) JB4.out (HL.out.on leE_held HB8.out) HAT.out HLK.out;rw [HCL.out]at hcl9;have q1:-9223372036854775808<=s.ver:=by have h1:=HVR.out;unfold I64 at h1;omega
  have q2:s.ver+1<=9223372036854775807:=by have h1:=HVR.out;omega
  have q3:-9223372036854775808<=s.ver+1:=by omega
  go_wp2_with (first|(go_at_call 16;refine hcl9.mono ?_;rintro e w5 ⟨rfl,b5⟩;have B5:=lh (bgo HB8.out b5);obtain⟨X',hst,j',f'⟩:=st_row ((b5.block Y6 (blk_lt J46.out)).trans J46.out) (us:=rsA (rsE 161)) rfl size53 (by simp [Value.oneCell']);have HS:=lh hst;have HX:=lh (And.intro j' f');clear b5 hst j' f' hcl9)|(refine wpl_store _ _ rfl (by simp [Act.eval]) (by simp [Act.eval]) HS.out ?_))
  refine bodyPost_ret (results_one rfl rfl (load_var HX.out.1 Tryz.underlying53 rfl size53)) rfl ?_;exact⟨rfl,B5.out.trans (HX.out.2.toBelow (fun k hk q=>by have h1:=HN.out.1;have h2:=HN.out.2;omega) B5.out.size)⟩
theorem adv_B3{B jb o p:Nat}{c:Cm}{r:Rest}{cv jv lv tv jvs rv mv:Value}{t:Int}{j:Jb}{s:Sc}{L:List Le}(hh:TurnIs w B c r cv [1,2,3] (.pointer (some ⟨jb,o,none⟩)))(hB:w.heap[B]?=some (.cells (bdA s.ver s.last tv lv jvs rv mv) 88 (0,0)))(h:JobAt w jb o j jv)(hp:j.phase=(p:Int))(hlt:p<j.path.length)(hm:j.move.1=3)(hl:Lr leE 3 w L lv)(ht:At t)(hk:LeOk L)(hv:I64 s.ver/\s.ver+1<=9223372036854775807)(hcl:(L.all fun l=>!(decide (l.ver<s.ver) && forceB t l))=false):Calls Tryz.prog 30 #[.pointer (some ⟨B,0,none⟩),.int .i64 t,.agg (cmA c r cv)] w (AdvNo w 161):=by
 obtain⟨la,lc,rfl,hl0⟩:=hl;have hl:Lr leE 3 w L (.slice la L.length lc):=⟨la,lc,rfl,hl0⟩
 clear hl0;obtain⟨W,hW⟩:∃ W,W=(w.alloc (.cells (cmA c r cv) 48)).alloc (.cells zR 53):=⟨_,rfl⟩
 have hb:=bw2 hW;obtain⟨Y5,hY5⟩:∃ Q,w.heap.size=Q:=⟨_,rfl⟩
 obtain⟨Y6,hY6⟩:∃ Q,Y5+1=Q:=⟨_,rfl⟩
 have j5:W.heap[Y5]?=some (.cells (cmA c r cv) 48 (0,0)):=nw21 hW hY5;have j6:W.heap[Y6]?=some (.cells zR 53 (0,0)):=nw22 hW hY5 hY6;have hld:(Instr.loadAt 48 (.pointer (some ⟨Y5,0,none⟩))).run Tryz.prog W=.ok (.agg (cmA c r cv)) W:=load_row j5 Tryz.underlying48 rfl size48;have hbX:Below w.heap.size w (W.alloc (.cells #[.int .i64 1,.int .i64 2,.int .i64 3] 3)):=hb.alloc hb.size _;have hc:=hh (W.alloc (.cells #[.int .i64 1,.int .i64 2,.int .i64 3] 3)) hbX (.slice (some ⟨W.heap.size,0,none⟩) 3 3) (ints_new3 W);have HJ:=lh (And.intro j5 j6);have HN:Hid (w.heap.size=Y5/\Y5+1=Y6):=lh ⟨hY5,hY6⟩;have HW:=lh hW;have HB:=lh hb;have HLD:=lh hld;have HBB:=lh hB;have HJA:=lh h;have HPP:=lh hp;have HLT:=lh hlt;have HMV:=lh hm;have HL:=lh hl;have HAT:=lh ht;have HLK:=lh hk;have HVR:=lh hv;have HCL:=lh hcl;clear hh hW hb hY5 hY6 j5 j6 hld hbX hB h hp hlt hm hl ht hk hv hcl;obtain⟨cs,hcs⟩:∃ cs,cmA c r cv=cs:=⟨_,rfl⟩
 rw [hcs]at HW HLD HJ hc ⊢;clear hcs;obtain⟨m2,hm2⟩:∃ m2,j.move.2=m2:=⟨_,rfl⟩
 have HM2:=lh hm2;clear hm2;go_enter Tryz.func30,Tryz.ntmps30;go_upto_region 1 with fail
 rw [<-HW.out,HN.out.1,HN.out.2];go_upto_region 4 with (first|(go_at_call 65;refine hc.mono ?_;rintro e v6 ⟨rfl,b6⟩;have B6:=lh (bgo (bnew W _) b6);have BB:=lh (bgo HB.out B6.out);have J6:=lh ((B6.out.block Y6 (blk_lt HJ.out.2)).trans HJ.out.2);clear b6 hc)|(refine wpl_load _ rfl (by simp [Act.eval]) HLD.out ?_))
 have JBV:=lh ((BB.out.block B (blk_lt HBB.out)).trans HBB.out);have CB:=lh (show v6.cell? ⟨B,0,none⟩=some (.int .i64 s.ver)from cell_blk JBV.out 0);have hmv:=HMV.out;have hm2:=HM2.out;refine wp_region_gs (fun fl r X9=>Ch2 (fun X=>Below v6.heap.size v6 X) (Box1 v6 74 2) (Box2 v6 74 #[.int .i64 3,.int .i64 m2]) (fl 7) (fl 8) (r 8) X9) (fun _ _=>True) [
  fun v9 _=>v9=.pointer (some ⟨jb,o,none⟩),fun v9 _=>v9=.agg #[.int .i64 3,.int .i64 m2],fun v9 _=>v9=.pointer (some ⟨B,0,none⟩),fun v9 _=>v9=.pointer (some ⟨B,0,none⟩),fun v9 _=>v9=.pointer (some ⟨B,0,none⟩),fun v9 _=>v9=.pointer (some ⟨B,0,none⟩),fun v9 _=>v9=.int .i64 s.ver,fun _ _=>True,fun _ _=>True,fun v9 _=>v9=.int .i64 s.ver]
  (by kernel_rfl) (by kernel_rfl) (by kernel_rfl) ?st ?g0 ?os ?en
 case st=>
  iterate 10 refine⟨fun _ _ _ _ h=>h,?_⟩
  exact trivial
 case g0=>exact(show Below _ _ _ from⟨rfl,rfl,rfl,Nat.le_refl _,fun _ _=>rfl⟩)
 case os =>
  refine⟨?_,?_,?_,?_,?_,?_,?_,?_,?_,?_,trivial⟩
  all_goals intro ρ X9 fl hg hn hl hp ho hc hf hr
  ·exact rvq (op_move (show ρ (.tmp 7)=.pointer (some ⟨jb,o,none⟩)from ho 7 rfl)) ⟨fun r9 h1 h2=>Ch2.same hg rfl rfl (h1 8 (by decide)),trivial,rfl⟩
  ·have b9:Below v6.heap.size v6 X9:=by
    have hg:Ch2 _ _ _ (fl 7) (fl 8) (ρ (.tmp 8)) X9:=hg;cases e1:fl 7 <;> cases e2:fl 8 <;> rw [e1,e2]at hg
    ·exact(show Below _ _ _ from hg)
    ·exact Box2.b hg
    ·exact Box1.b hg
    ·exact Box2.b hg
   have hmj:=move_job (range_on (bgo BB.out b9) HJA.out) HPP.out HLT.out;rw [hmv,hm2]at hmj;refine .inl ⟨rfl,Runs.goes 54 #[.pointer (some ⟨jb,o,none⟩)] (op_call1 hf (by go_simp) (show ρ (.tmp 19)=.pointer (some ⟨jb,o,none⟩)from hr 0 19 rfl rfl)) (hmj.mono ?_)⟩;rintro e7 w7 ⟨rfl,b7⟩;exact⟨_,rfl,fun r9 h1 h2=>Ch2.turn hg (fun q=>bgo q b7) (fun q=>q.go b7) (fun q=>q.go b7) rfl rfl (h1 8 (by decide)),trivial,rfl⟩
  ·exact rvq (op_move (show ρ (.tmp 0)=.pointer (some ⟨B,0,none⟩)from ho 0 rfl)) ⟨fun r9 h1 h2=>Ch2.same hg rfl rfl (h1 8 (by decide)),trivial,rfl⟩
  ·exact rvq (op_nil (show ρ (.tmp 21)=.pointer (some ⟨B,0,none⟩)from hr 2 21 rfl rfl)) ⟨fun r9 h1 h2=>Ch2.same hg rfl rfl (h1 8 (by decide)),trivial,rfl⟩
  ·exact rvq (op_f88_0 (show ρ (.tmp 22)=.pointer (some ⟨B,0,none⟩)from hr 3 22 rfl rfl)) ⟨fun r9 h1 h2=>Ch2.same hg rfl rfl (h1 8 (by decide)),trivial,rfl⟩
  ·exact rvq (op_f30_0 (show ρ (.tmp 23)=.pointer (some ⟨B,0,none⟩)from hr 4 23 rfl rfl)) ⟨fun r9 h1 h2=>Ch2.same hg rfl rfl (h1 8 (by decide)),trivial,rfl⟩
  ·have b9:Below v6.heap.size v6 X9:=by
    have hg:Ch2 _ _ _ (fl 7) (fl 8) (ρ (.tmp 8)) X9:=hg;cases e1:fl 7 <;> cases e2:fl 8 <;> rw [e1,e2]at hg
    ·exact(show Below _ _ _ from hg)
    ·exact Box2.b hg
    ·exact Box1.b hg
    ·exact Box2.b hg
   exact rvq (op_load3 (show ρ (.tmp 24)=.pointer (some ⟨B,0,none⟩)from hr 5 24 rfl rfl) (cell_on b9 CB.out)) ⟨fun r9 h1 h2=>Ch2.same hg rfl rfl (h1 8 (by decide)),trivial,rfl⟩
  ·have hg:Ch2 _ _ _ (fl 7) (fl 8) ((fun t=>ρ (.tmp t)) 8) X9:=hg;have f09:fl 7=false:=hn;have f19:fl 8=false:=(show fl 8=false from by cases q9:fl 8 with | false=>rfl | true=>exact absurd (hl 8 _ 7 rfl (by kernel_rfl) q9) (by rw [hn];decide))
   rw [f09,f19]at hg;have hA:(fun X=>Below v6.heap.size v6 X)  X9:=hg;refine(rvq op_alloc74 ⟨fun r9 h1 h2=>?_,trivial,trivial⟩);show Ch2 _ _ _ true (fl 8) (r9 8) _
   rw [f19,h2 8 rfl];exact⟨X9.heap.size,_,rfl,hA.size,heap_alloc_new X9 _,rfl,bgo hA (bnew _ _)⟩
  ·have hg:Ch2 _ _ _ (fl 7) (fl 8) ((fun t=>ρ (.tmp t)) 8) X9:=hg;have f09:fl 7=true:=hp 7 (by kernel_rfl);have f19:fl 8=false:=hn;rw [f09,f19]at hg;have hA:(Box1 v6 74 2) (ρ (.tmp 8)) X9:=hg;obtain⟨Y,z,e8,hY,hzz,hn3,hb9⟩:=hA;obtain⟨X',hst,j',f'⟩:=st_row hzz (us:=#[.int .i64 3,.int .i64 m2]) (by rw [hn3];rfl) size74 (by simp [Value.oneCell']);refine .inl ⟨rfl,Runs.skips (op_storeAt e8 (show ρ (.tmp 20)=.agg #[.int .i64 3,.int .i64 m2]from hr 1 20 rfl rfl) hst) ⟨fun r9 h1 h2=>?_,trivial,trivial⟩⟩;show Ch2 _ _ _ (fl 7) true (r9 8) X'
   rw [f09,h1 8 (by decide)];exact⟨Y,e8,hY,j',hb9.trans (f'.toBelow (fun k hk q=>by omega) hb9.size)⟩
  ·exact rvq (op_assign (show ρ (.tmp 25)=.int .i64 s.ver from hr 6 25 rfl rfl)) ⟨fun r9 h1 h2=>Ch2.same hg rfl rfl (h1 8 (by decide)),trivial,rfl⟩
 case en =>
  intro a9 w4 fl hfl hG9 hs9 hd9 ho9 hr9;obtain⟨x9,hx,hxt⟩:=act_put hs9 hd9 ho9;have hG9:Ch2 _ _ _ (fl 7) (fl 8) ((fun t=>a9.tmps.getD t undef) 8) w4:=hG9;rw [hfl 7 (by decide),hfl 8 (by decide)]at hG9;have hG9:(Box2 v6 74 #[.int .i64 3,.int .i64 m2]) (a9.tmps.getD 8 undef) w4:=hG9;have xk9:x9 9=.int .i64 s.ver:=(hxt 9).symm.trans (hr9 9 9 rfl);rw [show a9.tmps.getD 8 undef=x9 8 from hxt 8]at hG9;change a9=putAll _ x9 [19,20,21,22,23,24,25,8,9]at hx;simp only [putAll,Act.put,List.setIfInBounds_toArray,List.set_cons_zero,List.set_cons_succ,xk9]at hx;subst hx;clear hs9 hd9 ho9 hr9 hfl hxt xk9;generalize x9 19=z19,x9 20=z20,x9 21=z21,x9 22=z22,x9 23=z23,x9 24=z24,x9 25=z25,x9 8=z8 at hG9 ⊢;obtain⟨Y8,rfl,hY8,j8,b8⟩:=hG9;have HB8:=lh (bgo BB.out b8);have J8:=lh j8;have c80:w4.cell? ⟨Y8,0,none⟩=some (.int .i64 3):=cell_blk j8 0;have H80:=lh c80;have JB4:=lh ((b8.block B (blk_lt JBV.out)).trans JBV.out);have J46:=lh ((b8.block Y6 (blk_lt J6.out)).trans J6.out);have H8:=lh (Nat.le_trans BB.out.size hY8);clear j8 b8 hY8 hmv;have hcl9:=clear_any (t:=t) (below:=s.ver) JB4.out (HL.out.on leE_held HB8.out) HAT.out HLK.out;rw [HCL.out]at hcl9;have q1:-9223372036854775808<=s.ver:=by have h1:=HVR.out;unfold I64 at h1;omega
  have q2:s.ver+1<=9223372036854775807:=by have h1:=HVR.out;omega
  have q3:-9223372036854775808<=s.ver+1:=by omega
  go_wp2_with (first|(go_at_call 16;refine hcl9.mono ?_;rintro e w5 ⟨rfl,b5⟩;have B5:=lh (bgo HB8.out b5);obtain⟨X',hst,j',f'⟩:=st_row ((b5.block Y6 (blk_lt J46.out)).trans J46.out) (us:=rsA (rsE 161)) rfl size53 (by simp [Value.oneCell']);have HS:=lh hst;have HX:=lh (And.intro j' f');clear b5 hst j' f' hcl9)|(refine wpl_store _ _ rfl (by simp [Act.eval]) (by simp [Act.eval]) HS.out ?_))
  refine bodyPost_ret (results_one rfl rfl (load_var HX.out.1 Tryz.underlying53 rfl size53)) rfl ?_;exact⟨rfl,B5.out.trans (HX.out.2.toBelow (fun k hk q=>by have h1:=HN.out.1;have h2:=HN.out.2;omega) B5.out.size)⟩
theorem adv_E3{B jb o p:Nat}{c:Cm}{r:Rest}{cv jv lv tv jvs rv mv:Value}{t:Int}{j:Jb}{cur:Array Value}{s:Sc}{L:List Le}{x:Nat}{R:List Nat}{RX:List Nat}(hh:TurnIs w B c r cv [1,2,3] (.pointer (some ⟨jb,o,none⟩)))(hB:w.heap[B]?=some (.cells (bdA s.ver s.last tv lv jvs rv mv) 88 (0,0)))(h:JobAt w jb o j jv)(hp:j.phase=(p:Int))(hlt:p<j.path.length)(hm:j.move.1=3)(hl:Lr leE 3 w L lv)(ht:At t)(hk:LeOk L)(hv:I64 s.ver/\s.ver+1<=9223372036854775807)(hcl:(L.all fun l=>!(decide (l.ver<s.ver) && forceB t l))=true)(hJ:w.heap[jb]?=some (.cells cur 66 (0,0)))(ho:o+22<=cur.size)(hen:j.en=0)(hne:jb≠B)(hr:RunL w rv (x :: R))(hg:∀ k,RunBlk rv k->k<w.heap.size/\k≠B/\k≠jb)(hRX:(if ({ j with drain:=false }.step).runs then x :: R else R)=RX):Calls Tryz.prog 30 #[.pointer (some ⟨B,0,none⟩),.int .i64 t,.agg (cmA c r cv)] w (AdvAns3 w B jb o cur ({ j with drain:=false }.step) jv s tv lv jvs rv mv RX):=by
 obtain⟨la,lc,rfl,hl0⟩:=hl;have hl:Lr leE 3 w L (.slice la L.length lc):=⟨la,lc,rfl,hl0⟩
 clear hl0;obtain⟨W,hW⟩:∃ W,W=(w.alloc (.cells (cmA c r cv) 48)).alloc (.cells zR 53):=⟨_,rfl⟩
 have hb:=bw2 hW;obtain⟨Y5,hY5⟩:∃ Q,w.heap.size=Q:=⟨_,rfl⟩
 obtain⟨Y6,hY6⟩:∃ Q,Y5+1=Q:=⟨_,rfl⟩
 have j5:W.heap[Y5]?=some (.cells (cmA c r cv) 48 (0,0)):=nw21 hW hY5;have j6:W.heap[Y6]?=some (.cells zR 53 (0,0)):=nw22 hW hY5 hY6;have hld:(Instr.loadAt 48 (.pointer (some ⟨Y5,0,none⟩))).run Tryz.prog W=.ok (.agg (cmA c r cv)) W:=load_row j5 Tryz.underlying48 rfl size48;have hbX:Below w.heap.size w (W.alloc (.cells #[.int .i64 1,.int .i64 2,.int .i64 3] 3)):=hb.alloc hb.size _;have hc:=hh (W.alloc (.cells #[.int .i64 1,.int .i64 2,.int .i64 3] 3)) hbX (.slice (some ⟨W.heap.size,0,none⟩) 3 3) (ints_new3 W);have HJ:=lh (And.intro j5 j6);have HN:Hid (w.heap.size=Y5/\Y5+1=Y6):=lh ⟨hY5,hY6⟩;have HW:=lh hW;have HB:=lh hb;have HLD:=lh hld;have HBB:=lh hB;have HJA:=lh h;have HPP:=lh hp;have HLT:=lh hlt;have HMV:=lh hm;have HL:=lh hl;have HAT:=lh ht;have HLK:=lh hk;have HVR:=lh hv;have HCL:=lh hcl;have HJC:=lh hJ;have HOC:=lh ho;have HEN:=lh hen;have HNE:=lh hne;have HRL:=lh hr;have HGB:=lh hg;have HRX:=lh hRX;clear hh hW hb hY5 hY6 j5 j6 hld hbX hB h hp hlt hm hl ht hk hv hcl hJ ho hen hne hr hg hRX;obtain⟨cs,hcs⟩:∃ cs,cmA c r cv=cs:=⟨_,rfl⟩
 rw [hcs]at HW HLD HJ hc ⊢;clear hcs;obtain⟨m2,hm2⟩:∃ m2,j.move.2=m2:=⟨_,rfl⟩
 have HM2:=lh hm2;clear hm2;go_enter Tryz.func30,Tryz.ntmps30;go_upto_region 1 with fail
 rw [<-HW.out,HN.out.1,HN.out.2];go_upto_region 4 with (first|(go_at_call 65;refine hc.mono ?_;rintro e v6 ⟨rfl,b6⟩;have B6:=lh (bgo (bnew W _) b6);have BB:=lh (bgo HB.out B6.out);have J6:=lh ((B6.out.block Y6 (blk_lt HJ.out.2)).trans HJ.out.2);clear b6 hc)|(refine wpl_load _ rfl (by simp [Act.eval]) HLD.out ?_))
 have JBV:=lh ((BB.out.block B (blk_lt HBB.out)).trans HBB.out);have CB:=lh (show v6.cell? ⟨B,0,none⟩=some (.int .i64 s.ver)from cell_blk JBV.out 0);have hmv:=HMV.out;have hm2:=HM2.out;refine wp_region_gs (fun fl r X9=>Ch2 (fun X=>Below v6.heap.size v6 X) (Box1 v6 74 2) (Box2 v6 74 #[.int .i64 3,.int .i64 m2]) (fl 7) (fl 8) (r 8) X9) (fun _ _=>True) [
  fun v9 _=>v9=.pointer (some ⟨jb,o,none⟩),fun v9 _=>v9=.agg #[.int .i64 3,.int .i64 m2],fun v9 _=>v9=.pointer (some ⟨B,0,none⟩),fun v9 _=>v9=.pointer (some ⟨B,0,none⟩),fun v9 _=>v9=.pointer (some ⟨B,0,none⟩),fun v9 _=>v9=.pointer (some ⟨B,0,none⟩),fun v9 _=>v9=.int .i64 s.ver,fun _ _=>True,fun _ _=>True,fun v9 _=>v9=.int .i64 s.ver]
  (by kernel_rfl) (by kernel_rfl) (by kernel_rfl) ?st ?g0 ?os ?en
 case st=>
  iterate 10 refine⟨fun _ _ _ _ h=>h,?_⟩
  exact trivial
 case g0=>exact(show Below _ _ _ from⟨rfl,rfl,rfl,Nat.le_refl _,fun _ _=>rfl⟩)
 case os =>
  refine⟨?_,?_,?_,?_,?_,?_,?_,?_,?_,?_,trivial⟩
  all_goals intro ρ X9 fl hg hn hl hp ho hc hf hr
  ·exact rvq (op_move (show ρ (.tmp 7)=.pointer (some ⟨jb,o,none⟩)from ho 7 rfl)) ⟨fun r9 h1 h2=>Ch2.same hg rfl rfl (h1 8 (by decide)),trivial,rfl⟩
  ·have b9:Below v6.heap.size v6 X9:=by
    have hg:Ch2 _ _ _ (fl 7) (fl 8) (ρ (.tmp 8)) X9:=hg;cases e1:fl 7 <;> cases e2:fl 8 <;> rw [e1,e2]at hg
    ·exact(show Below _ _ _ from hg)
    ·exact Box2.b hg
    ·exact Box1.b hg
    ·exact Box2.b hg
   have hmj:=move_job (range_on (bgo BB.out b9) HJA.out) HPP.out HLT.out;rw [hmv,hm2]at hmj;refine .inl ⟨rfl,Runs.goes 54 #[.pointer (some ⟨jb,o,none⟩)] (op_call1 hf (by go_simp) (show ρ (.tmp 19)=.pointer (some ⟨jb,o,none⟩)from hr 0 19 rfl rfl)) (hmj.mono ?_)⟩;rintro e7 w7 ⟨rfl,b7⟩;exact⟨_,rfl,fun r9 h1 h2=>Ch2.turn hg (fun q=>bgo q b7) (fun q=>q.go b7) (fun q=>q.go b7) rfl rfl (h1 8 (by decide)),trivial,rfl⟩
  ·exact rvq (op_move (show ρ (.tmp 0)=.pointer (some ⟨B,0,none⟩)from ho 0 rfl)) ⟨fun r9 h1 h2=>Ch2.same hg rfl rfl (h1 8 (by decide)),trivial,rfl⟩
  ·exact rvq (op_nil (show ρ (.tmp 21)=.pointer (some ⟨B,0,none⟩)from hr 2 21 rfl rfl)) ⟨fun r9 h1 h2=>Ch2.same hg rfl rfl (h1 8 (by decide)),trivial,rfl⟩
  ·exact rvq (op_f88_0 (show ρ (.tmp 22)=.pointer (some ⟨B,0,none⟩)from hr 3 22 rfl rfl)) ⟨fun r9 h1 h2=>Ch2.same hg rfl rfl (h1 8 (by decide)),trivial,rfl⟩
  ·exact rvq (op_f30_0 (show ρ (.tmp 23)=.pointer (some ⟨B,0,none⟩)from hr 4 23 rfl rfl)) ⟨fun r9 h1 h2=>Ch2.same hg rfl rfl (h1 8 (by decide)),trivial,rfl⟩
  ·have b9:Below v6.heap.size v6 X9:=by
    have hg:Ch2 _ _ _ (fl 7) (fl 8) (ρ (.tmp 8)) X9:=hg;cases e1:fl 7 <;> cases e2:fl 8 <;> rw [e1,e2]at hg
    ·exact(show Below _ _ _ from hg)
    ·exact Box2.b hg
    ·exact Box1.b hg
    ·exact Box2.b hg
   exact rvq (op_load3 (show ρ (.tmp 24)=.pointer (some ⟨B,0,none⟩)from hr 5 24 rfl rfl) (cell_on b9 CB.out)) ⟨fun r9 h1 h2=>Ch2.same hg rfl rfl (h1 8 (by decide)),trivial,rfl⟩
  ·have hg:Ch2 _ _ _ (fl 7) (fl 8) ((fun t=>ρ (.tmp t)) 8) X9:=hg;have f09:fl 7=false:=hn;have f19:fl 8=false:=(show fl 8=false from by cases q9:fl 8 with | false=>rfl | true=>exact absurd (hl 8 _ 7 rfl (by kernel_rfl) q9) (by rw [hn];decide))
   rw [f09,f19]at hg;have hA:(fun X=>Below v6.heap.size v6 X)  X9:=hg;refine(rvq op_alloc74 ⟨fun r9 h1 h2=>?_,trivial,trivial⟩);show Ch2 _ _ _ true (fl 8) (r9 8) _
   rw [f19,h2 8 rfl];exact⟨X9.heap.size,_,rfl,hA.size,heap_alloc_new X9 _,rfl,bgo hA (bnew _ _)⟩
  ·have hg:Ch2 _ _ _ (fl 7) (fl 8) ((fun t=>ρ (.tmp t)) 8) X9:=hg;have f09:fl 7=true:=hp 7 (by kernel_rfl);have f19:fl 8=false:=hn;rw [f09,f19]at hg;have hA:(Box1 v6 74 2) (ρ (.tmp 8)) X9:=hg;obtain⟨Y,z,e8,hY,hzz,hn3,hb9⟩:=hA;obtain⟨X',hst,j',f'⟩:=st_row hzz (us:=#[.int .i64 3,.int .i64 m2]) (by rw [hn3];rfl) size74 (by simp [Value.oneCell']);refine .inl ⟨rfl,Runs.skips (op_storeAt e8 (show ρ (.tmp 20)=.agg #[.int .i64 3,.int .i64 m2]from hr 1 20 rfl rfl) hst) ⟨fun r9 h1 h2=>?_,trivial,trivial⟩⟩;show Ch2 _ _ _ (fl 7) true (r9 8) X'
   rw [f09,h1 8 (by decide)];exact⟨Y,e8,hY,j',hb9.trans (f'.toBelow (fun k hk q=>by omega) hb9.size)⟩
  ·exact rvq (op_assign (show ρ (.tmp 25)=.int .i64 s.ver from hr 6 25 rfl rfl)) ⟨fun r9 h1 h2=>Ch2.same hg rfl rfl (h1 8 (by decide)),trivial,rfl⟩
 case en =>
  intro a9 w4 fl hfl hG9 hs9 hd9 ho9 hr9;obtain⟨x9,hx,hxt⟩:=act_put hs9 hd9 ho9;have hG9:Ch2 _ _ _ (fl 7) (fl 8) ((fun t=>a9.tmps.getD t undef) 8) w4:=hG9;rw [hfl 7 (by decide),hfl 8 (by decide)]at hG9;have hG9:(Box2 v6 74 #[.int .i64 3,.int .i64 m2]) (a9.tmps.getD 8 undef) w4:=hG9;have xk9:x9 9=.int .i64 s.ver:=(hxt 9).symm.trans (hr9 9 9 rfl);rw [show a9.tmps.getD 8 undef=x9 8 from hxt 8]at hG9;change a9=putAll _ x9 [19,20,21,22,23,24,25,8,9]at hx;simp only [putAll,Act.put,List.setIfInBounds_toArray,List.set_cons_zero,List.set_cons_succ,xk9]at hx;subst hx;clear hs9 hd9 ho9 hr9 hfl hxt xk9;generalize x9 19=z19,x9 20=z20,x9 21=z21,x9 22=z22,x9 23=z23,x9 24=z24,x9 25=z25,x9 8=z8 at hG9 ⊢;obtain⟨Y8,rfl,hY8,j8,b8⟩:=hG9;have HB8:=lh (bgo BB.out b8);have J8:=lh j8;have c80:w4.cell? ⟨Y8,0,none⟩=some (.int .i64 3):=cell_blk j8 0;have H80:=lh c80;have JB4:=lh ((b8.block B (blk_lt JBV.out)).trans JBV.out);have J46:=lh ((b8.block Y6 (blk_lt J6.out)).trans J6.out);have H8:=lh (Nat.le_trans BB.out.size hY8);clear j8 b8 hY8 hmv;have hcl9:=clear_any (t:=t) (below:=s.ver) JB4.out (HL.out.on leE_held HB8.out) HAT.out HLK.out;rw [HCL.out]at hcl9;have q1:-9223372036854775808<=s.ver:=by have h1:=HVR.out;unfold I64 at h1;omega
  have q2:s.ver+1<=9223372036854775807:=by have h1:=HVR.out;omega
  have q3:-9223372036854775808<=s.ver+1:=by omega
  go_upto_region 18 with (go_at_call 16;refine hcl9.mono ?_;rintro e w5 ⟨rfl,b5⟩;have B5:=lh (bgo HB8.out b5);have J8V:=lh ((b5.block Y8 (blk_lt J8.out)).trans J8.out);have JB5:=lh ((b5.block B (blk_lt JB4.out)).trans JB4.out);have J56:=lh ((b5.block Y6 (blk_lt J46.out)).trans J46.out);have c80:=cell_on b5 H80.out;clear b5 hcl9)
  clear c80;have F5:=lh (Fr.ofBelow (fun k=>k=jb\/k=B) B5.out);have PJ:=lh ((JPut.start HJC.out HJA.out).stays (B5.out.block jb (blk_lt HJC.out)));have NYJ:Hid (Y6≠jb):=lh (by have h1:=HN.out.1;have h2:=HN.out.2;have h3:=blk_lt HJC.out;omega);have NYB:Hid (Y6≠B):=lh (by have h1:=HN.out.1;have h2:=HN.out.2;have h3:=blk_lt HBB.out;omega);obtain⟨cur1,jc1,hz1,_,hr1⟩:=id PJ.out;have z18:w5.frozen? ⟨jb,o+18,none⟩=false:=frozen_blk jc1 _;have c18':w5.cell? ⟨jb,o+18,none⟩=some (.bool j.drain):=hr1 18 _ rfl;have hst18:(Instr.storeAt 4 (.pointer (some ⟨jb,o+18,none⟩)) (.bool false)).run Tryz.prog w5=.ok () (w5.setCell ⟨jb,o+18,none⟩ (.bool false)):=by
   clear jc1 hr1
   go_simp
  obtain⟨W18,hW18⟩:∃ W18,W18=w5.setCell ⟨jb,o+18,none⟩ (.bool false):=⟨_,rfl⟩
  have P18:JPut W18 jb o cur { j with drain:=false } jv:=by rw [hW18];exact PJ.out.set HOC.out (by decide) rfl
  have f18:Fr w5 W18 (fun k=>k=jb):=by rw [hW18];exact(Fr.refl _ (fun k=>k=jb)).set (a:=⟨jb,o+18,none⟩) (.inl rfl) _
  have F18:Fr w W18 (fun k=>k=jb\/k=B):=F5.out.trans (f18.mono fun k q=>.inl q);have B18:=(f18.block B (blk_lt JB5.out) (fun q=>HNE.out q.symm)).trans JB5.out;have Y18:=(f18.block Y6 (blk_lt J56.out) NYJ.out).trans J56.out;rw [<-hW18]at hst18;have R18:RunL W18 rv (x :: R):=HRL.out.stays fun k hk=>F18.block k (HGB.out k hk).1 (fun q=>by
   rcases q with q | q
   ·exact(HGB.out k hk).2.2 q
   ·exact(HGB.out k hk).2.1 q)
  obtain⟨cur2,jc2,hz2,_,hr2⟩:=id P18;have hstep:=step_both (j:={ j with drain:=false }) B18 jc2 (by rw [hz2];exact HOC.out) hr2 HPP.out HLT.out HEN.out HNE.out R18 (fun k hk=>(HGB.out k hk).2);rw [HRX.out]at hstep;have HS18:=lh hst18;have H18:=lh (And.intro P18 (And.intro F18 (And.intro Y18 (And.intro jc2 f18))));clear jc1 hz1 hr1 z18 c18' hst18 hW18 P18 f18 F18 B18 Y18 R18 jc2 hz2 hr2;go_wp2_with (first|(go_at_call 68;refine hstep.mono ?_;rintro e w19 ⟨rfl,s19⟩;obtain⟨rv9,g1,g2,g3,g4,g5⟩:=id s19;have c0:w19.cell? ⟨B,0,none⟩=some (.int .i64 s.ver):=cell_blk g1 0;have j6:=(g5.block Y6 (blk_lt H18.out.2.2.1) (fun q=>q.elim NYJ.out NYB.out)).trans H18.out.2.2.1;obtain⟨X',hst,j',f'⟩:=st_row j6 (us:=rsA ⟨0,s.ver,0,0,true⟩) rfl size53 (by simp [Value.oneCell']);have HS:=lh hst;have HX:=lh (And.intro j' (And.intro f' (And.intro s19 g5)));clear hstep g1 g2 g3 g4 g5 j6 hst j' f' s19)|(refine wpl_store _ _ rfl (by simp [Act.eval]) (by simp [Act.eval]) HS18.out ?_)|(refine wpl_store _ _ rfl (by simp [Act.eval]) (by simp [Act.eval]) HS.out ?_))
  refine bodyPost_ret (results_one rfl rfl (load_var HX.out.1 Tryz.underlying53 rfl size53)) rfl ?_;have hSA:=StepAns.lift H18.out.1 (fun cur1 e1 _=>by
   rw [H18.out.2.2.2.1]at e1;cases e1;exact HX.out.2.2.1) H18.out.2.1 (show w.heap.size<=Y6 from by have h1:=HN.out.1;have h2:=HN.out.2;omega) HX.out.2.1 (blk_lt HBB.out) (blk_lt HJC.out) (fun k hk=>(HGB.out k hk).1)
  exact⟨rfl,hSA⟩
end
end Go.Proofs.YtkhehikaemdnnaaGreat
