import Derived.Test.YtkhehikaemdnnaaGreatQKi
import Derived.Test.YtkhehikaemdnnaaGreatQBh
namespace Go.Proofs.YtkhehikaemdnnaaGreat
set_option maxRecDepth 100000
set_option maxHeartbeats 2000000
open Go.RowKit
section
variable {w : World}
theorem ownC72_any{l:List Col}{v:Value}(hl:Lr colE 7 w l v)(hz:l.length<=1000000):Calls Tryz.prog 72 #[v] w fun e w'=>∃ ad cap,e=.returned (.slice ad l.length cap)/\w'.ownsRow w.heap.size 56 7 (.slice ad l.length cap) l.length (l.flatMap colL)/\Below w.heap.size w w':=by
 obtain⟨ad,cap,rfl,hr⟩:=hl;have hs:=Lr.src colL_len (L:=l) (ad:=ad) (cap:=cap) (w:=w) ⟨ad,cap,rfl,hr⟩;obtain⟨ad',cap',w',h1,h2,h3,_⟩:=run_col (w:=w) (v:=.slice none 0 0) (base:=w.heap.size) (n:=0) (xs:=[]) (m:=l.length) (c:=cap) (news:=l.flatMap colL) (World.ownsRow_nil _ _ 56 7) (Nat.le_refl _) hs (oneC l) (by omega);rw [Nat.zero_add]at h1 h2;rw [List.nil_append]at h2;have HO:=lh h2;have HB:Hid (Below w.heap.size w w'):=⟨h3.os,h3.tape,h3.output,h3.size,fun k hk=>h3.block k hk (by simp [Value.ownBlock])⟩
 clear h2 h3 hs hr;go_enter Tryz.func72,Tryz.ntmps72;go_wp2_with (at_builtin;refine wpl_run2 _ _ rfl (by simp [Act.eval]) (by simp [Act.eval]) h1 ?_)
 go_ret;exact⟨_,_,rfl,HO.out,HB.out⟩
abbrev zJ:Array Value:=#[.int .i64 0,.int .i64 0,.int .i64 0,.int .i64 0,.int .i64 0,.int .i64 0,.string ⟨#[]⟩,.string ⟨#[]⟩,.string ⟨#[]⟩,.string ⟨#[]⟩,.bool false,.int .i64 0,.int .i64 0,.int .i64 0,.string ⟨#[]⟩,.slice none 0 0,.int .i64 0,.bool false,.bool false,.string ⟨#[]⟩,.int .i64 0,.int .i64 0]
theorem clone_mid{Y1 Y2:Nat}{j:Jb}{ca ca':Option Addr}{n cc cc':Nat}{z:Array Value}(j1:w.heap[Y1]?=some (.cells (jbA j (.slice ca n cc)) 66 (0,0)))(j2:w.heap[Y2]?=some (.cells z 66 (0,0)))(hz:z.size=22)(hne:Y1≠Y2):
  ∃ W1 W2,(Instr.storeAt 43 (.pointer (some ⟨Y1,15,none⟩)) (.slice ca' n cc')).run Tryz.prog w=.ok () W1/\(Instr.loadAt 66 (.pointer (some ⟨Y1,0,none⟩))).run Tryz.prog W1=.ok (.agg (jbA j (.slice ca' n cc'))) W1/\(Instr.storeAt 66 (.pointer (some ⟨Y2,0,none⟩)) (.agg (jbA j (.slice ca' n cc')))).run Tryz.prog W1=.ok () W2/\W2.heap[Y2]?=some (.cells (jbA j (.slice ca' n cc')) 66 (0,0))/\Fr w W2 (fun k=>k=Y1\/k=Y2):=by
 have c15:w.cell? ⟨Y1,15,none⟩=some (.slice ca n cc):=cell_blk j1 15;have z15:w.frozen? ⟨Y1,15,none⟩=false:=frozen_blk j1 _;obtain⟨W1,hW1⟩:∃ W1,W1=w.setCell ⟨Y1,15,none⟩ (.slice ca' n cc'):=⟨_,rfl⟩
 have e1:(Instr.storeAt 43 (.pointer (some ⟨Y1,15,none⟩)) (.slice ca' n cc')).run Tryz.prog w=.ok () W1:=by rw [hW1];go_simp
 have k1:W1.heap[Y1]?=some (.cells (jbA j (.slice ca' n cc')) 66 (0,0)):=by rw [hW1];exact set_blk j1 _
 have f1:Fr w W1 (fun k=>k=Y1):=by rw [hW1];exact(Fr.refl w (fun k=>k=Y1)).set (a:=⟨Y1,15,none⟩) (.inl rfl) _
 have k2:W1.heap[Y2]?=some (.cells z 66 (0,0)):=(f1.block Y2 (blk_lt j2) (fun q=>hne q.symm)).trans j2;obtain⟨W2,e3,k3,f3⟩:=st_row k2 (us:=jbA j (.slice ca' n cc')) (by rw [hz];rfl) size66 (by simp [Value.oneCell']);exact⟨W1,W2,e1,load_row k1 Tryz.underlying66 rfl size66,e3,k3,(f1.mono fun k q=>.inl q).trans (f3.mono fun k q=>.inr q)⟩
theorem cloneJob_any{j:Jb}{cv:Value}(hl:Lr colE 7 w j.ddl.cols cv)(hz:j.ddl.cols.length<=1000000):Calls Tryz.prog 45 #[.agg (jbA j cv)] w fun e w'=>∃ ad cap,e=.returned (.agg (jbA j (.slice ad j.ddl.cols.length cap)))/\w'.ownsRow w.heap.size 56 7 (.slice ad j.ddl.cols.length cap) j.ddl.cols.length (j.ddl.cols.flatMap colL)/\Below w.heap.size w w':=by
 obtain⟨ca,cc,rfl,hr0⟩:=hl;have hl:Lr colE 7 w j.ddl.cols (.slice ca j.ddl.cols.length cc):=⟨ca,cc,rfl,hr0⟩
 obtain⟨W,hW⟩:∃ W,W=(w.alloc (.cells (jbA j (.slice ca j.ddl.cols.length cc)) 66)).alloc (.cells zJ 66):=⟨_,rfl⟩
 have hb:=bw2 hW;obtain⟨Y1,hY1⟩:∃ Q,w.heap.size=Q:=⟨_,rfl⟩
 obtain⟨Y2,hY2⟩:∃ Q,Y1+1=Q:=⟨_,rfl⟩
 have j1:W.heap[Y1]?=some (.cells (jbA j (.slice ca j.ddl.cols.length cc)) 66 (0,0)):=nw21 hW hY1;have j2:W.heap[Y2]?=some (.cells zJ 66 (0,0)):=nw22 hW hY1 hY2;have hc:=ownC72_any (hl.on colE_held hb) hz;have c15:W.cell? ⟨Y1,15,none⟩=some (.slice ca j.ddl.cols.length cc):=cell_blk j1 15;obtain⟨cn,hcn⟩:∃ cn,j.ddl.cols.length=cn:=⟨_,rfl⟩
 rw [hcn]at hc c15 j1 hW ⊢;have HJ:=lh (And.intro j1 j2);have HN:Hid (Y1≠Y2/\w.heap.size=Y1/\Y1+1=Y2):=lh ⟨by omega,hY1,hY2⟩;have HW:=lh hW;have HB:=lh hb;have HC:=lh c15;clear hl hr0 hz hW hb hY1 hY2 j1 j2 hcn;go_enter Tryz.func45,Tryz.ntmps45;go_upto_region 1 with fail
 rw [<-HW.out,HN.out.2.1,HN.out.2.2];go_wp2_with (first|(go_at_call 72;refine hc.mono ?_;rintro e w6 ⟨ad,cap,rfl,h6,b6⟩;obtain⟨W1,W2,e1,e2,e3,e4,e5⟩:=clone_mid (ca':=ad) (cc':=cap) ((b6.block Y1 (blk_lt HJ.out.1)).trans HJ.out.1) ((b6.block Y2 (blk_lt HJ.out.2)).trans HJ.out.2) rfl HN.out.1;have H6:=lh h6;have HB6:=lh b6;have E1:=lh e1;have E2:=lh e2;have E3:=lh e3;have E4:=lh e4;have E5:=lh e5;clear h6 b6 e1 e2 e3 e4 e5 hc c15)|(refine wpl_store _ _ rfl (by simp [Act.eval,Act.put]) (by simp [Act.eval,Act.put]) E1.out ?_)|(refine wpl_load _ rfl (by simp [Act.eval,Act.put]) E2.out ?_)|(refine wpl_store _ _ rfl (by simp [Act.eval,Act.put]) (by simp [Act.eval,Act.put]) E3.out ?_))
 refine bodyPost_ret (results_one rfl rfl (load_var E4.out Tryz.underlying66 rfl size66)) rfl ?_;have hBB:Below w.heap.size w w6:=bgo HB.out HB6.out;refine⟨ad,cap,rfl,?_,hBB.trans (E5.out.toBelow (fun k hk q=>by have h1:=HN.out.2.1;have h2:=HN.out.2.2;omega) hBB.size)⟩;exact row_keep (own_mono H6.out HB.out.size) E5.out (fun k hk q=>by
  have hge:W.heap.size<=k:=by
   rcases H6.out.2 with⟨q0,_⟩ | ⟨g',cap',cur,q0,hge,_⟩
   ·rw [q0]at hk;cases hk
   ·rw [q0]at hk;simp only [Value.ownBlock,Option.some.injEq]at hk;subst hk;exact hge
  have h3:=blk_lt HJ.out.1;have h4:=blk_lt HJ.out.2;omega)
end
end Go.Proofs.YtkhehikaemdnnaaGreat
namespace Go.Proofs.YtkhehikaemdnnaaGreat
set_option maxRecDepth 100000
set_option maxHeartbeats 2000000
open Go.RowKit
abbrev zR:Array Value:=#[.int .i64 0,.int .i64 0,.int .i64 0,.int .i64 0,.int .i64 0,.int .i64 0,.int .i64 0,.int .i64 0,.bool false]
def TurnIs(w:World)(B:Nat)(c:Cm)(r:Rest)(cv:Value)(KS:List Int)(P:Value):Prop:=∀ X,Below w.heap.size w X->∀ kv,Lr inE 1 X KS kv->Calls Tryz.prog 65 #[.pointer (some ⟨B,0,none⟩),.agg (cmA c r cv),kv] X fun e w'=>e=.returned P/\Below X.heap.size X w'
theorem ints_new1{a:Int}(W:World):Lr inE 1 (W.alloc (.cells #[.int .i64 a] 3)) [a] (.slice (some ⟨W.heap.size,0,none⟩) 1 1):=by
 have h:=heap_alloc_new W (.cells #[.int .i64 a] 3);refine⟨_,_,rfl,fun e=>(by cases e),Nat.le_refl _,by unfold maxLen;decide,fun i hi=>?_⟩;obtain rfl:i=0:=by simp at hi;exact hi
 exact⟨W.heap.size,0,[.int .i64 a],rfl,blk_lt h,rfl,rfl,fun j u hu=>by rw [show 0+0*1+j=j from by omega,cell_blk h];simpa using hu⟩
section
variable {w : World}
theorem drain_no{B:Nat}{c:Cm}{r:Rest}{cv:Value}{t:Int}(hh:TurnIs w B c r cv [2] (.pointer none)):Calls Tryz.prog 29 #[.pointer (some ⟨B,0,none⟩),.int .i64 t,.agg (cmA c r cv)] w fun e w'=>e=.returned (.agg (rsA (rsE 160)))/\Below w.heap.size w w':=by
 obtain⟨W,hW⟩:∃ W,W=(w.alloc (.cells (cmA c r cv) 48)).alloc (.cells zR 53):=⟨_,rfl⟩
 have hb:=bw2 hW;obtain⟨Y5,hY5⟩:∃ Q,w.heap.size=Q:=⟨_,rfl⟩
 obtain⟨Y6,hY6⟩:∃ Q,Y5+1=Q:=⟨_,rfl⟩
 have j5:W.heap[Y5]?=some (.cells (cmA c r cv) 48 (0,0)):=nw21 hW hY5;have j6:W.heap[Y6]?=some (.cells zR 53 (0,0)):=nw22 hW hY5 hY6;have hld:(Instr.loadAt 48 (.pointer (some ⟨Y5,0,none⟩))).run Tryz.prog W=.ok (.agg (cmA c r cv)) W:=load_row j5 Tryz.underlying48 rfl size48;have hbX:Below w.heap.size w (W.alloc (.cells #[.int .i64 2] 3)):=hb.alloc hb.size _;have hc:=hh (W.alloc (.cells #[.int .i64 2] 3)) hbX (.slice (some ⟨W.heap.size,0,none⟩) 1 1) (ints_new1 W);have HJ:=lh (And.intro j5 j6);have HN:Hid (w.heap.size=Y5/\Y5+1=Y6):=lh ⟨hY5,hY6⟩;have HW:=lh hW;have HB:=lh hb;have HLD:=lh hld;clear hh hW hb hY5 hY6 j5 j6 hld hbX;obtain⟨cs,hcs⟩:∃ cs,cmA c r cv=cs:=⟨_,rfl⟩
 rw [hcs]at HW HLD HJ hc ⊢;clear hcs;go_enter Tryz.func29,Tryz.ntmps29;go_upto_region 1 with fail
 rw [<-HW.out,HN.out.1,HN.out.2];go_wp2_with (first|(go_at_call 65;refine hc.mono ?_;rintro e w6 ⟨rfl,b6⟩;have B6:=lh (bgo (bnew W _) b6);have j6:=(B6.out.block Y6 (blk_lt HJ.out.2)).trans HJ.out.2;obtain⟨X',hst,j',f'⟩:=st_row j6 (us:=rsA (rsE 160)) rfl size53 (by simp [Value.oneCell']);have HS:=lh hst;have HX:=lh (And.intro j' f');clear b6 hc j6 hst j' f')|(refine wpl_load _ rfl (by simp [Act.eval]) HLD.out ?_)|(refine wpl_store _ _ rfl (by simp [Act.eval]) (by simp [Act.eval]) HS.out ?_))
 refine bodyPost_ret (results_one rfl rfl (load_var HX.out.1 Tryz.underlying53 rfl size53)) rfl ?_;have hBB:Below w.heap.size w w6:=bgo HB.out B6.out;exact⟨rfl,hBB.trans (HX.out.2.toBelow (fun k hk q=>by have h1:=HN.out.1;have h2:=HN.out.2;omega) hBB.size)⟩
theorem drain_mid{jb o Y6:Nat}{j:Jb}{jv:Value}{cur:Array Value}(hP:JPut w jb o cur j jv)(ho:o+22<=cur.size)(hne:jb≠Y6)(j6:w.heap[Y6]?=some (.cells zR 53 (0,0))):
  ∃ W1 W2,w.cell? ⟨jb,o+18,none⟩=some (.bool j.drain)/\(Instr.storeAt 4 (.pointer (some ⟨jb,o+18,none⟩)) (.bool true)).run Tryz.prog w=.ok () W1/\(Instr.storeAt 53 (.pointer (some ⟨Y6,0,none⟩)) (.agg (rsA ⟨0,0,0,0,!j.drain⟩))).run Tryz.prog W1=.ok () W2 /\
   W2.heap[Y6]?=some (.cells (rsA ⟨0,0,0,0,!j.drain⟩) 53 (0,0))/\JPut W2 jb o cur { j with drain:=true } jv/\Fr w W2 (fun k=>k=jb\/k=Y6):=by
 obtain⟨cur1,j1,hz1,_,hr1⟩:=id hP;have c18:w.cell? ⟨jb,o+18,none⟩=some (.bool j.drain):=hr1 18 _ rfl;have z18:w.frozen? ⟨jb,o+18,none⟩=false:=frozen_blk j1 _;obtain⟨W1,hW1⟩:∃ W1,W1=w.setCell ⟨jb,o+18,none⟩ (.bool true):=⟨_,rfl⟩
 have e1:(Instr.storeAt 4 (.pointer (some ⟨jb,o+18,none⟩)) (.bool true)).run Tryz.prog w=.ok () W1:=by rw [hW1];go_simp
 have P1:JPut W1 jb o cur { j with drain:=true } jv:=by rw [hW1];exact hP.set ho (by decide) rfl
 have f1:Fr w W1 (fun k=>k=jb):=by rw [hW1];exact(Fr.refl w (fun k=>k=jb)).set (a:=⟨jb,o+18,none⟩) (.inl rfl) _
 have k6:W1.heap[Y6]?=some (.cells zR 53 (0,0)):=(f1.block Y6 (blk_lt j6) (fun q=>hne q.symm)).trans j6;obtain⟨W2,e2,k2,f2⟩:=st_row k6 (us:=rsA ⟨0,0,0,0,!j.drain⟩) rfl size53 (by simp [Value.oneCell']);have hlt:jb<W1.heap.size:=by
  obtain⟨_,q,_⟩:=P1;exact blk_lt q
 exact⟨W1,W2,c18,e1,e2,k2,P1.stays (f2.block jb hlt hne),(f1.mono fun k q=>.inl q).trans (f2.mono fun k q=>.inr q)⟩
theorem drain_yes{B jb o:Nat}{c:Cm}{r:Rest}{cv jv:Value}{t:Int}{j:Jb}{cur:Array Value}(hh:TurnIs w B c r cv [2] (.pointer (some ⟨jb,o,none⟩)))(hJ:w.heap[jb]?=some (.cells cur 66 (0,0)))(ho:o+22<=cur.size)(h:JobAt w jb o j jv):
  Calls Tryz.prog 29 #[.pointer (some ⟨B,0,none⟩),.int .i64 t,.agg (cmA c r cv)] w fun e w'=>e=.returned (.agg (rsA ⟨0,0,0,0,!j.drain⟩))/\JPut w' jb o cur { j with drain:=true } jv/\Fr w w' (fun k=>k=jb):=by
 obtain⟨W,hW⟩:∃ W,W=(w.alloc (.cells (cmA c r cv) 48)).alloc (.cells zR 53):=⟨_,rfl⟩
 have hb:=bw2 hW;obtain⟨Y5,hY5⟩:∃ Q,w.heap.size=Q:=⟨_,rfl⟩
 obtain⟨Y6,hY6⟩:∃ Q,Y5+1=Q:=⟨_,rfl⟩
 have j5:W.heap[Y5]?=some (.cells (cmA c r cv) 48 (0,0)):=nw21 hW hY5;have j6:W.heap[Y6]?=some (.cells zR 53 (0,0)):=nw22 hW hY5 hY6;have hld:(Instr.loadAt 48 (.pointer (some ⟨Y5,0,none⟩))).run Tryz.prog W=.ok (.agg (cmA c r cv)) W:=load_row j5 Tryz.underlying48 rfl size48;have hbX:Below w.heap.size w (W.alloc (.cells #[.int .i64 2] 3)):=hb.alloc hb.size _;have hc:=hh (W.alloc (.cells #[.int .i64 2] 3)) hbX (.slice (some ⟨W.heap.size,0,none⟩) 1 1) (ints_new1 W);have HJ:=lh (And.intro j5 j6);have HN:Hid (w.heap.size=Y5/\Y5+1=Y6):=lh ⟨hY5,hY6⟩;have HW:=lh hW;have HB:=lh hb;have HLD:=lh hld;have hlt:=blk_lt hJ;have PJ:=lh (And.intro (JPut.start hJ h) (And.intro ho (And.intro (show jb≠Y6 by omega) hlt)));clear hh hW hb hY5 hY6 j5 j6 hld hbX hJ ho h hlt;obtain⟨cs,hcs⟩:∃ cs,cmA c r cv=cs:=⟨_,rfl⟩
 rw [hcs]at HW HLD HJ hc ⊢;clear hcs;go_enter Tryz.func29,Tryz.ntmps29;go_upto_region 1 with fail
 rw [<-HW.out,HN.out.1,HN.out.2];go_wp2_with (first|(go_at_call 65;refine hc.mono ?_;rintro e w6 ⟨rfl,b6⟩;have B6:=lh (bgo (bnew W _) b6);have BB:=lh (bgo HB.out B6.out);obtain⟨W1,X',k18,hs1,hs2,hj,hp,hf⟩:=drain_mid (PJ.out.1.stays (BB.out.block jb PJ.out.2.2.2)) PJ.out.2.1 PJ.out.2.2.1 ((B6.out.block Y6 (blk_lt HJ.out.2)).trans HJ.out.2);have S1:=lh hs1;have S2:=lh hs2;have HX:=lh (And.intro hj (And.intro hp hf));clear b6 hc hs1 hs2 hj hp hf)|(refine wpl_load _ rfl (by simp [Act.eval]) HLD.out ?_)|(refine wpl_store _ _ rfl (by simp [Act.eval]) (by simp [Act.eval]) S1.out ?_)|(refine wpl_store _ _ rfl (by simp [Act.eval]) (by simp [Act.eval]) S2.out ?_))
 refine bodyPost_ret (results_one rfl rfl (load_var HX.out.1 Tryz.underlying53 rfl size53)) rfl ?_;refine⟨rfl,HX.out.2.1,?_⟩;have fb:Fr w w6 (fun k=>k=jb):=Fr.ofBelow _ BB.out;exact fb.step HX.out.2.2 (fun k q=>by
  rcases q with q | q
  ·exact .inl q
  ·right
   have h1:=HN.out.1;have h2:=HN.out.2;omega)
end
end Go.Proofs.YtkhehikaemdnnaaGreat
namespace Go.Proofs.YtkhehikaemdnnaaGreat
set_option maxRecDepth 100000
set_option maxHeartbeats 2000000
open Go.RowKit
theorem ints_new2{a b:Int}(W:World):Lr inE 1 (W.alloc (.cells #[.int .i64 a,.int .i64 b] 3)) [a,b] (.slice (some ⟨W.heap.size,0,none⟩) 2 2):=by
 have h:=heap_alloc_new W (.cells #[.int .i64 a,.int .i64 b] 3);refine⟨_,_,rfl,fun e=>(by cases e),Nat.le_refl _,by unfold maxLen;decide,fun i hi=>?_⟩;have h0:i=0\/i=1:=by simp at hi;omega
 rcases h0 with rfl | rfl
 ·exact⟨W.heap.size,0,[.int .i64 a],rfl,blk_lt h,rfl,rfl,fun j u hu=>by
   rcases j with _ | j
   ·rw [cell_blk h];simpa using hu
   ·simp at hu⟩
 ·exact⟨W.heap.size,0,[.int .i64 b],rfl,blk_lt h,rfl,rfl,fun j u hu=>by
   rcases j with _ | j
   ·rw [cell_blk h];simpa using hu
   ·simp at hu⟩
theorem ints_new3{a b c:Int}(W:World):Lr inE 1 (W.alloc (.cells #[.int .i64 a,.int .i64 b,.int .i64 c] 3)) [a,b,c] (.slice (some ⟨W.heap.size,0,none⟩) 3 3):=by
 have h:=heap_alloc_new W (.cells #[.int .i64 a,.int .i64 b,.int .i64 c] 3);refine⟨_,_,rfl,fun e=>(by cases e),Nat.le_refl _,by unfold maxLen;decide,fun i hi=>?_⟩;have h0:i=0\/i=1\/i=2:=by simp at hi;omega
 rcases h0 with rfl | rfl | rfl
 ·exact⟨W.heap.size,0,[.int .i64 a],rfl,blk_lt h,rfl,rfl,fun j u hu=>by
   rcases j with _ | j
   ·rw [cell_blk h];simpa using hu
   ·simp at hu⟩
 ·exact⟨W.heap.size,0,[.int .i64 b],rfl,blk_lt h,rfl,rfl,fun j u hu=>by
   rcases j with _ | j
   ·rw [cell_blk h];simpa using hu
   ·simp at hu⟩
 ·exact⟨W.heap.size,0,[.int .i64 c],rfl,blk_lt h,rfl,rfl,fun j u hu=>by
   rcases j with _ | j
   ·rw [cell_blk h];simpa using hu
   ·simp at hu⟩
section
variable {w : World}
theorem fail_no{B:Nat}{c:Cm}{r:Rest}{cv:Value}{t:Int}(hh:TurnIs w B c r cv [4] (.pointer none)):Calls Tryz.prog 32 #[.pointer (some ⟨B,0,none⟩),.int .i64 t,.agg (cmA c r cv)] w fun e w'=>e=.returned (.agg (rsA (rsE 160)))/\Below w.heap.size w w':=by
 obtain⟨W,hW⟩:∃ W,W=(w.alloc (.cells (cmA c r cv) 48)).alloc (.cells zR 53):=⟨_,rfl⟩
 have hb:=bw2 hW;obtain⟨Y5,hY5⟩:∃ Q,w.heap.size=Q:=⟨_,rfl⟩
 obtain⟨Y6,hY6⟩:∃ Q,Y5+1=Q:=⟨_,rfl⟩
 have j5:W.heap[Y5]?=some (.cells (cmA c r cv) 48 (0,0)):=nw21 hW hY5;have j6:W.heap[Y6]?=some (.cells zR 53 (0,0)):=nw22 hW hY5 hY6;have hld:(Instr.loadAt 48 (.pointer (some ⟨Y5,0,none⟩))).run Tryz.prog W=.ok (.agg (cmA c r cv)) W:=load_row j5 Tryz.underlying48 rfl size48;have hbX:Below w.heap.size w (W.alloc (.cells #[.int .i64 4] 3)):=hb.alloc hb.size _;have hc:=hh (W.alloc (.cells #[.int .i64 4] 3)) hbX (.slice (some ⟨W.heap.size,0,none⟩) 1 1) (ints_new1 W);have HJ:=lh (And.intro j5 j6);have HN:Hid (w.heap.size=Y5/\Y5+1=Y6):=lh ⟨hY5,hY6⟩;have HW:=lh hW;have HB:=lh hb;have HLD:=lh hld;clear hh hW hb hY5 hY6 j5 j6 hld hbX;obtain⟨cs,hcs⟩:∃ cs,cmA c r cv=cs:=⟨_,rfl⟩
 rw [hcs]at HW HLD HJ hc ⊢;clear hcs;go_enter Tryz.func32,Tryz.ntmps32;go_upto_region 1 with fail
 rw [<-HW.out,HN.out.1,HN.out.2];go_wp2_with (first|(go_at_call 65;refine hc.mono ?_;rintro e w6 ⟨rfl,b6⟩;have B6:=lh (bgo (bnew W _) b6);have j6:=(B6.out.block Y6 (blk_lt HJ.out.2)).trans HJ.out.2;obtain⟨X',hst,j',f'⟩:=st_row j6 (us:=rsA (rsE 160)) rfl size53 (by simp [Value.oneCell']);have HS:=lh hst;have HX:=lh (And.intro j' f');clear b6 hc j6 hst j' f')|(refine wpl_load _ rfl (by simp [Act.eval]) HLD.out ?_)|(refine wpl_store _ _ rfl (by simp [Act.eval]) (by simp [Act.eval]) HS.out ?_))
 refine bodyPost_ret (results_one rfl rfl (load_var HX.out.1 Tryz.underlying53 rfl size53)) rfl ?_;have hBB:Below w.heap.size w w6:=bgo HB.out B6.out;exact⟨rfl,hBB.trans (HX.out.2.toBelow (fun k hk q=>by have h1:=HN.out.1;have h2:=HN.out.2;omega) hBB.size)⟩
theorem mark_no{B:Nat}{c:Cm}{r:Rest}{cv:Value}{t:Int}(hh:TurnIs w B c r cv [4,5] (.pointer none)):Calls Tryz.prog 31 #[.pointer (some ⟨B,0,none⟩),.int .i64 t,.agg (cmA c r cv)] w fun e w'=>e=.returned (.agg (rsA (rsE 160)))/\Below w.heap.size w w':=by
 obtain⟨W,hW⟩:∃ W,W=(w.alloc (.cells (cmA c r cv) 48)).alloc (.cells zR 53):=⟨_,rfl⟩
 have hb:=bw2 hW;obtain⟨Y5,hY5⟩:∃ Q,w.heap.size=Q:=⟨_,rfl⟩
 obtain⟨Y6,hY6⟩:∃ Q,Y5+1=Q:=⟨_,rfl⟩
 have j5:W.heap[Y5]?=some (.cells (cmA c r cv) 48 (0,0)):=nw21 hW hY5;have j6:W.heap[Y6]?=some (.cells zR 53 (0,0)):=nw22 hW hY5 hY6;have hld:(Instr.loadAt 48 (.pointer (some ⟨Y5,0,none⟩))).run Tryz.prog W=.ok (.agg (cmA c r cv)) W:=load_row j5 Tryz.underlying48 rfl size48;have hbX:Below w.heap.size w (W.alloc (.cells #[.int .i64 4,.int .i64 5] 3)):=hb.alloc hb.size _;have hc:=hh (W.alloc (.cells #[.int .i64 4,.int .i64 5] 3)) hbX (.slice (some ⟨W.heap.size,0,none⟩) 2 2) (ints_new2 W);have HJ:=lh (And.intro j5 j6);have HN:Hid (w.heap.size=Y5/\Y5+1=Y6):=lh ⟨hY5,hY6⟩;have HW:=lh hW;have HB:=lh hb;have HLD:=lh hld;clear hh hW hb hY5 hY6 j5 j6 hld hbX;obtain⟨cs,hcs⟩:∃ cs,cmA c r cv=cs:=⟨_,rfl⟩
 rw [hcs]at HW HLD HJ hc ⊢;clear hcs;go_enter Tryz.func31,Tryz.ntmps31;go_upto_region 1 with fail
 rw [<-HW.out,HN.out.1,HN.out.2];go_wp2_with (first|(go_at_call 65;refine hc.mono ?_;rintro e w6 ⟨rfl,b6⟩;have B6:=lh (bgo (bnew W _) b6);have j6:=(B6.out.block Y6 (blk_lt HJ.out.2)).trans HJ.out.2;obtain⟨X',hst,j',f'⟩:=st_row j6 (us:=rsA (rsE 160)) rfl size53 (by simp [Value.oneCell']);have HS:=lh hst;have HX:=lh (And.intro j' f');clear b6 hc j6 hst j' f')|(refine wpl_load _ rfl (by simp [Act.eval]) HLD.out ?_)|(refine wpl_store _ _ rfl (by simp [Act.eval]) (by simp [Act.eval]) HS.out ?_))
 refine bodyPost_ret (results_one rfl rfl (load_var HX.out.1 Tryz.underlying53 rfl size53)) rfl ?_;have hBB:Below w.heap.size w w6:=bgo HB.out B6.out;exact⟨rfl,hBB.trans (HX.out.2.toBelow (fun k hk q=>by have h1:=HN.out.1;have h2:=HN.out.2;omega) hBB.size)⟩
theorem go_no{B:Nat}{c:Cm}{r:Rest}{cv:Value}{t:Int}(hh:TurnIs w B c r cv [1,2,3] (.pointer none)):Calls Tryz.prog 30 #[.pointer (some ⟨B,0,none⟩),.int .i64 t,.agg (cmA c r cv)] w fun e w'=>e=.returned (.agg (rsA (rsE 160)))/\Below w.heap.size w w':=by
 obtain⟨W,hW⟩:∃ W,W=(w.alloc (.cells (cmA c r cv) 48)).alloc (.cells zR 53):=⟨_,rfl⟩
 have hb:=bw2 hW;obtain⟨Y5,hY5⟩:∃ Q,w.heap.size=Q:=⟨_,rfl⟩
 obtain⟨Y6,hY6⟩:∃ Q,Y5+1=Q:=⟨_,rfl⟩
 have j5:W.heap[Y5]?=some (.cells (cmA c r cv) 48 (0,0)):=nw21 hW hY5;have j6:W.heap[Y6]?=some (.cells zR 53 (0,0)):=nw22 hW hY5 hY6;have hld:(Instr.loadAt 48 (.pointer (some ⟨Y5,0,none⟩))).run Tryz.prog W=.ok (.agg (cmA c r cv)) W:=load_row j5 Tryz.underlying48 rfl size48;have hbX:Below w.heap.size w (W.alloc (.cells #[.int .i64 1,.int .i64 2,.int .i64 3] 3)):=hb.alloc hb.size _;have hc:=hh (W.alloc (.cells #[.int .i64 1,.int .i64 2,.int .i64 3] 3)) hbX (.slice (some ⟨W.heap.size,0,none⟩) 3 3) (ints_new3 W);have HJ:=lh (And.intro j5 j6);have HN:Hid (w.heap.size=Y5/\Y5+1=Y6):=lh ⟨hY5,hY6⟩;have HW:=lh hW;have HB:=lh hb;have HLD:=lh hld;clear hh hW hb hY5 hY6 j5 j6 hld hbX;obtain⟨cs,hcs⟩:∃ cs,cmA c r cv=cs:=⟨_,rfl⟩
 rw [hcs]at HW HLD HJ hc ⊢;clear hcs;go_enter Tryz.func30,Tryz.ntmps30;go_upto_region 1 with fail
 rw [<-HW.out,HN.out.1,HN.out.2];go_wp2_with (first|(go_at_call 65;refine hc.mono ?_;rintro e w6 ⟨rfl,b6⟩;have B6:=lh (bgo (bnew W _) b6);have j6:=(B6.out.block Y6 (blk_lt HJ.out.2)).trans HJ.out.2;obtain⟨X',hst,j',f'⟩:=st_row j6 (us:=rsA (rsE 160)) rfl size53 (by simp [Value.oneCell']);have HS:=lh hst;have HX:=lh (And.intro j' f');clear b6 hc j6 hst j' f')|(refine wpl_load _ rfl (by simp [Act.eval]) HLD.out ?_)|(refine wpl_store _ _ rfl (by simp [Act.eval]) (by simp [Act.eval]) HS.out ?_))
 refine bodyPost_ret (results_one rfl rfl (load_var HX.out.1 Tryz.underlying53 rfl size53)) rfl ?_;have hBB:Below w.heap.size w w6:=bgo HB.out B6.out;exact⟨rfl,hBB.trans (HX.out.2.toBelow (fun k hk q=>by have h1:=HN.out.1;have h2:=HN.out.2;omega) hBB.size)⟩
/-- A job that goes back already. -/
theorem fail_back{B jb o:Nat}{j:Jb}{jv:Value}{c:Cm}{r:Rest}{cv:Value}{t:Int}(hh:TurnIs w B c r cv [4] (.pointer (some ⟨jb,o,none⟩)))(h:JobAt w jb o j jv)(hbk:j.back=true):Calls Tryz.prog 32 #[.pointer (some ⟨B,0,none⟩),.int .i64 t,.agg (cmA c r cv)] w fun e w'=>e=.returned (.agg (rsA (rsE 160)))/\Below w.heap.size w w':=by
 obtain⟨W,hW⟩:∃ W,W=(w.alloc (.cells (cmA c r cv) 48)).alloc (.cells zR 53):=⟨_,rfl⟩
 have hb:=bw2 hW;obtain⟨Y5,hY5⟩:∃ Q,w.heap.size=Q:=⟨_,rfl⟩
 obtain⟨Y6,hY6⟩:∃ Q,Y5+1=Q:=⟨_,rfl⟩
 have j5:W.heap[Y5]?=some (.cells (cmA c r cv) 48 (0,0)):=nw21 hW hY5;have j6:W.heap[Y6]?=some (.cells zR 53 (0,0)):=nw22 hW hY5 hY6;have hld:(Instr.loadAt 48 (.pointer (some ⟨Y5,0,none⟩))).run Tryz.prog W=.ok (.agg (cmA c r cv)) W:=load_row j5 Tryz.underlying48 rfl size48;have hbX:Below w.heap.size w (W.alloc (.cells #[.int .i64 4] 3)):=hb.alloc hb.size _;have hc:=hh (W.alloc (.cells #[.int .i64 4] 3)) hbX (.slice (some ⟨W.heap.size,0,none⟩) 1 1) (ints_new1 W);have HJ:=lh (And.intro j5 j6);have HN:Hid (w.heap.size=Y5/\Y5+1=Y6):=lh ⟨hY5,hY6⟩;have HW:=lh hW;have HB:=lh hb;have HLD:=lh hld;have hw17:w.cell? ⟨jb,o+17,none⟩=some (.bool true):=by
  have:=h 17 _ rfl;rw [hbk]at this;exact this
 have H17:=lh hw17;clear h hbk hw17;clear hh hW hb hY5 hY6 j5 j6 hld hbX;obtain⟨cs,hcs⟩:∃ cs,cmA c r cv=cs:=⟨_,rfl⟩
 rw [hcs]at HW HLD HJ hc ⊢;clear hcs;go_enter Tryz.func32,Tryz.ntmps32;go_upto_region 1 with fail
 rw [<-HW.out,HN.out.1,HN.out.2];go_wp2_with (first|(go_at_call 65;refine hc.mono ?_;rintro e w6 ⟨rfl,b6⟩;have B6:=lh (bgo (bnew W _) b6);have j6:=(B6.out.block Y6 (blk_lt HJ.out.2)).trans HJ.out.2;obtain⟨X',hst,j',f'⟩:=st_row j6 (us:=rsA (rsE 160)) rfl size53 (by simp [Value.oneCell']);have HS:=lh hst;have c17:=cell_on (bgo HB.out B6.out) H17.out;have HX:=lh (And.intro j' f');clear b6 hc j6 hst j' f')|(refine wpl_load _ rfl (by simp [Act.eval]) HLD.out ?_)|(refine wpl_store _ _ rfl (by simp [Act.eval]) (by simp [Act.eval]) HS.out ?_))
 refine bodyPost_ret (results_one rfl rfl (load_var HX.out.1 Tryz.underlying53 rfl size53)) rfl ?_;have hBB:Below w.heap.size w w6:=bgo HB.out B6.out;exact⟨rfl,hBB.trans (HX.out.2.toBelow (fun k hk q=>by have h1:=HN.out.1;have h2:=HN.out.2;omega) hBB.size)⟩
end
end Go.Proofs.YtkhehikaemdnnaaGreat
namespace Go.Proofs.YtkhehikaemdnnaaGreat
set_option maxRecDepth 100000
set_option maxHeartbeats 2000000
open Go.RowKit
section
variable {w : World}
def StepIs(w:World)(B jb o:Nat)(Q:World->World->Prop):Prop:=(∀ X,Below w.heap.size w X->Calls Tryz.prog 68 #[.pointer (some ⟨B,0,none⟩),.pointer (some ⟨jb,o,none⟩)] X fun e w'=>e=.returned (.tuple #[])/\Q X w')/\∀ X X',Q X X'->∃ S,Fr X X' S/\∀ k,S k->k<w.heap.size
theorem mark_over{B jb o:Nat}{c:Cm}{r:Rest}{cv:Value}{t:Int}{Q:World->World->Prop}(hh:TurnIs w B c r cv [4,5] (.pointer (some ⟨jb,o,none⟩)))(hv:c.ver=1)(hs:StepIs w B jb o Q):
  Calls Tryz.prog 31 #[.pointer (some ⟨B,0,none⟩),.int .i64 t,.agg (cmA c r cv)] w fun e w'=>e=.returned (.agg (rsA rsN))/\∃ X X' Y,Below w.heap.size w X/\Q X X'/\w.heap.size<=Y/\Fr X' w' (fun k=>k=Y):=by
 obtain⟨W,hW⟩:∃ W,W=(w.alloc (.cells (cmA c r cv) 48)).alloc (.cells zR 53):=⟨_,rfl⟩
 have hb:=bw2 hW;obtain⟨Y5,hY5⟩:∃ Q,w.heap.size=Q:=⟨_,rfl⟩
 obtain⟨Y6,hY6⟩:∃ Q,Y5+1=Q:=⟨_,rfl⟩
 have j5:W.heap[Y5]?=some (.cells (cmA c r cv) 48 (0,0)):=nw21 hW hY5;have j6:W.heap[Y6]?=some (.cells zR 53 (0,0)):=nw22 hW hY5 hY6;have hld:(Instr.loadAt 48 (.pointer (some ⟨Y5,0,none⟩))).run Tryz.prog W=.ok (.agg (cmA c r cv)) W:=load_row j5 Tryz.underlying48 rfl size48;have hbX:Below w.heap.size w (W.alloc (.cells #[.int .i64 4,.int .i64 5] 3)):=hb.alloc hb.size _;have hc:=hh (W.alloc (.cells #[.int .i64 4,.int .i64 5] 3)) hbX (.slice (some ⟨W.heap.size,0,none⟩) 2 2) (ints_new2 W);have HJ:=lh (And.intro j5 j6);have HN:Hid (w.heap.size=Y5/\Y5+1=Y6):=lh ⟨hY5,hY6⟩;have HW:=lh hW;have HB:=lh hb;have HLD:=lh hld;have hw13:W.cell? ⟨Y5,13,none⟩=some (.int .i64 1):=by
  have:W.cell? ⟨Y5,13,none⟩=some (.int .i64 c.ver):=cell_blk j5 13;rw [hv]at this;exact this
 have H13:=lh hw13;have HST:=lh hs;have h6lt:=blk_lt j6;have H6:=lh h6lt;clear hh hW hb hY5 hY6 j5 j6 hld hbX hw13 hs h6lt hv;obtain⟨cs,hcs⟩:∃ cs,cmA c r cv=cs:=⟨_,rfl⟩
 rw [hcs]at HW HLD HJ hc ⊢;clear hcs;go_enter Tryz.func31,Tryz.ntmps31;go_upto_region 1 with fail
 rw [<-HW.out,HN.out.1,HN.out.2];go_wp2_with (first|(go_at_call 65;refine hc.mono ?_;rintro e w6 ⟨rfl,b6⟩;have B6:=lh (bgo (bnew W _) b6);have BB:=lh (bgo HB.out B6.out);have c13:=cell_on B6.out H13.out;clear b6 hc)|(go_at_call 68;refine(HST.out.1 w6 BB.out).mono ?_;rintro e w7 ⟨rfl,q7⟩;obtain⟨S,hfS,hS⟩:=HST.out.2 _ _ q7;have j7:=(hfS.block Y6 (Nat.lt_of_lt_of_le H6.out B6.out.size) (fun q=>by have h1:=HN.out.1;have h2:=HN.out.2;have:=hS _ q;omega)).trans ((B6.out.block Y6 H6.out).trans HJ.out.2);obtain⟨X',hst,j',f'⟩:=st_row j7 (us:=rsA rsN) rfl size53 (by simp [Value.oneCell']);have HS:=lh hst;have HX:=lh (And.intro j' (And.intro f' q7));clear hfS hS j7 hst j' f' q7)|(refine wpl_load _ rfl (by simp [Act.eval]) HLD.out ?_)|(refine wpl_store _ _ rfl (by simp [Act.eval]) (by simp [Act.eval]) HS.out ?_))
 refine bodyPost_ret (results_one rfl rfl (load_var HX.out.1 Tryz.underlying53 rfl size53)) rfl ?_;exact⟨rfl,w6,w7,Y6,BB.out,HX.out.2.2,by have h1:=HN.out.1;have h2:=HN.out.2;omega,HX.out.2.1⟩
end
end Go.Proofs.YtkhehikaemdnnaaGreat
namespace Go.Proofs.YtkhehikaemdnnaaGreat
set_option maxRecDepth 100000
set_option maxHeartbeats 4000000
open Go.RowKit
section
variable {ρ : Operand -> Value} {X : World} {d : Option Tmp} {ty : TypeId} {ps : String} {af : Array Edge} {g : Option (Nat × Bool)}
theorem op_max9{x y:Operand}{a b:ByteArray}(e:ρ x=.string a)(e2:ρ y=.string b):(execOp ρ ⟨d,.call { callee:=.builtin .max,args:=#[x,y],argTypes:=#[9,9] },ty,ps,af,g⟩).run Tryz.prog X=.ok (.value (.string (maxS a b))) X:=by
 simp only [execOp,resolve,invoke,builtin,Sem.run_bind,Sem.run_pure,Result.andThen_ok,List.map_toArray,List.map_cons,List.map_nil,e,e2];cases hl:Op.bytesLess a.toList b.toList <;> simp [Builtin.max_,Builtin.max2,Op.stringOp,asBool,maxS,hl]
end
section
variable {w : World}
theorem mark_far{B jb o:Nat}{c:Cm}{r:Rest}{cv jv:Value}{t:Int}{j:Jb}{cur:Array Value}(hh:TurnIs w B c r cv [4,5] (.pointer (some ⟨jb,o,none⟩)))(hv:¬ c.ver=1)(hJ:w.heap[jb]?=some (.cells cur 66 (0,0)))(ho:o+22<=cur.size)(h:JobAt w jb o j jv):
  Calls Tryz.prog 31 #[.pointer (some ⟨B,0,none⟩),.int .i64 t,.agg (cmA c r cv)] w fun e w'=>e=.returned (.agg (rsA rsN))/\JPut w' jb o cur { j with mark:=maxS j.mark c.mark } jv/\Fr w w' (fun k=>k=jb):=by
 obtain⟨W,hW⟩:∃ W,W=(w.alloc (.cells (cmA c r cv) 48)).alloc (.cells zR 53):=⟨_,rfl⟩
 have hb:=bw2 hW;obtain⟨Y5,hY5⟩:∃ Q,w.heap.size=Q:=⟨_,rfl⟩
 obtain⟨Y6,hY6⟩:∃ Q,Y5+1=Q:=⟨_,rfl⟩
 have j5:W.heap[Y5]?=some (.cells (cmA c r cv) 48 (0,0)):=nw21 hW hY5;have j6:W.heap[Y6]?=some (.cells zR 53 (0,0)):=nw22 hW hY5 hY6;have hld:(Instr.loadAt 48 (.pointer (some ⟨Y5,0,none⟩))).run Tryz.prog W=.ok (.agg (cmA c r cv)) W:=load_row j5 Tryz.underlying48 rfl size48;have hbX:Below w.heap.size w (W.alloc (.cells #[.int .i64 4,.int .i64 5] 3)):=hb.alloc hb.size _;have hc:=hh (W.alloc (.cells #[.int .i64 4,.int .i64 5] 3)) hbX (.slice (some ⟨W.heap.size,0,none⟩) 2 2) (ints_new2 W);have HJ:=lh (And.intro j5 j6);have HN:Hid (w.heap.size=Y5/\Y5+1=Y6):=lh ⟨hY5,hY6⟩;have HW:=lh hW;have HB:=lh hb;have HLD:=lh hld;have hlt:=blk_lt hJ;have h13:W.cell? ⟨Y5,13,none⟩=some (.int .i64 c.ver):=cell_blk j5 13;have h28:W.cell? ⟨Y5,28,none⟩=some (.string c.mark):=cell_blk j5 28;have H13:=lh h13;have H28:=lh h28;have PJ:=lh (And.intro (JPut.start hJ h) (And.intro ho (And.intro (show jb≠Y6 by omega) hlt)));clear hh hW hb hY5 hY6 j5 j6 hld hbX h13 h28 hJ ho h hlt;obtain⟨cs,hcs⟩:∃ cs,cmA c r cv=cs:=⟨_,rfl⟩
 rw [hcs]at HW HLD HJ hc ⊢;clear hcs;go_enter Tryz.func31,Tryz.ntmps31;go_upto_region 1 with fail
 rw [<-HW.out,HN.out.1,HN.out.2];go_upto_region 6 with (first|(go_at_call 65;refine hc.mono ?_;rintro e v6 ⟨rfl,b6⟩;have B6:=lh (bgo (bnew W _) b6);have BB:=lh (bgo HB.out B6.out);have c13:=cell_on B6.out H13.out;have C28:=lh (cell_on B6.out H28.out);have PV:=lh (PJ.out.1.stays (BB.out.block jb PJ.out.2.2.2));have J6:=lh ((B6.out.block Y6 (blk_lt HJ.out.2)).trans HJ.out.2);clear b6 hc)|(refine wpl_load _ rfl (by simp [Act.eval]) HLD.out ?_))
 obtain⟨cur1,jv1,hz1,ho1,hr1⟩:=id PV.out;have C19:Hid (v6.cell? ⟨jb,o+19,none⟩=some (.string j.mark)):=lh (hr1 19 _ rfl);clear c13 jv1 hz1 ho1 hr1;refine wp_region_fin (fun X9=>Below v6.heap.size v6 X9) (fun X9 X8=>Below X9.heap.size X9 X8) [
  fun v9 _=>v9=.pointer (some ⟨jb,o,none⟩),fun v9 _=>v9=.pointer (some ⟨jb,o,none⟩),fun v9 _=>v9=.pointer (some ⟨jb,o,none⟩),fun v9 _=>v9=.pointer (some ⟨jb,o+19,none⟩),fun v9 _=>v9=.string j.mark,fun v9 _=>v9=.pointer (some ⟨Y5,28,none⟩),fun v9 _=>v9=.string c.mark,fun v9 _=>v9=.string (maxS j.mark c.mark),fun v9 _=>v9=.pointer (some ⟨jb,o,none⟩),fun v9 _=>v9=.pointer (some ⟨jb,o+19,none⟩)]
  (fun _ X9=>JPut X9 jb o cur { j with mark:=maxS j.mark c.mark } jv/\Fr v6 X9 (fun k=>k=jb)) rfl (by kernel_rfl) (by kernel_rfl) (by kernel_rfl) (by kernel_rfl) ?st ?g0 ?os ?la ?en
 case st=>
  iterate 10 refine⟨fun _ _ _ _ h=>h,?_⟩
  exact trivial
 case g0=>exact⟨rfl,rfl,rfl,Nat.le_refl _,fun _ _=>rfl⟩
 case os =>
  refine⟨?_,?_,?_,?_,?_,?_,?_,?_,?_,?_,trivial⟩
  ·exact⟨rfl,fun ρ _ hg ho _ _ _=>Runs.val _ (op_move (show ρ (.tmp 7)=.pointer (some ⟨jb,o,none⟩)from ho 7 rfl)) ⟨hg,Below.refl _ _,rfl⟩⟩
  ·exact⟨rfl,fun ρ _ hg ho _ _ _=>Runs.val _ (op_move (show ρ (.tmp 7)=.pointer (some ⟨jb,o,none⟩)from ho 7 rfl)) ⟨hg,Below.refl _ _,rfl⟩⟩
  ·exact⟨rfl,fun ρ _ hg _ _ _ hr=>Runs.val _ (op_nil (show ρ (.tmp 22)=.pointer (some ⟨jb,o,none⟩)from hr 1 22 rfl rfl)) ⟨hg,Below.refl _ _,rfl⟩⟩
  ·exact⟨rfl,fun ρ _ hg _ _ _ hr=>Runs.val _ (op_f66_7 (show ρ (.tmp 23)=.pointer (some ⟨jb,o,none⟩)from hr 2 23 rfl rfl)) ⟨hg,Below.refl _ _,rfl⟩⟩
  ·exact⟨rfl,fun ρ _ hg _ _ _ hr=>Runs.val _ (op_load9 (show ρ (.tmp 24)=.pointer (some ⟨jb,o+19,none⟩)from hr 3 24 rfl rfl) (cell_on hg C19.out)) ⟨hg,Below.refl _ _,rfl⟩⟩
  ·exact⟨rfl,fun ρ _ hg ho _ _ _=>Runs.val _ (op_f48_14 (show ρ (.tmp 5)=.pointer (some ⟨Y5,0,none⟩)from ho 5 rfl)) ⟨hg,Below.refl _ _,rfl⟩⟩
  ·exact⟨rfl,fun ρ _ hg _ _ _ hr=>Runs.val _ (op_load9 (show ρ (.tmp 26)=.pointer (some ⟨Y5,28,none⟩)from hr 5 26 rfl rfl) (cell_on hg C28.out)) ⟨hg,Below.refl _ _,rfl⟩⟩
  ·exact⟨rfl,fun ρ _ hg _ _ _ hr=>Runs.val _ (op_max9 (show ρ (.tmp 25)=.string j.mark from hr 4 25 rfl rfl) (show ρ (.tmp 27)=.string c.mark from hr 6 27 rfl rfl)) ⟨hg,Below.refl _ _,rfl⟩⟩
  ·exact⟨rfl,fun ρ _ hg _ _ _ hr=>Runs.val _ (op_nil (show ρ (.tmp 21)=.pointer (some ⟨jb,o,none⟩)from hr 0 21 rfl rfl)) ⟨hg,Below.refl _ _,rfl⟩⟩
  ·exact⟨rfl,fun ρ _ hg _ _ _ hr=>Runs.val _ (op_f66_7 (show ρ (.tmp 29)=.pointer (some ⟨jb,o,none⟩)from hr 8 29 rfl rfl)) ⟨hg,Below.refl _ _,rfl⟩⟩
 case la =>
  refine⟨rfl,fun ρ X9 hg ho hc hf hr=>?_⟩;have PX:=PV.out.stays (hg.block jb (by obtain⟨_,q,_⟩:=PV.out;exact blk_lt q));obtain⟨cur2,j2,hz2,_,hr2⟩:=id PX;have c2:X9.cell? ⟨jb,o+19,none⟩=some (.string j.mark):=hr2 19 _ rfl;have z2:X9.frozen? ⟨jb,o+19,none⟩=false:=frozen_blk j2 _;have hst:(Instr.storeAt 9 (.pointer (some ⟨jb,o+19,none⟩)) (.string (maxS j.mark c.mark))).run Tryz.prog X9=.ok () (X9.setCell ⟨jb,o+19,none⟩ (.string (maxS j.mark c.mark))):=by
   obtain⟨z,hz⟩:∃ z,maxS j.mark c.mark=z:=⟨_,rfl⟩
   rw [hz]
   go_simp
  exact Runs.skips (op_storeAt (show ρ (.tmp 30)=.pointer (some ⟨jb,o+19,none⟩)from hr 9 30 (by decide) rfl) (show ρ (.tmp 28)=.string (maxS j.mark c.mark)from hr 7 28 (by decide) rfl) hst) ⟨PX.set PJ.out.2.1 (by decide) rfl,((Fr.ofBelow (fun k=>k=jb) hg).set (a:=⟨jb,o+19,none⟩) (.inl rfl) _)⟩
 case en =>
  intro a9 w6 wb v9 hF hs9 hd9 ho9 hv9 hr9;obtain⟨x9,hx,hxt⟩:=act_put hs9 hd9 ho9;change a9=putAll _ x9 [21,22,23,24,25,26,27,28,29,30]at hx;simp only [putAll,Act.put,List.setIfInBounds_toArray,List.set_cons_zero,List.set_cons_succ]at hx;subst hx;clear hs9 hd9 ho9 hv9 hr9 hxt;generalize x9 21=z21,x9 22=z22,x9 23=z23,x9 24=z24,x9 25=z25,x9 26=z26,x9 27=z27,x9 28=z28,x9 29=z29,x9 30=z30;obtain⟨pf,ff⟩:=hF;have j6:=(ff.block Y6 (blk_lt J6.out) (fun q=>PJ.out.2.2.1 q.symm)).trans J6.out;obtain⟨X',hst,j',f'⟩:=st_row j6 (us:=rsA rsN) rfl size53 (by simp [Value.oneCell']);have HS:=lh hst;have HX:=lh (And.intro j' (And.intro f' (And.intro pf ff)));clear hst j' f' pf ff j6;go_wp2_with (refine wpl_store _ _ rfl (by simp [Act.eval]) (by simp [Act.eval]) HS.out ?_)
  refine bodyPost_ret (results_one rfl rfl (load_var HX.out.1 Tryz.underlying53 rfl size53)) rfl ?_;refine⟨rfl,HX.out.2.2.1.stays (HX.out.2.1.block jb (by obtain⟨_,q,_⟩:=HX.out.2.2.1;exact blk_lt q) PJ.out.2.2.1),?_⟩;exact((Fr.ofBelow (fun k=>k=jb) BB.out).trans HX.out.2.2.2).step HX.out.2.1 (fun k q=>by
   right
   have h1:=HN.out.1;have h2:=HN.out.2;omega)
end
end Go.Proofs.YtkhehikaemdnnaaGreat
