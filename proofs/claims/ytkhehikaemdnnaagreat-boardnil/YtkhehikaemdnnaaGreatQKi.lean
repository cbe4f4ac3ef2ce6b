import Derived.Test.YtkhehikaemdnnaaGreatQKg
namespace Go.Proofs.YtkhehikaemdnnaaGreat
set_option maxRecDepth 100000
set_option maxHeartbeats 2000000
open Go.RowKit
def Reads(M:Nat->Prop)(w:World)(P:World->Prop):Prop:=∀ V,w.heap.size<=V.heap.size->(∀ k,k<w.heap.size->¬ M k->V.heap[k]?=w.heap[k]?)->P V
theorem Reads.now{M:Nat->Prop}{w:World}{P:World->Prop}(h:Reads M w P):P w:=h w (Nat.le_refl _) fun _ _ _=>rfl
theorem Reads.go{M M':Nat->Prop}{w w':World}{P:World->Prop}(h:Reads M w P)(hs:w.heap.size<=w'.heap.size)(hw:∀ k,k<w.heap.size->¬ M k->w'.heap[k]?=w.heap[k]?)(hM:∀ k,k<w.heap.size->M' k->M k):Reads M' w' P :=
 fun V h1 h2=>h V (Nat.le_trans hs h1) fun k hk hn=>(h2 k (Nat.lt_of_lt_of_le hk hs) fun q=>hn (hM k hk q)).trans (hw k hk hn)
theorem Reads.fr{M M' S:Nat->Prop}{w w':World}{P:World->Prop}(h:Reads M w P)(hf:Fr w w' S)(hS:∀ k,k<w.heap.size->S k->M k)(hM:∀ k,k<w.heap.size->M' k->M k):Reads M' w' P :=
 h.go hf.size (fun k hk hn=>hf.block k hk fun q=>hn (hS k hk q)) hM
theorem Reads.below{M:Nat->Prop}{w w':World}{P:World->Prop}(h:Reads M w P)(hb:Below w.heap.size w w'):Reads M w' P :=
 h.go hb.size (fun k hk _=>hb.block k hk) fun _ _ q=>q
theorem Reads.wk{M:Nat->Prop}{w:World}{P Q:World->Prop}(h:Reads M w P)(hi:∀ V,P V->Q V):Reads M w Q:=fun V a b=>hi V (h V a b)
theorem Reads.own{M:Nat->Prop}{w:World}{n c m:Nat}{e:TypeId}{v:Value}{xs:List Value}(h:w.ownsRow n e c v m xs)(hM:∀ k,M k->k<n):Reads M w fun V=>V.ownsRow n e c v m xs:=by
 intro V _ h2;rcases h.2 with q | ⟨g,cap,cur,hv,h0,hg,r⟩
 ·exact⟨h.1,.inl q⟩
 ·exact⟨h.1,.inr ⟨g,cap,cur,hv,h0,(h2 g (blk_lt hg) fun q=>by have:=hM g q;omega).trans hg,r⟩⟩
def RunL(w:World)(rv:Value)(L:List Nat):Prop:=∃ ad cap,rv=.slice ad L.length cap/\L.length<=cap/\cap<=maxLen /\
 (0<cap->∃ g o cs,ad=some ⟨g,o,none⟩/\w.heap[g]?=some (.cells cs 3 (0,0))/\cs.size=o+cap/\∀ i (h:i<L.length),cs[o+i]?=some (.int .i64 (L[i]:Int)))
def RunBlk(rv:Value)(k:Nat):Prop:=∃ o n cap,rv=.slice (some ⟨k,o,none⟩) n cap/\0<cap
theorem RunL.stays{w w':World}{rv:Value}{L:List Nat}(h:RunL w rv L)(hk:∀ k,RunBlk rv k->w'.heap[k]?=w.heap[k]?):RunL w' rv L:=by
 obtain⟨ad,cap,e,h1,h2,h3⟩:=h;refine⟨ad,cap,e,h1,h2,fun q=>?_⟩;obtain⟨g,o,cs,ea,hg,r⟩:=h3 q;subst ea;exact⟨g,o,cs,rfl,(hk g ⟨o,_,cap,e,q⟩).trans hg,r⟩
theorem RunL.nil(w:World):RunL w (.slice none 0 0) []:=⟨none,0,rfl,Nat.le_refl _,Nat.zero_le _,fun q=>absurd q (by omega)⟩
theorem RunL.tail{w:World}{x:Nat}{L:List Nat}{g o n cap:Nat}(h:RunL w (.slice (some ⟨g,o,none⟩) n cap) (x :: L)):∃ sa,(∀ X:World,(Instr.sliceAt 85 (.slice (some ⟨g,o,none⟩) n cap) (some (.int .i64 1)) none none).run Tryz.prog X=.ok (.slice sa L.length (cap - 1)) X)/\RunL w (.slice sa L.length (cap - 1)) L/\∀ k,RunBlk (.slice sa L.length (cap - 1)) k->k=g:=by
 obtain⟨ad,cap',e,h1,h2,h3⟩:=h;cases e;rw [List.length_cons]at h1;have hm:(cap:Int)<=9223372036854775807:=by unfold maxLen at h2;omega
 have q0:(1:Int)<=((L.length+1:Nat):Int):=by omega
 have q3:((L.length+1:Nat):Int)<=(cap:Int):=by omega
 have q5:¬ (L.length:Int)+1<1:=by omega
 obtain⟨g',o',cs,ea,hg,hz,hc⟩:=h3 (by omega);cases ea;by_cases hc1:cap=1
 ·subst hc1;have z:L.length=0:=by omega
  refine⟨some ⟨g,o,none⟩,fun X=>?_,⟨_,_,rfl,by omega,by omega,fun q=>absurd q (by omega)⟩,fun k hk=>?_⟩
  ·rw [List.length_cons,z]
   go_simp
  ·obtain⟨_,_,_,e,q⟩:=hk;cases e;omega
 ·refine⟨some ⟨g,o+1,none⟩,fun X=>?_,⟨_,_,rfl,by omega,by omega,fun _=>⟨g,o+1,cs,rfl,hg,by omega,fun i hi=>?_⟩⟩,fun k hk=>?_⟩
  ·rw [List.length_cons]
   go_simp
  ·have:=hc (i+1) (by rw [List.length_cons];omega);rw [List.getElem_cons_succ]at this;rw [show o+1+i=o+(i+1)from by omega];exact this
  ·obtain⟨_,_,_,e,q⟩:=hk;cases e;rfl
theorem wpl_slice_lo{P:Program}{w:World}{ops:Array Oper}{rest:List Oper}{o:Oper}{a:Act}{Q:Exit->Act->World->Prop}{t ty:TypeId}{v1 v2 v':Value}{ds:Option Tmp}{ps:String}{af:Array Edge}(x y:Operand)
  (ho:o=⟨ds,.slice t x (some y) none none,ty,ps,af,none⟩) (hx:a.eval x=v1) (hy:a.eval y=v2) (hrun:(Instr.sliceAt t v1 (some v2) none none).run P w=.ok v' w)
  (h:wpList P ops Q rest (a.put ds v') w):wpList P ops Q (o :: rest) a w:=by
 subst ho;subst hx;subst hy;refine wpList_plain rfl fun K hK=>?_;unfold Oper.wp execOp;simp only [Option.map_some,Option.map_none,Sem.run_bind,Sem.run_pure,Result.andThen_ok,hrun];exact hK _ _ h
section
variable {w : World}
/-- The job at hand ends. -/
theorem end_any{B jb o g ro n cap x:Nat}{L:List Nat}{cur:Array Value}{s0 s1 how:Int}{tv lv jv mv:Value}(hB:w.heap[B]?=some (.cells #[.int .i64 s0,.int .i64 s1,tv,lv,jv,.slice (some ⟨g,ro,none⟩) n cap,mv] 88 (0,0)))(hJ:w.heap[jb]?=some (.cells cur 66 (0,0)))(ho:o+22<=cur.size)(hne:jb≠B)(hr:RunL w (.slice (some ⟨g,ro,none⟩) n cap) (x :: L))(hg1:g≠B)(hg2:g≠jb):
  Calls Tryz.prog 67 #[.pointer (some ⟨B,0,none⟩),.pointer (some ⟨jb,o,none⟩),.int .i64 how] w fun e w'=>e=.returned (.tuple #[])/\∃ rv,w'.heap[B]?=some (.cells #[.int .i64 s0,.int .i64 s1,tv,lv,jv,rv,mv] 88 (0,0))/\w'.heap[jb]?=some (.cells (cur.setIfInBounds (o+20) (.int .i64 how)) 66 (0,0))/\RunL w' rv L/\(∀ k,RunBlk rv k->k=g)/\Fr w w' (fun k=>k=jb\/k=B):=by
 obtain⟨sa,hsl,hr',hbk⟩:=hr.tail;have c20:∃ u,w.cell? ⟨jb,o+20,none⟩=some u:=⟨cur[o+20]'(by omega),by rw [cell_blk hJ];exact Array.getElem?_eq_getElem _⟩
 obtain⟨u,c20⟩:=c20;have z20:w.frozen? ⟨jb,o+20,none⟩=false:=frozen_blk hJ _;obtain⟨W1,hW1⟩:∃ W1,W1=w.setCell ⟨jb,o+20,none⟩ (.int .i64 how):=⟨_,rfl⟩
 have hst1:(Instr.storeAt 3 (.pointer (some ⟨jb,o+20,none⟩)) (.int .i64 how)).run Tryz.prog w=.ok () W1:=by rw [hW1];go_simp
 have f1:Fr w W1 (fun k=>k=jb\/k=B):=by rw [hW1];exact(Fr.refl w _).set (.inl (.inl rfl)) _
 have j1:W1.heap[jb]?=some (.cells (cur.setIfInBounds (o+20) (.int .i64 how)) 66 (0,0)):=by rw [hW1];exact set_blk hJ _
 have b1:W1.heap[B]?=some (.cells #[.int .i64 s0,.int .i64 s1,tv,lv,jv,.slice (some ⟨g,ro,none⟩) n cap,mv] 88 (0,0)):=by
  rw [hW1,((Fr.refl w (fun k=>k=jb)).set (.inl rfl) _).block B (blk_lt hB) (fun q=>hne q.symm)];exact hB
 clear hW1;have c5:W1.cell? ⟨B,5,none⟩=some (.slice (some ⟨g,ro,none⟩) n cap):=cell_blk b1 5;have z5:W1.frozen? ⟨B,5,none⟩=false:=frozen_blk b1 _;obtain⟨W2,hW2⟩:∃ W2,W2=W1.setCell ⟨B,5,none⟩ (.slice sa L.length (cap - 1)):=⟨_,rfl⟩
 have hst2:(Instr.storeAt 85 (.pointer (some ⟨B,5,none⟩)) (.slice sa L.length (cap - 1))).run Tryz.prog W1=.ok () W2:=by rw [hW2];go_simp
 have f2:Fr w W2 (fun k=>k=jb\/k=B):=by rw [hW2];exact f1.set (.inl (.inr rfl)) _
 have j2:W2.heap[jb]?=some (.cells (cur.setIfInBounds (o+20) (.int .i64 how)) 66 (0,0)):=by
  rw [hW2,((Fr.refl W1 (fun k=>k=B)).set (.inl rfl) _).block jb (blk_lt j1) hne];exact j1
 have b2:W2.heap[B]?=some (.cells #[.int .i64 s0,.int .i64 s1,tv,lv,jv,.slice sa L.length (cap - 1),mv] 88 (0,0)):=by rw [hW2];exact set_blk b1 _
 have r2:RunL W2 (.slice sa L.length (cap - 1)) L:=hr'.stays fun k hk=>by
  have:=hbk k hk;subst this;have hlt:k<w.heap.size:=by
   obtain⟨_,_,e,_,_,h3⟩:=hr;cases e;rcases Nat.eq_zero_or_pos cap with q | q
   ·obtain⟨_,_,_,e,q'⟩:=hk;cases e;omega
   ·obtain⟨_,_,_,e,hg,_⟩:=h3 q;cases e;exact blk_lt hg
  exact f2.block k hlt fun q=>q.elim hg2 hg1
 have HF:=lh (And.intro b2 (And.intro j2 (And.intro r2 (And.intro hbk f2))));have HS1:=lh hst1;have HS2:=lh hst2;have HSL:=lh hsl;clear hB hJ ho hne hr hg1 hg2 hsl hr' hbk c20 z20 hst1 f1 j1 b1 z5 hW2 hst2 f2 j2 b2 r2;go_enter Tryz.func67,Tryz.ntmps67;go_wp2_with (first|(refine wpl_slice_lo _ _ rfl (by simp [Act.eval]) (by simp [Act.eval]) (HSL.out _) ?_)|(refine wpl_store _ _ rfl (by simp [Act.eval]) (by simp [Act.eval]) HS1.out ?_)|(refine wpl_store _ _ rfl (by simp [Act.eval]) (by simp [Act.eval]) HS2.out ?_))
 refine bodyPost_end (results_none rfl _ _ _) rfl ?_;exact⟨rfl,_,HF.out.1,HF.out.2.1,HF.out.2.2.1,HF.out.2.2.2.1,HF.out.2.2.2.2⟩
end
end Go.Proofs.YtkhehikaemdnnaaGreat
namespace Go.Proofs.YtkhehikaemdnnaaGreat
set_option maxRecDepth 100000
set_option maxHeartbeats 4000000
open Go.RowKit
def JPut(w':World)(jb o:Nat)(cur:Array Value)(j:Jb)(jv:Value):Prop:=∃ cur',w'.heap[jb]?=some (.cells cur' 66 (0,0))/\cur'.size=cur.size/\(∀ k,k<o\/o+22<=k->cur'[k]?=cur[k]?)/\w'.rangeAt jb o (jbL j jv)
theorem JPut.start{w:World}{jb o:Nat}{cur:Array Value}{j:Jb}{jv:Value}(hJ:w.heap[jb]?=some (.cells cur 66 (0,0)))(h:JobAt w jb o j jv):JPut w jb o cur j jv:=⟨cur,hJ,rfl,fun _ _=>rfl,h⟩
theorem JPut.stays{w w':World}{jb o:Nat}{cur:Array Value}{j:Jb}{jv:Value}(h:JPut w jb o cur j jv)(hk:w'.heap[jb]?=w.heap[jb]?):JPut w' jb o cur j jv:=by
 obtain⟨cur',h1,h2,h3,h4⟩:=h;refine⟨cur',hk.trans h1,h2,h3,fun k v hv=>?_⟩;have:=h4 k v hv;rw [cell_blk h1]at this;rw [cell_blk (hk.trans h1)];exact this
theorem jput_mk{w':World}{jb o i:Nat}{cur cur':Array Value}{j j':Jb}{jv v:Value}(h2:cur'.size=cur.size)(h3:∀ k,k<o\/o+22<=k->cur'[k]?=cur[k]?)(h4:∀ k v,(jbL j jv)[k]?=some v->cur'[o+k]?=some v)(hj:w'.heap[jb]?=some (.cells (cur'.setIfInBounds (o+i) v) 66 (0,0)))(ho:o+22<=cur.size)(hi:i<22)(he:(jbL j jv).set i v=jbL j' jv):JPut w' jb o cur j' jv:=by
 refine⟨cur'.setIfInBounds (o+i) v,hj,by rw [Array.size_setIfInBounds,h2],fun k hk=>?_,fun k u hu=>?_⟩
 ·rw [Array.getElem?_setIfInBounds_ne (by omega)];exact h3 k hk
 ·rw [cell_blk hj];rw [<-he]at hu;by_cases hki:k=i
  ·subst hki;rw [List.getElem?_set_self (by rw [jbL_len];exact hi)]at hu;cases hu;exact Array.getElem?_setIfInBounds_self_of_lt (by omega)
  ·rw [List.getElem?_set_ne (by omega)]at hu;rw [Array.getElem?_setIfInBounds_ne (by omega)];exact h4 k u hu
theorem JPut.set{w:World}{jb o i:Nat}{cur:Array Value}{j j':Jb}{jv v:Value}(h:JPut w jb o cur j jv)(ho:o+22<=cur.size)(hi:i<22)(he:(jbL j jv).set i v=jbL j' jv):JPut (w.setCell ⟨jb,o+i,none⟩ v) jb o cur j' jv:=by
 obtain⟨cur',h1,h2,h3,h4⟩:=h;exact jput_mk h2 h3 (fun k v hv=>by rw [<-cell_blk h1];exact h4 k v hv) (set_blk h1 _) ho hi he
theorem path_len(j:Jb):j.path.length<=5:=by
 unfold Jb.path pathP onP backP
 repeat' split
 all_goals simp
section
variable {w : World}
theorem step_on{jb o p:Nat}{cur:Array Value}{j:Jb}{jv:Value}{B:Nat}(hJ:w.heap[jb]?=some (.cells cur 66 (0,0)))(ho:o+22<=cur.size)(h:JobAt w jb o j jv)(hp:j.phase=(p:Int))(hlt:p+1<j.path.length):Calls Tryz.prog 68 #[.pointer (some ⟨B,0,none⟩),.pointer (some ⟨jb,o,none⟩)] w fun e w'=>e=.returned (.tuple #[])/\JPut w' jb o cur j.step jv/\Fr w w' (fun k=>k=jb):=by
 have hlt5:=path_len j;have p0:(0:Int)<=(p:Int):=by omega
 have p9:(p:Int)+1<=9223372036854775807:=by omega
 have c16:w.cell? ⟨jb,o+16,none⟩=some (.int .i64 (p:Int)):=by
  have:=h 16 _ rfl;rw [hp]at this;exact this
 have z16:w.frozen? ⟨jb,o+16,none⟩=false:=frozen_blk hJ _;obtain⟨W1,hW1⟩:∃ W1,W1=w.setCell ⟨jb,o+16,none⟩ (.int .i64 ((p:Int)+1)):=⟨_,rfl⟩
 have hst1:(Instr.storeAt 3 (.pointer (some ⟨jb,o+16,none⟩)) (.int .i64 ((p:Int)+1))).run Tryz.prog w=.ok () W1:=by rw [hW1];go_simp
 have P1:JPut W1 jb o cur { j with phase:=(p:Int)+1 } jv:=by rw [hW1];exact(JPut.start hJ h).set ho (by decide) rfl
 have f1:Fr w W1 (fun k=>k=jb):=by rw [hW1];exact(Fr.refl w (fun k=>k=jb)).set (a:=⟨jb,o+16,none⟩) (.inl rfl) _
 clear hW1;obtain⟨cur1,j1,hz1,_,hr1⟩:=id P1;have c19:W1.cell? ⟨jb,o+19,none⟩=some (.string j.mark):=hr1 19 _ rfl;have z19:W1.frozen? ⟨jb,o+19,none⟩=false:=frozen_blk j1 _;obtain⟨W2,hW2⟩:∃ W2,W2=W1.setCell ⟨jb,o+19,none⟩ (.string ⟨#[]⟩):=⟨_,rfl⟩
 have hst2:(Instr.storeAt 9 (.pointer (some ⟨jb,o+19,none⟩)) (.string ⟨#[]⟩)).run Tryz.prog W1=.ok () W2:=by rw [hW2];go_simp
 have P2:JPut W2 jb o cur { j with phase:=(p:Int)+1,mark:=⟨#[]⟩ } jv:=by rw [hW2];exact P1.set ho (by decide) rfl
 have f2:Fr w W2 (fun k=>k=jb):=by rw [hW2];exact f1.set (a:=⟨jb,o+19,none⟩) (.inl rfl) _
 clear hW2;obtain⟨cur2,j2,hz2,ho2,hr2⟩:=id P2;have HS1:=lh hst1;have HS2:=lh hst2;have HR2:=lh hr2;have HP2:=lh P2;have HF2:=lh f2;have HJ2:=lh (And.intro j2 (And.intro hz2 ho2));have HC:=lh (show W2.cell? ⟨jb,o+16,none⟩=some (.int .i64 ((p:Int)+1))from hr2 16 _ rfl);obtain⟨pl,hpl⟩:∃ pl,j.path.length=pl:=⟨_,rfl⟩
 have HD:Hid (decide ((p:Int)+1<(pl:Int))=true):=lh (decide_eq_true (by omega));have HST:Hid (j.step={ j with phase:=(p:Int)+1,mark:=⟨#[]⟩ }):=lh (by unfold Jb.step;rw [hp,if_pos (by omega)])
 skip
 have HPL:=lh hpl;have c16a:=c16;clear hJ ho h hp hlt z16 hst1 P1 f1 j1 hz1 hr1 c19 z19 hst2 P2 f2 j2 hz2 ho2 hr2 hlt5 hpl;rw [HST.out];go_enter Tryz.func68,Tryz.ntmps68;go_upto_region 2 with (first|(refine wpl_store _ _ rfl (by simp [Act.eval]) (by simp [Act.eval]) HS1.out ?_)|(refine wpl_store _ _ rfl (by simp [Act.eval]) (by simp [Act.eval]) HS2.out ?_))
 refine wp_region_fb (fun _ X9=>Below W2.heap.size W2 X9) (fun X9 X8=>Below X9.heap.size X9 X8) [
  fun v9 _=>v9=.pointer (some ⟨jb,o,none⟩),fun v9 _=>v9=.pointer (some ⟨jb,o,none⟩),fun v9 _=>v9=.pointer (some ⟨jb,o+16,none⟩),fun v9 _=>v9=.int .i64 ((p:Int)+1),fun v9 _=>v9=.pointer (some ⟨jb,o,none⟩),fun v9 X9=>∃ ad cap,v9=.slice ad pl cap,fun v9 _=>v9=.int .i64 (pl:Int),fun v9 _=>v9=.bool true]
  (by kernel_rfl) (by kernel_rfl) (by kernel_rfl) ?st ?g0 ?os ?en
 case st=>
  iterate 8 refine⟨fun _ _ _ _ h=>h,?_⟩
  exact trivial
 case g0=>exact⟨rfl,rfl,rfl,Nat.le_refl _,fun _ _=>rfl⟩
 case os =>
  refine⟨?_,?_,?_,?_,?_,?_,?_,?_,trivial⟩
  all_goals intro ρ X9 fl hg hn hl hp ho hc hf hr
  ·exact rv (op_move (show ρ (.tmp 1)=.pointer (some ⟨jb,o,none⟩)from ho 1 rfl)) ⟨hg,Below.refl _ _,rfl⟩
  ·exact rv (op_nil (show ρ (.tmp 14)=.pointer (some ⟨jb,o,none⟩)from hr 0 14 rfl rfl)) ⟨hg,Below.refl _ _,rfl⟩
  ·exact rv (op_f66_4 (show ρ (.tmp 15)=.pointer (some ⟨jb,o,none⟩)from hr 1 15 rfl rfl)) ⟨hg,Below.refl _ _,rfl⟩
  ·exact rv (op_load3 (show ρ (.tmp 16)=.pointer (some ⟨jb,o+16,none⟩)from hr 2 16 rfl rfl) (cell_on hg HC.out)) ⟨hg,Below.refl _ _,rfl⟩
  ·exact rv (op_move (show ρ (.tmp 1)=.pointer (some ⟨jb,o,none⟩)from ho 1 rfl)) ⟨hg,Below.refl _ _,rfl⟩
  ·refine .inl ⟨rfl,?_⟩;refine Runs.goes 74 #[.pointer (some ⟨jb,o,none⟩)] (op_call1 hf (by go_simp) (show ρ (.tmp 18)=.pointer (some ⟨jb,o,none⟩)from hr 4 18 rfl rfl)) ((path_job (range_on hg HR2.out)).mono ?_);rintro e7 w7 ⟨ad,cap,rfl,h7,b7⟩;exact⟨_,rfl,bgo hg b7,b7,ad,cap,by rw [<-HPL.out];rfl⟩
  ·obtain⟨ad,cap,e9⟩:=hr 5 19 rfl rfl;exact rv (op_len106 e9) ⟨hg,Below.refl _ _,rfl⟩
  ·exact rv (op_lss3 (show ρ (.tmp 17)=.int .i64 ((p:Int)+1)from hr 3 17 rfl rfl) (show ρ (.tmp 20)=.int .i64 (pl:Int)from hr 6 20 rfl rfl) HD.out) ⟨hg,Below.refl _ _,rfl⟩
 case en =>
  intro a9 w6 fl hfl b6 hs9 hd9 ho9 hr9;obtain⟨x9,hx,hxt⟩:=act_put hs9 hd9 ho9;have xk21:x9 21=.bool true:=(hxt 21).symm.trans (hr9 7 21 rfl);change a9=putAll _ x9 [14,15,16,17,18,19,20,21]at hx;simp only [putAll,Act.put,List.setIfInBounds_toArray,List.set_cons_zero,List.set_cons_succ,xk21]at hx;subst hx;clear hs9 hd9 ho9 hr9 hfl xk21;generalize x9 14=z14,x9 15=z15,x9 16=z16,x9 17=z17,x9 18=z18,x9 19=z19,x9 20=z20;have HB6:=lh b6;clear b6;go_wp2;refine bodyPost_ret (results_none rfl _ _ _) rfl ?_;exact⟨rfl,HP2.out.stays (HB6.out.block jb (blk_lt HJ2.out.1)),HF2.out.below HB6.out⟩
theorem step_end{jb o p:Nat}{cur:Array Value}{j:Jb}{jv:Value}{B g ro n cap x:Nat}{L:List Nat}{s0 s1:Int}{tv lv mv jvs:Value}(hJ:w.heap[jb]?=some (.cells cur 66 (0,0)))(ho:o+22<=cur.size)(h:JobAt w jb o j jv)(hp:j.phase=(p:Int))(hlt:p+1=j.path.length)(hB:w.heap[B]?=some (.cells #[.int .i64 s0,.int .i64 s1,tv,lv,jvs,.slice (some ⟨g,ro,none⟩) n cap,mv] 88 (0,0)))(hne:jb≠B)(hr:RunL w (.slice (some ⟨g,ro,none⟩) n cap) (x :: L))(hg0:g<w.heap.size)(hg1:g≠B)(hg2:g≠jb):Calls Tryz.prog 68 #[.pointer (some ⟨B,0,none⟩),.pointer (some ⟨jb,o,none⟩)] w fun e w'=>e=.returned (.tuple #[])/\JPut w' jb o cur j.step jv/\(∃ rv,w'.heap[B]?=some (.cells #[.int .i64 s0,.int .i64 s1,tv,lv,jvs,rv,mv] 88 (0,0))/\RunL w' rv L/\∀ k,RunBlk rv k->k=g)/\Fr w w' (fun k=>k=jb\/k=B):=by
 have hlt5:=path_len j;have p0:(0:Int)<=(p:Int):=by omega
 have p9:(p:Int)+1<=9223372036854775807:=by omega
 have c16:w.cell? ⟨jb,o+16,none⟩=some (.int .i64 (p:Int)):=by
  have:=h 16 _ rfl;rw [hp]at this;exact this
 have z16:w.frozen? ⟨jb,o+16,none⟩=false:=frozen_blk hJ _;obtain⟨W1,hW1⟩:∃ W1,W1=w.setCell ⟨jb,o+16,none⟩ (.int .i64 ((p:Int)+1)):=⟨_,rfl⟩
 have hst1:(Instr.storeAt 3 (.pointer (some ⟨jb,o+16,none⟩)) (.int .i64 ((p:Int)+1))).run Tryz.prog w=.ok () W1:=by rw [hW1];go_simp
 have P1:JPut W1 jb o cur { j with phase:=(p:Int)+1 } jv:=by rw [hW1];exact(JPut.start hJ h).set ho (by decide) rfl
 have f1:Fr w W1 (fun k=>k=jb):=by rw [hW1];exact(Fr.refl w (fun k=>k=jb)).set (a:=⟨jb,o+16,none⟩) (.inl rfl) _
 clear hW1;obtain⟨cur1,j1,hz1,_,hr1⟩:=id P1;have c19:W1.cell? ⟨jb,o+19,none⟩=some (.string j.mark):=hr1 19 _ rfl;have z19:W1.frozen? ⟨jb,o+19,none⟩=false:=frozen_blk j1 _;obtain⟨W2,hW2⟩:∃ W2,W2=W1.setCell ⟨jb,o+19,none⟩ (.string ⟨#[]⟩):=⟨_,rfl⟩
 have hst2:(Instr.storeAt 9 (.pointer (some ⟨jb,o+19,none⟩)) (.string ⟨#[]⟩)).run Tryz.prog W1=.ok () W2:=by rw [hW2];go_simp
 have P2:JPut W2 jb o cur { j with phase:=(p:Int)+1,mark:=⟨#[]⟩ } jv:=by rw [hW2];exact P1.set ho (by decide) rfl
 have f2:Fr w W2 (fun k=>k=jb):=by rw [hW2];exact f1.set (a:=⟨jb,o+19,none⟩) (.inl rfl) _
 clear hW2;obtain⟨cur2,j2,hz2,ho2,hr2⟩:=id P2;have HS1:=lh hst1;have HS2:=lh hst2;have HR2:=lh hr2;have HP2:=lh P2;have HF2:=lh f2;have HJ2:=lh (And.intro j2 (And.intro hz2 ho2));have HC:=lh (show W2.cell? ⟨jb,o+16,none⟩=some (.int .i64 ((p:Int)+1))from hr2 16 _ rfl);obtain⟨pl,hpl⟩:∃ pl,j.path.length=pl:=⟨_,rfl⟩
 have hB2:W2.heap[B]?=some (.cells #[.int .i64 s0,.int .i64 s1,tv,lv,jvs,.slice (some ⟨g,ro,none⟩) n cap,mv] 88 (0,0)):=(f2.block B (blk_lt hB) (fun q=>hne q.symm)).trans hB;have hR2:RunL W2 (.slice (some ⟨g,ro,none⟩) n cap) (x :: L):=hr.stays fun k hk=>by
  obtain⟨_,_,_,e,_⟩:=hk;cases e;exact f2.block g hg0 hg2
 have HE:=lh (And.intro hB2 (And.intro hR2 (And.intro hne (And.intro hg1 hg2))));have HO:=lh ho;clear hB hB2 hR2 hne hg0 hg1 hg2 hr ho;obtain⟨en,hen⟩:∃ en:Int,(if j.back then (2:Int) else 1)=en:=⟨_,rfl⟩
 have HEN0:=lh hen;have HD:Hid (decide ((p:Int)+1<(pl:Int))=false):=lh (decide_eq_false (by omega));have HST:Hid (j.step={ j with phase:=(p:Int)+1,mark:=⟨#[]⟩,en:=en }):=lh (by unfold Jb.step;rw [hp,if_neg (by omega),hen]);clear hen;have HPL:=lh hpl;have c16a:=c16;clear hJ h hp hlt z16 hst1 P1 f1 j1 hz1 hr1 c19 z19 hst2 P2 f2 j2 hz2 ho2 hr2 hlt5 hpl;rw [HST.out];go_enter Tryz.func68,Tryz.ntmps68;go_upto_region 2 with (first|(refine wpl_store _ _ rfl (by simp [Act.eval]) (by simp [Act.eval]) HS1.out ?_)|(refine wpl_store _ _ rfl (by simp [Act.eval]) (by simp [Act.eval]) HS2.out ?_))
 refine wp_region_fb (fun _ X9=>Below W2.heap.size W2 X9) (fun X9 X8=>Below X9.heap.size X9 X8) [
  fun v9 _=>v9=.pointer (some ⟨jb,o,none⟩),fun v9 _=>v9=.pointer (some ⟨jb,o,none⟩),fun v9 _=>v9=.pointer (some ⟨jb,o+16,none⟩),fun v9 _=>v9=.int .i64 ((p:Int)+1),fun v9 _=>v9=.pointer (some ⟨jb,o,none⟩),fun v9 X9=>∃ ad cap,v9=.slice ad pl cap,fun v9 _=>v9=.int .i64 (pl:Int),fun v9 _=>v9=.bool false]
  (by kernel_rfl) (by kernel_rfl) (by kernel_rfl) ?st ?g0 ?os ?en
 case st=>
  iterate 8 refine⟨fun _ _ _ _ h=>h,?_⟩
  exact trivial
 case g0=>exact⟨rfl,rfl,rfl,Nat.le_refl _,fun _ _=>rfl⟩
 case os =>
  refine⟨?_,?_,?_,?_,?_,?_,?_,?_,trivial⟩
  all_goals intro ρ X9 fl hg hn hl hp ho hc hf hr
  ·exact rv (op_move (show ρ (.tmp 1)=.pointer (some ⟨jb,o,none⟩)from ho 1 rfl)) ⟨hg,Below.refl _ _,rfl⟩
  ·exact rv (op_nil (show ρ (.tmp 14)=.pointer (some ⟨jb,o,none⟩)from hr 0 14 rfl rfl)) ⟨hg,Below.refl _ _,rfl⟩
  ·exact rv (op_f66_4 (show ρ (.tmp 15)=.pointer (some ⟨jb,o,none⟩)from hr 1 15 rfl rfl)) ⟨hg,Below.refl _ _,rfl⟩
  ·exact rv (op_load3 (show ρ (.tmp 16)=.pointer (some ⟨jb,o+16,none⟩)from hr 2 16 rfl rfl) (cell_on hg HC.out)) ⟨hg,Below.refl _ _,rfl⟩
  ·exact rv (op_move (show ρ (.tmp 1)=.pointer (some ⟨jb,o,none⟩)from ho 1 rfl)) ⟨hg,Below.refl _ _,rfl⟩
  ·refine .inl ⟨rfl,?_⟩;refine Runs.goes 74 #[.pointer (some ⟨jb,o,none⟩)] (op_call1 hf (by go_simp) (show ρ (.tmp 18)=.pointer (some ⟨jb,o,none⟩)from hr 4 18 rfl rfl)) ((path_job (range_on hg HR2.out)).mono ?_);rintro e7 w7 ⟨ad,cap,rfl,h7,b7⟩;exact⟨_,rfl,bgo hg b7,b7,ad,cap,by rw [<-HPL.out];rfl⟩
  ·obtain⟨ad,cap,e9⟩:=hr 5 19 rfl rfl;exact rv (op_len106 e9) ⟨hg,Below.refl _ _,rfl⟩
  ·exact rv (op_lss3 (show ρ (.tmp 17)=.int .i64 ((p:Int)+1)from hr 3 17 rfl rfl) (show ρ (.tmp 20)=.int .i64 (pl:Int)from hr 6 20 rfl rfl) HD.out) ⟨hg,Below.refl _ _,rfl⟩
 case en =>
  intro a9 w6 fl hfl b6 hs9 hd9 ho9 hr9;obtain⟨x9,hx,hxt⟩:=act_put hs9 hd9 ho9;have xk21:x9 21=.bool false:=(hxt 21).symm.trans (hr9 7 21 rfl);change a9=putAll _ x9 [14,15,16,17,18,19,20,21]at hx;simp only [putAll,Act.put,List.setIfInBounds_toArray,List.set_cons_zero,List.set_cons_succ,xk21]at hx;subst hx;clear hs9 hd9 ho9 hr9 hfl xk21;generalize x9 14=z14,x9 15=z15,x9 16=z16,x9 17=z17,x9 18=z18,x9 19=z19,x9 20=z20;have HB6:=lh b6;have hJ6:=(b6.block jb (blk_lt HJ2.out.1)).trans HJ2.out.1;have hB6:=(b6.block B (blk_lt HE.out.1)).trans HE.out.1;have hR6:RunL w6 (.slice (some ⟨g,ro,none⟩) n cap) (x :: L):=HE.out.2.1.stays fun k hk=>by
   obtain⟨o1,n1,cap1,e,q⟩:=hk;cases e;obtain⟨_,_,e,_,_,h3⟩:=HE.out.2.1;cases e;obtain⟨_,_,_,e,hgb,_⟩:=h3 q;cases e;exact b6.block g (blk_lt hgb)
  have hc:=fun how=>end_any (how:=how) hB6 hJ6 (by rw [HJ2.out.2.1];exact HO.out) HE.out.2.2.1 hR6 HE.out.2.2.2.1 HE.out.2.2.2.2;have c17:w6.cell? ⟨jb,o+17,none⟩=some (.bool j.back):=cell_on b6 (HR2.out 17 _ rfl);have HC6:=lh hc;clear b6 hc hJ6 hB6 hR6;obtain⟨bk,hbk⟩:∃ bk,j.back=bk:=⟨_,rfl⟩
  rw [hbk]at c17;have HBK:=lh hbk;clear hbk;cases bk with
  | true =>
   have HEN:Hid (en=2):=lh (by rw [<-HEN0.out];exact if_pos HBK.out);go_wp2_with (go_at_call 67;refine(HC6.out 2).mono ?_;rintro e w7 ⟨rfl,rv,e1,e2,e3,e4,e5⟩;have HZ:=lh (And.intro e1 (And.intro e2 (And.intro e3 (And.intro e4 e5))));clear e1 e2 e3 e4 e5)
   refine bodyPost_end (results_none rfl _ _ _) rfl ?_;refine⟨rfl,?_,⟨rv,HZ.out.1,HZ.out.2.2.1,HZ.out.2.2.2.1⟩,((HF2.out.mono fun k q=>.inl q).below HB6.out).trans HZ.out.2.2.2.2⟩;exact jput_mk HJ2.out.2.1 HJ2.out.2.2 (fun k v hv=>by rw [<-cell_blk HJ2.out.1];exact HR2.out k v hv) HZ.out.2.1 HO.out (by decide) (by rw [HEN.out];rfl)
  | false =>
   have HEN:Hid (en=1):=lh (by rw [<-HEN0.out];exact if_neg (by rw [HBK.out];decide));go_wp2_with (go_at_call 67;refine(HC6.out 1).mono ?_;rintro e w7 ⟨rfl,rv,e1,e2,e3,e4,e5⟩;have HZ:=lh (And.intro e1 (And.intro e2 (And.intro e3 (And.intro e4 e5))));clear e1 e2 e3 e4 e5)
   refine bodyPost_end (results_none rfl _ _ _) rfl ?_;refine⟨rfl,?_,⟨rv,HZ.out.1,HZ.out.2.2.1,HZ.out.2.2.2.1⟩,((HF2.out.mono fun k q=>.inl q).below HB6.out).trans HZ.out.2.2.2.2⟩;exact jput_mk HJ2.out.2.1 HJ2.out.2.2 (fun k v hv=>by rw [<-cell_blk HJ2.out.1];exact HR2.out k v hv) HZ.out.2.1 HO.out (by decide) (by rw [HEN.out];rfl)
end
end Go.Proofs.YtkhehikaemdnnaaGreat
