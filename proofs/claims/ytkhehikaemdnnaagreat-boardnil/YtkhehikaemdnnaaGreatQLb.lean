import Derived.Test.YtkhehikaemdnnaaGreatQLa
import Derived.Test.YtkhehikaemdnnaaGreatQKy
namespace Go.Proofs.YtkhehikaemdnnaaGreat
set_option maxRecDepth 100000
set_option maxHeartbeats 8000000
open Go.RowKit
theorem rvq{a b:Prop}{P:Program}{o:Oper}{ρ:Operand->Value}{w:World}{K:Value->World->Prop}{v:Value}{w':World}(h:(execOp ρ o).run P w=.ok (.value v) w')(k:K v w')(g:a:=by rfl):(a/\Runs P o ρ w K)\/b:=rv h k g
def Ch2(A0:World->Prop)(A1 A2:Value->World->Prop)(f1 f2:Bool)(v1:Value)(X:World):Prop:=if f2 then A2 v1 X else if f1 then A1 v1 X else A0 X
def Ch3(A0:World->Prop)(A1:Value->World->Prop)(A2 A3:Value->Value->World->Prop)(f1 f2 f3:Bool)(v1 v2:Value)(X:World):Prop:=if f3 then A3 v1 v2 X else if f2 then A2 v1 v2 X else if f1 then A1 v1 X else A0 X
theorem Ch2.same{A0:World->Prop}{A1 A2:Value->World->Prop}{f1 f2 g1 g2:Bool}{v1 u1:Value}{X:World}(h:Ch2 A0 A1 A2 f1 f2 v1 X)(e1:g1=f1)(e2:g2=f2)(q1:u1=v1):Ch2 A0 A1 A2 g1 g2 u1 X:=by rw [e1,e2,q1];exact h
theorem Ch3.last{A0:World->Prop}{A1:Value->World->Prop}{A2 A3:Value->Value->World->Prop}{u v:Value}{X:World}(h:Ch3 A0 A1 A2 A3 true true true u v X):A3 u v X:=h
theorem Ch3.same{A0:World->Prop}{A1:Value->World->Prop}{A2 A3:Value->Value->World->Prop}{f1 f2 f3 g1 g2 g3:Bool}{v1 v2 u1 u2:Value}{X:World}(h:Ch3 A0 A1 A2 A3 f1 f2 f3 v1 v2 X)(e1:g1=f1)(e2:g2=f2)(e3:g3=f3)(q1:u1=v1)(q2:u2=v2):Ch3 A0 A1 A2 A3 g1 g2 g3 u1 u2 X:=by rw [e1,e2,e3,q1,q2];exact h
theorem Ch2.turn{A0:World->Prop}{A1 A2:Value->World->Prop}{f1 f2 g1 g2:Bool}{v1 u1:Value}{X X':World}(h:Ch2 A0 A1 A2 f1 f2 v1 X)(h0:A0 X->A0 X')(h1:A1 v1 X->A1 v1 X')(h2:A2 v1 X->A2 v1 X')(e1:g1=f1)(e2:g2=f2)(q1:u1=v1):Ch2 A0 A1 A2 g1 g2 u1 X':=by
 rw [e1,e2,q1];unfold Ch2 at h ⊢;cases f2 <;> cases f1 <;> simp only [Bool.false_eq_true,if_true,if_false]at h ⊢
 ·exact h0 h
 ·exact h1 h
 ·exact h2 h
 ·exact h2 h
def Box1(W:World)(T:TypeId)(n:Nat)(v:Value)(X:World):Prop:=∃ Y z,v=.pointer (some ⟨Y,0,none⟩)/\W.heap.size<=Y/\X.heap[Y]?=some (.cells z T (0,0))/\z.size=n/\Below W.heap.size W X
def Box2(W:World)(T:TypeId)(us:Array Value)(v:Value)(X:World):Prop:=∃ Y,v=.pointer (some ⟨Y,0,none⟩)/\W.heap.size<=Y/\X.heap[Y]?=some (.cells us T (0,0))/\Below W.heap.size W X
theorem Box1.b{W X:World}{T:TypeId}{n:Nat}{v:Value}(h:Box1 W T n v X):Below W.heap.size W X:=by obtain⟨_,_,_,_,_,_,q⟩:=h;exact q
theorem Box2.b{W X:World}{T:TypeId}{u:Array Value}{v:Value}(h:Box2 W T u v X):Below W.heap.size W X:=by obtain⟨_,_,_,_,q⟩:=h;exact q
theorem Box1.go{W X X':World}{T:TypeId}{n:Nat}{v:Value}(h:Box1 W T n v X)(b:Below X.heap.size X X'):Box1 W T n v X':=by
 obtain⟨Y,z,h1,h2,h3,h4,h5⟩:=h;exact⟨Y,z,h1,h2,(b.block Y (blk_lt h3)).trans h3,h4,bgo h5 b⟩
theorem Box2.go{W X X':World}{T:TypeId}{us:Array Value}{v:Value}(h:Box2 W T us v X)(b:Below X.heap.size X X'):Box2 W T us v X':=by
 obtain⟨Y,h1,h2,h3,h5⟩:=h;exact⟨Y,h1,h2,(b.block Y (blk_lt h3)).trans h3,bgo h5 b⟩
section
variable {ρ : Operand -> Value} {X : World} {d : Option Tmp} {ty : TypeId} {ps : String} {af : Array Edge} {g : Option (Nat × Bool)}
theorem op_add3c{x y:Operand}{a b:Int}(e:ρ x=.int .i64 a)(e2:ρ y=.int .i64 b)(h0:-9223372036854775808<=a+b)(h1:a+b<=9223372036854775807):(execOp ρ ⟨d,.binOp .add 3 x y 3,ty,ps,af,g⟩).run Tryz.prog X=.ok (.value (.int .i64 (a+b))) X:=by
 have hw:IntKind.i64.wrap (a+b)=a+b:=by rw [IntKind.wrap_i64];omega
 simp only [execOp,e,e2]
 go_simp
theorem op_b78{x y z:Operand}{a b c:Int}(e0:ρ x=.int .i64 a)(e1:ρ y=.int .i64 b)(e2:ρ z=.int .i64 c):(execOp ρ ⟨d,.build 78 #[(0,x),(1,y),(2,z)],ty,ps,af,g⟩).run Tryz.prog X=.ok (.value (.agg #[.int .i64 a,.int .i64 b,.int .i64 c])) X:=by
 simp only [execOp];simp [e0,e1,e2]
 go_simp
theorem op_alloc78:(execOp ρ ⟨d,.alloc 78,ty,ps,af,g⟩).run Tryz.prog X=.ok (.value (.pointer (some ⟨X.heap.size,0,none⟩))) (X.alloc (.cells #[.int .i64 0,.int .i64 0,.int .i64 0] 78)):=by
 simp only [execOp]
 go_simp
theorem op_s31{x:Operand}{c:Le}(e:ρ x=.agg (leA c)):(execOp ρ ⟨d,.buildSlice 31 1 #[(0,x)],ty,ps,af,g⟩).run Tryz.prog X=.ok (.value (.slice (some ⟨X.heap.size,0,none⟩) 1 1)) (X.alloc (.cells (leA c) 78)):=by
 simp only [execOp];simp [e]
 go_simp
end
section
variable {w : World}
theorem own_blk{B:Nat}{e:TypeId}{k:Nat}{v:Value}{n:Nat}{xs:List Value}{w w':World}(h:w.ownsRow B e k v n xs)(hb:∀ g,v.ownBlock=some g->g<w.heap.size->w'.heap[g]?=w.heap[g]?):w'.ownsRow B e k v n xs:=by
 refine⟨h.1,?_⟩;rcases h.2 with q | ⟨g,cap,cur,hv,h0,hg,r⟩
 ·exact .inl q
 ·exact .inr ⟨g,cap,cur,hv,h0,(hb g (by rw [hv];rfl) (blk_lt hg)).trans hg,r⟩
theorem own_lt{B:Nat}{e:TypeId}{k:Nat}{v:Value}{n:Nat}{xs:List Value}{w:World}(h:w.ownsRow B e k v n xs):∀ g,v.ownBlock=some g->g<w.heap.size:=by
 intro g hg;rcases h.2 with q | ⟨g',cap,cur,hv,h0,hg',r⟩
 ·rw [q.1]at hg;cases hg
 ·rw [hv]at hg;cases hg;exact blk_lt hg'
def AsksV(w:World)(v:Value)(L:List Le)(f:FuncId)(cs:Array Value)(p:Le->Bool):Prop:=∀ X,Fr w X (fun k=>v.ownBlock=some k)->∀ l ∈ L,Calls Tryz.prog f (#[.agg (leA l)] ++ cs) X fun e w'=>e=.returned (.bool (p l))/\Below X.heap.size X w'
theorem delL_all{L:List Le}{v:Value}{f:FuncId}{cs:Array Value}{p:Le->Bool}(h:w.ownsRow 0 78 3 v L.length (L.flatMap leL))(hcf:∀ (X:World) (a:Array Value),Sem.run Tryz.prog (callFunc f a) X=.ok (.enter f a) X)(hf:AsksV w v L f cs p):
  Calls Tryz.prog 62 #[v,.func (.func f) #[] cs] w fun e w'=>∃ a cap,e=.returned (.slice a (keepL p L).length cap)/\w'.ownsRow 0 78 3 (.slice a (keepL p L).length cap) (keepL p L).length ((keepL p L).flatMap leL)/\(Value.slice a (keepL p L).length cap).ownBlock=v.ownBlock/\Fr w w' (fun k=>v.ownBlock=some k):=by
 rcases h.2 with⟨rfl,h0⟩ | ⟨g,cap,cur,rfl,_⟩
 ·have hn:L=[]:=List.length_eq_zero_iff.1 h0;subst hn;have hidx:=idxL_any (p:=p) (f:=f) (cs:=cs) (Lr.own leL_len h) hcf (fun X hX l hl=>by cases hl);have hfx:fidx p ([]:List Le)=-1:=rfl;rw [hfx]at hidx;clear hfx h hf h0;go_enter Tryz.func62,Tryz.ntmps62;go_wp2_with (go_at_call 70;refine hidx.mono ?_;rintro e w1 ⟨rfl,b1⟩;have B1:=lh b1;clear b1 hidx)
  go_ret;exact⟨_,_,rfl,World.ownsRow_nil _ _ _ _,rfl,Fr.ofBelow _ B1.out⟩
 ·refine(deleteL_any h hcf (fun X hX l hl=>hf X (hX.mono fun j q=>by have q':j=g:=q;rw [q'];rfl) l hl)).mono ?_;rintro e w' ⟨n,rfl,rfl,h1,h2⟩;exact⟨_,_,rfl,h1,rfl,h2.mono fun j q=>by have q':j=g:=q;rw [q'];rfl⟩
abbrev bdA(s0 s1:Int)(tv lv jv rv mv:Value):Array Value:=#[.int .i64 s0,.int .i64 s1,tv,lv,jv,rv,mv]
def GrAns(w:World)(B:Nat)(s0 s1:Int)(tv lv jvs rv mv:Value)(n t:Int)(L:List Le)(e:Ending)(w':World):Prop:=e=.returned (.agg (rsA ⟨0,s0,t+20,0,true⟩))/\∃ lv' L',L'=keepL (fun l=>!forceB t l || (decide (l.node=n) && decide (l.ver=s0))) L ++ [⟨n,s0,t+20⟩]/\w'.heap[B]?=some (.cells (bdA s0 s1 tv lv' jvs rv mv) 88 (0,0))/\w'.ownsRow 0 78 3 lv' L'.length (L'.flatMap leL)/\(∀ k,lv'.ownBlock=some k->lv.ownBlock=some k\/w.heap.size<=k)/\Fr w w' (fun k=>k=B\/lv.ownBlock=some k)
theorem grant_no{B jb o:Nat}{j:Jb}{jv:Value}{c:Cm}{r:Rest}{cv:Value}{t:Int}(hh:HandIs w B (.pointer (some ⟨jb,o,none⟩)))(h:JobAt w jb o j jv)(hd:j.drain=true):Calls Tryz.prog 27 #[.pointer (some ⟨B,0,none⟩),.int .i64 t,.agg (cmA c r cv)] w fun e w'=>e=.returned (.agg (rsA (rsE 162)))/\Below w.heap.size w w':=by
 obtain⟨W,hW⟩:∃ W,W=((w.alloc (.cells #[.int .i64 t] 3)).alloc (.cells (cmA c r cv) 48)).alloc (.cells zR 53):=⟨_,rfl⟩
 have hb:=bw3 hW;obtain⟨Y4,hY4⟩:∃ Q,w.heap.size=Q:=⟨_,rfl⟩
 obtain⟨Y5,hY5⟩:∃ Q,Y4+1=Q:=⟨_,rfl⟩
 obtain⟨Y6,hY6⟩:∃ Q,Y5+1=Q:=⟨_,rfl⟩
 have j4:W.heap[Y4]?=some (.cells #[.int .i64 t] 3 (0,0)):=nw31 hW hY4;have j5:W.heap[Y5]?=some (.cells (cmA c r cv) 48 (0,0)):=nw32 hW hY4 hY5;have j6:W.heap[Y6]?=some (.cells zR 53 (0,0)):=nw33 hW hY4 hY5 hY6;have hc:=hh W hb;have HJ:=lh (And.intro j4 (And.intro j5 j6));have HN:Hid (w.heap.size=Y4/\Y4+1=Y5/\Y5+1=Y6):=lh ⟨hY4,hY5,hY6⟩;have HW:=lh hW;have HB:=lh hb;have H18:Hid (w.cell? ⟨jb,o+18,none⟩=some (.bool true)):=lh (by
  have:=h 18 _ rfl;rw [hd]at this;exact this)
 clear hh hW hb hY4 hY5 hY6 j4 j5 j6 h hd;obtain⟨cs,hcs⟩:∃ cs,cmA c r cv=cs:=⟨_,rfl⟩
 rw [hcs]at HW HJ ⊢;clear hcs;go_enter Tryz.func27,Tryz.ntmps27;go_upto_region 1 with fail
 rw [<-HW.out,HN.out.1,HN.out.2.1,HN.out.2.2];go_wp2_with (first|(go_at_call 53;refine hc.mono ?_;rintro e v6 ⟨rfl,b6⟩;have B6:=lh b6;have BB:=lh (bgo HB.out b6);have c18:=cell_on BB.out H18.out;have j6:=(B6.out.block Y6 (blk_lt HJ.out.2.2)).trans HJ.out.2.2;obtain⟨X',hst,j',f'⟩:=st_row j6 (us:=rsA (rsE 162)) rfl size53 (by simp [Value.oneCell']);have HS:=lh hst;have HX:=lh (And.intro j' f');clear j6 hst j' f';clear b6 hc)|(refine wpl_store _ _ rfl (by simp [Act.eval]) (by simp [Act.eval]) HS.out ?_))
 refine bodyPost_ret (results_one rfl rfl (load_var HX.out.1 Tryz.underlying53 rfl size53)) rfl ?_;exact⟨rfl,BB.out.trans (HX.out.2.toBelow (fun k hk q=>by have h1:=HN.out.1;have h2:=HN.out.2.1;have h3:=HN.out.2.2;omega) BB.out.size)⟩
theorem grant_none{B:Nat}{c:Cm}{r:Rest}{cv lv tv jvs rv mv:Value}{t s0 s1:Int}{L:List Le}(hh:HandIs w B (.pointer none))(hB:w.heap[B]?=some (.cells (bdA s0 s1 tv lv jvs rv mv) 88 (0,0)))(hl:w.ownsRow 0 78 3 lv L.length (L.flatMap leL))(hne:lv.ownBlock≠some B)(ht:At t)(hk:LeOk L)(hz:L.length<=1000000):
  Calls Tryz.prog 27 #[.pointer (some ⟨B,0,none⟩),.int .i64 t,.agg (cmA c r cv)] w (GrAns w B s0 s1 tv lv jvs rv mv c.asker.1 t L):=by
 obtain⟨W,hW⟩:∃ W,W=((w.alloc (.cells #[.int .i64 t] 3)).alloc (.cells (cmA c r cv) 48)).alloc (.cells zR 53):=⟨_,rfl⟩
 have hb:=bw3 hW;obtain⟨Y4,hY4⟩:∃ Q,w.heap.size=Q:=⟨_,rfl⟩
 obtain⟨Y5,hY5⟩:∃ Q,Y4+1=Q:=⟨_,rfl⟩
 obtain⟨Y6,hY6⟩:∃ Q,Y5+1=Q:=⟨_,rfl⟩
 have j4:W.heap[Y4]?=some (.cells #[.int .i64 t] 3 (0,0)):=nw31 hW hY4;have j5:W.heap[Y5]?=some (.cells (cmA c r cv) 48 (0,0)):=nw32 hW hY4 hY5;have j6:W.heap[Y6]?=some (.cells zR 53 (0,0)):=nw33 hW hY4 hY5 hY6;have hc:=hh W hb;have HJ:=lh (And.intro j4 (And.intro j5 j6));have HN:Hid (w.heap.size=Y4/\Y4+1=Y5/\Y5+1=Y6):=lh ⟨hY4,hY5,hY6⟩;have HW:=lh hW;have HB:=lh hb;have hBl:=blk_lt hB;have h1:W.cell? ⟨Y5,1,none⟩=some (.int .i64 c.asker.1):=cell_blk j5 1;have H1:=lh h1;have h40:W.cell? ⟨Y4,0,none⟩=some (.int .i64 t):=cell_blk j4 0;have H40:=lh h40;have BW:=lh ((hb.block B hBl).trans hB);have LW:=lh (own_below hl hb);have LLT:Hid (∀ k,lv.ownBlock=some k->k<w.heap.size):=lh (own_lt hl);have NE:=lh hne;have AT:=lh ht;have LK:=lh hk;have LZ:=lh hz;have BLT:=lh hBl;obtain⟨la,lc,hlv⟩:=own_shape hl;have HLV:=lh hlv;have a0:0<=t:=ht.1;have a1:t<=1125899906842624:=ht.2;have A01:Hid (0<=t/\t<=1125899906842624):=lh ⟨a0,a1⟩;clear hh hW hb hY4 hY5 hY6 j4 j5 j6 hB hl hne ht hk hz h1 h40 hBl hlv a0 a1;obtain⟨cs,hcs⟩:∃ cs,cmA c r cv=cs:=⟨_,rfl⟩
 rw [hcs]at HW HJ ⊢;clear hcs;go_enter Tryz.func27,Tryz.ntmps27;go_upto_region 1 with fail
 rw [<-HW.out,HN.out.1,HN.out.2.1,HN.out.2.2];go_upto_region 4 with (go_at_call 53;refine hc.mono ?_;rintro e v6 ⟨rfl,b6⟩;have B6:=lh b6;have BB:=lh (bgo HB.out b6);have B6W:=lh ((b6.block B (blk_lt BW.out)).trans BW.out);clear b6 hc)
 have J4:=lh ((B6.out.block Y4 (blk_lt HJ.out.1)).trans HJ.out.1);have J5:=lh ((B6.out.block Y5 (blk_lt HJ.out.2.1)).trans HJ.out.2.1);have J6:=lh ((B6.out.block Y6 (blk_lt HJ.out.2.2)).trans HJ.out.2.2);have C1:=lh (cell_on B6.out H1.out);have C4:=lh (cell_on B6.out H40.out);have CB:Hid (v6.cell? ⟨B,0,none⟩=some (.int .i64 s0)):=lh (cell_blk B6W.out 0);have LV:=lh (own_below LW.out B6.out);refine wp_region_gs (fun fl r X9=>Ch2 (fun X=>Below v6.heap.size v6 X) (Box1 v6 78 3) (Box2 v6 78 (leA ⟨c.asker.1,s0,t+20⟩)) (fl 11) (fl 12) (r 8) X9) (fun _ _=>True) [
  fun v9 _=>v9=.pointer (some ⟨Y5,1,none⟩),fun v9 _=>v9=.pointer (some ⟨Y5,1,none⟩),fun v9 _=>v9=.int .i64 c.asker.1,fun v9 _=>v9=.pointer (some ⟨B,0,none⟩),fun v9 _=>v9=.pointer (some ⟨B,0,none⟩),fun v9 _=>v9=.pointer (some ⟨B,0,none⟩),fun v9 _=>v9=.pointer (some ⟨B,0,none⟩),fun v9 _=>v9=.int .i64 s0,fun v9 _=>v9=.int .i64 t,fun v9 _=>v9=.int .i64 (t+20),fun v9 _=>v9=.agg (leA ⟨c.asker.1,s0,t+20⟩),fun _ _=>True,fun _ _=>True]
  (by kernel_rfl) (by kernel_rfl) (by kernel_rfl) ?st ?g0 ?os ?en
 case st=>
  iterate 13 refine⟨fun _ _ _ _ h=>h,?_⟩
  exact trivial
 case g0=>exact(show Below _ _ _ from⟨rfl,rfl,rfl,Nat.le_refl _,fun _ _=>rfl⟩)
 case os =>
  refine⟨?_,?_,?_,?_,?_,?_,?_,?_,?_,?_,?_,?_,?_,trivial⟩
  all_goals intro ρ X9 fl hg hn hl hp ho hc hf hr
  ·exact rvq (op_f48_1 (show ρ (.tmp 5)=.pointer (some ⟨Y5,0,none⟩)from ho 5 rfl)) ⟨fun r9 h1 h2=>Ch2.same hg rfl rfl (h1 8 (by decide)),trivial,rfl⟩
  ·exact rvq (op_f38_0 (show ρ (.tmp 20)=.pointer (some ⟨Y5,1,none⟩)from hr 0 20 rfl rfl)) ⟨fun r9 h1 h2=>Ch2.same hg rfl rfl (h1 8 (by decide)),trivial,rfl⟩
  ·have b9:Below v6.heap.size v6 X9:=by
    have hg:Ch2 _ _ _ (fl 11) (fl 12) (ρ (.tmp 8)) X9:=hg;cases e1:fl 11 <;> cases e2:fl 12 <;> rw [e1,e2]at hg
    ·exact(show Below _ _ _ from hg)
    ·exact Box2.b hg
    ·exact Box1.b hg
    ·exact Box2.b hg
   exact rvq (op_load3 (show ρ (.tmp 21)=.pointer (some ⟨Y5,1,none⟩)from hr 1 21 rfl rfl) (cell_on b9 C1.out)) ⟨fun r9 h1 h2=>Ch2.same hg rfl rfl (h1 8 (by decide)),trivial,rfl⟩
  ·exact rvq (op_move (show ρ (.tmp 0)=.pointer (some ⟨B,0,none⟩)from ho 0 rfl)) ⟨fun r9 h1 h2=>Ch2.same hg rfl rfl (h1 8 (by decide)),trivial,rfl⟩
  ·exact rvq (op_nil (show ρ (.tmp 23)=.pointer (some ⟨B,0,none⟩)from hr 3 23 rfl rfl)) ⟨fun r9 h1 h2=>Ch2.same hg rfl rfl (h1 8 (by decide)),trivial,rfl⟩
  ·exact rvq (op_f88_0 (show ρ (.tmp 24)=.pointer (some ⟨B,0,none⟩)from hr 4 24 rfl rfl)) ⟨fun r9 h1 h2=>Ch2.same hg rfl rfl (h1 8 (by decide)),trivial,rfl⟩
  ·exact rvq (op_f30_0 (show ρ (.tmp 25)=.pointer (some ⟨B,0,none⟩)from hr 5 25 rfl rfl)) ⟨fun r9 h1 h2=>Ch2.same hg rfl rfl (h1 8 (by decide)),trivial,rfl⟩
  ·have b9:Below v6.heap.size v6 X9:=by
    have hg:Ch2 _ _ _ (fl 11) (fl 12) (ρ (.tmp 8)) X9:=hg;cases e1:fl 11 <;> cases e2:fl 12 <;> rw [e1,e2]at hg
    ·exact(show Below _ _ _ from hg)
    ·exact Box2.b hg
    ·exact Box1.b hg
    ·exact Box2.b hg
   exact rvq (op_load3 (show ρ (.tmp 26)=.pointer (some ⟨B,0,none⟩)from hr 6 26 rfl rfl) (cell_on b9 CB.out)) ⟨fun r9 h1 h2=>Ch2.same hg rfl rfl (h1 8 (by decide)),trivial,rfl⟩
  ·have b9:Below v6.heap.size v6 X9:=by
    have hg:Ch2 _ _ _ (fl 11) (fl 12) (ρ (.tmp 8)) X9:=hg;cases e1:fl 11 <;> cases e2:fl 12 <;> rw [e1,e2]at hg
    ·exact(show Below _ _ _ from hg)
    ·exact Box2.b hg
    ·exact Box1.b hg
    ·exact Box2.b hg
   exact rvq (op_load3 (show ρ (.tmp 4)=.pointer (some ⟨Y4,0,none⟩)from ho 4 rfl) (cell_on b9 C4.out)) ⟨fun r9 h1 h2=>Ch2.same hg rfl rfl (h1 8 (by decide)),trivial,rfl⟩
  ·exact rvq (op_add3c (show ρ (.tmp 28)=.int .i64 t from hr 8 28 rfl rfl) (hc _) (by have:=A01.out;omega) (by have:=A01.out;omega)) ⟨fun r9 h1 h2=>Ch2.same hg rfl rfl (h1 8 (by decide)),trivial,rfl⟩
  ·exact rvq (op_b78 (show ρ (.tmp 22)=.int .i64 c.asker.1 from hr 2 22 rfl rfl) (show ρ (.tmp 27)=.int .i64 s0 from hr 7 27 rfl rfl) (show ρ (.tmp 29)=.int .i64 (t+20)from hr 9 29 rfl rfl)) ⟨fun r9 h1 h2=>Ch2.same hg rfl rfl (h1 8 (by decide)),trivial,rfl⟩
  ·have hg:Ch2 _ _ _ (fl 11) (fl 12) ((fun t=>ρ (.tmp t)) 8) X9:=hg;have f09:fl 11=false:=hn;have f19:fl 12=false:=(show fl 12=false from by cases q9:fl 12 with | false=>rfl | true=>exact absurd (hl 12 _ 11 rfl (by kernel_rfl) q9) (by rw [hn];decide))
   rw [f09,f19]at hg;have hA:(fun X=>Below v6.heap.size v6 X)  X9:=hg;refine(rvq op_alloc78 ⟨fun r9 h1 h2=>?_,trivial,trivial⟩);show Ch2 _ _ _ true (fl 12) (r9 8) _
   rw [f19,h2 8 rfl];exact⟨X9.heap.size,_,rfl,hA.size,heap_alloc_new X9 _,rfl,bgo hA (bnew _ _)⟩
  ·have hg:Ch2 _ _ _ (fl 11) (fl 12) ((fun t=>ρ (.tmp t)) 8) X9:=hg;have f09:fl 11=true:=hp 11 (by kernel_rfl);have f19:fl 12=false:=hn;rw [f09,f19]at hg;have hA:(Box1 v6 78 3) (ρ (.tmp 8)) X9:=hg;obtain⟨Y,z,e8,hY,hzz,hn3,hb9⟩:=hA;obtain⟨X',hst,j',f'⟩:=st_row hzz (us:=(leA ⟨c.asker.1,s0,t+20⟩)) (by rw [hn3];rfl) size78 (by simp [Value.oneCell']);refine .inl ⟨rfl,Runs.skips (op_storeAt e8 (show ρ (.tmp 30)=.agg (leA ⟨c.asker.1,s0,t+20⟩)from hr 10 30 rfl rfl) hst) ⟨fun r9 h1 h2=>?_,trivial,trivial⟩⟩;show Ch2 _ _ _ (fl 11) true (r9 8) X'
   rw [f09,h1 8 (by decide)];exact⟨Y,e8,hY,j',hb9.trans (f'.toBelow (fun k hk q=>by omega) hb9.size)⟩
 case en =>
  intro a9 w6 fl hfl hG9 hs9 hd9 ho9 hr9;obtain⟨x9,hx,hxt⟩:=act_put hs9 hd9 ho9;have hG9:Ch2 _ _ _ (fl 11) (fl 12) ((fun t=>a9.tmps.getD t undef) 8) w6:=hG9;rw [hfl 11 (by decide),hfl 12 (by decide)]at hG9;have hG9:(Box2 v6 78 (leA ⟨c.asker.1,s0,t+20⟩)) (a9.tmps.getD 8 undef) w6:=hG9;rw [show a9.tmps.getD 8 undef=x9 8 from hxt 8]at hG9;change a9=putAll _ x9 [20,21,22,23,24,25,26,27,28,29,30,8]at hx;simp only [putAll,Act.put,List.setIfInBounds_toArray,List.set_cons_zero,List.set_cons_succ]at hx;subst hx;clear hs9 hd9 ho9 hr9 hfl hxt;generalize x9 20=z20,x9 21=z21,x9 22=z22,x9 23=z23,x9 24=z24,x9 25=z25,x9 26=z26,x9 27=z27,x9 28=z28,x9 29=z29,x9 30=z30,x9 8=z8 at hG9 ⊢;obtain⟨Y8,rfl,hY8,j8,b8⟩:=hG9;have HB8:=lh (bgo BB.out b8);have J8:=lh j8;have H8:=lh hY8;have b68:=b8;have J46:=(b8.block Y4 (blk_lt J4.out)).trans J4.out;have JB6:=(b8.block B (blk_lt B6W.out)).trans B6W.out;have J66:=lh ((b8.block Y6 (blk_lt J6.out)).trans J6.out);have n8:∀ k,lv.ownBlock=some k->k<w.heap.size:=LLT.out;have hs6:w.heap.size<=v6.heap.size:=BB.out.size;have q4:=HN.out;have h62:=delL_all (p:=fun l=>!forceB t l || (decide (l.node=c.asker.1) && decide (l.ver=s0))) (f:=63) (cs:=#[.pointer (some ⟨Y4,0,none⟩),.pointer (some ⟨Y8,0,none⟩)]) (own_below LV.out b8) goes63 (fun X hX l hl=>grant_clo (n:=⟨c.asker.1,s0,t+20⟩) AT.out (LK.out l hl).1 (LK.out l hl).2 ((cell_like (hX.block Y4 (blk_lt J46) (fun q=>by have:=n8 Y4 q;omega)) 0).trans (cell_blk J46 0)) ((hX.block Y8 (blk_lt j8) (fun q=>by have:=n8 Y8 q;omega)).trans j8));have c3:w6.cell? ⟨B,3,none⟩=some lv:=cell_blk JB6 3;rw [HLV.out]at c3 h62;have JBH:=lh JB6;have J4H:=lh J46;clear j8 b68 b8 hY8 J46 JB6 n8 hs6 q4;obtain⟨KL,hKL⟩:∃ KL,keepL (fun l=>!forceB t l || (decide (l.node=c.asker.1) && decide (l.ver=s0))) L=KL:=⟨_,rfl⟩
  rw [hKL]at h62;go_upto_region 6 with (first|(go_at_call 62;refine h62.mono ?_;rintro e w7 ⟨a',n',rfl,o7,ob7,f7⟩;rw [<-HLV.out]at ob7 f7;have jB7:=(f7.block B (blk_lt JBH.out) NE.out).trans JBH.out;have z3:w7.frozen? ⟨B,3,none⟩=false:=frozen_blk jB7 _;have c37:w7.cell? ⟨B,3,none⟩=some lv:=cell_blk jB7 3;have hst3:(Instr.storeAt 31 (.pointer (some ⟨B,3,none⟩)) (.slice a' KL.length n')).run Tryz.prog w7=.ok () (w7.setCell ⟨B,3,none⟩ (.slice a' KL.length n')):=(by clear c3 o7 ob7 f7 jB7;go_simp);obtain⟨w8,hw8⟩:∃ w8,w8=w7.setCell ⟨B,3,none⟩ (.slice a' KL.length n'):=⟨_,rfl⟩;have j8B:=set_blk (i:=3) jB7 (.slice a' KL.length n');have f8:=(Fr.refl w7 (fun k=>k=B)).set (a:=⟨B,3,none⟩) (.inl rfl) (.slice a' KL.length n');rw [<-hw8]at hst3 j8B f8;have HS3:=lh hst3;have H7:=lh (And.intro o7 (And.intro ob7 (And.intro f7 (And.intro j8B f8))));clear h62 c3 o7 ob7 f7 jB7 z3 c37 hst3 hw8 j8B f8)|(refine wpl_store _ _ rfl (by simp [Act.eval]) (by simp [Act.eval]) HS3.out ?_))
  obtain⟨v',hv'⟩:∃ v',Value.slice a' KL.length n'=v':=⟨_,rfl⟩
  have HV':=lh hv';obtain⟨o7,ob7,f7,j8B,f8⟩:=id H7.out;have LT6:Hid (∀ k,lv.ownBlock=some k->k<w.heap.size):=LLT;have hne8:(Value.slice a' KL.length n').ownBlock≠some B:=by rw [ob7];exact NE.out
  have O8:=lh (own_blk (w':=w8) o7 (fun g hg hl=>f8.block g hl (fun q=>hne8 (by rw [hg,show g=B from q]))));have JB8:=lh (show w8.heap[B]?=some (.cells (bdA s0 s1 tv (.slice a' KL.length n') jvs rv mv) 88 (0,0))from j8B);have F68:Hid (Fr w6 w8 (fun k=>k=B\/lv.ownBlock=some k)):=lh ((f7.mono fun k q=>.inr q).step (f8.mono (T:=fun k=>k=B\/lv.ownBlock=some k) fun k q=>.inl q) (fun k q=>.inl q));have NV:=lh (And.intro hne8 ob7);have J88:Hid (w8.heap[Y8]?=some (.cells (leA ⟨c.asker.1,s0,t+20⟩) 78 (0,0))):=lh ((F68.out.block Y8 (blk_lt J8.out) (fun q=>by have h1:=H8.out;have h2:=BB.out.size;have h3:=BLT.out;rcases q with q | q;omega;have:=LLT.out Y8 q;omega)).trans J8.out);have J86:Hid (w8.heap[Y6]?=some (.cells zR 53 (0,0))):=lh ((F68.out.block Y6 (blk_lt J66.out) (fun q=>by have h1:=HN.out;have h3:=BLT.out;rcases q with q | q;omega;have:=LLT.out Y6 q;omega)).trans J66.out);have CB3:Hid (w8.cell? ⟨B,3,none⟩=some (.slice a' KL.length n')):=lh (cell_blk JB8.out 3);have KZ:Hid (KL.length<=1000000):=lh (by have:=LZ.out;rw [<-hKL];exact Nat.le_trans (List.length_filter_le _ _) this);have HKL:=lh hKL;clear o7 ob7 f7 j8B f8 hne8 hv' hKL;refine wp_region_gs (fun fl r X9=>Ch3 (fun X=>Below w8.heap.size w8 X) (fun (v:Value) (X:World)=>∃ Y,v=.slice (some ⟨Y,0,none⟩) 1 1/\w8.heap.size<=Y/\X.heap[Y]?=some (.cells (leA ⟨c.asker.1,s0,t+20⟩) 78 (0,0))/\Below w8.heap.size w8 X) (fun (_ u:Value) (X:World)=>(∃ a m,u=.slice a (KL.length+1) m)/\X.ownsRow 0 78 3 u (KL.length+1) ((KL ++ [(⟨c.asker.1,s0,t+20⟩:Le)]).flatMap leL)/\X.heap[B]?=some (.cells (bdA s0 s1 tv (.slice a' KL.length n') jvs rv mv) 88 (0,0))/\(∀ k,u.ownBlock=some k->(Value.slice a' KL.length n').ownBlock=some k\/w8.heap.size<=k)/\Fr w8 X (fun k=>(Value.slice a' KL.length n').ownBlock=some k)) (fun (_ u:Value) (X:World)=>(∃ a m,u=.slice a (KL.length+1) m)/\X.ownsRow 0 78 3 u (KL.length+1) ((KL ++ [(⟨c.asker.1,s0,t+20⟩:Le)]).flatMap leL)/\X.heap[B]?=some (.cells (bdA s0 s1 tv u jvs rv mv) 88 (0,0))/\(∀ k,u.ownBlock=some k->(Value.slice a' KL.length n').ownBlock=some k\/w8.heap.size<=k)/\Fr w8 X (fun k=>k=B\/(Value.slice a' KL.length n').ownBlock=some k)) (fl 6) (fl 7) (fl 10) (r 46) (r 47) X9) (fun _ _=>True) [
   fun v9 _=>v9=.pointer (some ⟨B,0,none⟩),fun v9 _=>v9=.pointer (some ⟨B,0,none⟩),fun v9 _=>v9=.pointer (some ⟨B,0,none⟩),fun v9 _=>v9=.pointer (some ⟨B,3,none⟩),fun v9 _=>v9=(.slice a' KL.length n'),fun v9 _=>v9=.agg (leA ⟨c.asker.1,s0,t+20⟩),fun _ _=>True,fun _ _=>True,fun v9 _=>v9=.pointer (some ⟨B,0,none⟩),fun v9 _=>v9=.pointer (some ⟨B,3,none⟩),fun _ _=>True]
   (by kernel_rfl) (by kernel_rfl) (by kernel_rfl) ?st ?g0 ?os ?en
  case st=>
   iterate 11 refine⟨fun _ _ _ _ h=>h,?_⟩
   exact trivial
  case g0=>exact(show Below _ _ _ from⟨rfl,rfl,rfl,Nat.le_refl _,fun _ _=>rfl⟩)
  case os =>
   refine⟨?_,?_,?_,?_,?_,?_,?_,?_,?_,?_,?_,trivial⟩
   all_goals intro ρ X9 fl hg hn hl hp ho hc hf hr
   ·exact rvq (op_move (show ρ (.tmp 0)=.pointer (some ⟨B,0,none⟩)from ho 0 rfl)) ⟨fun r9 h1 h2=>Ch3.same hg rfl rfl rfl (h1 46 (by decide)) (h1 47 (by decide)),trivial,rfl⟩
   ·exact rvq (op_move (show ρ (.tmp 0)=.pointer (some ⟨B,0,none⟩)from ho 0 rfl)) ⟨fun r9 h1 h2=>Ch3.same hg rfl rfl rfl (h1 46 (by decide)) (h1 47 (by decide)),trivial,rfl⟩
   ·exact rvq (op_nil (show ρ (.tmp 41)=.pointer (some ⟨B,0,none⟩)from hr 1 41 rfl rfl)) ⟨fun r9 h1 h2=>Ch3.same hg rfl rfl rfl (h1 46 (by decide)) (h1 47 (by decide)),trivial,rfl⟩
   ·exact rvq (op_f88_1 (show ρ (.tmp 42)=.pointer (some ⟨B,0,none⟩)from hr 2 42 rfl rfl)) ⟨fun r9 h1 h2=>Ch3.same hg rfl rfl rfl (h1 46 (by decide)) (h1 47 (by decide)),trivial,rfl⟩
   ·have f79:fl 7=false:=(show fl 7=false from by cases q9:fl 7 with | false=>rfl | true=>exact absurd (hl 7 _ 4 rfl (by kernel_rfl) q9) (by rw [hn];decide))
    have fs9:fl 10=false:=(show fl 10=false from by cases q9:fl 10 with | false=>rfl | true=>exact absurd (hl 7 _ 4 rfl (by kernel_rfl) (hl 10 _ 7 rfl (by kernel_rfl) q9)) (by rw [hn];decide))
    have b9:Below w8.heap.size w8 X9:=by
     have hg:Ch3 _ _ _ _ (fl 6) (fl 7) (fl 10) (ρ (.tmp 46)) (ρ (.tmp 47)) X9:=hg;cases e1:fl 6 <;> rw [e1,f79,fs9]at hg
     ·exact(show Below _ _ _ from hg)
     ·obtain⟨_,_,_,_,g9⟩:=(show(fun (v:Value) (X:World)=>∃ Y,v=.slice (some ⟨Y,0,none⟩) 1 1/\w8.heap.size<=Y/\X.heap[Y]?=some (.cells (leA ⟨c.asker.1,s0,t+20⟩) 78 (0,0))/\Below w8.heap.size w8 X) _ _ from hg);exact g9
    exact rvq (op_load31 (show ρ (.tmp 43)=.pointer (some ⟨B,3,none⟩)from hr 3 43 rfl rfl) (cell_on b9 CB3.out)) ⟨fun r9 h1 h2=>Ch3.same hg rfl rfl rfl (h1 46 (by decide)) (h1 47 (by decide)),trivial,rfl⟩
   ·have f69:fl 6=false:=(show fl 6=false from by cases q9:fl 6 with | false=>rfl | true=>exact absurd (hl 6 _ 5 rfl (by kernel_rfl) q9) (by rw [hn];decide))
    have f79:fl 7=false:=(show fl 7=false from by cases q9:fl 7 with | false=>rfl | true=>exact absurd (hl 6 _ 5 rfl (by kernel_rfl) (hl 7 _ 6 rfl (by kernel_rfl) q9)) (by rw [hn];decide))
    have fs9:fl 10=false:=(show fl 10=false from by cases q9:fl 10 with | false=>rfl | true=>exact absurd (hl 6 _ 5 rfl (by kernel_rfl) (hl 7 _ 6 rfl (by kernel_rfl) (hl 10 _ 7 rfl (by kernel_rfl) q9))) (by rw [hn];decide))
    have b9:Below w8.heap.size w8 X9:=by
     have hg:Ch3 _ _ _ _ (fl 6) (fl 7) (fl 10) (ρ (.tmp 46)) (ρ (.tmp 47)) X9:=hg;rw [f69,f79,fs9]at hg;exact(show Below _ _ _ from hg)
    exact rvq (op_loadAt (show ρ (.tmp 8)=.pointer (some ⟨Y8,0,none⟩)from ho 8 rfl) (load_row ((b9.block Y8 (blk_lt J88.out)).trans J88.out) Tryz.underlying78 rfl size78)) ⟨fun r9 h1 h2=>Ch3.same hg rfl rfl rfl (h1 46 (by decide)) (h1 47 (by decide)),trivial,rfl⟩
   ·have hg:Ch3 _ _ _ _ (fl 6) (fl 7) (fl 10) ((fun t=>ρ (.tmp t)) 46) ((fun t=>ρ (.tmp t)) 47) X9:=hg;have f09:fl 6=false:=hn;have f19:fl 7=false:=(show fl 7=false from by cases q9:fl 7 with | false=>rfl | true=>exact absurd (hl 7 _ 6 rfl (by kernel_rfl) q9) (by rw [hn];decide))
    have f29:fl 10=false:=(show fl 10=false from by cases q9:fl 10 with | false=>rfl | true=>exact absurd (hl 7 _ 6 rfl (by kernel_rfl) (hl 10 _ 7 rfl (by kernel_rfl) q9)) (by rw [hn];decide))
    rw [f09,f19,f29]at hg;have hA:(fun X=>Below w8.heap.size w8 X)  X9:=hg;have hA:Below w8.heap.size w8 X9:=hA;refine(rvq (op_s31 (c:=⟨c.asker.1,s0,t+20⟩) (show ρ (.tmp 45)=.agg (leA ⟨c.asker.1,s0,t+20⟩)from hr 5 45 rfl rfl)) ⟨fun r9 h1 h2=>?_,trivial,trivial⟩);show Ch3 _ _ _ _ true (fl 7) (fl 10) (r9 46) (r9 47) _
    rw [f19,f29,h2 46 rfl];exact⟨X9.heap.size,rfl,hA.size,heap_alloc_new X9 _,bgo hA (bnew _ _)⟩
   ·have hg:Ch3 _ _ _ _ (fl 6) (fl 7) (fl 10) ((fun t=>ρ (.tmp t)) 46) ((fun t=>ρ (.tmp t)) 47) X9:=hg;have f09:fl 6=true:=hp 6 (by kernel_rfl);have f19:fl 7=false:=hn;have f29:fl 10=false:=(show fl 10=false from by cases q9:fl 10 with | false=>rfl | true=>exact absurd (hl 10 _ 7 rfl (by kernel_rfl) q9) (by rw [hn];decide))
    rw [f09,f19,f29]at hg;have hA:(fun (v:Value) (X:World)=>∃ Y,v=.slice (some ⟨Y,0,none⟩) 1 1/\w8.heap.size<=Y/\X.heap[Y]?=some (.cells (leA ⟨c.asker.1,s0,t+20⟩) 78 (0,0))/\Below w8.heap.size w8 X) (ρ (.tmp 46)) X9:=hg;obtain⟨Y,e46,hY,jY,b9⟩:=hA;have ho9:=own_below O8.out b9;obtain⟨ad',cap',X',hrun,hown,hgr,hob⟩:=run_le (w:=X9) (m:=1) (c:=1) (news:=leL ⟨c.asker.1,s0,t+20⟩) (ad:=some ⟨Y,0,none⟩) ho9 (Nat.zero_le _) (.inr ⟨_,rfl,rfl,fun j u hu=>by rw [add_at,cell_blk jY,Nat.zero_add,<-hu,<-Array.getElem?_toList]⟩) (fun u hu=>oneLe [⟨c.asker.1,s0,t+20⟩] u (by simpa using hu)) (by have:=KZ.out;omega);refine(rvq (op_append31 (show ρ (.tmp 44)=.slice a' KL.length n' from hr 4 44 rfl rfl) e46 hrun) ⟨fun r9 h1 h2=>?_,trivial,trivial⟩);show Ch3 _ _ _ _ (fl 6) true (fl 10) (r9 46) (r9 47) X'
    rw [f29,h2 47 rfl];have fX:Fr X9 X' (fun k=>(Value.slice a' KL.length n').ownBlock=some k):=Fr.grown (Fr.refl _ _) hgr (fun k hk=>.inl hk);refine⟨⟨_,_,rfl⟩,?_,(fX.block B (by have:=blk_lt JB8.out;have:=b9.size;omega) NV.out.1).trans ((b9.block B (blk_lt JB8.out)).trans JB8.out),fun k hk=>?_,(Fr.ofBelow _ b9).trans fX⟩
    ·rw [List.flatMap_append];simpa using hown
    ·rcases hob with e | e
     ·exact .inl (e.symm.trans hk)
     ·rw [e]at hk;cases hk;exact .inr b9.size
   ·exact rvq (op_nil (show ρ (.tmp 40)=.pointer (some ⟨B,0,none⟩)from hr 0 40 rfl rfl)) ⟨fun r9 h1 h2=>Ch3.same hg rfl rfl rfl (h1 46 (by decide)) (h1 47 (by decide)),trivial,rfl⟩
   ·exact rvq (op_f88_1 (show ρ (.tmp 48)=.pointer (some ⟨B,0,none⟩)from hr 8 48 rfl rfl)) ⟨fun r9 h1 h2=>Ch3.same hg rfl rfl rfl (h1 46 (by decide)) (h1 47 (by decide)),trivial,rfl⟩
   ·have hg:Ch3 _ _ _ _ (fl 6) (fl 7) (fl 10) ((fun t=>ρ (.tmp t)) 46) ((fun t=>ρ (.tmp t)) 47) X9:=hg;have f09:fl 6=true:=hp 6 (by kernel_rfl);have f19:fl 7=true:=hp 7 (by kernel_rfl);have f29:fl 10=false:=hn;rw [f09,f19,f29]at hg;have hA:(fun (_ u:Value) (X:World)=>(∃ a m,u=.slice a (KL.length+1) m)/\X.ownsRow 0 78 3 u (KL.length+1) ((KL ++ [(⟨c.asker.1,s0,t+20⟩:Le)]).flatMap leL)/\X.heap[B]?=some (.cells (bdA s0 s1 tv (.slice a' KL.length n') jvs rv mv) 88 (0,0))/\(∀ k,u.ownBlock=some k->(Value.slice a' KL.length n').ownBlock=some k\/w8.heap.size<=k)/\Fr w8 X (fun k=>(Value.slice a' KL.length n').ownBlock=some k)) (ρ (.tmp 46)) (ρ (.tmp 47)) X9:=hg;obtain⟨⟨a9,m9,e47⟩,hown,hjB,hob,hfr⟩:=hA;have hx47:ρ (.tmp 47)=.slice a9 (KL.length+1) m9:=e47;rw [e47]at hown hob;have z9:X9.frozen? ⟨B,3,none⟩=false:=frozen_blk hjB _;have c9:X9.cell? ⟨B,3,none⟩=some (.slice a' KL.length n'):=cell_blk hjB 3;have hst:(Instr.storeAt 31 (.pointer (some ⟨B,3,none⟩)) (.slice a9 (KL.length+1) m9)).run Tryz.prog X9=.ok () (X9.setCell ⟨B,3,none⟩ (.slice a9 (KL.length+1) m9)):=by
     clear hg hr ho hown hjB hob hfr
     go_simp
    have nB:(Value.slice a9 (KL.length+1) m9).ownBlock≠some B:=fun e=>by
     rcases hob B e with e' | e'
     ·exact NV.out.1 e'
     ·have:=blk_lt JB8.out;omega
    refine .inl ⟨rfl,Runs.skips (op_storeAt (show ρ (.tmp 49)=.pointer (some ⟨B,3,none⟩)from hr 9 49 rfl rfl) hx47 hst) ⟨fun r9 h1 h2=>?_,trivial,trivial⟩⟩;show Ch3 _ _ _ _ (fl 6) (fl 7) true (r9 46) (r9 47) _
    rw [h1 47 (by decide),e47];exact⟨⟨_,_,rfl⟩,own_blk hown (fun g hg hl=>((Fr.refl X9 (fun k=>k=B)).set (a:=⟨B,3,none⟩) (.inl rfl) _).block g hl (fun q9=>nB (by rw [hg,show g=B from q9]))),set_blk hjB _,hob,(hfr.mono fun k q9=>.inr q9).set (a:=⟨B,3,none⟩) (.inl (.inl rfl)) _⟩
  case en =>
   intro a9 w9 fl hfl hG9 hs9 hd9 ho9 hr9;obtain⟨x9,hx,hxt⟩:=act_put hs9 hd9 ho9;have hG9:Ch3 _ _ _ _ (fl 6) (fl 7) (fl 10) ((fun t=>a9.tmps.getD t undef) 46) ((fun t=>a9.tmps.getD t undef) 47) w9:=hG9;rw [hfl 6 (by decide),hfl 7 (by decide),hfl 10 (by decide)]at hG9;have hG9:(fun (_ u:Value) (X:World)=>(∃ a m,u=.slice a (KL.length+1) m)/\X.ownsRow 0 78 3 u (KL.length+1) ((KL ++ [(⟨c.asker.1,s0,t+20⟩:Le)]).flatMap leL)/\X.heap[B]?=some (.cells (bdA s0 s1 tv u jvs rv mv) 88 (0,0))/\(∀ k,u.ownBlock=some k->(Value.slice a' KL.length n').ownBlock=some k\/w8.heap.size<=k)/\Fr w8 X (fun k=>k=B\/(Value.slice a' KL.length n').ownBlock=some k)) (a9.tmps.getD 46 undef) (a9.tmps.getD 47 undef) w9:=hG9;rw [show a9.tmps.getD 46 undef=x9 46 from hxt 46]at hG9;rw [show a9.tmps.getD 47 undef=x9 47 from hxt 47]at hG9;change a9=putAll _ x9 [40,41,42,43,44,45,46,47,48,49]at hx;simp only [putAll,Act.put,List.setIfInBounds_toArray,List.set_cons_zero,List.set_cons_succ]at hx;subst hx;clear hs9 hd9 ho9 hr9 hfl hxt;generalize x9 40=z40,x9 41=z41,x9 42=z42,x9 43=z43,x9 44=z44,x9 45=z45,x9 46=z46,x9 47=z47,x9 48=z48,x9 49=z49 at hG9 ⊢;obtain⟨⟨a9,m9,rfl⟩,own9,jB9,ob9,f89⟩:=hG9;have J9Y:w9.heap[Y8]?=some (.cells (leA ⟨c.asker.1,s0,t+20⟩) 78 (0,0)):=(f89.block Y8 (blk_lt J88.out) (fun q=>by have h1:=H8.out;have h2:=BB.out.size;have h3:=BLT.out;rcases q with q | q;omega;rw [NV.out.2]at q;have:=LLT.out Y8 q;omega)).trans J88.out;have c81:w9.cell? ⟨Y8,1,none⟩=some (.int .i64 s0):=cell_blk J9Y 1;have c82:w9.cell? ⟨Y8,2,none⟩=some (.int .i64 (t+20)):=cell_blk J9Y 2;have j6:w9.heap[Y6]?=some (.cells zR 53 (0,0)):=(f89.block Y6 (blk_lt J86.out) (fun q=>by have h1:=HN.out;have h3:=BLT.out;rcases q with q | q;omega;rw [NV.out.2]at q;have:=LLT.out Y6 q;omega)).trans J86.out;obtain⟨X',hst,j',f'⟩:=st_row j6 (us:=rsA ⟨0,s0,t+20,0,true⟩) rfl size53 (by simp [Value.oneCell']);have HS:=lh hst;have n6:Y6≠B:=by have h1:=HN.out;have h3:=BLT.out;omega
   have F69:Fr w6 w9 (fun k=>k=B\/lv.ownBlock=some k):=F68.out.trans (f89.mono fun k q=>by rcases q with q | q;exact .inl q;rw [NV.out.2]at q;exact .inr q);have F9:Fr w w9 (fun k=>k=B\/lv.ownBlock=some k):=(Fr.ofBelow _ HB8.out).trans F69;have own9':=own_blk (w':=X') own9 (fun g hg hl=>f'.block g hl (fun q=>by
    have q':g=Y6:=q;subst q';rcases ob9 g hg with e | e
    ·rw [NV.out.2]at e;have:=LLT.out g e;have:=HN.out;omega
    ·have:=blk_lt J86.out;omega))
   have HX:=lh (And.intro j' (And.intro (F9.step f' (fun k q=>.inr (by have h1:=HN.out;have q':k=Y6:=q;omega))) (And.intro own9' ((f'.block B (blk_lt jB9) (fun q=>n6 q.symm)).trans jB9))));have OB9:=lh ob9;have S8:=lh (show w.heap.size<=w8.heap.size from Nat.le_trans HB8.out.size F68.out.size);clear own9 jB9 ob9 f89 J9Y j6 hst j' f' n6 F69 F9 own9';go_wp2_with (refine wpl_store _ _ rfl (by simp [Act.eval]) (by simp [Act.eval]) HS.out ?_)
   refine bodyPost_ret (results_one rfl rfl (load_var HX.out.1 Tryz.underlying53 rfl size53)) rfl ?_;refine⟨rfl,_,KL ++ [⟨c.asker.1,s0,t+20⟩],by rw [<-HKL.out],HX.out.2.2.2,by rw [List.length_append];exact HX.out.2.2.1,fun k hk=>?_,HX.out.2.1⟩;rcases OB9.out k hk with e | e
   ·rw [NV.out.2]at e;exact .inl e
   ·exact .inr (Nat.le_trans S8.out e)
theorem grant_some{B:Nat}{jb o:Nat}{j:Jb}{jv:Value}{c:Cm}{r:Rest}{cv lv tv jvs rv mv:Value}{t s0 s1:Int}{L:List Le}(hh:HandIs w B (.pointer (some ⟨jb,o,none⟩)))(h:JobAt w jb o j jv)(hd:j.drain=false)(hB:w.heap[B]?=some (.cells (bdA s0 s1 tv lv jvs rv mv) 88 (0,0)))(hl:w.ownsRow 0 78 3 lv L.length (L.flatMap leL))(hne:lv.ownBlock≠some B)(ht:At t)(hk:LeOk L)(hz:L.length<=1000000):
  Calls Tryz.prog 27 #[.pointer (some ⟨B,0,none⟩),.int .i64 t,.agg (cmA c r cv)] w (GrAns w B s0 s1 tv lv jvs rv mv c.asker.1 t L):=by
 obtain⟨W,hW⟩:∃ W,W=((w.alloc (.cells #[.int .i64 t] 3)).alloc (.cells (cmA c r cv) 48)).alloc (.cells zR 53):=⟨_,rfl⟩
 have hb:=bw3 hW;obtain⟨Y4,hY4⟩:∃ Q,w.heap.size=Q:=⟨_,rfl⟩
 obtain⟨Y5,hY5⟩:∃ Q,Y4+1=Q:=⟨_,rfl⟩
 obtain⟨Y6,hY6⟩:∃ Q,Y5+1=Q:=⟨_,rfl⟩
 have j4:W.heap[Y4]?=some (.cells #[.int .i64 t] 3 (0,0)):=nw31 hW hY4;have j5:W.heap[Y5]?=some (.cells (cmA c r cv) 48 (0,0)):=nw32 hW hY4 hY5;have j6:W.heap[Y6]?=some (.cells zR 53 (0,0)):=nw33 hW hY4 hY5 hY6;have hc:=hh W hb;have HJ:=lh (And.intro j4 (And.intro j5 j6));have HN:Hid (w.heap.size=Y4/\Y4+1=Y5/\Y5+1=Y6):=lh ⟨hY4,hY5,hY6⟩;have HW:=lh hW;have HB:=lh hb;have H18:Hid (w.cell? ⟨jb,o+18,none⟩=some (.bool false)):=lh (by
  have:=h 18 _ rfl;rw [hd]at this;exact this)
 have hBl:=blk_lt hB;have h1:W.cell? ⟨Y5,1,none⟩=some (.int .i64 c.asker.1):=cell_blk j5 1;have H1:=lh h1;have h40:W.cell? ⟨Y4,0,none⟩=some (.int .i64 t):=cell_blk j4 0;have H40:=lh h40;have BW:=lh ((hb.block B hBl).trans hB);have LW:=lh (own_below hl hb);have LLT:Hid (∀ k,lv.ownBlock=some k->k<w.heap.size):=lh (own_lt hl);have NE:=lh hne;have AT:=lh ht;have LK:=lh hk;have LZ:=lh hz;have BLT:=lh hBl;obtain⟨la,lc,hlv⟩:=own_shape hl;have HLV:=lh hlv;have a0:0<=t:=ht.1;have a1:t<=1125899906842624:=ht.2;have A01:Hid (0<=t/\t<=1125899906842624):=lh ⟨a0,a1⟩;clear hh hW hb hY4 hY5 hY6 j4 j5 j6 h hd hB hl hne ht hk hz h1 h40 hBl hlv a0 a1;obtain⟨cs,hcs⟩:∃ cs,cmA c r cv=cs:=⟨_,rfl⟩
 rw [hcs]at HW HJ ⊢;clear hcs;go_enter Tryz.func27,Tryz.ntmps27;go_upto_region 1 with fail
 rw [<-HW.out,HN.out.1,HN.out.2.1,HN.out.2.2];go_upto_region 4 with (go_at_call 53;refine hc.mono ?_;rintro e v6 ⟨rfl,b6⟩;have B6:=lh b6;have BB:=lh (bgo HB.out b6);have c18:=cell_on BB.out H18.out;have B6W:=lh ((b6.block B (blk_lt BW.out)).trans BW.out);clear b6 hc)
 clear c18;have J4:=lh ((B6.out.block Y4 (blk_lt HJ.out.1)).trans HJ.out.1);have J5:=lh ((B6.out.block Y5 (blk_lt HJ.out.2.1)).trans HJ.out.2.1);have J6:=lh ((B6.out.block Y6 (blk_lt HJ.out.2.2)).trans HJ.out.2.2);have C1:=lh (cell_on B6.out H1.out);have C4:=lh (cell_on B6.out H40.out);have CB:Hid (v6.cell? ⟨B,0,none⟩=some (.int .i64 s0)):=lh (cell_blk B6W.out 0);have LV:=lh (own_below LW.out B6.out);refine wp_region_gs (fun fl r X9=>Ch2 (fun X=>Below v6.heap.size v6 X) (Box1 v6 78 3) (Box2 v6 78 (leA ⟨c.asker.1,s0,t+20⟩)) (fl 11) (fl 12) (r 8) X9) (fun _ _=>True) [
  fun v9 _=>v9=.pointer (some ⟨Y5,1,none⟩),fun v9 _=>v9=.pointer (some ⟨Y5,1,none⟩),fun v9 _=>v9=.int .i64 c.asker.1,fun v9 _=>v9=.pointer (some ⟨B,0,none⟩),fun v9 _=>v9=.pointer (some ⟨B,0,none⟩),fun v9 _=>v9=.pointer (some ⟨B,0,none⟩),fun v9 _=>v9=.pointer (some ⟨B,0,none⟩),fun v9 _=>v9=.int .i64 s0,fun v9 _=>v9=.int .i64 t,fun v9 _=>v9=.int .i64 (t+20),fun v9 _=>v9=.agg (leA ⟨c.asker.1,s0,t+20⟩),fun _ _=>True,fun _ _=>True]
  (by kernel_rfl) (by kernel_rfl) (by kernel_rfl) ?st ?g0 ?os ?en
 case st=>
  iterate 13 refine⟨fun _ _ _ _ h=>h,?_⟩
  exact trivial
 case g0=>exact(show Below _ _ _ from⟨rfl,rfl,rfl,Nat.le_refl _,fun _ _=>rfl⟩)
 case os =>
  refine⟨?_,?_,?_,?_,?_,?_,?_,?_,?_,?_,?_,?_,?_,trivial⟩
  all_goals intro ρ X9 fl hg hn hl hp ho hc hf hr
  ·exact rvq (op_f48_1 (show ρ (.tmp 5)=.pointer (some ⟨Y5,0,none⟩)from ho 5 rfl)) ⟨fun r9 h1 h2=>Ch2.same hg rfl rfl (h1 8 (by decide)),trivial,rfl⟩
  ·exact rvq (op_f38_0 (show ρ (.tmp 20)=.pointer (some ⟨Y5,1,none⟩)from hr 0 20 rfl rfl)) ⟨fun r9 h1 h2=>Ch2.same hg rfl rfl (h1 8 (by decide)),trivial,rfl⟩
  ·have b9:Below v6.heap.size v6 X9:=by
    have hg:Ch2 _ _ _ (fl 11) (fl 12) (ρ (.tmp 8)) X9:=hg;cases e1:fl 11 <;> cases e2:fl 12 <;> rw [e1,e2]at hg
    ·exact(show Below _ _ _ from hg)
    ·exact Box2.b hg
    ·exact Box1.b hg
    ·exact Box2.b hg
   exact rvq (op_load3 (show ρ (.tmp 21)=.pointer (some ⟨Y5,1,none⟩)from hr 1 21 rfl rfl) (cell_on b9 C1.out)) ⟨fun r9 h1 h2=>Ch2.same hg rfl rfl (h1 8 (by decide)),trivial,rfl⟩
  ·exact rvq (op_move (show ρ (.tmp 0)=.pointer (some ⟨B,0,none⟩)from ho 0 rfl)) ⟨fun r9 h1 h2=>Ch2.same hg rfl rfl (h1 8 (by decide)),trivial,rfl⟩
  ·exact rvq (op_nil (show ρ (.tmp 23)=.pointer (some ⟨B,0,none⟩)from hr 3 23 rfl rfl)) ⟨fun r9 h1 h2=>Ch2.same hg rfl rfl (h1 8 (by decide)),trivial,rfl⟩
  ·exact rvq (op_f88_0 (show ρ (.tmp 24)=.pointer (some ⟨B,0,none⟩)from hr 4 24 rfl rfl)) ⟨fun r9 h1 h2=>Ch2.same hg rfl rfl (h1 8 (by decide)),trivial,rfl⟩
  ·exact rvq (op_f30_0 (show ρ (.tmp 25)=.pointer (some ⟨B,0,none⟩)from hr 5 25 rfl rfl)) ⟨fun r9 h1 h2=>Ch2.same hg rfl rfl (h1 8 (by decide)),trivial,rfl⟩
  ·have b9:Below v6.heap.size v6 X9:=by
    have hg:Ch2 _ _ _ (fl 11) (fl 12) (ρ (.tmp 8)) X9:=hg;cases e1:fl 11 <;> cases e2:fl 12 <;> rw [e1,e2]at hg
    ·exact(show Below _ _ _ from hg)
    ·exact Box2.b hg
    ·exact Box1.b hg
    ·exact Box2.b hg
   exact rvq (op_load3 (show ρ (.tmp 26)=.pointer (some ⟨B,0,none⟩)from hr 6 26 rfl rfl) (cell_on b9 CB.out)) ⟨fun r9 h1 h2=>Ch2.same hg rfl rfl (h1 8 (by decide)),trivial,rfl⟩
  ·have b9:Below v6.heap.size v6 X9:=by
    have hg:Ch2 _ _ _ (fl 11) (fl 12) (ρ (.tmp 8)) X9:=hg;cases e1:fl 11 <;> cases e2:fl 12 <;> rw [e1,e2]at hg
    ·exact(show Below _ _ _ from hg)
    ·exact Box2.b hg
    ·exact Box1.b hg
    ·exact Box2.b hg
   exact rvq (op_load3 (show ρ (.tmp 4)=.pointer (some ⟨Y4,0,none⟩)from ho 4 rfl) (cell_on b9 C4.out)) ⟨fun r9 h1 h2=>Ch2.same hg rfl rfl (h1 8 (by decide)),trivial,rfl⟩
  ·exact rvq (op_add3c (show ρ (.tmp 28)=.int .i64 t from hr 8 28 rfl rfl) (hc _) (by have:=A01.out;omega) (by have:=A01.out;omega)) ⟨fun r9 h1 h2=>Ch2.same hg rfl rfl (h1 8 (by decide)),trivial,rfl⟩
  ·exact rvq (op_b78 (show ρ (.tmp 22)=.int .i64 c.asker.1 from hr 2 22 rfl rfl) (show ρ (.tmp 27)=.int .i64 s0 from hr 7 27 rfl rfl) (show ρ (.tmp 29)=.int .i64 (t+20)from hr 9 29 rfl rfl)) ⟨fun r9 h1 h2=>Ch2.same hg rfl rfl (h1 8 (by decide)),trivial,rfl⟩
  ·have hg:Ch2 _ _ _ (fl 11) (fl 12) ((fun t=>ρ (.tmp t)) 8) X9:=hg;have f09:fl 11=false:=hn;have f19:fl 12=false:=(show fl 12=false from by cases q9:fl 12 with | false=>rfl | true=>exact absurd (hl 12 _ 11 rfl (by kernel_rfl) q9) (by rw [hn];decide))
   rw [f09,f19]at hg;have hA:(fun X=>Below v6.heap.size v6 X)  X9:=hg;refine(rvq op_alloc78 ⟨fun r9 h1 h2=>?_,trivial,trivial⟩);show Ch2 _ _ _ true (fl 12) (r9 8) _
   rw [f19,h2 8 rfl];exact⟨X9.heap.size,_,rfl,hA.size,heap_alloc_new X9 _,rfl,bgo hA (bnew _ _)⟩
  ·have hg:Ch2 _ _ _ (fl 11) (fl 12) ((fun t=>ρ (.tmp t)) 8) X9:=hg;have f09:fl 11=true:=hp 11 (by kernel_rfl);have f19:fl 12=false:=hn;rw [f09,f19]at hg;have hA:(Box1 v6 78 3) (ρ (.tmp 8)) X9:=hg;obtain⟨Y,z,e8,hY,hzz,hn3,hb9⟩:=hA;obtain⟨X',hst,j',f'⟩:=st_row hzz (us:=(leA ⟨c.asker.1,s0,t+20⟩)) (by rw [hn3];rfl) size78 (by simp [Value.oneCell']);refine .inl ⟨rfl,Runs.skips (op_storeAt e8 (show ρ (.tmp 30)=.agg (leA ⟨c.asker.1,s0,t+20⟩)from hr 10 30 rfl rfl) hst) ⟨fun r9 h1 h2=>?_,trivial,trivial⟩⟩;show Ch2 _ _ _ (fl 11) true (r9 8) X'
   rw [f09,h1 8 (by decide)];exact⟨Y,e8,hY,j',hb9.trans (f'.toBelow (fun k hk q=>by omega) hb9.size)⟩
 case en =>
  intro a9 w6 fl hfl hG9 hs9 hd9 ho9 hr9;obtain⟨x9,hx,hxt⟩:=act_put hs9 hd9 ho9;have hG9:Ch2 _ _ _ (fl 11) (fl 12) ((fun t=>a9.tmps.getD t undef) 8) w6:=hG9;rw [hfl 11 (by decide),hfl 12 (by decide)]at hG9;have hG9:(Box2 v6 78 (leA ⟨c.asker.1,s0,t+20⟩)) (a9.tmps.getD 8 undef) w6:=hG9;rw [show a9.tmps.getD 8 undef=x9 8 from hxt 8]at hG9;change a9=putAll _ x9 [20,21,22,23,24,25,26,27,28,29,30,8]at hx;simp only [putAll,Act.put,List.setIfInBounds_toArray,List.set_cons_zero,List.set_cons_succ]at hx;subst hx;clear hs9 hd9 ho9 hr9 hfl hxt;generalize x9 20=z20,x9 21=z21,x9 22=z22,x9 23=z23,x9 24=z24,x9 25=z25,x9 26=z26,x9 27=z27,x9 28=z28,x9 29=z29,x9 30=z30,x9 8=z8 at hG9 ⊢;obtain⟨Y8,rfl,hY8,j8,b8⟩:=hG9;have HB8:=lh (bgo BB.out b8);have J8:=lh j8;have H8:=lh hY8;have b68:=b8;have J46:=(b8.block Y4 (blk_lt J4.out)).trans J4.out;have JB6:=(b8.block B (blk_lt B6W.out)).trans B6W.out;have J66:=lh ((b8.block Y6 (blk_lt J6.out)).trans J6.out);have n8:∀ k,lv.ownBlock=some k->k<w.heap.size:=LLT.out;have hs6:w.heap.size<=v6.heap.size:=BB.out.size;have q4:=HN.out;have h62:=delL_all (p:=fun l=>!forceB t l || (decide (l.node=c.asker.1) && decide (l.ver=s0))) (f:=63) (cs:=#[.pointer (some ⟨Y4,0,none⟩),.pointer (some ⟨Y8,0,none⟩)]) (own_below LV.out b8) goes63 (fun X hX l hl=>grant_clo (n:=⟨c.asker.1,s0,t+20⟩) AT.out (LK.out l hl).1 (LK.out l hl).2 ((cell_like (hX.block Y4 (blk_lt J46) (fun q=>by have:=n8 Y4 q;omega)) 0).trans (cell_blk J46 0)) ((hX.block Y8 (blk_lt j8) (fun q=>by have:=n8 Y8 q;omega)).trans j8));have c3:w6.cell? ⟨B,3,none⟩=some lv:=cell_blk JB6 3;rw [HLV.out]at c3 h62;have JBH:=lh JB6;have J4H:=lh J46;clear j8 b68 b8 hY8 J46 JB6 n8 hs6 q4;obtain⟨KL,hKL⟩:∃ KL,keepL (fun l=>!forceB t l || (decide (l.node=c.asker.1) && decide (l.ver=s0))) L=KL:=⟨_,rfl⟩
  rw [hKL]at h62;go_upto_region 6 with (first|(go_at_call 62;refine h62.mono ?_;rintro e w7 ⟨a',n',rfl,o7,ob7,f7⟩;rw [<-HLV.out]at ob7 f7;have jB7:=(f7.block B (blk_lt JBH.out) NE.out).trans JBH.out;have z3:w7.frozen? ⟨B,3,none⟩=false:=frozen_blk jB7 _;have c37:w7.cell? ⟨B,3,none⟩=some lv:=cell_blk jB7 3;have hst3:(Instr.storeAt 31 (.pointer (some ⟨B,3,none⟩)) (.slice a' KL.length n')).run Tryz.prog w7=.ok () (w7.setCell ⟨B,3,none⟩ (.slice a' KL.length n')):=(by clear c3 o7 ob7 f7 jB7;go_simp);obtain⟨w8,hw8⟩:∃ w8,w8=w7.setCell ⟨B,3,none⟩ (.slice a' KL.length n'):=⟨_,rfl⟩;have j8B:=set_blk (i:=3) jB7 (.slice a' KL.length n');have f8:=(Fr.refl w7 (fun k=>k=B)).set (a:=⟨B,3,none⟩) (.inl rfl) (.slice a' KL.length n');rw [<-hw8]at hst3 j8B f8;have HS3:=lh hst3;have H7:=lh (And.intro o7 (And.intro ob7 (And.intro f7 (And.intro j8B f8))));clear h62 c3 o7 ob7 f7 jB7 z3 c37 hst3 hw8 j8B f8)|(refine wpl_store _ _ rfl (by simp [Act.eval]) (by simp [Act.eval]) HS3.out ?_))
  obtain⟨v',hv'⟩:∃ v',Value.slice a' KL.length n'=v':=⟨_,rfl⟩
  have HV':=lh hv';obtain⟨o7,ob7,f7,j8B,f8⟩:=id H7.out;have LT6:Hid (∀ k,lv.ownBlock=some k->k<w.heap.size):=LLT;have hne8:(Value.slice a' KL.length n').ownBlock≠some B:=by rw [ob7];exact NE.out
  have O8:=lh (own_blk (w':=w8) o7 (fun g hg hl=>f8.block g hl (fun q=>hne8 (by rw [hg,show g=B from q]))));have JB8:=lh (show w8.heap[B]?=some (.cells (bdA s0 s1 tv (.slice a' KL.length n') jvs rv mv) 88 (0,0))from j8B);have F68:Hid (Fr w6 w8 (fun k=>k=B\/lv.ownBlock=some k)):=lh ((f7.mono fun k q=>.inr q).step (f8.mono (T:=fun k=>k=B\/lv.ownBlock=some k) fun k q=>.inl q) (fun k q=>.inl q));have NV:=lh (And.intro hne8 ob7);have J88:Hid (w8.heap[Y8]?=some (.cells (leA ⟨c.asker.1,s0,t+20⟩) 78 (0,0))):=lh ((F68.out.block Y8 (blk_lt J8.out) (fun q=>by have h1:=H8.out;have h2:=BB.out.size;have h3:=BLT.out;rcases q with q | q;omega;have:=LLT.out Y8 q;omega)).trans J8.out);have J86:Hid (w8.heap[Y6]?=some (.cells zR 53 (0,0))):=lh ((F68.out.block Y6 (blk_lt J66.out) (fun q=>by have h1:=HN.out;have h3:=BLT.out;rcases q with q | q;omega;have:=LLT.out Y6 q;omega)).trans J66.out);have CB3:Hid (w8.cell? ⟨B,3,none⟩=some (.slice a' KL.length n')):=lh (cell_blk JB8.out 3);have KZ:Hid (KL.length<=1000000):=lh (by have:=LZ.out;rw [<-hKL];exact Nat.le_trans (List.length_filter_le _ _) this);have HKL:=lh hKL;clear o7 ob7 f7 j8B f8 hne8 hv' hKL;refine wp_region_gs (fun fl r X9=>Ch3 (fun X=>Below w8.heap.size w8 X) (fun (v:Value) (X:World)=>∃ Y,v=.slice (some ⟨Y,0,none⟩) 1 1/\w8.heap.size<=Y/\X.heap[Y]?=some (.cells (leA ⟨c.asker.1,s0,t+20⟩) 78 (0,0))/\Below w8.heap.size w8 X) (fun (_ u:Value) (X:World)=>(∃ a m,u=.slice a (KL.length+1) m)/\X.ownsRow 0 78 3 u (KL.length+1) ((KL ++ [(⟨c.asker.1,s0,t+20⟩:Le)]).flatMap leL)/\X.heap[B]?=some (.cells (bdA s0 s1 tv (.slice a' KL.length n') jvs rv mv) 88 (0,0))/\(∀ k,u.ownBlock=some k->(Value.slice a' KL.length n').ownBlock=some k\/w8.heap.size<=k)/\Fr w8 X (fun k=>(Value.slice a' KL.length n').ownBlock=some k)) (fun (_ u:Value) (X:World)=>(∃ a m,u=.slice a (KL.length+1) m)/\X.ownsRow 0 78 3 u (KL.length+1) ((KL ++ [(⟨c.asker.1,s0,t+20⟩:Le)]).flatMap leL)/\X.heap[B]?=some (.cells (bdA s0 s1 tv u jvs rv mv) 88 (0,0))/\(∀ k,u.ownBlock=some k->(Value.slice a' KL.length n').ownBlock=some k\/w8.heap.size<=k)/\Fr w8 X (fun k=>k=B\/(Value.slice a' KL.length n').ownBlock=some k)) (fl 6) (fl 7) (fl 10) (r 46) (r 47) X9) (fun _ _=>True) [
   fun v9 _=>v9=.pointer (some ⟨B,0,none⟩),fun v9 _=>v9=.pointer (some ⟨B,0,none⟩),fun v9 _=>v9=.pointer (some ⟨B,0,none⟩),fun v9 _=>v9=.pointer (some ⟨B,3,none⟩),fun v9 _=>v9=(.slice a' KL.length n'),fun v9 _=>v9=.agg (leA ⟨c.asker.1,s0,t+20⟩),fun _ _=>True,fun _ _=>True,fun v9 _=>v9=.pointer (some ⟨B,0,none⟩),fun v9 _=>v9=.pointer (some ⟨B,3,none⟩),fun _ _=>True]
   (by kernel_rfl) (by kernel_rfl) (by kernel_rfl) ?st ?g0 ?os ?en
  case st=>
   iterate 11 refine⟨fun _ _ _ _ h=>h,?_⟩
   exact trivial
  case g0=>exact(show Below _ _ _ from⟨rfl,rfl,rfl,Nat.le_refl _,fun _ _=>rfl⟩)
  case os =>
   refine⟨?_,?_,?_,?_,?_,?_,?_,?_,?_,?_,?_,trivial⟩
   all_goals intro ρ X9 fl hg hn hl hp ho hc hf hr
   ·exact rvq (op_move (show ρ (.tmp 0)=.pointer (some ⟨B,0,none⟩)from ho 0 rfl)) ⟨fun r9 h1 h2=>Ch3.same hg rfl rfl rfl (h1 46 (by decide)) (h1 47 (by decide)),trivial,rfl⟩
   ·exact rvq (op_move (show ρ (.tmp 0)=.pointer (some ⟨B,0,none⟩)from ho 0 rfl)) ⟨fun r9 h1 h2=>Ch3.same hg rfl rfl rfl (h1 46 (by decide)) (h1 47 (by decide)),trivial,rfl⟩
   ·exact rvq (op_nil (show ρ (.tmp 41)=.pointer (some ⟨B,0,none⟩)from hr 1 41 rfl rfl)) ⟨fun r9 h1 h2=>Ch3.same hg rfl rfl rfl (h1 46 (by decide)) (h1 47 (by decide)),trivial,rfl⟩
   ·exact rvq (op_f88_1 (show ρ (.tmp 42)=.pointer (some ⟨B,0,none⟩)from hr 2 42 rfl rfl)) ⟨fun r9 h1 h2=>Ch3.same hg rfl rfl rfl (h1 46 (by decide)) (h1 47 (by decide)),trivial,rfl⟩
   ·have f79:fl 7=false:=(show fl 7=false from by cases q9:fl 7 with | false=>rfl | true=>exact absurd (hl 7 _ 4 rfl (by kernel_rfl) q9) (by rw [hn];decide))
    have fs9:fl 10=false:=(show fl 10=false from by cases q9:fl 10 with | false=>rfl | true=>exact absurd (hl 7 _ 4 rfl (by kernel_rfl) (hl 10 _ 7 rfl (by kernel_rfl) q9)) (by rw [hn];decide))
    have b9:Below w8.heap.size w8 X9:=by
     have hg:Ch3 _ _ _ _ (fl 6) (fl 7) (fl 10) (ρ (.tmp 46)) (ρ (.tmp 47)) X9:=hg;cases e1:fl 6 <;> rw [e1,f79,fs9]at hg
     ·exact(show Below _ _ _ from hg)
     ·obtain⟨_,_,_,_,g9⟩:=(show(fun (v:Value) (X:World)=>∃ Y,v=.slice (some ⟨Y,0,none⟩) 1 1/\w8.heap.size<=Y/\X.heap[Y]?=some (.cells (leA ⟨c.asker.1,s0,t+20⟩) 78 (0,0))/\Below w8.heap.size w8 X) _ _ from hg);exact g9
    exact rvq (op_load31 (show ρ (.tmp 43)=.pointer (some ⟨B,3,none⟩)from hr 3 43 rfl rfl) (cell_on b9 CB3.out)) ⟨fun r9 h1 h2=>Ch3.same hg rfl rfl rfl (h1 46 (by decide)) (h1 47 (by decide)),trivial,rfl⟩
   ·have f69:fl 6=false:=(show fl 6=false from by cases q9:fl 6 with | false=>rfl | true=>exact absurd (hl 6 _ 5 rfl (by kernel_rfl) q9) (by rw [hn];decide))
    have f79:fl 7=false:=(show fl 7=false from by cases q9:fl 7 with | false=>rfl | true=>exact absurd (hl 6 _ 5 rfl (by kernel_rfl) (hl 7 _ 6 rfl (by kernel_rfl) q9)) (by rw [hn];decide))
    have fs9:fl 10=false:=(show fl 10=false from by cases q9:fl 10 with | false=>rfl | true=>exact absurd (hl 6 _ 5 rfl (by kernel_rfl) (hl 7 _ 6 rfl (by kernel_rfl) (hl 10 _ 7 rfl (by kernel_rfl) q9))) (by rw [hn];decide))
    have b9:Below w8.heap.size w8 X9:=by
     have hg:Ch3 _ _ _ _ (fl 6) (fl 7) (fl 10) (ρ (.tmp 46)) (ρ (.tmp 47)) X9:=hg;rw [f69,f79,fs9]at hg;exact(show Below _ _ _ from hg)
    exact rvq (op_loadAt (show ρ (.tmp 8)=.pointer (some ⟨Y8,0,none⟩)from ho 8 rfl) (load_row ((b9.block Y8 (blk_lt J88.out)).trans J88.out) Tryz.underlying78 rfl size78)) ⟨fun r9 h1 h2=>Ch3.same hg rfl rfl rfl (h1 46 (by decide)) (h1 47 (by decide)),trivial,rfl⟩
   ·have hg:Ch3 _ _ _ _ (fl 6) (fl 7) (fl 10) ((fun t=>ρ (.tmp t)) 46) ((fun t=>ρ (.tmp t)) 47) X9:=hg;have f09:fl 6=false:=hn;have f19:fl 7=false:=(show fl 7=false from by cases q9:fl 7 with | false=>rfl | true=>exact absurd (hl 7 _ 6 rfl (by kernel_rfl) q9) (by rw [hn];decide))
    have f29:fl 10=false:=(show fl 10=false from by cases q9:fl 10 with | false=>rfl | true=>exact absurd (hl 7 _ 6 rfl (by kernel_rfl) (hl 10 _ 7 rfl (by kernel_rfl) q9)) (by rw [hn];decide))
    rw [f09,f19,f29]at hg;have hA:(fun X=>Below w8.heap.size w8 X)  X9:=hg;have hA:Below w8.heap.size w8 X9:=hA;refine(rvq (op_s31 (c:=⟨c.asker.1,s0,t+20⟩) (show ρ (.tmp 45)=.agg (leA ⟨c.asker.1,s0,t+20⟩)from hr 5 45 rfl rfl)) ⟨fun r9 h1 h2=>?_,trivial,trivial⟩);show Ch3 _ _ _ _ true (fl 7) (fl 10) (r9 46) (r9 47) _
    rw [f19,f29,h2 46 rfl];exact⟨X9.heap.size,rfl,hA.size,heap_alloc_new X9 _,bgo hA (bnew _ _)⟩
   ·have hg:Ch3 _ _ _ _ (fl 6) (fl 7) (fl 10) ((fun t=>ρ (.tmp t)) 46) ((fun t=>ρ (.tmp t)) 47) X9:=hg;have f09:fl 6=true:=hp 6 (by kernel_rfl);have f19:fl 7=false:=hn;have f29:fl 10=false:=(show fl 10=false from by cases q9:fl 10 with | false=>rfl | true=>exact absurd (hl 10 _ 7 rfl (by kernel_rfl) q9) (by rw [hn];decide))
    rw [f09,f19,f29]at hg;have hA:(fun (v:Value) (X:World)=>∃ Y,v=.slice (some ⟨Y,0,none⟩) 1 1/\w8.heap.size<=Y/\X.heap[Y]?=some (.cells (leA ⟨c.asker.1,s0,t+20⟩) 78 (0,0))/\Below w8.heap.size w8 X) (ρ (.tmp 46)) X9:=hg;obtain⟨Y,e46,hY,jY,b9⟩:=hA;have ho9:=own_below O8.out b9;obtain⟨ad',cap',X',hrun,hown,hgr,hob⟩:=run_le (w:=X9) (m:=1) (c:=1) (news:=leL ⟨c.asker.1,s0,t+20⟩) (ad:=some ⟨Y,0,none⟩) ho9 (Nat.zero_le _) (.inr ⟨_,rfl,rfl,fun j u hu=>by rw [add_at,cell_blk jY,Nat.zero_add,<-hu,<-Array.getElem?_toList]⟩) (fun u hu=>oneLe [⟨c.asker.1,s0,t+20⟩] u (by simpa using hu)) (by have:=KZ.out;omega);refine(rvq (op_append31 (show ρ (.tmp 44)=.slice a' KL.length n' from hr 4 44 rfl rfl) e46 hrun) ⟨fun r9 h1 h2=>?_,trivial,trivial⟩);show Ch3 _ _ _ _ (fl 6) true (fl 10) (r9 46) (r9 47) X'
    rw [f29,h2 47 rfl];have fX:Fr X9 X' (fun k=>(Value.slice a' KL.length n').ownBlock=some k):=Fr.grown (Fr.refl _ _) hgr (fun k hk=>.inl hk);refine⟨⟨_,_,rfl⟩,?_,(fX.block B (by have:=blk_lt JB8.out;have:=b9.size;omega) NV.out.1).trans ((b9.block B (blk_lt JB8.out)).trans JB8.out),fun k hk=>?_,(Fr.ofBelow _ b9).trans fX⟩
    ·rw [List.flatMap_append];simpa using hown
    ·rcases hob with e | e
     ·exact .inl (e.symm.trans hk)
     ·rw [e]at hk;cases hk;exact .inr b9.size
   ·exact rvq (op_nil (show ρ (.tmp 40)=.pointer (some ⟨B,0,none⟩)from hr 0 40 rfl rfl)) ⟨fun r9 h1 h2=>Ch3.same hg rfl rfl rfl (h1 46 (by decide)) (h1 47 (by decide)),trivial,rfl⟩
   ·exact rvq (op_f88_1 (show ρ (.tmp 48)=.pointer (some ⟨B,0,none⟩)from hr 8 48 rfl rfl)) ⟨fun r9 h1 h2=>Ch3.same hg rfl rfl rfl (h1 46 (by decide)) (h1 47 (by decide)),trivial,rfl⟩
   ·have hg:Ch3 _ _ _ _ (fl 6) (fl 7) (fl 10) ((fun t=>ρ (.tmp t)) 46) ((fun t=>ρ (.tmp t)) 47) X9:=hg;have f09:fl 6=true:=hp 6 (by kernel_rfl);have f19:fl 7=true:=hp 7 (by kernel_rfl);have f29:fl 10=false:=hn;rw [f09,f19,f29]at hg;have hA:(fun (_ u:Value) (X:World)=>(∃ a m,u=.slice a (KL.length+1) m)/\X.ownsRow 0 78 3 u (KL.length+1) ((KL ++ [(⟨c.asker.1,s0,t+20⟩:Le)]).flatMap leL)/\X.heap[B]?=some (.cells (bdA s0 s1 tv (.slice a' KL.length n') jvs rv mv) 88 (0,0))/\(∀ k,u.ownBlock=some k->(Value.slice a' KL.length n').ownBlock=some k\/w8.heap.size<=k)/\Fr w8 X (fun k=>(Value.slice a' KL.length n').ownBlock=some k)) (ρ (.tmp 46)) (ρ (.tmp 47)) X9:=hg;obtain⟨⟨a9,m9,e47⟩,hown,hjB,hob,hfr⟩:=hA;have hx47:ρ (.tmp 47)=.slice a9 (KL.length+1) m9:=e47;rw [e47]at hown hob;have z9:X9.frozen? ⟨B,3,none⟩=false:=frozen_blk hjB _;have c9:X9.cell? ⟨B,3,none⟩=some (.slice a' KL.length n'):=cell_blk hjB 3;have hst:(Instr.storeAt 31 (.pointer (some ⟨B,3,none⟩)) (.slice a9 (KL.length+1) m9)).run Tryz.prog X9=.ok () (X9.setCell ⟨B,3,none⟩ (.slice a9 (KL.length+1) m9)):=by
     clear hg hr ho hown hjB hob hfr
     go_simp
    have nB:(Value.slice a9 (KL.length+1) m9).ownBlock≠some B:=fun e=>by
     rcases hob B e with e' | e'
     ·exact NV.out.1 e'
     ·have:=blk_lt JB8.out;omega
    refine .inl ⟨rfl,Runs.skips (op_storeAt (show ρ (.tmp 49)=.pointer (some ⟨B,3,none⟩)from hr 9 49 rfl rfl) hx47 hst) ⟨fun r9 h1 h2=>?_,trivial,trivial⟩⟩;show Ch3 _ _ _ _ (fl 6) (fl 7) true (r9 46) (r9 47) _
    rw [h1 47 (by decide),e47];exact⟨⟨_,_,rfl⟩,own_blk hown (fun g hg hl=>((Fr.refl X9 (fun k=>k=B)).set (a:=⟨B,3,none⟩) (.inl rfl) _).block g hl (fun q9=>nB (by rw [hg,show g=B from q9]))),set_blk hjB _,hob,(hfr.mono fun k q9=>.inr q9).set (a:=⟨B,3,none⟩) (.inl (.inl rfl)) _⟩
  case en =>
   intro a9 w9 fl hfl hG9 hs9 hd9 ho9 hr9;obtain⟨x9,hx,hxt⟩:=act_put hs9 hd9 ho9;have hG9:Ch3 _ _ _ _ (fl 6) (fl 7) (fl 10) ((fun t=>a9.tmps.getD t undef) 46) ((fun t=>a9.tmps.getD t undef) 47) w9:=hG9;rw [hfl 6 (by decide),hfl 7 (by decide),hfl 10 (by decide)]at hG9;have hG9:(fun (_ u:Value) (X:World)=>(∃ a m,u=.slice a (KL.length+1) m)/\X.ownsRow 0 78 3 u (KL.length+1) ((KL ++ [(⟨c.asker.1,s0,t+20⟩:Le)]).flatMap leL)/\X.heap[B]?=some (.cells (bdA s0 s1 tv u jvs rv mv) 88 (0,0))/\(∀ k,u.ownBlock=some k->(Value.slice a' KL.length n').ownBlock=some k\/w8.heap.size<=k)/\Fr w8 X (fun k=>k=B\/(Value.slice a' KL.length n').ownBlock=some k)) (a9.tmps.getD 46 undef) (a9.tmps.getD 47 undef) w9:=hG9;rw [show a9.tmps.getD 46 undef=x9 46 from hxt 46]at hG9;rw [show a9.tmps.getD 47 undef=x9 47 from hxt 47]at hG9;change a9=putAll _ x9 [40,41,42,43,44,45,46,47,48,49]at hx;simp only [putAll,Act.put,List.setIfInBounds_toArray,List.set_cons_zero,List.set_cons_succ]at hx;subst hx;clear hs9 hd9 ho9 hr9 hfl hxt;generalize x9 40=z40,x9 41=z41,x9 42=z42,x9 43=z43,x9 44=z44,x9 45=z45,x9 46=z46,x9 47=z47,x9 48=z48,x9 49=z49 at hG9 ⊢;obtain⟨⟨a9,m9,rfl⟩,own9,jB9,ob9,f89⟩:=hG9;have J9Y:w9.heap[Y8]?=some (.cells (leA ⟨c.asker.1,s0,t+20⟩) 78 (0,0)):=(f89.block Y8 (blk_lt J88.out) (fun q=>by have h1:=H8.out;have h2:=BB.out.size;have h3:=BLT.out;rcases q with q | q;omega;rw [NV.out.2]at q;have:=LLT.out Y8 q;omega)).trans J88.out;have c81:w9.cell? ⟨Y8,1,none⟩=some (.int .i64 s0):=cell_blk J9Y 1;have c82:w9.cell? ⟨Y8,2,none⟩=some (.int .i64 (t+20)):=cell_blk J9Y 2;have j6:w9.heap[Y6]?=some (.cells zR 53 (0,0)):=(f89.block Y6 (blk_lt J86.out) (fun q=>by have h1:=HN.out;have h3:=BLT.out;rcases q with q | q;omega;rw [NV.out.2]at q;have:=LLT.out Y6 q;omega)).trans J86.out;obtain⟨X',hst,j',f'⟩:=st_row j6 (us:=rsA ⟨0,s0,t+20,0,true⟩) rfl size53 (by simp [Value.oneCell']);have HS:=lh hst;have n6:Y6≠B:=by have h1:=HN.out;have h3:=BLT.out;omega
   have F69:Fr w6 w9 (fun k=>k=B\/lv.ownBlock=some k):=F68.out.trans (f89.mono fun k q=>by rcases q with q | q;exact .inl q;rw [NV.out.2]at q;exact .inr q);have F9:Fr w w9 (fun k=>k=B\/lv.ownBlock=some k):=(Fr.ofBelow _ HB8.out).trans F69;have own9':=own_blk (w':=X') own9 (fun g hg hl=>f'.block g hl (fun q=>by
    have q':g=Y6:=q;subst q';rcases ob9 g hg with e | e
    ·rw [NV.out.2]at e;have:=LLT.out g e;have:=HN.out;omega
    ·have:=blk_lt J86.out;omega))
   have HX:=lh (And.intro j' (And.intro (F9.step f' (fun k q=>.inr (by have h1:=HN.out;have q':k=Y6:=q;omega))) (And.intro own9' ((f'.block B (blk_lt jB9) (fun q=>n6 q.symm)).trans jB9))));have OB9:=lh ob9;have S8:=lh (show w.heap.size<=w8.heap.size from Nat.le_trans HB8.out.size F68.out.size);clear own9 jB9 ob9 f89 J9Y j6 hst j' f' n6 F69 F9 own9';go_wp2_with (refine wpl_store _ _ rfl (by simp [Act.eval]) (by simp [Act.eval]) HS.out ?_)
   refine bodyPost_ret (results_one rfl rfl (load_var HX.out.1 Tryz.underlying53 rfl size53)) rfl ?_;refine⟨rfl,_,KL ++ [⟨c.asker.1,s0,t+20⟩],by rw [<-HKL.out],HX.out.2.2.2,by rw [List.length_append];exact HX.out.2.2.1,fun k hk=>?_,HX.out.2.1⟩;rcases OB9.out k hk with e | e
   ·rw [NV.out.2]at e;exact .inl e
   ·exact .inr (Nat.le_trans S8.out e)
end
end Go.Proofs.YtkhehikaemdnnaaGreat
