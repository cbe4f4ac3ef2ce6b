import Derived.Test.YtkhehikaemdnnaaGreatQKc
namespace Go.Proofs.YtkhehikaemdnnaaGreat
set_option maxRecDepth 100000
set_option maxHeartbeats 2000000
open Go.RowKit
def At(t:Int):Prop:=0<=t/\t<=1125899906842624
def LeOk(L:List Le):Prop:=∀ l ∈ L,0<=l.til/\l.til<=2251799813685248
section
variable {w : World}
theorem inForce_any{l:Le}{t:Int}(ht:At t)(g0:0<=l.til)(g1:l.til<=2251799813685248):Calls Tryz.prog 43 #[.agg (leA l),.int .i64 t] w fun e w'=>e=.returned (.bool (forceB t l))/\Below w.heap.size w w':=by
 obtain⟨h0,h1⟩:=ht;obtain⟨W,hW⟩:∃ W,W=w.alloc (.cells (leA l) 78):=⟨_,rfl⟩
 have hb:=bw1 hW;obtain⟨Q,hQ⟩:∃ Q,w.heap.size=Q:=⟨_,rfl⟩
 have jQ:W.heap[Q]?=some (.cells (leA l) 78 (0,0)):=by rw [hW,<-hQ];exact heap_alloc_new w _
 have c2:W.cell? ⟨Q,2,none⟩=some (.int .i64 l.til):=cell_blk jQ 2;have HW:=lh hW;have HQ:=lh hQ;have HB:=lh hb;clear hW hb hQ jQ;obtain⟨u,hu⟩:∃ u,l.til=u:=⟨_,rfl⟩
 have HU:Hid (forceB t l=decide (t - u<=3)):=lh (by unfold forceB;rw [hu]);rw [hu]at c2 g0 g1;clear hu;have m0:¬ (0:Int) > t:=by omega
 go_enter Tryz.func43,Tryz.ntmps43;go_upto_region 1 with fail
 rw [<-HW.out,HQ.out];go_wp2;go_ret;exact⟨by rw [HU.out];rfl,HB.out⟩
/-- The closure of Clear. -/
theorem clear_clo{l:Le}{t below:Int}{Y5 Y4:Nat}(ht:At t)(g0:0<=l.til)(g1:l.til<=2251799813685248)(h5:w.cell? ⟨Y5,0,none⟩=some (.int .i64 below))(h4:w.cell? ⟨Y4,0,none⟩=some (.int .i64 t)):Calls Tryz.prog 42 #[.agg (leA l),.pointer (some ⟨Y5,0,none⟩),.pointer (some ⟨Y4,0,none⟩)] w fun e w'=>e=.returned (.bool (decide (l.ver<below) && forceB t l))/\Below w.heap.size w w':=by
 obtain⟨W,hW⟩:∃ W,W=w.alloc (.cells (leA l) 78):=⟨_,rfl⟩
 have hb:=bw1 hW;obtain⟨Q,hQ⟩:∃ Q,w.heap.size=Q:=⟨_,rfl⟩
 have jQ:W.heap[Q]?=some (.cells (leA l) 78 (0,0)):=by rw [hW,<-hQ];exact heap_alloc_new w _
 have hc:=inForce_any (w:=W) ht g0 g1;have c0:W.cell? ⟨Q,0,none⟩=some (.int .i64 l.node):=cell_blk jQ 0;have c1:W.cell? ⟨Q,1,none⟩=some (.int .i64 l.ver):=cell_blk jQ 1;have c2:W.cell? ⟨Q,2,none⟩=some (.int .i64 l.til):=cell_blk jQ 2;have c5:=cell_on hb h5;have c4:=cell_on hb h4;have HW:=lh hW;have HQ:=lh hQ;have HB:=lh hb;obtain⟨fb,hfb⟩:∃ fb,forceB t l=fb:=⟨_,rfl⟩
 rw [hfb]at hc ⊢;clear hW hb hQ jQ h4 h5 hfb;by_cases hv:l.ver<below
 ·rw [decide_eq_true hv];go_enter Tryz.func42,Tryz.ntmps42;go_upto_region 1 with fail
  rw [<-HW.out,HQ.out];go_wp2_with (go_at_call 43;refine hc.mono ?_;rintro e w1 ⟨rfl,b1⟩;have HB1:=lh (bgo HB.out b1);clear b1 hc)
  go_ret;exact⟨rfl,HB1.out⟩
 ·rw [decide_eq_false hv];clear hc;go_enter Tryz.func42,Tryz.ntmps42;go_upto_region 1 with fail
  rw [<-HW.out,HQ.out];go_wp2;go_ret;exact⟨rfl,HB.out⟩
def AsksL(w:World)(L:List Le)(f:FuncId)(cs:Array Value)(p:Le->Bool):Prop:=∀ X,Below w.heap.size w X->∀ l ∈ L,Calls Tryz.prog f (#[.agg (leA l)] ++ cs) X fun e w'=>e=.returned (.bool (p l))/\Below X.heap.size X w'
theorem idxL_any{L:List Le}{v:Value}{f:FuncId}{cs:Array Value}{p:Le->Bool}(hL:Lr leE 3 w L v)(hcf:∀ (X:World) (a:Array Value),Sem.run Tryz.prog (callFunc f a) X=.ok (.enter f a) X)(hf:AsksL w L f cs p):
  Calls Tryz.prog 70 #[v,.func (.func f) #[] cs] w fun e w'=>e=.returned (.int .i64 (fidx p L))/\Below w.heap.size w w':=by
 obtain⟨ad,cap,rfl,_,z1,z2,hX⟩:=hL;have hmx:(L.length:Int)<=9223372036854775807:=by unfold maxLen at z2;omega
 have HX:=lh hX;have HF:=lh hf;clear hX z1 z2 hf;go_enter Tryz.func70,Tryz.ntmps70;go_wp2;go_loopw [8] (fun iv wr=>∃ i:Nat,i<=L.length/\iv=.int .i64 (i:Int)/\(∀ j (hj:j<L.length),j<i->p L[j]=false)/\Below w.heap.size w wr) (fun iv _=>L.length - (intOf iv).toNat)
 case atStart=>exact⟨0,Nat.zero_le _,rfl,fun j _ hj=>by omega,Below.refl _ _⟩
 case round =>
  obtain⟨i,hi,rfl,hno,hb⟩:=hrel;obtain⟨V,rfl⟩:∃ V,V=wr:=⟨_,rfl⟩
  have HN:=lh hno;have HB:=lh hb;by_cases hlt:i<L.length
  ·obtain⟨b,o,cs',rfl,hbl,hE,_,hcell⟩:=HX.out i hlt;cases hE;have hc:=HF.out V hb L[i] (List.getElem_mem hlt);have hld:(Instr.loadAt 78 (.pointer (some ⟨b,o+i*3,none⟩))).run Tryz.prog V=.ok (.agg (leA L[i])) V:=run_loadAt_mid V b (o+i*3) 78 (leL L[i]) _ (fun j u hu=>cell_on hb (hcell j u hu)) Tryz.underlying78 rfl size78;have k0:(0:Int)<=i:=by omega
   have k1:(i:Int)<L.length:=by omega
   have HAT:=lh (fun hp=>fidx_at hlt hp hno);have HLD:=lh hld;clear hb hno hcell hld;cases hp:p L[i]with
   | true =>
    rw [hp]at hc;have HP:=lh hp;clear hp;go_wp2_with (refine wpl_load _ rfl (by simp [Act.eval]) HLD.out ?_)
    refine hc.mono ?_;rintro e w1 ⟨rfl,b1⟩;have HB1:=lh b1;clear b1 hc;go_wp2;go_ret;exact⟨by rw [HAT.out HP.out];rfl,bgo HB.out HB1.out⟩
   | false =>
    rw [hp]at hc;have HP:=lh hp;clear hp;go_wp2_with (refine wpl_load _ rfl (by simp [Act.eval]) HLD.out ?_)
    refine hc.mono ?_;rintro e w1 ⟨rfl,b1⟩;have HB1:=lh b1;clear b1 hc;go_wp2;go_roundw
    case rel =>
     refine⟨i+1,hlt,by go_num,fun j hj hji=>?_,bgo HB.out HB1.out⟩;rcases Nat.lt_or_ge j i with q | q
     ·exact HN.out j hj q
     ·obtain rfl:j=i:=by omega
      exact HP.out
    case measure=>simp [intOf];omega
  ·have hge:¬ (i:Int)<L.length:=by omega
   have HE:Hid (fidx p L=-1):=fidx_none fun j hj=>HN.out j hj (by omega);clear hno hb;go_wp2;go_ret;exact⟨by rw [HE.out];rfl,HB.out⟩
end
end Go.Proofs.YtkhehikaemdnnaaGreat
namespace Go.Proofs.YtkhehikaemdnnaaGreat
set_option maxRecDepth 100000
set_option maxHeartbeats 2000000
open Go.RowKit
section
variable {w : World}
theorem gclo_no{a b u a' b':Int}{t:Int}{Y4 Y8:Nat}(ht:At t)(g0:0<=u)(g1:u<=2251799813685248)(h4:w.cell? ⟨Y4,0,none⟩=some (.int .i64 t))(k0:w.cell? ⟨Y8,0,none⟩=some (.int .i64 a'))(k1:w.cell? ⟨Y8,1,none⟩=some (.int .i64 b'))(hf:forceB t ⟨a,b,u⟩=false):Calls Tryz.prog 63 #[.agg #[.int .i64 a,.int .i64 b,.int .i64 u],.pointer (some ⟨Y4,0,none⟩),.pointer (some ⟨Y8,0,none⟩)] w fun e w'=>e=.returned (.bool true)/\Below w.heap.size w w':=by
 obtain⟨W,hW⟩:∃ W,W=w.alloc (.cells #[.int .i64 a,.int .i64 b,.int .i64 u] 78):=⟨_,rfl⟩
 have hb:=bw1 hW;obtain⟨Q,hQ⟩:∃ Q,w.heap.size=Q:=⟨_,rfl⟩
 have jQ:W.heap[Q]?=some (.cells #[.int .i64 a,.int .i64 b,.int .i64 u] 78 (0,0)):=by rw [hW,<-hQ];exact heap_alloc_new w _
 have hc:=inForce_any (w:=W) (l:=⟨a,b,u⟩) ht g0 g1;rw [hf]at hc;have c0:W.cell? ⟨Q,0,none⟩=some (.int .i64 a):=cell_blk jQ 0;have c1:W.cell? ⟨Q,1,none⟩=some (.int .i64 b):=cell_blk jQ 1;have c2:W.cell? ⟨Q,2,none⟩=some (.int .i64 u):=cell_blk jQ 2;have c4:=cell_on hb h4;have HC:=lh (And.intro c0 (And.intro c1 (And.intro (cell_on hb k0) (cell_on hb k1))));have HW:=lh hW;have HQ:=lh hQ;have HB:=lh hb;clear hW hb hQ jQ h4 k0 k1 hf g0 g1 ht;go_enter Tryz.func63,Tryz.ntmps63;go_upto_region 1 with fail
 rw [<-HW.out,HQ.out];go_wp2_with (go_at_call 43;refine hc.mono ?_;rintro e w1 ⟨rfl,b1⟩;have HB1:=lh (bgo HB.out b1);clear b1 hc c0 c1 c2)
 go_ret;exact⟨rfl,HB1.out⟩
theorem gclo_n{a b u a' b':Int}{t:Int}{Y4 Y8:Nat}(ht:At t)(g0:0<=u)(g1:u<=2251799813685248)(h4:w.cell? ⟨Y4,0,none⟩=some (.int .i64 t))(k0:w.cell? ⟨Y8,0,none⟩=some (.int .i64 a'))(k1:w.cell? ⟨Y8,1,none⟩=some (.int .i64 b'))(hf:forceB t ⟨a,b,u⟩=true)(q:¬ a=a'):Calls Tryz.prog 63 #[.agg #[.int .i64 a,.int .i64 b,.int .i64 u],.pointer (some ⟨Y4,0,none⟩),.pointer (some ⟨Y8,0,none⟩)] w fun e w'=>e=.returned (.bool false)/\Below w.heap.size w w':=by
 obtain⟨W,hW⟩:∃ W,W=w.alloc (.cells #[.int .i64 a,.int .i64 b,.int .i64 u] 78):=⟨_,rfl⟩
 have hb:=bw1 hW;obtain⟨Q,hQ⟩:∃ Q,w.heap.size=Q:=⟨_,rfl⟩
 have jQ:W.heap[Q]?=some (.cells #[.int .i64 a,.int .i64 b,.int .i64 u] 78 (0,0)):=by rw [hW,<-hQ];exact heap_alloc_new w _
 have hc:=inForce_any (w:=W) (l:=⟨a,b,u⟩) ht g0 g1;rw [hf]at hc;have c0:W.cell? ⟨Q,0,none⟩=some (.int .i64 a):=cell_blk jQ 0;have c1:W.cell? ⟨Q,1,none⟩=some (.int .i64 b):=cell_blk jQ 1;have c2:W.cell? ⟨Q,2,none⟩=some (.int .i64 u):=cell_blk jQ 2;have c4:=cell_on hb h4;have HC:=lh (And.intro c0 (And.intro c1 (And.intro (cell_on hb k0) (cell_on hb k1))));have HW:=lh hW;have HQ:=lh hQ;have HB:=lh hb;clear hW hb hQ jQ h4 k0 k1 hf g0 g1 ht;go_enter Tryz.func63,Tryz.ntmps63;go_upto_region 1 with fail
 rw [<-HW.out,HQ.out];go_wp2_with (go_at_call 43;refine hc.mono ?_;rintro e w1 ⟨rfl,b1⟩;have HB1:=lh (bgo HB.out b1);have p0:=cell_on b1 HC.out.1;have p2:=cell_on b1 HC.out.2.2.1;clear b1 hc c0 c1 c2)
 go_ret;exact⟨rfl,HB1.out⟩
theorem gclo_v{a b u a' b':Int}{t:Int}{Y4 Y8:Nat}(ht:At t)(g0:0<=u)(g1:u<=2251799813685248)(h4:w.cell? ⟨Y4,0,none⟩=some (.int .i64 t))(k0:w.cell? ⟨Y8,0,none⟩=some (.int .i64 a'))(k1:w.cell? ⟨Y8,1,none⟩=some (.int .i64 b'))(hf:forceB t ⟨a,b,u⟩=true)(q:a=a')(r:¬ b=b'):Calls Tryz.prog 63 #[.agg #[.int .i64 a,.int .i64 b,.int .i64 u],.pointer (some ⟨Y4,0,none⟩),.pointer (some ⟨Y8,0,none⟩)] w fun e w'=>e=.returned (.bool false)/\Below w.heap.size w w':=by
 obtain⟨W,hW⟩:∃ W,W=w.alloc (.cells #[.int .i64 a,.int .i64 b,.int .i64 u] 78):=⟨_,rfl⟩
 have hb:=bw1 hW;obtain⟨Q,hQ⟩:∃ Q,w.heap.size=Q:=⟨_,rfl⟩
 have jQ:W.heap[Q]?=some (.cells #[.int .i64 a,.int .i64 b,.int .i64 u] 78 (0,0)):=by rw [hW,<-hQ];exact heap_alloc_new w _
 have hc:=inForce_any (w:=W) (l:=⟨a,b,u⟩) ht g0 g1;rw [hf]at hc;have c0:W.cell? ⟨Q,0,none⟩=some (.int .i64 a):=cell_blk jQ 0;have c1:W.cell? ⟨Q,1,none⟩=some (.int .i64 b):=cell_blk jQ 1;have c2:W.cell? ⟨Q,2,none⟩=some (.int .i64 u):=cell_blk jQ 2;have c4:=cell_on hb h4;have HC:=lh (And.intro c0 (And.intro c1 (And.intro (cell_on hb k0) (cell_on hb k1))));have HW:=lh hW;have HQ:=lh hQ;have HB:=lh hb;clear hW hb hQ jQ h4 k0 k1 hf g0 g1 ht;subst q;go_enter Tryz.func63,Tryz.ntmps63;go_upto_region 1 with fail
 rw [<-HW.out,HQ.out];go_wp2_with (go_at_call 43;refine hc.mono ?_;rintro e w1 ⟨rfl,b1⟩;have HB1:=lh (bgo HB.out b1);have p0:=cell_on b1 HC.out.1;have p1:=cell_on b1 HC.out.2.1;have p2:=cell_on b1 HC.out.2.2.1;have p3:=cell_on b1 HC.out.2.2.2;clear b1 hc c0 c1 c2)
 go_ret;exact⟨congrArg (fun z=>Ending.returned (.bool z)) (show(b == b')=false by simpa using r),HB1.out⟩
theorem gclo_y{a b u a' b':Int}{t:Int}{Y4 Y8:Nat}(ht:At t)(g0:0<=u)(g1:u<=2251799813685248)(h4:w.cell? ⟨Y4,0,none⟩=some (.int .i64 t))(k0:w.cell? ⟨Y8,0,none⟩=some (.int .i64 a'))(k1:w.cell? ⟨Y8,1,none⟩=some (.int .i64 b'))(hf:forceB t ⟨a,b,u⟩=true)(q:a=a')(r:b=b'):Calls Tryz.prog 63 #[.agg #[.int .i64 a,.int .i64 b,.int .i64 u],.pointer (some ⟨Y4,0,none⟩),.pointer (some ⟨Y8,0,none⟩)] w fun e w'=>e=.returned (.bool true)/\Below w.heap.size w w':=by
 obtain⟨W,hW⟩:∃ W,W=w.alloc (.cells #[.int .i64 a,.int .i64 b,.int .i64 u] 78):=⟨_,rfl⟩
 have hb:=bw1 hW;obtain⟨Q,hQ⟩:∃ Q,w.heap.size=Q:=⟨_,rfl⟩
 have jQ:W.heap[Q]?=some (.cells #[.int .i64 a,.int .i64 b,.int .i64 u] 78 (0,0)):=by rw [hW,<-hQ];exact heap_alloc_new w _
 have hc:=inForce_any (w:=W) (l:=⟨a,b,u⟩) ht g0 g1;rw [hf]at hc;have c0:W.cell? ⟨Q,0,none⟩=some (.int .i64 a):=cell_blk jQ 0;have c1:W.cell? ⟨Q,1,none⟩=some (.int .i64 b):=cell_blk jQ 1;have c2:W.cell? ⟨Q,2,none⟩=some (.int .i64 u):=cell_blk jQ 2;have c4:=cell_on hb h4;have HC:=lh (And.intro c0 (And.intro c1 (And.intro (cell_on hb k0) (cell_on hb k1))));have HW:=lh hW;have HQ:=lh hQ;have HB:=lh hb;clear hW hb hQ jQ h4 k0 k1 hf g0 g1 ht;subst q r;go_enter Tryz.func63,Tryz.ntmps63;go_upto_region 1 with fail
 rw [<-HW.out,HQ.out];go_wp2_with (go_at_call 43;refine hc.mono ?_;rintro e w1 ⟨rfl,b1⟩;have HB1:=lh (bgo HB.out b1);have p0:=cell_on b1 HC.out.1;have p1:=cell_on b1 HC.out.2.1;have p2:=cell_on b1 HC.out.2.2.1;have p3:=cell_on b1 HC.out.2.2.2;clear b1 hc c0 c1 c2)
 go_ret;exact⟨rfl,HB1.out⟩
theorem grant_clo{l n:Le}{t:Int}{Y4 Y8:Nat}(ht:At t)(g0:0<=l.til)(g1:l.til<=2251799813685248)(h4:w.cell? ⟨Y4,0,none⟩=some (.int .i64 t))(h8:w.heap[Y8]?=some (.cells (leA n) 78 (0,0))):Calls Tryz.prog 63 #[.agg (leA l),.pointer (some ⟨Y4,0,none⟩),.pointer (some ⟨Y8,0,none⟩)] w fun e w'=>e=.returned (.bool (!forceB t l || (decide (l.node=n.node) && decide (l.ver=n.ver))))/\Below w.heap.size w w':=by
 have k0:w.cell? ⟨Y8,0,none⟩=some (.int .i64 n.node):=cell_blk h8 0;have k1:w.cell? ⟨Y8,1,none⟩=some (.int .i64 n.ver):=cell_blk h8 1;cases hf:forceB t l with
 | false=>exact gclo_no ht g0 g1 h4 k0 k1 hf
 | true =>
  by_cases q:l.node=n.node
  ·by_cases r:l.ver=n.ver
   ·rw [decide_eq_true q,decide_eq_true r];exact gclo_y ht g0 g1 h4 k0 k1 hf q r
   ·rw [decide_eq_true q,decide_eq_false r];exact gclo_v ht g0 g1 h4 k0 k1 hf q r
  ·rw [decide_eq_false q];exact gclo_n ht g0 g1 h4 k0 k1 hf q
end
end Go.Proofs.YtkhehikaemdnnaaGreat
namespace Go.Proofs.YtkhehikaemdnnaaGreat
set_option maxRecDepth 100000
set_option maxHeartbeats 1000000
open Go.RowKit
theorem fidx_some{α:Type}{L:List α}{p:α->Bool}:decide (fidx p L ≥ 0)=L.any p:=by
 unfold fidx;cases h:L.findIdx? p with
 | none =>
  have:L.any p=false:=by
   rw [List.any_eq_false];intro x hx;have:=List.findIdx?_eq_none_iff.1 h x hx;simp [this]
  rw [this];rfl
 | some i =>
  obtain⟨hi,hp,_⟩:=List.findIdx?_eq_some_iff_getElem.1 h;have:L.any p=true:=List.any_eq_true.2 ⟨_,List.getElem_mem hi,hp⟩;rw [this];exact decide_eq_true (by show(0:Int)<=(i:Int);omega)
section
variable {w : World}
theorem containsL_any{L:List Le}{v:Value}{f:FuncId}{cs:Array Value}{p:Le->Bool}(hL:Lr leE 3 w L v)(hcf:∀ (X:World) (a:Array Value),Sem.run Tryz.prog (callFunc f a) X=.ok (.enter f a) X)(hf:AsksL w L f cs p):
  Calls Tryz.prog 41 #[v,.func (.func f) #[] cs] w fun e w'=>e=.returned (.bool (L.any p))/\Below w.heap.size w w':=by
 have hc:=idxL_any hL hcf hf;have HF:=lh (fidx_some (L:=L) (p:=p));obtain⟨n,hn⟩:∃ n,fidx p L=n:=⟨_,rfl⟩
 rw [hn]at hc HF;clear hn hL hcf hf;go_enter Tryz.func41,Tryz.ntmps41;go_wp2_with (refine hc.mono ?_;rintro e w1 ⟨rfl,b1⟩;refine Hid.out ?_)
 refine lh ?_;have HB1:=lh b1;clear b1 hc;go_wp2;go_ret;exact⟨by rw [<-HF.out];rfl,HB1.out⟩
theorem goes42(X:World)(a:Array Value):Sem.run Tryz.prog (callFunc 42 a) X=.ok (.enter 42 a) X:=by go_simp
theorem goes63(X:World)(a:Array Value):Sem.run Tryz.prog (callFunc 63 a) X=.ok (.enter 63 a) X:=by go_simp
theorem clear_any{B:Nat}{s0 s1:Int}{tv jv rv mv:Value}{la:Option Addr}{ln lc:Nat}{L:List Le}{t below:Int}(hB:w.heap[B]?=some (.cells #[.int .i64 s0,.int .i64 s1,tv,.slice la ln lc,jv,rv,mv] 88 (0,0)))(hL:Lr leE 3 w L (.slice la ln lc))(ht:At t)(hk:LeOk L):
  Calls Tryz.prog 16 #[.pointer (some ⟨B,0,none⟩),.int .i64 t,.int .i64 below] w fun e w'=>e=.returned (.bool (L.all fun l=>!(decide (l.ver<below) && forceB t l)))/\Below w.heap.size w w':=by
 obtain⟨W,hW⟩:∃ W,W=(w.alloc (.cells #[.int .i64 t] 3)).alloc (.cells #[.int .i64 below] 3):=⟨_,rfl⟩
 have hb:=bw2 hW;obtain⟨Y4,hY4⟩:∃ Q,w.heap.size=Q:=⟨_,rfl⟩
 obtain⟨Y5,hY5⟩:∃ Q,Y4+1=Q:=⟨_,rfl⟩
 have j4:W.heap[Y4]?=some (.cells #[.int .i64 t] 3 (0,0)):=nw21 hW hY4;have j5:W.heap[Y5]?=some (.cells #[.int .i64 below] 3 (0,0)):=nw22 hW hY4 hY5;have c3:W.cell? ⟨B,3,none⟩=some (.slice la ln lc):=cell_on hb (cell_blk hB 3);have hc:=containsL_any (p:=fun l=>decide (l.ver<below) && forceB t l) (cs:=#[.pointer (some ⟨Y5,0,none⟩),.pointer (some ⟨Y4,0,none⟩)]) (hL.on leE_held hb) goes42 (fun X hX l hl=>clear_clo ht (hk l hl).1 (hk l hl).2 (cell_on hX (cell_blk j5 0)) (cell_on hX (cell_blk j4 0)));have hE:(!(L.any fun l=>decide (l.ver<below) && forceB t l))=(L.all fun l=>!(decide (l.ver<below) && forceB t l)):=List.not_any_eq_all_not;rw [<-hE];obtain⟨r,hr⟩:∃ r,(L.any fun l=>decide (l.ver<below) && forceB t l)=r:=⟨_,rfl⟩
 rw [hr]at hc ⊢;have HW:=lh hW;have HY4:=lh hY4;have HY5:=lh hY5;have HB:=lh hb;clear hW hb hY4 hY5 j4 j5 hB hL hk ht hE hr;go_enter Tryz.func16,Tryz.ntmps16;go_upto_region 1 with fail
 rw [<-HW.out,HY4.out,HY5.out];go_wp2_with (refine hc.mono ?_;rintro e w1 ⟨rfl,b1⟩;have HB1:=lh (bgo HB.out b1);clear b1 hc)
 go_ret;exact⟨rfl,HB1.out⟩
end
end Go.Proofs.YtkhehikaemdnnaaGreat
