import Derived.Test.YtkhehikaemdnnaaGreatQLw
namespace Go.Proofs.YtkhehikaemdnnaaGreat
set_option maxRecDepth 100000
set_option maxHeartbeats 16000000
open Go.RowKit
structure Oq where
 at_:Int
 c:Cm
 r:Rest
 cv:Value
abbrev opA(x:Oq):Array Value:=#[.int .i64 x.at_,.int .i64 x.c.kind,.int .i64 x.c.asker.1,.int .i64 x.c.asker.2.1,.int .i64 x.c.asker.2.2,.int .i64 x.r.t.1,.int .i64 x.r.t.2.1,.int .i64 x.r.t.2.2,.int .i64 x.r.home,x.r.rv,x.r.wv,.int .i64 x.r.mn,.int .i64 x.r.un,.int .i64 x.r.ts,.int .i64 x.c.ver,.int .i64 x.c.call,.int .i64 x.c.ddl.kind,.string x.c.ddl.table,.string x.c.ddl.name,.string x.c.ddl.column,.string x.c.ddl.parent,.bool x.c.ddl.uq,.int .i64 x.c.ddl.ty,.int .i64 x.c.ddl.df.k,.int .i64 x.c.ddl.df.n,.string x.c.ddl.df.s,x.cv,.int .i64 x.c.job,.int .i64 x.c.phase,.string x.c.mark,.int .i64 x.c.why]
abbrev opL(x:Oq):List Value:=(opA x).toList
structure OqOk (w:World) (x:Oq):Prop where
 at_:I64 x.at_
 kd:I64 x.c.kind
 td:TdOk x.c.asker
 rv:∃ a n m,x.r.rv=.slice a n m
 wv:∃ a n m,x.r.wv=.slice a n m
 co:Lr colE 7 w x.c.ddl.cols x.cv
 sz:x.c.ddl.cols.length<=1125899906842624
theorem OqOk.on{w w':World}{x:Oq}(h:OqOk w x)(hb:Below w.heap.size w w'):OqOk w' x:=⟨h.at_,h.kd,h.td,h.rv,h.wv,h.co.on colE_held hb,h.sz⟩
def opE(w:World)(x:Oq)(cs:List Value):Prop:=cs=opL x/\OqOk w x
theorem opE_held:Held opE:=fun _ _ _ _ hb ⟨h1,h2⟩=>⟨h1,h2.on hb⟩
def gsz(x:Oq):Nat:=1+x.c.ddl.cols.length
def tot(L:List Oq):Nat:=(L.map gsz).sum
theorem tot_next{L:List Oq}{i:Nat}(h:i<L.length):tot (L.take (i+1))=tot (L.take i)+gsz L[i]:=by
 unfold tot;rw [List.take_add_one,List.getElem?_eq_getElem h];simp only [List.map_append,List.sum_append,Option.toList_some,List.map_cons,List.map_nil,List.sum_cons,List.sum_nil,Nat.add_zero]
theorem tot_le(L:List Oq)(i:Nat):tot (L.take i)<=tot L:=by
 unfold tot;have e:(L.map gsz).sum=((L.take i).map gsz).sum+((L.drop i).map gsz).sum:=by rw [<-List.sum_append,<-List.map_append,List.take_append_drop]
 omega
theorem size50:(Tryz.prog.info? 50).map (·.size)=some 31:=by kernel_rfl
abbrev zO:Array Value:=#[.int .i64 0,.int .i64 0,.int .i64 0,.int .i64 0,.int .i64 0,.int .i64 0,.int .i64 0,.int .i64 0,.int .i64 0,.slice none 0 0,.slice none 0 0,.int .i64 0,.int .i64 0,.int .i64 0,.int .i64 0,.int .i64 0,.int .i64 0,.string ⟨#[]⟩,.string ⟨#[]⟩,.string ⟨#[]⟩,.string ⟨#[]⟩,.bool false,.int .i64 0,.int .i64 0,.int .i64 0,.string ⟨#[]⟩,.slice none 0 0,.int .i64 0,.int .i64 0,.string ⟨#[]⟩,.int .i64 0]
theorem op_copy{V:World}{x:Oq}{b o:Nat}(hO:OqOk V x)(hrow:V.rangeAt b o (opL x)):(Instr.loadAt 50 (.pointer (some ⟨b,o,none⟩))).run Tryz.prog V=.ok (.agg (opA x)) V/\∃ V2,(Instr.storeAt 50 (.pointer (some ⟨V.heap.size,0,none⟩)) (.agg (opA x))).run Tryz.prog (V.alloc (.cells zO 50))=.ok () V2/\V2.heap[V.heap.size]?=some (.cells (opA x) 50 (0,0))/\Below V.heap.size V V2:=by
 refine⟨run_loadAt_mid V b o 50 (opL x) _ hrow Tryz.underlying50 rfl size50,?_⟩;obtain⟨_,_,_,e1⟩:=hO.rv;obtain⟨_,_,_,e2⟩:=hO.wv;obtain⟨_,_,e3,_⟩:=hO.co;obtain⟨V2,h1,h2,h3⟩:=st_row (heap_alloc_new V (.cells zO 50)) (us:=opA x) rfl size50 (by simp [Value.oneCell',e1,e2,e3]);exact⟨V2,h1,h2,(bnew V _).trans (h3.toBelow (fun k hk q=>by omega) (bnew V _).size)⟩
section
variable {w : World}
def GreatAns(w:World)(L:List Oq)(n:Nat)(e:Ending)(w':World):Prop:=(∃ b,e=.returned (.bool b)/\(b=false->n<=150/\tot L<=1000))/\Below w.heap.size w w'
theorem great_any{L:List Oq}{v:Value}(hl:Lr opE 31 w L v):Calls Tryz.prog 10 #[v] w (GreatAns w L L.length):=by
 obtain⟨ta,tc,rfl,_,q1,q2,hX⟩:=hl;have hmx:(L.length:Int)<=9223372036854775807:=by unfold maxLen at q2;omega
 have HX:=lh hX;obtain⟨n,hn⟩:∃ n,L.length=n:=⟨_,rfl⟩
 rw [hn]at hmx ⊢;have HN:=lh hn;clear hX q1 q2 hn;go_enter Tryz.func10,Tryz.ntmps10;go_wp2;go_loopw [3,8] (fun nv iv wr=>∃ (i:Nat),i<=n/\iv=.int .i64 (i:Int)/\nv=.int .i64 (tot (L.take i):Int)/\tot (L.take i)<=1000/\Below w.heap.size w wr) (fun _ iv _=>n - (intOf iv).toNat)
 case atStart=>exact⟨0,Nat.zero_le _,rfl,rfl,Nat.zero_le _,Below.refl _ _⟩
 case round =>
  obtain⟨i,hi,rfl,rfl,ht,hb⟩:=hrel;obtain⟨V,rfl⟩:∃ V,V=wr:=⟨_,rfl⟩
  have HB:=lh hb;by_cases hlt:i<n
  ·have k0:(0:Int)<=i:=by omega
   have k1:(i:Int)<n:=by omega
   obtain⟨b,p,cs,rfl,hbl,hE,_,hcell⟩:=HX.out i (by rw [HN.out];exact hlt);obtain⟨x,hx⟩:∃ x,L[i]'(by rw [HN.out];exact hlt)=x:=⟨_,rfl⟩
   rw [hx]at hE;obtain⟨hcs,hO⟩:=hE;subst hcs;have hOV:=hO.on hb;obtain⟨hld,V2,hst,j2,b2⟩:=op_copy (b:=b) (o:=p+i*31) hOV (fun j u hu=>cell_on hb (hcell j u hu));obtain⟨ca,cc,hcv,_⟩:=hO.co;have hc26:V2.cell? ⟨V.heap.size,26,none⟩=some (.slice ca x.c.ddl.cols.length cc):=by
    rw [<-hcv];exact cell_blk j2 26
   have hnx:tot (L.take (i+1))=tot (L.take i)+gsz x:=by
    rw [tot_next (by rw [HN.out];exact hlt),hx]
   obtain⟨m,hm⟩:∃ m,x.c.ddl.cols.length=m:=⟨_,rfl⟩
   obtain⟨tt,htt⟩:∃ tt,tot (L.take i)=tt:=⟨_,rfl⟩
   have hsz:=hO.sz;have hg:gsz x=1+m:=by rw [<-hm];rfl
   rw [hg,htt]at hnx;rw [hm]at hc26 hsz;rw [htt]at ht ⊢;obtain⟨os,hos⟩:∃ os,opA x=os:=⟨_,rfl⟩
   rw [hos]at hld hst;have HLD:=lh hld;have HST:=lh hst;have HBV:=lh (bgo hb b2);have HNX:=lh hnx;have r1:1+(m:Int)<=9223372036854775807:=by omega
   have r2:(tt:Int)+(1+(m:Int))<=9223372036854775807:=by omega
   clear hcell hO hOV hld hst j2 b2 hcv hnx htt hg hos hx hm hbl hb;by_cases hgr:1000<tt+(1+m)
   ·have hgr':(1000:Int)<(tt:Int)+(1+(m:Int)):=by omega
    go_wp2_with (first|(refine wpl_load _ rfl (by first | rfl|(simp [Act.eval];done)) HLD.out ?_)|(refine wpl_store _ _ rfl (by first | rfl|(simp [Act.eval];done)) (by first | rfl|(simp [Act.eval];done)) HST.out ?_))
    go_ret;exact⟨⟨true,rfl,fun q=>by cases q⟩,HBV.out⟩
   ·have hgr':¬ (1000:Int)<(tt:Int)+(1+(m:Int)):=by omega
    go_wp2_with (first|(refine wpl_load _ rfl (by first | rfl|(simp [Act.eval];done)) HLD.out ?_)|(refine wpl_store _ _ rfl (by first | rfl|(simp [Act.eval];done)) (by first | rfl|(simp [Act.eval];done)) HST.out ?_))
    go_roundw
    case rel =>
     refine⟨i+1,hlt,by go_num,?_,by rw [HNX.out];omega,HBV.out⟩;rw [HNX.out];go_num
    case measure=>simp [intOf];omega
  ·have hin:i=n:=by omega
   have k1:¬ (i:Int)<n:=by omega
   have htn:tot L<=1000:=by
    rw [hin,<-HN.out,List.take_length]at ht;exact ht
   have HT:=lh htn;clear hb;by_cases h150:150<n
   ·have h150':(150:Int)<(n:Int):=by omega
    go_wp2;go_ret;exact⟨⟨true,rfl,fun q=>by cases q⟩,HB.out⟩
   ·have h150':¬ (150:Int)<(n:Int):=by omega
    go_wp2;go_ret;exact⟨⟨false,rfl,fun _=>⟨by omega,HT.out⟩⟩,HB.out⟩
/-- The document's Force. -/
theorem force_any{l:Le}{t:Int}(h0:-9223372036854775800<=t)(h1:t<=9223372036854775800):Calls Tryz.prog 24 #[.agg (leA l),.int .i64 t] w fun e w'=>e=.returned (.bool (decide (l.til ≥ t - 3)))/\Below w.heap.size w w':=by
 obtain⟨W,hW⟩:∃ W,W=w.alloc (.cells (leA l) 78):=⟨_,rfl⟩
 have hb:=bw1 hW;obtain⟨Y,hY⟩:∃ Y,w.heap.size=Y:=⟨_,rfl⟩
 have jY:W.heap[Y]?=some (.cells (leA l) 78 (0,0)):=by rw [hW,<-hY];exact heap_alloc_new w _
 have c2:W.cell? ⟨Y,2,none⟩=some (.int .i64 l.til):=cell_blk jY 2;have q0:-9223372036854775808<=t - 3:=by omega
 have q1:t - 3<=9223372036854775807:=by omega
 have HB:=lh hb;have HW:=lh hW;have HY:=lh hY;clear hW hb hY jY h0 h1;obtain⟨ls,hls⟩:∃ ls,leA l=ls:=⟨_,rfl⟩
 rw [hls]at HW ⊢;clear hls;go_enter Tryz.func24,Tryz.ntmps24;go_upto_region 1 with fail
 rw [<-HW.out,HY.out];go_wp2;go_ret;exact⟨rfl,HB.out⟩
end
end Go.Proofs.YtkhehikaemdnnaaGreat
namespace Go.Proofs.YtkhehikaemdnnaaGreat
open Go.RowKit
section
variable {ρ : Operand -> Value} {X : World} {d : Option Tmp} {ty : TypeId} {ps : String} {af : Array Edge} {g : Option (Nat × Bool)}
theorem op_min3{x y:Operand}{a b:Int}(e:ρ x=.int .i64 a)(e2:ρ y=.int .i64 b):(execOp ρ ⟨d,.call { callee:=.builtin .min,args:=#[x,y],argTypes:=#[3,3] },ty,ps,af,g⟩).run Tryz.prog X=.ok (.value (.int .i64 (min a b))) X:=by
 simp only [execOp,resolve,invoke,builtin,Sem.run_bind,Sem.run_pure,Result.andThen_ok,List.map_toArray,List.map_cons,List.map_nil,e,e2];by_cases h:a<b
 ·have h2:min a b=a:=by omega
  rw [h2];simp [Builtin.min_,Builtin.min2];omega
 ·have h2:min a b=b:=by omega
  rw [h2];simp [Builtin.min_,Builtin.min2];omega
theorem op_max3{x y:Operand}{a b:Int}(e:ρ x=.int .i64 a)(e2:ρ y=.int .i64 b):(execOp ρ ⟨d,.call { callee:=.builtin .max,args:=#[x,y],argTypes:=#[3,3] },ty,ps,af,g⟩).run Tryz.prog X=.ok (.value (.int .i64 (max a b))) X:=by
 simp only [execOp,resolve,invoke,builtin,Sem.run_bind,Sem.run_pure,Result.andThen_ok,List.map_toArray,List.map_cons,List.map_nil,e,e2];by_cases h:a<b
 ·have h2:max a b=b:=by omega
  rw [h2];simp [Builtin.max_,Builtin.max2];omega
 ·have h2:max a b=a:=by omega
  rw [h2];simp [Builtin.max_,Builtin.max2];omega
theorem op_field30_0{x:Operand}{m n:Int}{a:Option Addr}{k c:Nat}(e:ρ x=.agg #[.int .i64 m,.int .i64 n,.slice a k c]):(execOp ρ ⟨d,.field 30 x 0,ty,ps,af,g⟩).run Tryz.prog X=.ok (.value (.int .i64 m)) X:=by
 have h:(Instr.field 30 (.agg #[.int .i64 m,.int .i64 n,.slice a k c]) 0).run Tryz.prog X=.ok (.int .i64 m) X:=by kernel_rfl
 simp only [execOp,e,Sem.run_bind,h,Result.andThen_ok,Sem.run_pure]
theorem op_field34_1{x:Operand}{m n:Int}{a b c:Option Addr}{k1 k2 k3 c1 c2 c3:Nat}(e:ρ x=.agg #[.int .i64 m,.int .i64 n,.slice a k1 c1,.slice b k2 c2,.slice c k3 c3]):(execOp ρ ⟨d,.field 34 x 1,ty,ps,af,g⟩).run Tryz.prog X=.ok (.value (.slice b k2 c2)) X:=by
 have h:(Instr.field 34 (.agg #[.int .i64 m,.int .i64 n,.slice a k1 c1,.slice b k2 c2,.slice c k3 c3]) 1).run Tryz.prog X=.ok (.slice b k2 c2) X:=by kernel_rfl
 simp only [execOp,e,Sem.run_bind,h,Result.andThen_ok,Sem.run_pure]
end
def HandAt(w:World)(b:Bd)(e:Ending)(w':World):Prop:=∃ js a m ok dr,e=.returned (.tuple #[.agg js,.agg #[.int .i64 a,.int .i64 m],.bool ok])/\js.size=22/\js.all (·.oneCell')=true/\js[20]?=some (.int .i64 0)/\js[18]?=some (.bool dr)/\(ok=true->b.drains=dr/\∃ i j,b.hand=some i/\b.jobs[i]?=some j/\j.move.1=a)/\(ok=false->b.hand=none)/\Below w.heap.size w w'
theorem hand_at{w:World}{B n:Nat}{W:Nat->Nat}{b:Bd}(hx:Bo w B W b)(hk:Fit n b):Calls Tryz.prog 23 #[.pointer (some ⟨B,0,none⟩)] w (HandAt w b):=by
 rcases hand_tells hx hk with⟨h1,h2⟩ | ⟨i,j,h1,h2,h3,h4⟩
 ·refine h2.mono ?_;rintro e w' ⟨rfl,hb⟩;exact⟨zJ,0,0,false,false,rfl,rfl,by simp [Value.oneCell'],rfl,rfl,fun q=>(by cases q),fun _=>h1,hb⟩
 ·refine h4.mono ?_;rintro e w' ⟨a,c,rfl,hb⟩;refine⟨_,_,_,true,j.drain,rfl,rfl,by simp [Value.oneCell'],by show some (Value.int .i64 j.en)=_;rw [h3],rfl,fun _=>⟨?_,i,j,h1,h2,rfl⟩,fun q=>(by cases q),hb⟩;unfold Bd.drains;rw [h1];simp only;rw [h2];rfl
theorem near_none(t:Int):Bd.none.Near t:=fun l h=>by cases h
theorem still_plain{b:Bd}{t:Int}{c:Cm}{i:Nat}{j:Jb}(hn:b.Near t)(hv:(b.act t c).1.sch.ver≠b.sch.ver)(hh:b.hand=some i)(hj:b.jobs[i]?=some j)(hm:j.move.1=2):(b.act t c).1.leases=b.leases/\∀ l ∈ b.leases,decide (l.til ≥ t - 3)=false:=by
 obtain⟨_,h2,i',j',h3,h4,h5⟩:=act_ver hv;rw [hh]at h3;cases h3;rw [hj]at h4;cases h4;refine⟨h2,fun l hl=>?_⟩;have:=clear_off (h5 hm) l hl (by have:=(hn l hl).1;omega);simp only [decide_eq_false_iff_not];omega
theorem two_boxes(v:World){js:Array Value}{a m:Int}(h1:js.size=22)(h2:js.all (·.oneCell')=true):∃ X1 X2,(Instr.storeAt 66 (.pointer (some ⟨v.heap.size,0,none⟩)) (.agg js)).run Tryz.prog ((v.alloc (.cells zJ 66)).alloc (.cells #[.int .i64 0,.int .i64 0] 74))=.ok () X1/\(Instr.storeAt 74 (.pointer (some ⟨v.heap.size+1,0,none⟩)) (.agg #[.int .i64 a,.int .i64 m])).run Tryz.prog X1=.ok () X2/\X2.heap[v.heap.size]?=some (.cells js 66 (0,0))/\X2.heap[v.heap.size+1]?=some (.cells #[.int .i64 a,.int .i64 m] 74 (0,0))/\Below v.heap.size v X2:=by
 obtain⟨W,Y2,Y3,hW,rfl,rfl,hb,j2,j3⟩:=hand_boxes v;rw [<-hW];obtain⟨X1,hs1,k2,f1⟩:=st_row j2 (us:=js) h1 (by rw [h1];exact size66) h2;obtain⟨X2,hs2,k3,f2⟩:=st_row ((f1.block (v.heap.size+1) (blk_lt j3) (fun q=>by have q':v.heap.size+1=v.heap.size:=q;omega)).trans j3) (us:=#[.int .i64 a,.int .i64 m]) rfl size74 (by simp [Value.oneCell']);exact⟨X1,X2,hs1,hs2,(f2.block v.heap.size (blk_lt k2) (fun q=>by have q':v.heap.size=v.heap.size+1:=q;omega)).trans k2,k3,(hb.trans (f1.toBelow (fun k hk q=>by have q':k=v.heap.size:=q;omega) hb.size)).trans (f2.toBelow (fun k hk q=>by have q':k=v.heap.size+1:=q;omega) (Nat.le_trans hb.size f1.size))⟩
end Go.Proofs.YtkhehikaemdnnaaGreat
