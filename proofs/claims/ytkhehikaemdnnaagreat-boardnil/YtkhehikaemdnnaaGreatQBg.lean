import Derived.Test.YtkhehikaemdnnaaGreatQBf
namespace Go.Proofs.YtkhehikaemdnnaaGreat
set_option maxRecDepth 100000
set_option maxHeartbeats 4000000
open Go.RowKit
theorem wpl_clear{P:Program}{w w':World}{ops:Array Oper}{rest:List Oper}{o:Oper}{a:Act}{Q:Exit->Act->World->Prop}{t ty:TypeId}{v':Value}{ds:Option Tmp}{ps:String}{af:Array Edge}(s:Operand)
  (ho:o=⟨ds,.call { callee:=.builtin .clear,args:=#[s],argTypes:=#[t] },ty,ps,af,none⟩) (hrun:(Builtin.clear_ #[t] ty #[a.eval s]).run P w=.ok v' w')
  (h:wpList P ops Q rest (a.put ds v') w'):wpList P ops Q (o :: rest) a w:=by
 subst ho;refine wpList_plain rfl fun K hK=>?_;unfold Oper.wp execOp;simp only [resolve,invoke,builtin,Sem.run_bind,Sem.run_pure,Result.andThen_ok,List.map_toArray,List.map_cons,List.map_nil,hrun];exact hK _ _ h
section
variable {w : World} {g cap : Nat}
theorem own_take{e:TypeId}{c n i:Nat}{xs:List Value}(h:w.ownsRow 0 e c (.slice (some ⟨g,0,none⟩) n cap) n xs)(hi:i<=n):w.ownsRow 0 e c (.slice (some ⟨g,0,none⟩) i cap) i (xs.take (i*c)):=by
 rcases h.2 with⟨hv,_⟩ | ⟨g',cap',cur,hv,h0,hg,h1,h2,h3,h4⟩
 ·cases hv
 ·cases hv;have hle:i*c<=n*c:=Nat.mul_le_mul_right c hi;refine⟨by rw [List.length_take,h.1];omega,.inr ⟨g,cap,cur,rfl,h0,hg,by omega,h2,h3,?_⟩⟩;rw [<-h4,List.take_take,Nat.min_eq_left hle]
theorem fl_take{α:Type}{f:α->List Value}{c:Nat}(hc:∀ x,(f x).length=c)(L:List α)(i:Nat)(hi:i<=L.length):(L.flatMap f).take (i*c)=(L.take i).flatMap f:=by
 have e:L.flatMap f=(L.take i).flatMap f ++ (L.drop i).flatMap f:=by rw [<-List.flatMap_append,List.take_append_drop]
 rw [e];have hl:((L.take i).flatMap f).length=i*c:=by rw [fl_len hc,List.length_take,Nat.min_eq_left hi]
 rw [<-hl];exact List.take_left
theorem fl_drop{α:Type}{f:α->List Value}{c:Nat}(hc:∀ x,(f x).length=c)(L:List α)(i:Nat)(hi:i<=L.length)(j:Nat):((L.drop i).flatMap f)[j]?=(L.flatMap f)[i*c+j]?:=by
 have e:L.flatMap f=(L.take i).flatMap f ++ (L.drop i).flatMap f:=by rw [<-List.flatMap_append,List.take_append_drop]
 have hl:((L.take i).flatMap f).length=i*c:=by rw [fl_len hc,List.length_take,Nat.min_eq_left hi]
 rw [e,List.getElem?_append_right (by omega),hl,Nat.add_sub_cancel_left]
end
theorem append_none29(w:World)(ad ad2:Option Addr)(n cap cap2:Nat)(hle:n<=cap):(Builtin.append_ #[43,43] 43 #[.slice ad n cap,.slice ad2 0 cap2]).run Tryz.prog w=.ok (.slice ad n cap) w:=by
 obtain⟨i0,hi,hz0,hz1,hz2⟩:=info_parts info50;cases ad2 with
 | none=>cases ad <;> simp [Builtin.append_,run_underlying Tryz.underlying43,sizeOf,typeInfo,hi,Builtin.lenOf,hle,Builtin.firstCells,storeCells]
 | some a =>
  have hfc:=run_firstCells_some (P:=Tryz.prog) w i0.size 0 a 0 cap2 [] (by simp) (fun j u hu=>by simp at hu);cases ad <;> simp [Builtin.append_,run_underlying Tryz.underlying43,sizeOf,typeInfo,hi,Builtin.lenOf,hle,hfc,storeCells]
def zCL:List Value:=(Builtin.zeroCells #[.int .i64 0,.string ⟨#[]⟩,.int .i64 0,.int .i64 0,.int .i64 0,.int .i64 0,.string ⟨#[]⟩] 1).toList
theorem zCL_len:zCL.length=7:=by
 unfold zCL;rw [Array.length_toList,size_zeroCells];rfl
theorem zCL_one:∀ v ∈ zCL,v.oneCell'=true:=by
 intro v hv;unfold zCL Builtin.zeroCells at hv;simp only [Array.toList_map,List.mem_map]at hv;obtain⟨i,_,rfl⟩:=hv;have h4:i % 7<7:=Nat.mod_lt _ (by decide);have:i % 7=0\/i % 7=1\/i % 7=2\/i % 7=3\/i % 7=4\/i % 7=5\/i % 7=6:=by omega
 show((#[.int .i64 0,.string ⟨#[]⟩,.int .i64 0,.int .i64 0,.int .i64 0,.int .i64 0,.string ⟨#[]⟩]:Array Value)[i % 7]!).oneCell'=true
 rcases this with e | e | e | e | e | e | e <;> rw [e] <;> rfl
theorem clear_run29{w:World}{g o cap:Nat}{cur:Array Value}(ty:TypeId)(hb:w.heap[g]?=some (.cells cur 56 (0,0)))(hin:o+7<=cur.size):
  (Builtin.clear_ #[43] ty #[.slice (some ⟨g,o,none⟩) 1 cap]).run Tryz.prog w=.ok (.tuple #[]) (w.setCells g o zCL):=by
 obtain⟨i0,hi,hz0,hz1,hz2⟩:=info_parts info50;have hst:=run_storeCells_cells (P:=Tryz.prog) g o zCL 0 w (fun j hj=>by
  have hj':j<7:=by rw [<-zCL_len];exact hj
  rw [cell_blk hb,Array.getElem?_eq_getElem (by omega)];rfl) (fun j _=>frozen_blk hb _) zCL_one
 simp only [Nat.add_zero]at hst;have hzc:(Builtin.zeroCells (Value.agg #[.int .i64 0,.string ⟨#[]⟩,.int .i64 0,.int .i64 0,.int .i64 0,.int .i64 0,.string ⟨#[]⟩]).cells 1).toList=zCL:=rfl;simp [Builtin.clear_,run_underlying Tryz.underlying43,zeroValue,typeInfo,hi,hz0,hzc,hst]
section
variable {ρ : Operand -> Value} {X : World} {d : Option Tmp} {ty : TypeId} {ps : String} {af : Array Edge} {g : Option (Nat × Bool)}
theorem op_slice43lo{x y:Operand}{v1 v2 v':Value}(hx:ρ x=v1)(hy:ρ y=v2)(hrun:∀ X:World,(Instr.sliceAt 43 v1 (some v2) none none).run Tryz.prog X=.ok v' X):(execOp ρ ⟨d,.slice 43 x (some y) none none,ty,ps,af,g⟩).run Tryz.prog X=.ok (.value v') X:=by
 simp only [execOp,Option.map_some,Option.map_none,hx,hy,Sem.run_bind,hrun,Result.andThen_ok,Sem.run_pure]
theorem op_slice43hi{x y:Operand}{v1 v2 v':Value}(hx:ρ x=v1)(hy:ρ y=v2)(hrun:∀ X:World,(Instr.sliceAt 43 v1 none (some v2) none).run Tryz.prog X=.ok v' X):(execOp ρ ⟨d,.slice 43 x none (some y) none,ty,ps,af,g⟩).run Tryz.prog X=.ok (.value v') X:=by
 simp only [execOp,Option.map_some,Option.map_none,hx,hy,Sem.run_bind,hrun,Result.andThen_ok,Sem.run_pure]
end
section
variable {w w' : World} {G : List Col} {g n cap i : Nat}
theorem del_runC(h:w.ownsRow 0 56 7 (.slice (some ⟨g,0,none⟩) G.length cap) G.length (G.flatMap colL))(hi:i<G.length)(h1:∀ u ∈ G.flatMap colL,u.oneCell'=true):
  ∃ w',(∀ c2,(Builtin.append_ #[43,43] 43 #[.slice (some ⟨g,0,none⟩) i cap,.slice (some ⟨g,(i+1)*7,none⟩) (G.length - (i+1)) c2]).run Tryz.prog w=.ok (.slice (some ⟨g,0,none⟩) (G.length - 1) cap) w') /\
   w'.ownsRow 0 56 7 (.slice (some ⟨g,0,none⟩) (G.length - 1) cap) (G.length - 1) ((G.eraseIdx i).flatMap colL)/\Fr w w' (fun k=>k=g)/\(i+1=G.length->w'=w):=by
 have hp:=own_take h (Nat.le_of_lt hi);rw [fl_take colL_len G i (Nat.le_of_lt hi)]at hp;have hlc:G.length<=cap:=by
  rcases h.2 with⟨hv,_⟩ | ⟨g',cap',cur,hv,_,_,q,_⟩
  ·cases hv
  ·cases hv;exact q
 obtain⟨i0,hif,hz0,hz1,hz2⟩:=info_parts info50;have he:(G.eraseIdx i).flatMap colL=(G.take i).flatMap colL ++ (G.drop (i+1)).flatMap colL:=by rw [List.eraseIdx_eq_take_drop_succ,List.flatMap_append]
 by_cases hz:i+1=G.length
 ·have hn:G.length - (i+1)=0:=by omega
  have hn1:G.length - 1=i:=by omega
  refine⟨w,fun c2=>?_,?_,Fr.refl _ _,fun _=>rfl⟩
  ·rw [hn,hn1];exact append_none29 w _ _ i cap c2 (by omega)
  ·rw [he,hn1,List.drop_of_length_le (by omega)];simpa using hp
 ·have hx:∀ c2,∃ w',(Builtin.append_ #[43,43] 43 #[.slice (some ⟨g,0,none⟩) i cap,.slice (some ⟨g,(i+1)*7,none⟩) (G.length - (i+1)) c2]).run Tryz.prog w=.ok (.slice (some ⟨g,0,none⟩) (i+(G.length - (i+1))) cap) w'/\w'.ownsRow 0 56 7 (.slice (some ⟨g,0,none⟩) (i+(G.length - (i+1))) cap) (i+(G.length - (i+1))) ((G.take i).flatMap colL ++ (G.drop (i+1)).flatMap colL)/\w.grownBy w' (some g):=fun c2 =>
   run_append_fits (P:=Tryz.prog) w 0 43 43 56 i0 7 Tryz.underlying43 hif hz1 g i cap _ hp ⟨g,(i+1)*7,none⟩ (G.length - (i+1)) c2 ((G.drop (i+1)).flatMap colL) (by rw [fl_len colL_len,List.length_drop]) (fun j u hu=>by
    have hj:j<(G.length - (i+1))*7:=by
     have:=(List.getElem?_eq_some_iff.1 hu).1
     rwa [fl_len colL_len,List.length_drop]at this
    rw [fl_drop colL_len G (i+1) hi]at hu;rw [add_at,h.cellAt _ (by omega)];exact hu) (fun u hu=>h1 u (by
    have e:G.flatMap colL=(G.take (i+1)).flatMap colL ++ (G.drop (i+1)).flatMap colL:=by rw [<-List.flatMap_append,List.take_append_drop]
    rw [e];exact List.mem_append_right _ hu)) (by omega)
  obtain⟨w',hr,ho,hg⟩:=hx 0;have hn1:i+(G.length - (i+1))=G.length - 1:=by omega
  rw [hn1]at hr ho;refine⟨w',fun c2=>?_,by rw [he];exact ho,Fr.grown (Fr.refl w _) hg (fun k hk=>.inl (by cases hk;rfl)),fun q=>absurd q hz⟩;obtain⟨w2,hr2,_,_⟩:=hx c2;rw [hn1]at hr2;have hsame:(Builtin.append_ #[43,43] 43 #[.slice (some ⟨g,0,none⟩) i cap,.slice (some ⟨g,(i+1)*7,none⟩) (G.length - (i+1)) c2])=(Builtin.append_ #[43,43] 43 #[.slice (some ⟨g,0,none⟩) i cap,.slice (some ⟨g,(i+1)*7,none⟩) (G.length - (i+1)) 0]):=rfl;rw [hsame];exact hr
theorem own_clearC{n:Nat}{xs:List Value}(h:w.ownsRow 0 56 7 (.slice (some ⟨g,0,none⟩) n cap) n xs)(hc:n+1<=cap):(w.setCells g (n*7) zCL).ownsRow 0 56 7 (.slice (some ⟨g,0,none⟩) n cap) n xs/\Fr w (w.setCells g (n*7) zCL) (fun k=>k=g):=by
 obtain⟨cur,hg,h1,h2,h3,h4⟩:=row_blk h;obtain⟨⟨ds,d1,d2⟩,e1,e2,e3,e4,e5⟩:=setCells_gen zCL (n*7) w cur hg (by rw [zCL_len,h3];omega);refine⟨⟨h.1,.inr ⟨g,cap,ds,rfl,Nat.zero_le _,d1,h1,h2,?_,?_⟩⟩,⟨e3,e4,e5,by omega,fun k _ hk=>e1 k hk⟩⟩
 ·have:=congrArg List.length d2;rw [Array.length_toList,List.length_append,List.length_append,List.length_take,List.length_drop,zCL_len,Array.length_toList]at this;omega
 ·rw [d2,List.append_assoc,List.take_append_of_le_length (by rw [List.length_take,Array.length_toList];omega),List.take_take,Nat.min_self];exact h4
theorem oneC(G:List Col):∀ u ∈ G.flatMap colL,u.oneCell'=true:=by
 intro u hu;obtain⟨x,_,hu⟩:=List.mem_flatMap.1 hu;simp at hu;rcases hu with rfl | rfl | rfl | rfl | rfl | rfl | rfl <;> rfl
theorem del_srcC(hlc:G.length<=cap)(hcm:cap<=maxLen)(hi:i<G.length)(h1:∀ u ∈ G.flatMap colL,u.oneCell'=true):
  ∃ sa sc,(∀ X:World,(Instr.sliceAt 43 (.slice (some ⟨g,0,none⟩) G.length cap) (some (.int .i64 ((i:Int)+1))) none none).run Tryz.prog X=.ok (.slice sa (G.length - (i+1)) sc) X) /\
   ∀ X:World,X.ownsRow 0 56 7 (.slice (some ⟨g,0,none⟩) G.length cap) G.length (G.flatMap colL)->∃ w',(Builtin.append_ #[43,43] 43 #[.slice (some ⟨g,0,none⟩) i cap,.slice sa (G.length - (i+1)) sc]).run Tryz.prog X=.ok (.slice (some ⟨g,0,none⟩) (G.length - 1) cap) w' /\
    w'.ownsRow 0 56 7 (.slice (some ⟨g,0,none⟩) (G.length - 1) cap) (G.length - 1) ((G.eraseIdx i).flatMap colL)/\Fr X w' (fun k=>k=g):=by
 have hm:(cap:Int)<=9223372036854775807:=by unfold maxLen at hcm;omega
 have q0:(0:Int)<=(i:Int)+1:=by omega
 have q1:(i:Int)+1<=(G.length:Int):=by omega
 have q2:((i:Int)+1).toNat=i+1:=by omega
 have q3:(G.length:Int)<=(cap:Int):=by omega
 by_cases hc:cap=i+1
 ·have hn:G.length=i+1:=by omega
  refine⟨some ⟨g,0,none⟩,0,fun X=>?_,fun X hX=>?_⟩
  ·have z:G.length - (i+1)=0:=by omega
   have z3:G.length=cap:=by omega
   rw [z];rw [z3,hc]at *
   go_simp
  ·obtain⟨w',_,ho,hf,he⟩:=del_runC hX hi h1;have:=he hn.symm;subst this;refine⟨w',?_,ho,hf⟩;have z:G.length - (i+1)=0:=by omega
   have z2:G.length - 1=i:=by omega
   rw [z,z2];exact append_none29 w' _ _ i cap 0 (by omega)
 ·refine⟨some ⟨g,(i+1)*7,none⟩,cap - (i+1),fun X=>?_,fun X hX=>?_⟩
  ·have z2:¬ cap=i+1:=hc
   go_simp
  ·obtain⟨w',hr,ho,hf,_⟩:=del_runC hX hi h1;exact⟨w',hr _,ho,hf⟩
theorem deleteC_any(h:w.ownsRow 0 56 7 (.slice (some ⟨g,0,none⟩) G.length cap) G.length (G.flatMap colL))(hi:i<G.length)(h1:∀ u ∈ G.flatMap colL,u.oneCell'=true):
  Calls Tryz.prog 176 #[.slice (some ⟨g,0,none⟩) G.length cap,.int .i64 (i:Int),.int .i64 ((i:Int)+1)] w fun e w'=>e=.returned (.slice (some ⟨g,0,none⟩) (G.length - 1) cap)/\w'.ownsRow 0 56 7 (.slice (some ⟨g,0,none⟩) (G.length - 1) cap) (G.length - 1) ((G.eraseIdx i).flatMap colL)/\Fr w w' (fun k=>k=g):=by
 obtain⟨cur,hg,hlc,hcm,_,_⟩:=row_blk h;obtain⟨sa,sc,hs1,hs2⟩:=del_srcC (g:=g) hlc hcm hi h1;have hm:(cap:Int)<=9223372036854775807:=by unfold maxLen at hcm;omega
 have hm2:(G.length:Int)<=9223372036854775807:=by omega
 have q0:(0:Int)<=(i:Int):=by omega
 have q00:(0:Int)<=(i:Int)+1:=by omega
 have q1:(i:Int)<=(i:Int)+1:=by omega
 have q2:(i:Int)+1<=(G.length:Int):=by omega
 have q3:(G.length:Int)<=(cap:Int):=by omega
 have q4:¬ (i:Int)=(i:Int)+1:=by omega
 have hsl:∀ X:World,(Instr.sliceAt 43 (.slice (some ⟨g,0,none⟩) G.length cap) none (some (.int .i64 (i:Int))) none).run Tryz.prog X=.ok (.slice (some ⟨g,0,none⟩) i cap) X:=fun X=>by
  have z:(i:Int)<=(cap:Int):=by omega
  have z2:¬ cap=0:=by omega
  go_simp
 obtain⟨m,hmm⟩:∃ m,G.length - 1=m:=⟨_,rfl⟩
 have hgm:(G.length:Int)=(m:Int)+1:=by omega
 have hgn:G.length=m+1:=by omega
 have hsl2:∀ X:World,(Instr.sliceAt 43 (.slice (some ⟨g,0,none⟩) m cap) (some (.int .i64 (m:Int))) (some (.int .i64 (G.length:Int))) none).run Tryz.prog X=.ok (.slice (some ⟨g,m*7,none⟩) 1 (cap - m)) X:=fun X=>by
  have z0:(0:Int)<=(m:Int):=by omega
  have z1:(m:Int)<=(G.length:Int):=by omega
  have z2:¬ cap=m:=by omega
  have z4:G.length - m=1:=by omega
  clear hgm hgn hmm
  go_simp
 rw [hmm]at hs2 ⊢;have HS1:=lh hs1;have HS2:=lh hs2;have HSL:=lh hsl;have HO:=lh h;have HLC:=lh hlc;have HGN:=lh hgn;clear hs1 hs2 hsl hg h hcm h1 hmm hgm hgn hlc;go_enter Tryz.func176,Tryz.ntmps176;go_upto_region 5 with fail
 refine wp_region_once 6 (fun d X9=>Fr w X9 (fun k=>k=g)/\(d=false->Below w.heap.size w X9)) (fun X9 X'=>Below X9.heap.size X9 X') (fun X9 X'=>Fr X9 X' (fun k=>k=g)) [
  fun v9 _=>v9=(.slice (some ⟨g,0,none⟩) G.length cap),fun v9 _=>v9=.int .i64 (i:Int),fun v9 _=>v9=.slice (some ⟨g,0,none⟩) i cap,fun v9 _=>v9=(.slice (some ⟨g,0,none⟩) G.length cap),fun v9 _=>v9=.int .i64 ((i:Int)+1),fun v9 _=>v9=.slice sa (G.length - (i+1)) sc,fun v9 X9=>v9=.slice (some ⟨g,0,none⟩) m cap/\X9.ownsRow 0 56 7 (.slice (some ⟨g,0,none⟩) m cap) m ((G.eraseIdx i).flatMap colL)/\Fr w X9 (fun k=>k=g)]
  (fun v9 X9=>v9=.slice (some ⟨g,0,none⟩) m cap/\X9.ownsRow 0 56 7 (.slice (some ⟨g,0,none⟩) m cap) m ((G.eraseIdx i).flatMap colL)/\Fr w X9 (fun k=>k=g)) rfl (by kernel_rfl) (by kernel_rfl) (by kernel_rfl) (by kernel_rfl) ?st ?stm ?g0 (by decide) ?os ?la ?en
 case st=>
  iterate 6 refine⟨fun _ _ _ _ h=>h,?_⟩
  refine⟨fun _ _ _ hs ⟨e,o1,o2⟩=>⟨e,own_below o1 hs,o2.below hs⟩,?_⟩;exact trivial
 case stm=>exact⟨fun _ _ _ _ h=>h,fun _ _ _ _ h=>h,fun _ _ _ _ h=>h,fun _ _ _ _ h=>h,fun _ _ _ _ h=>h,fun _ _ _ _ h=>h,fun _ _ _ _ h=>h,trivial⟩
 case g0=>exact⟨⟨rfl,rfl,rfl,Nat.le_refl _,fun _ _ _=>rfl⟩,fun _=>⟨rfl,rfl,rfl,Nat.le_refl _,fun _ _=>rfl⟩⟩
 case os =>
  refine⟨?_,?_,?_,?_,?_,?_,?_,trivial⟩
  ·exact⟨rfl,fun _ ρ X9 d hg ho hc hf hr=>Runs.val _ (op_move (show ρ (.tmp 0)=(.slice (some ⟨g,0,none⟩) G.length cap)from ho 0 rfl)) ⟨hg,Below.refl _ _,rfl⟩,fun e=>absurd e (by decide)⟩
  ·exact⟨rfl,fun _ ρ X9 d hg ho hc hf hr=>Runs.val _ (op_move (show ρ (.tmp 1)=.int .i64 (i:Int)from ho 1 rfl)) ⟨hg,Below.refl _ _,rfl⟩,fun e=>absurd e (by decide)⟩
  ·exact⟨rfl,fun _ ρ X9 d hg ho hc hf hr=>Runs.val _ (op_slice43hi (show ρ (.tmp 20)=(.slice (some ⟨g,0,none⟩) G.length cap)from hr 0 20 rfl rfl) (show ρ (.tmp 21)=.int .i64 (i:Int)from hr 1 21 rfl rfl) HSL.out) ⟨hg,Below.refl _ _,rfl⟩,fun e=>absurd e (by decide)⟩
  ·exact⟨rfl,fun _ ρ X9 d hg ho hc hf hr=>Runs.val _ (op_move (show ρ (.tmp 0)=(.slice (some ⟨g,0,none⟩) G.length cap)from ho 0 rfl)) ⟨hg,Below.refl _ _,rfl⟩,fun e=>absurd e (by decide)⟩
  ·exact⟨rfl,fun _ ρ X9 d hg ho hc hf hr=>Runs.val _ (op_move (show ρ (.tmp 2)=.int .i64 ((i:Int)+1)from ho 2 rfl)) ⟨hg,Below.refl _ _,rfl⟩,fun e=>absurd e (by decide)⟩
  ·exact⟨rfl,fun _ ρ X9 d hg ho hc hf hr=>Runs.val _ (op_slice43lo (show ρ (.tmp 23)=(.slice (some ⟨g,0,none⟩) G.length cap)from hr 3 23 rfl rfl) (show ρ (.tmp 24)=.int .i64 ((i:Int)+1)from hr 4 24 rfl rfl) HS1.out) ⟨hg,Below.refl _ _,rfl⟩,fun e=>absurd e (by decide)⟩
  ·refine⟨rfl,fun e=>absurd rfl e,fun _ ρ X9 hg ho hc hf hr=>?_⟩;obtain⟨w9,hrun,o9,f9⟩:=HS2.out X9 (own_below HO.out (hg.2 rfl));exact Runs.val _ (op_append43 (show ρ (.tmp 22)=.slice (some ⟨g,0,none⟩) i cap from hr 2 22 rfl rfl) (show ρ (.tmp 25)=.slice sa (G.length - (i+1)) sc from hr 5 25 rfl rfl) hrun) ⟨⟨hg.1.trans f9,fun z=>by cases z⟩,f9,rfl,o9,hg.1.trans f9⟩
 case la =>
  refine⟨rfl,fun ρ X9 hg ho hc hf hr=>?_⟩;obtain⟨e,o1,o2⟩:(ρ (.tmp 26))=.slice (some ⟨g,0,none⟩) m cap/\X9.ownsRow 0 56 7 (.slice (some ⟨g,0,none⟩) m cap) m ((G.eraseIdx i).flatMap colL)/\Fr w X9 (fun k=>k=g):=hr 6 26 (by decide) rfl;exact Runs.val _ (op_assign e) ⟨rfl,o1,o2⟩
 case en =>
  intro a X9 Xb v9 hF hs hd ho hv9 hr;obtain⟨x,hx,hxt⟩:=act_put hs hd ho;obtain⟨e9,o9,f9⟩:=hF;have x0:x 0=.slice (some ⟨g,0,none⟩) m cap:=((hxt 0).symm.trans (hv9 0 rfl)).trans e9;change a=putAll _ x [20,21,22,23,24,25,26,0]at hx;simp only [putAll,Act.put,List.setIfInBounds_toArray,List.set_cons_zero,List.set_cons_succ,x0]at hx;obtain⟨cur,jg,_,_,hsz,_⟩:=row_blk o9;have hcl:=fun ty=>clear_run29 (w:=X9) (g:=g) (o:=m*7) (cap:=cap - m) ty jg (by have z1:=HLC.out;have z2:=HGN.out;omega);obtain⟨k1,k2⟩:=own_clearC o9 (by have z1:=HLC.out;have z2:=HGN.out;omega);have HA:Hid ((X9.setCells g (m*7) zCL).ownsRow 0 56 7 (.slice (some ⟨g,0,none⟩) m cap) m ((G.eraseIdx i).flatMap colL)/\Fr w (X9.setCells g (m*7) zCL) (fun k=>k=g)):=⟨k1,f9.trans k2⟩
  clear hs hd ho hr hv9 hxt x0 e9 o9 f9 jg hsz k1 k2;subst hx;go_wp2_with (at_builtin;refine wpl_clear _ rfl (hcl _) ?_)
  refine bodyPost_ret (v:=.slice (some ⟨g,0,none⟩) m cap) (by simp [results,Tryz.results176,go_sem]) rfl ?_;exact⟨rfl,HA.out⟩
end
theorem append_none32(w:World)(ad ad2:Option Addr)(n cap cap2:Nat)(hle:n<=cap):(Builtin.append_ #[61,61] 61 #[.slice ad n cap,.slice ad2 0 cap2]).run Tryz.prog w=.ok (.slice ad n cap) w:=by
 obtain⟨i0,hi,hz0,hz1,hz2⟩:=info_parts info71;cases ad2 with
 | none=>cases ad <;> simp [Builtin.append_,run_underlying Tryz.underlying61,sizeOf,typeInfo,hi,Builtin.lenOf,hle,Builtin.firstCells,storeCells]
 | some a =>
  have hfc:=run_firstCells_some (P:=Tryz.prog) w i0.size 0 a 0 cap2 [] (by simp) (fun j u hu=>by simp at hu);cases ad <;> simp [Builtin.append_,run_underlying Tryz.underlying61,sizeOf,typeInfo,hi,Builtin.lenOf,hle,hfc,storeCells]
def zIL:List Value:=(Builtin.zeroCells #[.int .i64 0,.string ⟨#[]⟩,.int .i64 0,.bool false,.int .i64 0] 1).toList
theorem zIL_len:zIL.length=5:=by
 unfold zIL;rw [Array.length_toList,size_zeroCells];rfl
theorem zIL_one:∀ v ∈ zIL,v.oneCell'=true:=by
 intro v hv;unfold zIL Builtin.zeroCells at hv;simp only [Array.toList_map,List.mem_map]at hv;obtain⟨i,_,rfl⟩:=hv;have h4:i % 5<5:=Nat.mod_lt _ (by decide);have:i % 5=0\/i % 5=1\/i % 5=2\/i % 5=3\/i % 5=4:=by omega
 show((#[.int .i64 0,.string ⟨#[]⟩,.int .i64 0,.bool false,.int .i64 0]:Array Value)[i % 5]!).oneCell'=true
 rcases this with e | e | e | e | e <;> rw [e] <;> rfl
theorem clear_run32{w:World}{g o cap:Nat}{cur:Array Value}(ty:TypeId)(hb:w.heap[g]?=some (.cells cur 138 (0,0)))(hin:o+5<=cur.size):
  (Builtin.clear_ #[61] ty #[.slice (some ⟨g,o,none⟩) 1 cap]).run Tryz.prog w=.ok (.tuple #[]) (w.setCells g o zIL):=by
 obtain⟨i0,hi,hz0,hz1,hz2⟩:=info_parts info71;have hst:=run_storeCells_cells (P:=Tryz.prog) g o zIL 0 w (fun j hj=>by
  have hj':j<5:=by rw [<-zIL_len];exact hj
  rw [cell_blk hb,Array.getElem?_eq_getElem (by omega)];rfl) (fun j _=>frozen_blk hb _) zIL_one
 simp only [Nat.add_zero]at hst;have hzc:(Builtin.zeroCells (Value.agg #[.int .i64 0,.string ⟨#[]⟩,.int .i64 0,.bool false,.int .i64 0]).cells 1).toList=zIL:=rfl;simp [Builtin.clear_,run_underlying Tryz.underlying61,zeroValue,typeInfo,hi,hz0,hzc,hst]
section
variable {ρ : Operand -> Value} {X : World} {d : Option Tmp} {ty : TypeId} {ps : String} {af : Array Edge} {g : Option (Nat × Bool)}
theorem op_slice61lo{x y:Operand}{v1 v2 v':Value}(hx:ρ x=v1)(hy:ρ y=v2)(hrun:∀ X:World,(Instr.sliceAt 61 v1 (some v2) none none).run Tryz.prog X=.ok v' X):(execOp ρ ⟨d,.slice 61 x (some y) none none,ty,ps,af,g⟩).run Tryz.prog X=.ok (.value v') X:=by
 simp only [execOp,Option.map_some,Option.map_none,hx,hy,Sem.run_bind,hrun,Result.andThen_ok,Sem.run_pure]
theorem op_slice61hi{x y:Operand}{v1 v2 v':Value}(hx:ρ x=v1)(hy:ρ y=v2)(hrun:∀ X:World,(Instr.sliceAt 61 v1 none (some v2) none).run Tryz.prog X=.ok v' X):(execOp ρ ⟨d,.slice 61 x none (some y) none,ty,ps,af,g⟩).run Tryz.prog X=.ok (.value v') X:=by
 simp only [execOp,Option.map_some,Option.map_none,hx,hy,Sem.run_bind,hrun,Result.andThen_ok,Sem.run_pure]
end
section
variable {w w' : World} {G : List Ix} {g n cap i : Nat}
theorem del_runI(h:w.ownsRow 0 138 5 (.slice (some ⟨g,0,none⟩) G.length cap) G.length (G.flatMap ixL))(hi:i<G.length)(h1:∀ u ∈ G.flatMap ixL,u.oneCell'=true):
  ∃ w',(∀ c2,(Builtin.append_ #[61,61] 61 #[.slice (some ⟨g,0,none⟩) i cap,.slice (some ⟨g,(i+1)*5,none⟩) (G.length - (i+1)) c2]).run Tryz.prog w=.ok (.slice (some ⟨g,0,none⟩) (G.length - 1) cap) w') /\
   w'.ownsRow 0 138 5 (.slice (some ⟨g,0,none⟩) (G.length - 1) cap) (G.length - 1) ((G.eraseIdx i).flatMap ixL)/\Fr w w' (fun k=>k=g)/\(i+1=G.length->w'=w):=by
 have hp:=own_take h (Nat.le_of_lt hi);rw [fl_take ixL_len G i (Nat.le_of_lt hi)]at hp;have hlc:G.length<=cap:=by
  rcases h.2 with⟨hv,_⟩ | ⟨g',cap',cur,hv,_,_,q,_⟩
  ·cases hv
  ·cases hv;exact q
 obtain⟨i0,hif,hz0,hz1,hz2⟩:=info_parts info71;have he:(G.eraseIdx i).flatMap ixL=(G.take i).flatMap ixL ++ (G.drop (i+1)).flatMap ixL:=by rw [List.eraseIdx_eq_take_drop_succ,List.flatMap_append]
 by_cases hz:i+1=G.length
 ·have hn:G.length - (i+1)=0:=by omega
  have hn1:G.length - 1=i:=by omega
  refine⟨w,fun c2=>?_,?_,Fr.refl _ _,fun _=>rfl⟩
  ·rw [hn,hn1];exact append_none32 w _ _ i cap c2 (by omega)
  ·rw [he,hn1,List.drop_of_length_le (by omega)];simpa using hp
 ·have hx:∀ c2,∃ w',(Builtin.append_ #[61,61] 61 #[.slice (some ⟨g,0,none⟩) i cap,.slice (some ⟨g,(i+1)*5,none⟩) (G.length - (i+1)) c2]).run Tryz.prog w=.ok (.slice (some ⟨g,0,none⟩) (i+(G.length - (i+1))) cap) w'/\w'.ownsRow 0 138 5 (.slice (some ⟨g,0,none⟩) (i+(G.length - (i+1))) cap) (i+(G.length - (i+1))) ((G.take i).flatMap ixL ++ (G.drop (i+1)).flatMap ixL)/\w.grownBy w' (some g):=fun c2 =>
   run_append_fits (P:=Tryz.prog) w 0 61 61 138 i0 5 Tryz.underlying61 hif hz1 g i cap _ hp ⟨g,(i+1)*5,none⟩ (G.length - (i+1)) c2 ((G.drop (i+1)).flatMap ixL) (by rw [fl_len ixL_len,List.length_drop]) (fun j u hu=>by
    have hj:j<(G.length - (i+1))*5:=by
     have:=(List.getElem?_eq_some_iff.1 hu).1
     rwa [fl_len ixL_len,List.length_drop]at this
    rw [fl_drop ixL_len G (i+1) hi]at hu;rw [add_at,h.cellAt _ (by omega)];exact hu) (fun u hu=>h1 u (by
    have e:G.flatMap ixL=(G.take (i+1)).flatMap ixL ++ (G.drop (i+1)).flatMap ixL:=by rw [<-List.flatMap_append,List.take_append_drop]
    rw [e];exact List.mem_append_right _ hu)) (by omega)
  obtain⟨w',hr,ho,hg⟩:=hx 0;have hn1:i+(G.length - (i+1))=G.length - 1:=by omega
  rw [hn1]at hr ho;refine⟨w',fun c2=>?_,by rw [he];exact ho,Fr.grown (Fr.refl w _) hg (fun k hk=>.inl (by cases hk;rfl)),fun q=>absurd q hz⟩;obtain⟨w2,hr2,_,_⟩:=hx c2;rw [hn1]at hr2;have hsame:(Builtin.append_ #[61,61] 61 #[.slice (some ⟨g,0,none⟩) i cap,.slice (some ⟨g,(i+1)*5,none⟩) (G.length - (i+1)) c2])=(Builtin.append_ #[61,61] 61 #[.slice (some ⟨g,0,none⟩) i cap,.slice (some ⟨g,(i+1)*5,none⟩) (G.length - (i+1)) 0]):=rfl;rw [hsame];exact hr
theorem own_clearI{n:Nat}{xs:List Value}(h:w.ownsRow 0 138 5 (.slice (some ⟨g,0,none⟩) n cap) n xs)(hc:n+1<=cap):(w.setCells g (n*5) zIL).ownsRow 0 138 5 (.slice (some ⟨g,0,none⟩) n cap) n xs/\Fr w (w.setCells g (n*5) zIL) (fun k=>k=g):=by
 obtain⟨cur,hg,h1,h2,h3,h4⟩:=row_blk h;obtain⟨⟨ds,d1,d2⟩,e1,e2,e3,e4,e5⟩:=setCells_gen zIL (n*5) w cur hg (by rw [zIL_len,h3];omega);refine⟨⟨h.1,.inr ⟨g,cap,ds,rfl,Nat.zero_le _,d1,h1,h2,?_,?_⟩⟩,⟨e3,e4,e5,by omega,fun k _ hk=>e1 k hk⟩⟩
 ·have:=congrArg List.length d2;rw [Array.length_toList,List.length_append,List.length_append,List.length_take,List.length_drop,zIL_len,Array.length_toList]at this;omega
 ·rw [d2,List.append_assoc,List.take_append_of_le_length (by rw [List.length_take,Array.length_toList];omega),List.take_take,Nat.min_self];exact h4
theorem oneI(G:List Ix):∀ u ∈ G.flatMap ixL,u.oneCell'=true:=by
 intro u hu;obtain⟨x,_,hu⟩:=List.mem_flatMap.1 hu;simp at hu;rcases hu with rfl | rfl | rfl | rfl | rfl <;> rfl
theorem del_srcI(hlc:G.length<=cap)(hcm:cap<=maxLen)(hi:i<G.length)(h1:∀ u ∈ G.flatMap ixL,u.oneCell'=true):
  ∃ sa sc,(∀ X:World,(Instr.sliceAt 61 (.slice (some ⟨g,0,none⟩) G.length cap) (some (.int .i64 ((i:Int)+1))) none none).run Tryz.prog X=.ok (.slice sa (G.length - (i+1)) sc) X) /\
   ∀ X:World,X.ownsRow 0 138 5 (.slice (some ⟨g,0,none⟩) G.length cap) G.length (G.flatMap ixL)->∃ w',(Builtin.append_ #[61,61] 61 #[.slice (some ⟨g,0,none⟩) i cap,.slice sa (G.length - (i+1)) sc]).run Tryz.prog X=.ok (.slice (some ⟨g,0,none⟩) (G.length - 1) cap) w' /\
    w'.ownsRow 0 138 5 (.slice (some ⟨g,0,none⟩) (G.length - 1) cap) (G.length - 1) ((G.eraseIdx i).flatMap ixL)/\Fr X w' (fun k=>k=g):=by
 have hm:(cap:Int)<=9223372036854775807:=by unfold maxLen at hcm;omega
 have q0:(0:Int)<=(i:Int)+1:=by omega
 have q1:(i:Int)+1<=(G.length:Int):=by omega
 have q2:((i:Int)+1).toNat=i+1:=by omega
 have q3:(G.length:Int)<=(cap:Int):=by omega
 by_cases hc:cap=i+1
 ·have hn:G.length=i+1:=by omega
  refine⟨some ⟨g,0,none⟩,0,fun X=>?_,fun X hX=>?_⟩
  ·have z:G.length - (i+1)=0:=by omega
   have z3:G.length=cap:=by omega
   rw [z];rw [z3,hc]at *
   go_simp
  ·obtain⟨w',_,ho,hf,he⟩:=del_runI hX hi h1;have:=he hn.symm;subst this;refine⟨w',?_,ho,hf⟩;have z:G.length - (i+1)=0:=by omega
   have z2:G.length - 1=i:=by omega
   rw [z,z2];exact append_none32 w' _ _ i cap 0 (by omega)
 ·refine⟨some ⟨g,(i+1)*5,none⟩,cap - (i+1),fun X=>?_,fun X hX=>?_⟩
  ·have z2:¬ cap=i+1:=hc
   go_simp
  ·obtain⟨w',hr,ho,hf,_⟩:=del_runI hX hi h1;exact⟨w',hr _,ho,hf⟩
theorem deleteI_any(h:w.ownsRow 0 138 5 (.slice (some ⟨g,0,none⟩) G.length cap) G.length (G.flatMap ixL))(hi:i<G.length)(h1:∀ u ∈ G.flatMap ixL,u.oneCell'=true):
  Calls Tryz.prog 178 #[.slice (some ⟨g,0,none⟩) G.length cap,.int .i64 (i:Int),.int .i64 ((i:Int)+1)] w fun e w'=>e=.returned (.slice (some ⟨g,0,none⟩) (G.length - 1) cap)/\w'.ownsRow 0 138 5 (.slice (some ⟨g,0,none⟩) (G.length - 1) cap) (G.length - 1) ((G.eraseIdx i).flatMap ixL)/\Fr w w' (fun k=>k=g):=by
 obtain⟨cur,hg,hlc,hcm,_,_⟩:=row_blk h;obtain⟨sa,sc,hs1,hs2⟩:=del_srcI (g:=g) hlc hcm hi h1;have hm:(cap:Int)<=9223372036854775807:=by unfold maxLen at hcm;omega
 have hm2:(G.length:Int)<=9223372036854775807:=by omega
 have q0:(0:Int)<=(i:Int):=by omega
 have q00:(0:Int)<=(i:Int)+1:=by omega
 have q1:(i:Int)<=(i:Int)+1:=by omega
 have q2:(i:Int)+1<=(G.length:Int):=by omega
 have q3:(G.length:Int)<=(cap:Int):=by omega
 have q4:¬ (i:Int)=(i:Int)+1:=by omega
 have hsl:∀ X:World,(Instr.sliceAt 61 (.slice (some ⟨g,0,none⟩) G.length cap) none (some (.int .i64 (i:Int))) none).run Tryz.prog X=.ok (.slice (some ⟨g,0,none⟩) i cap) X:=fun X=>by
  have z:(i:Int)<=(cap:Int):=by omega
  have z2:¬ cap=0:=by omega
  go_simp
 obtain⟨m,hmm⟩:∃ m,G.length - 1=m:=⟨_,rfl⟩
 have hgm:(G.length:Int)=(m:Int)+1:=by omega
 have hgn:G.length=m+1:=by omega
 have hsl2:∀ X:World,(Instr.sliceAt 61 (.slice (some ⟨g,0,none⟩) m cap) (some (.int .i64 (m:Int))) (some (.int .i64 (G.length:Int))) none).run Tryz.prog X=.ok (.slice (some ⟨g,m*5,none⟩) 1 (cap - m)) X:=fun X=>by
  have z0:(0:Int)<=(m:Int):=by omega
  have z1:(m:Int)<=(G.length:Int):=by omega
  have z2:¬ cap=m:=by omega
  have z4:G.length - m=1:=by omega
  clear hgm hgn hmm
  go_simp
 rw [hmm]at hs2 ⊢;have HS1:=lh hs1;have HS2:=lh hs2;have HSL:=lh hsl;have HO:=lh h;have HLC:=lh hlc;have HGN:=lh hgn;clear hs1 hs2 hsl hg h hcm h1 hmm hgm hgn hlc;go_enter Tryz.func178,Tryz.ntmps178;go_upto_region 5 with fail
 refine wp_region_once 6 (fun d X9=>Fr w X9 (fun k=>k=g)/\(d=false->Below w.heap.size w X9)) (fun X9 X'=>Below X9.heap.size X9 X') (fun X9 X'=>Fr X9 X' (fun k=>k=g)) [
  fun v9 _=>v9=(.slice (some ⟨g,0,none⟩) G.length cap),fun v9 _=>v9=.int .i64 (i:Int),fun v9 _=>v9=.slice (some ⟨g,0,none⟩) i cap,fun v9 _=>v9=(.slice (some ⟨g,0,none⟩) G.length cap),fun v9 _=>v9=.int .i64 ((i:Int)+1),fun v9 _=>v9=.slice sa (G.length - (i+1)) sc,fun v9 X9=>v9=.slice (some ⟨g,0,none⟩) m cap/\X9.ownsRow 0 138 5 (.slice (some ⟨g,0,none⟩) m cap) m ((G.eraseIdx i).flatMap ixL)/\Fr w X9 (fun k=>k=g)]
  (fun v9 X9=>v9=.slice (some ⟨g,0,none⟩) m cap/\X9.ownsRow 0 138 5 (.slice (some ⟨g,0,none⟩) m cap) m ((G.eraseIdx i).flatMap ixL)/\Fr w X9 (fun k=>k=g)) rfl (by kernel_rfl) (by kernel_rfl) (by kernel_rfl) (by kernel_rfl) ?st ?stm ?g0 (by decide) ?os ?la ?en
 case st=>
  iterate 6 refine⟨fun _ _ _ _ h=>h,?_⟩
  refine⟨fun _ _ _ hs ⟨e,o1,o2⟩=>⟨e,own_below o1 hs,o2.below hs⟩,?_⟩;exact trivial
 case stm=>exact⟨fun _ _ _ _ h=>h,fun _ _ _ _ h=>h,fun _ _ _ _ h=>h,fun _ _ _ _ h=>h,fun _ _ _ _ h=>h,fun _ _ _ _ h=>h,fun _ _ _ _ h=>h,trivial⟩
 case g0=>exact⟨⟨rfl,rfl,rfl,Nat.le_refl _,fun _ _ _=>rfl⟩,fun _=>⟨rfl,rfl,rfl,Nat.le_refl _,fun _ _=>rfl⟩⟩
 case os =>
  refine⟨?_,?_,?_,?_,?_,?_,?_,trivial⟩
  ·exact⟨rfl,fun _ ρ X9 d hg ho hc hf hr=>Runs.val _ (op_move (show ρ (.tmp 0)=(.slice (some ⟨g,0,none⟩) G.length cap)from ho 0 rfl)) ⟨hg,Below.refl _ _,rfl⟩,fun e=>absurd e (by decide)⟩
  ·exact⟨rfl,fun _ ρ X9 d hg ho hc hf hr=>Runs.val _ (op_move (show ρ (.tmp 1)=.int .i64 (i:Int)from ho 1 rfl)) ⟨hg,Below.refl _ _,rfl⟩,fun e=>absurd e (by decide)⟩
  ·exact⟨rfl,fun _ ρ X9 d hg ho hc hf hr=>Runs.val _ (op_slice61hi (show ρ (.tmp 20)=(.slice (some ⟨g,0,none⟩) G.length cap)from hr 0 20 rfl rfl) (show ρ (.tmp 21)=.int .i64 (i:Int)from hr 1 21 rfl rfl) HSL.out) ⟨hg,Below.refl _ _,rfl⟩,fun e=>absurd e (by decide)⟩
  ·exact⟨rfl,fun _ ρ X9 d hg ho hc hf hr=>Runs.val _ (op_move (show ρ (.tmp 0)=(.slice (some ⟨g,0,none⟩) G.length cap)from ho 0 rfl)) ⟨hg,Below.refl _ _,rfl⟩,fun e=>absurd e (by decide)⟩
  ·exact⟨rfl,fun _ ρ X9 d hg ho hc hf hr=>Runs.val _ (op_move (show ρ (.tmp 2)=.int .i64 ((i:Int)+1)from ho 2 rfl)) ⟨hg,Below.refl _ _,rfl⟩,fun e=>absurd e (by decide)⟩
  ·exact⟨rfl,fun _ ρ X9 d hg ho hc hf hr=>Runs.val _ (op_slice61lo (show ρ (.tmp 23)=(.slice (some ⟨g,0,none⟩) G.length cap)from hr 3 23 rfl rfl) (show ρ (.tmp 24)=.int .i64 ((i:Int)+1)from hr 4 24 rfl rfl) HS1.out) ⟨hg,Below.refl _ _,rfl⟩,fun e=>absurd e (by decide)⟩
  ·refine⟨rfl,fun e=>absurd rfl e,fun _ ρ X9 hg ho hc hf hr=>?_⟩;obtain⟨w9,hrun,o9,f9⟩:=HS2.out X9 (own_below HO.out (hg.2 rfl));exact Runs.val _ (op_append61 (show ρ (.tmp 22)=.slice (some ⟨g,0,none⟩) i cap from hr 2 22 rfl rfl) (show ρ (.tmp 25)=.slice sa (G.length - (i+1)) sc from hr 5 25 rfl rfl) hrun) ⟨⟨hg.1.trans f9,fun z=>by cases z⟩,f9,rfl,o9,hg.1.trans f9⟩
 case la =>
  refine⟨rfl,fun ρ X9 hg ho hc hf hr=>?_⟩;obtain⟨e,o1,o2⟩:(ρ (.tmp 26))=.slice (some ⟨g,0,none⟩) m cap/\X9.ownsRow 0 138 5 (.slice (some ⟨g,0,none⟩) m cap) m ((G.eraseIdx i).flatMap ixL)/\Fr w X9 (fun k=>k=g):=hr 6 26 (by decide) rfl;exact Runs.val _ (op_assign e) ⟨rfl,o1,o2⟩
 case en =>
  intro a X9 Xb v9 hF hs hd ho hv9 hr;obtain⟨x,hx,hxt⟩:=act_put hs hd ho;obtain⟨e9,o9,f9⟩:=hF;have x0:x 0=.slice (some ⟨g,0,none⟩) m cap:=((hxt 0).symm.trans (hv9 0 rfl)).trans e9;change a=putAll _ x [20,21,22,23,24,25,26,0]at hx;simp only [putAll,Act.put,List.setIfInBounds_toArray,List.set_cons_zero,List.set_cons_succ,x0]at hx;obtain⟨cur,jg,_,_,hsz,_⟩:=row_blk o9;have hcl:=fun ty=>clear_run32 (w:=X9) (g:=g) (o:=m*5) (cap:=cap - m) ty jg (by have z1:=HLC.out;have z2:=HGN.out;omega);obtain⟨k1,k2⟩:=own_clearI o9 (by have z1:=HLC.out;have z2:=HGN.out;omega);have HA:Hid ((X9.setCells g (m*5) zIL).ownsRow 0 138 5 (.slice (some ⟨g,0,none⟩) m cap) m ((G.eraseIdx i).flatMap ixL)/\Fr w (X9.setCells g (m*5) zIL) (fun k=>k=g)):=⟨k1,f9.trans k2⟩
  clear hs hd ho hr hv9 hxt x0 e9 o9 f9 jg hsz k1 k2;subst hx;go_wp2_with (at_builtin;refine wpl_clear _ rfl (hcl _) ?_)
  refine bodyPost_ret (v:=.slice (some ⟨g,0,none⟩) m cap) (by simp [results,Tryz.results178,go_sem]) rfl ?_;exact⟨rfl,HA.out⟩
end
theorem append_none33(w:World)(ad ad2:Option Addr)(n cap cap2:Nat)(hle:n<=cap):(Builtin.append_ #[62,62] 62 #[.slice ad n cap,.slice ad2 0 cap2]).run Tryz.prog w=.ok (.slice ad n cap) w:=by
 obtain⟨i0,hi,hz0,hz1,hz2⟩:=info_parts info74;cases ad2 with
 | none=>cases ad <;> simp [Builtin.append_,run_underlying Tryz.underlying62,sizeOf,typeInfo,hi,Builtin.lenOf,hle,Builtin.firstCells,storeCells]
 | some a =>
  have hfc:=run_firstCells_some (P:=Tryz.prog) w i0.size 0 a 0 cap2 [] (by simp) (fun j u hu=>by simp at hu);cases ad <;> simp [Builtin.append_,run_underlying Tryz.underlying62,sizeOf,typeInfo,hi,Builtin.lenOf,hle,hfc,storeCells]
def zKL:List Value:=(Builtin.zeroCells #[.int .i64 0,.string ⟨#[]⟩,.int .i64 0,.int .i64 0,.int .i64 0] 1).toList
theorem zKL_len:zKL.length=5:=by
 unfold zKL;rw [Array.length_toList,size_zeroCells];rfl
theorem zKL_one:∀ v ∈ zKL,v.oneCell'=true:=by
 intro v hv;unfold zKL Builtin.zeroCells at hv;simp only [Array.toList_map,List.mem_map]at hv;obtain⟨i,_,rfl⟩:=hv;have h4:i % 5<5:=Nat.mod_lt _ (by decide);have:i % 5=0\/i % 5=1\/i % 5=2\/i % 5=3\/i % 5=4:=by omega
 show((#[.int .i64 0,.string ⟨#[]⟩,.int .i64 0,.int .i64 0,.int .i64 0]:Array Value)[i % 5]!).oneCell'=true
 rcases this with e | e | e | e | e <;> rw [e] <;> rfl
theorem clear_run33{w:World}{g o cap:Nat}{cur:Array Value}(ty:TypeId)(hb:w.heap[g]?=some (.cells cur 141 (0,0)))(hin:o+5<=cur.size):
  (Builtin.clear_ #[62] ty #[.slice (some ⟨g,o,none⟩) 1 cap]).run Tryz.prog w=.ok (.tuple #[]) (w.setCells g o zKL):=by
 obtain⟨i0,hi,hz0,hz1,hz2⟩:=info_parts info74;have hst:=run_storeCells_cells (P:=Tryz.prog) g o zKL 0 w (fun j hj=>by
  have hj':j<5:=by rw [<-zKL_len];exact hj
  rw [cell_blk hb,Array.getElem?_eq_getElem (by omega)];rfl) (fun j _=>frozen_blk hb _) zKL_one
 simp only [Nat.add_zero]at hst;have hzc:(Builtin.zeroCells (Value.agg #[.int .i64 0,.string ⟨#[]⟩,.int .i64 0,.int .i64 0,.int .i64 0]).cells 1).toList=zKL:=rfl;simp [Builtin.clear_,run_underlying Tryz.underlying62,zeroValue,typeInfo,hi,hz0,hzc,hst]
section
variable {ρ : Operand -> Value} {X : World} {d : Option Tmp} {ty : TypeId} {ps : String} {af : Array Edge} {g : Option (Nat × Bool)}
theorem op_slice62lo{x y:Operand}{v1 v2 v':Value}(hx:ρ x=v1)(hy:ρ y=v2)(hrun:∀ X:World,(Instr.sliceAt 62 v1 (some v2) none none).run Tryz.prog X=.ok v' X):(execOp ρ ⟨d,.slice 62 x (some y) none none,ty,ps,af,g⟩).run Tryz.prog X=.ok (.value v') X:=by
 simp only [execOp,Option.map_some,Option.map_none,hx,hy,Sem.run_bind,hrun,Result.andThen_ok,Sem.run_pure]
theorem op_slice62hi{x y:Operand}{v1 v2 v':Value}(hx:ρ x=v1)(hy:ρ y=v2)(hrun:∀ X:World,(Instr.sliceAt 62 v1 none (some v2) none).run Tryz.prog X=.ok v' X):(execOp ρ ⟨d,.slice 62 x none (some y) none,ty,ps,af,g⟩).run Tryz.prog X=.ok (.value v') X:=by
 simp only [execOp,Option.map_some,Option.map_none,hx,hy,Sem.run_bind,hrun,Result.andThen_ok,Sem.run_pure]
end
section
variable {w w' : World} {G : List Fk} {g n cap i : Nat}
theorem del_runK(h:w.ownsRow 0 141 5 (.slice (some ⟨g,0,none⟩) G.length cap) G.length (G.flatMap fkL))(hi:i<G.length)(h1:∀ u ∈ G.flatMap fkL,u.oneCell'=true):
  ∃ w',(∀ c2,(Builtin.append_ #[62,62] 62 #[.slice (some ⟨g,0,none⟩) i cap,.slice (some ⟨g,(i+1)*5,none⟩) (G.length - (i+1)) c2]).run Tryz.prog w=.ok (.slice (some ⟨g,0,none⟩) (G.length - 1) cap) w') /\
   w'.ownsRow 0 141 5 (.slice (some ⟨g,0,none⟩) (G.length - 1) cap) (G.length - 1) ((G.eraseIdx i).flatMap fkL)/\Fr w w' (fun k=>k=g)/\(i+1=G.length->w'=w):=by
 have hp:=own_take h (Nat.le_of_lt hi);rw [fl_take fkL_len G i (Nat.le_of_lt hi)]at hp;have hlc:G.length<=cap:=by
  rcases h.2 with⟨hv,_⟩ | ⟨g',cap',cur,hv,_,_,q,_⟩
  ·cases hv
  ·cases hv;exact q
 obtain⟨i0,hif,hz0,hz1,hz2⟩:=info_parts info74;have he:(G.eraseIdx i).flatMap fkL=(G.take i).flatMap fkL ++ (G.drop (i+1)).flatMap fkL:=by rw [List.eraseIdx_eq_take_drop_succ,List.flatMap_append]
 by_cases hz:i+1=G.length
 ·have hn:G.length - (i+1)=0:=by omega
  have hn1:G.length - 1=i:=by omega
  refine⟨w,fun c2=>?_,?_,Fr.refl _ _,fun _=>rfl⟩
  ·rw [hn,hn1];exact append_none33 w _ _ i cap c2 (by omega)
  ·rw [he,hn1,List.drop_of_length_le (by omega)];simpa using hp
 ·have hx:∀ c2,∃ w',(Builtin.append_ #[62,62] 62 #[.slice (some ⟨g,0,none⟩) i cap,.slice (some ⟨g,(i+1)*5,none⟩) (G.length - (i+1)) c2]).run Tryz.prog w=.ok (.slice (some ⟨g,0,none⟩) (i+(G.length - (i+1))) cap) w'/\w'.ownsRow 0 141 5 (.slice (some ⟨g,0,none⟩) (i+(G.length - (i+1))) cap) (i+(G.length - (i+1))) ((G.take i).flatMap fkL ++ (G.drop (i+1)).flatMap fkL)/\w.grownBy w' (some g):=fun c2 =>
   run_append_fits (P:=Tryz.prog) w 0 62 62 141 i0 5 Tryz.underlying62 hif hz1 g i cap _ hp ⟨g,(i+1)*5,none⟩ (G.length - (i+1)) c2 ((G.drop (i+1)).flatMap fkL) (by rw [fl_len fkL_len,List.length_drop]) (fun j u hu=>by
    have hj:j<(G.length - (i+1))*5:=by
     have:=(List.getElem?_eq_some_iff.1 hu).1
     rwa [fl_len fkL_len,List.length_drop]at this
    rw [fl_drop fkL_len G (i+1) hi]at hu;rw [add_at,h.cellAt _ (by omega)];exact hu) (fun u hu=>h1 u (by
    have e:G.flatMap fkL=(G.take (i+1)).flatMap fkL ++ (G.drop (i+1)).flatMap fkL:=by rw [<-List.flatMap_append,List.take_append_drop]
    rw [e];exact List.mem_append_right _ hu)) (by omega)
  obtain⟨w',hr,ho,hg⟩:=hx 0;have hn1:i+(G.length - (i+1))=G.length - 1:=by omega
  rw [hn1]at hr ho;refine⟨w',fun c2=>?_,by rw [he];exact ho,Fr.grown (Fr.refl w _) hg (fun k hk=>.inl (by cases hk;rfl)),fun q=>absurd q hz⟩;obtain⟨w2,hr2,_,_⟩:=hx c2;rw [hn1]at hr2;have hsame:(Builtin.append_ #[62,62] 62 #[.slice (some ⟨g,0,none⟩) i cap,.slice (some ⟨g,(i+1)*5,none⟩) (G.length - (i+1)) c2])=(Builtin.append_ #[62,62] 62 #[.slice (some ⟨g,0,none⟩) i cap,.slice (some ⟨g,(i+1)*5,none⟩) (G.length - (i+1)) 0]):=rfl;rw [hsame];exact hr
theorem own_clearK{n:Nat}{xs:List Value}(h:w.ownsRow 0 141 5 (.slice (some ⟨g,0,none⟩) n cap) n xs)(hc:n+1<=cap):(w.setCells g (n*5) zKL).ownsRow 0 141 5 (.slice (some ⟨g,0,none⟩) n cap) n xs/\Fr w (w.setCells g (n*5) zKL) (fun k=>k=g):=by
 obtain⟨cur,hg,h1,h2,h3,h4⟩:=row_blk h;obtain⟨⟨ds,d1,d2⟩,e1,e2,e3,e4,e5⟩:=setCells_gen zKL (n*5) w cur hg (by rw [zKL_len,h3];omega);refine⟨⟨h.1,.inr ⟨g,cap,ds,rfl,Nat.zero_le _,d1,h1,h2,?_,?_⟩⟩,⟨e3,e4,e5,by omega,fun k _ hk=>e1 k hk⟩⟩
 ·have:=congrArg List.length d2;rw [Array.length_toList,List.length_append,List.length_append,List.length_take,List.length_drop,zKL_len,Array.length_toList]at this;omega
 ·rw [d2,List.append_assoc,List.take_append_of_le_length (by rw [List.length_take,Array.length_toList];omega),List.take_take,Nat.min_self];exact h4
theorem oneK(G:List Fk):∀ u ∈ G.flatMap fkL,u.oneCell'=true:=by
 intro u hu;obtain⟨x,_,hu⟩:=List.mem_flatMap.1 hu;simp at hu;rcases hu with rfl | rfl | rfl | rfl | rfl <;> rfl
theorem del_srcK(hlc:G.length<=cap)(hcm:cap<=maxLen)(hi:i<G.length)(h1:∀ u ∈ G.flatMap fkL,u.oneCell'=true):
  ∃ sa sc,(∀ X:World,(Instr.sliceAt 62 (.slice (some ⟨g,0,none⟩) G.length cap) (some (.int .i64 ((i:Int)+1))) none none).run Tryz.prog X=.ok (.slice sa (G.length - (i+1)) sc) X) /\
   ∀ X:World,X.ownsRow 0 141 5 (.slice (some ⟨g,0,none⟩) G.length cap) G.length (G.flatMap fkL)->∃ w',(Builtin.append_ #[62,62] 62 #[.slice (some ⟨g,0,none⟩) i cap,.slice sa (G.length - (i+1)) sc]).run Tryz.prog X=.ok (.slice (some ⟨g,0,none⟩) (G.length - 1) cap) w' /\
    w'.ownsRow 0 141 5 (.slice (some ⟨g,0,none⟩) (G.length - 1) cap) (G.length - 1) ((G.eraseIdx i).flatMap fkL)/\Fr X w' (fun k=>k=g):=by
 have hm:(cap:Int)<=9223372036854775807:=by unfold maxLen at hcm;omega
 have q0:(0:Int)<=(i:Int)+1:=by omega
 have q1:(i:Int)+1<=(G.length:Int):=by omega
 have q2:((i:Int)+1).toNat=i+1:=by omega
 have q3:(G.length:Int)<=(cap:Int):=by omega
 by_cases hc:cap=i+1
 ·have hn:G.length=i+1:=by omega
  refine⟨some ⟨g,0,none⟩,0,fun X=>?_,fun X hX=>?_⟩
  ·have z:G.length - (i+1)=0:=by omega
   have z3:G.length=cap:=by omega
   rw [z];rw [z3,hc]at *
   go_simp
  ·obtain⟨w',_,ho,hf,he⟩:=del_runK hX hi h1;have:=he hn.symm;subst this;refine⟨w',?_,ho,hf⟩;have z:G.length - (i+1)=0:=by omega
   have z2:G.length - 1=i:=by omega
   rw [z,z2];exact append_none33 w' _ _ i cap 0 (by omega)
 ·refine⟨some ⟨g,(i+1)*5,none⟩,cap - (i+1),fun X=>?_,fun X hX=>?_⟩
  ·have z2:¬ cap=i+1:=hc
   go_simp
  ·obtain⟨w',hr,ho,hf,_⟩:=del_runK hX hi h1;exact⟨w',hr _,ho,hf⟩
theorem deleteK_any(h:w.ownsRow 0 141 5 (.slice (some ⟨g,0,none⟩) G.length cap) G.length (G.flatMap fkL))(hi:i<G.length)(h1:∀ u ∈ G.flatMap fkL,u.oneCell'=true):
  Calls Tryz.prog 181 #[.slice (some ⟨g,0,none⟩) G.length cap,.int .i64 (i:Int),.int .i64 ((i:Int)+1)] w fun e w'=>e=.returned (.slice (some ⟨g,0,none⟩) (G.length - 1) cap)/\w'.ownsRow 0 141 5 (.slice (some ⟨g,0,none⟩) (G.length - 1) cap) (G.length - 1) ((G.eraseIdx i).flatMap fkL)/\Fr w w' (fun k=>k=g):=by
 obtain⟨cur,hg,hlc,hcm,_,_⟩:=row_blk h;obtain⟨sa,sc,hs1,hs2⟩:=del_srcK (g:=g) hlc hcm hi h1;have hm:(cap:Int)<=9223372036854775807:=by unfold maxLen at hcm;omega
 have hm2:(G.length:Int)<=9223372036854775807:=by omega
 have q0:(0:Int)<=(i:Int):=by omega
 have q00:(0:Int)<=(i:Int)+1:=by omega
 have q1:(i:Int)<=(i:Int)+1:=by omega
 have q2:(i:Int)+1<=(G.length:Int):=by omega
 have q3:(G.length:Int)<=(cap:Int):=by omega
 have q4:¬ (i:Int)=(i:Int)+1:=by omega
 have hsl:∀ X:World,(Instr.sliceAt 62 (.slice (some ⟨g,0,none⟩) G.length cap) none (some (.int .i64 (i:Int))) none).run Tryz.prog X=.ok (.slice (some ⟨g,0,none⟩) i cap) X:=fun X=>by
  have z:(i:Int)<=(cap:Int):=by omega
  have z2:¬ cap=0:=by omega
  go_simp
 obtain⟨m,hmm⟩:∃ m,G.length - 1=m:=⟨_,rfl⟩
 have hgm:(G.length:Int)=(m:Int)+1:=by omega
 have hgn:G.length=m+1:=by omega
 have hsl2:∀ X:World,(Instr.sliceAt 62 (.slice (some ⟨g,0,none⟩) m cap) (some (.int .i64 (m:Int))) (some (.int .i64 (G.length:Int))) none).run Tryz.prog X=.ok (.slice (some ⟨g,m*5,none⟩) 1 (cap - m)) X:=fun X=>by
  have z0:(0:Int)<=(m:Int):=by omega
  have z1:(m:Int)<=(G.length:Int):=by omega
  have z2:¬ cap=m:=by omega
  have z4:G.length - m=1:=by omega
  clear hgm hgn hmm
  go_simp
 rw [hmm]at hs2 ⊢;have HS1:=lh hs1;have HS2:=lh hs2;have HSL:=lh hsl;have HO:=lh h;have HLC:=lh hlc;have HGN:=lh hgn;clear hs1 hs2 hsl hg h hcm h1 hmm hgm hgn hlc;go_enter Tryz.func181,Tryz.ntmps181;go_upto_region 5 with fail
 refine wp_region_once 6 (fun d X9=>Fr w X9 (fun k=>k=g)/\(d=false->Below w.heap.size w X9)) (fun X9 X'=>Below X9.heap.size X9 X') (fun X9 X'=>Fr X9 X' (fun k=>k=g)) [
  fun v9 _=>v9=(.slice (some ⟨g,0,none⟩) G.length cap),fun v9 _=>v9=.int .i64 (i:Int),fun v9 _=>v9=.slice (some ⟨g,0,none⟩) i cap,fun v9 _=>v9=(.slice (some ⟨g,0,none⟩) G.length cap),fun v9 _=>v9=.int .i64 ((i:Int)+1),fun v9 _=>v9=.slice sa (G.length - (i+1)) sc,fun v9 X9=>v9=.slice (some ⟨g,0,none⟩) m cap/\X9.ownsRow 0 141 5 (.slice (some ⟨g,0,none⟩) m cap) m ((G.eraseIdx i).flatMap fkL)/\Fr w X9 (fun k=>k=g)]
  (fun v9 X9=>v9=.slice (some ⟨g,0,none⟩) m cap/\X9.ownsRow 0 141 5 (.slice (some ⟨g,0,none⟩) m cap) m ((G.eraseIdx i).flatMap fkL)/\Fr w X9 (fun k=>k=g)) rfl (by kernel_rfl) (by kernel_rfl) (by kernel_rfl) (by kernel_rfl) ?st ?stm ?g0 (by decide) ?os ?la ?en
 case st=>
  iterate 6 refine⟨fun _ _ _ _ h=>h,?_⟩
  refine⟨fun _ _ _ hs ⟨e,o1,o2⟩=>⟨e,own_below o1 hs,o2.below hs⟩,?_⟩;exact trivial
 case stm=>exact⟨fun _ _ _ _ h=>h,fun _ _ _ _ h=>h,fun _ _ _ _ h=>h,fun _ _ _ _ h=>h,fun _ _ _ _ h=>h,fun _ _ _ _ h=>h,fun _ _ _ _ h=>h,trivial⟩
 case g0=>exact⟨⟨rfl,rfl,rfl,Nat.le_refl _,fun _ _ _=>rfl⟩,fun _=>⟨rfl,rfl,rfl,Nat.le_refl _,fun _ _=>rfl⟩⟩
 case os =>
  refine⟨?_,?_,?_,?_,?_,?_,?_,trivial⟩
  ·exact⟨rfl,fun _ ρ X9 d hg ho hc hf hr=>Runs.val _ (op_move (show ρ (.tmp 0)=(.slice (some ⟨g,0,none⟩) G.length cap)from ho 0 rfl)) ⟨hg,Below.refl _ _,rfl⟩,fun e=>absurd e (by decide)⟩
  ·exact⟨rfl,fun _ ρ X9 d hg ho hc hf hr=>Runs.val _ (op_move (show ρ (.tmp 1)=.int .i64 (i:Int)from ho 1 rfl)) ⟨hg,Below.refl _ _,rfl⟩,fun e=>absurd e (by decide)⟩
  ·exact⟨rfl,fun _ ρ X9 d hg ho hc hf hr=>Runs.val _ (op_slice62hi (show ρ (.tmp 20)=(.slice (some ⟨g,0,none⟩) G.length cap)from hr 0 20 rfl rfl) (show ρ (.tmp 21)=.int .i64 (i:Int)from hr 1 21 rfl rfl) HSL.out) ⟨hg,Below.refl _ _,rfl⟩,fun e=>absurd e (by decide)⟩
  ·exact⟨rfl,fun _ ρ X9 d hg ho hc hf hr=>Runs.val _ (op_move (show ρ (.tmp 0)=(.slice (some ⟨g,0,none⟩) G.length cap)from ho 0 rfl)) ⟨hg,Below.refl _ _,rfl⟩,fun e=>absurd e (by decide)⟩
  ·exact⟨rfl,fun _ ρ X9 d hg ho hc hf hr=>Runs.val _ (op_move (show ρ (.tmp 2)=.int .i64 ((i:Int)+1)from ho 2 rfl)) ⟨hg,Below.refl _ _,rfl⟩,fun e=>absurd e (by decide)⟩
  ·exact⟨rfl,fun _ ρ X9 d hg ho hc hf hr=>Runs.val _ (op_slice62lo (show ρ (.tmp 23)=(.slice (some ⟨g,0,none⟩) G.length cap)from hr 3 23 rfl rfl) (show ρ (.tmp 24)=.int .i64 ((i:Int)+1)from hr 4 24 rfl rfl) HS1.out) ⟨hg,Below.refl _ _,rfl⟩,fun e=>absurd e (by decide)⟩
  ·refine⟨rfl,fun e=>absurd rfl e,fun _ ρ X9 hg ho hc hf hr=>?_⟩;obtain⟨w9,hrun,o9,f9⟩:=HS2.out X9 (own_below HO.out (hg.2 rfl));exact Runs.val _ (op_append62 (show ρ (.tmp 22)=.slice (some ⟨g,0,none⟩) i cap from hr 2 22 rfl rfl) (show ρ (.tmp 25)=.slice sa (G.length - (i+1)) sc from hr 5 25 rfl rfl) hrun) ⟨⟨hg.1.trans f9,fun z=>by cases z⟩,f9,rfl,o9,hg.1.trans f9⟩
 case la =>
  refine⟨rfl,fun ρ X9 hg ho hc hf hr=>?_⟩;obtain⟨e,o1,o2⟩:(ρ (.tmp 26))=.slice (some ⟨g,0,none⟩) m cap/\X9.ownsRow 0 141 5 (.slice (some ⟨g,0,none⟩) m cap) m ((G.eraseIdx i).flatMap fkL)/\Fr w X9 (fun k=>k=g):=hr 6 26 (by decide) rfl;exact Runs.val _ (op_assign e) ⟨rfl,o1,o2⟩
 case en =>
  intro a X9 Xb v9 hF hs hd ho hv9 hr;obtain⟨x,hx,hxt⟩:=act_put hs hd ho;obtain⟨e9,o9,f9⟩:=hF;have x0:x 0=.slice (some ⟨g,0,none⟩) m cap:=((hxt 0).symm.trans (hv9 0 rfl)).trans e9;change a=putAll _ x [20,21,22,23,24,25,26,0]at hx;simp only [putAll,Act.put,List.setIfInBounds_toArray,List.set_cons_zero,List.set_cons_succ,x0]at hx;obtain⟨cur,jg,_,_,hsz,_⟩:=row_blk o9;have hcl:=fun ty=>clear_run33 (w:=X9) (g:=g) (o:=m*5) (cap:=cap - m) ty jg (by have z1:=HLC.out;have z2:=HGN.out;omega);obtain⟨k1,k2⟩:=own_clearK o9 (by have z1:=HLC.out;have z2:=HGN.out;omega);have HA:Hid ((X9.setCells g (m*5) zKL).ownsRow 0 141 5 (.slice (some ⟨g,0,none⟩) m cap) m ((G.eraseIdx i).flatMap fkL)/\Fr w (X9.setCells g (m*5) zKL) (fun k=>k=g)):=⟨k1,f9.trans k2⟩
  clear hs hd ho hr hv9 hxt x0 e9 o9 f9 jg hsz k1 k2;subst hx;go_wp2_with (at_builtin;refine wpl_clear _ rfl (hcl _) ?_)
  refine bodyPost_ret (v:=.slice (some ⟨g,0,none⟩) m cap) (by simp [results,Tryz.results181,go_sem]) rfl ?_;exact⟨rfl,HA.out⟩
end
end Go.Proofs.YtkhehikaemdnnaaGreat
