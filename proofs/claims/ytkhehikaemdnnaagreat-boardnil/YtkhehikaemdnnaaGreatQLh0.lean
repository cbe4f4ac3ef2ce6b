import Derived.Test.YtkhehikaemdnnaaGreatQLb
import Derived.Test.YtkhehikaemdnnaaGreatQKz
import Derived.ArgAppend
import Derived.Test.YtkhehikaemdnnaaGreatQKn
namespace Go.Proofs.YtkhehikaemdnnaaGreat
open Go.RowKit Go.Maps
section
variable {w : World}
theorem run_run{rv:Value}{L:List Nat}{Y x:Nat}(h:RunL w rv L)(hY:w.cell? ⟨Y,0,none⟩=some (.int .i64 (x:Int)))(hz:L.length<=1000000):∃ ad cap w',(Builtin.append_ #[85,85] 85 #[rv,.slice (some ⟨Y,0,none⟩) 1 1]).run Tryz.prog w=.ok (.slice ad (L.length+1) cap) w'/\RunL w' (.slice ad (L.length+1) cap) (L ++ [x])/\Fr w w' (fun k=>RunBlk rv k)/\∀ k,RunBlk (.slice ad (L.length+1) cap) k->RunBlk rv k\/w.heap.size<=k:=by
 obtain⟨i0,hi,hz0,hz1,hz2⟩:=info_parts info3;have hnews:∀ (W:World),(∀ a,W.cell? a=w.cell? a)->∀ (j:Nat) (u:Value),([Value.int .i64 (x:Int)]:List Value)[j]?=some u->W.cell? ((⟨Y,0,none⟩:Addr).add j)=some u:=fun W hW j u hu=>by
  rcases j with _ | j
  ·rw [add_at,hW];simp only [List.getElem?_cons_zero,Option.some.injEq]at hu;rw [<-hu];exact hY
  ·simp at hu
 have fresh:∀ (ols:List Value) (c:Nat),(∀ (i:Nat) (hi:i<L.length),ols[i]?=some (.int .i64 (L[i]:Int)))->ols.length=L.length->L.length+1<=c->c<=maxLen->RunL (w.drew.alloc (.cells (ols.toArray ++ [Value.int .i64 (x:Int)].toArray ++ Builtin.zeroCells #[.int .i64 0] (c - (L.length+1))) 3)) (.slice (some ⟨w.heap.size,0,none⟩) (L.length+1) c) (L ++ [x]):=fun ols c ho hl h1 h2=>by
  refine⟨_,c,by rw [List.length_append,List.length_singleton],by rw [List.length_append,List.length_singleton];exact h1,h2,fun _=>⟨w.heap.size,0,_,rfl,heap_alloc_new w.drew _,?_,fun i hi=>?_⟩⟩
  ·simp only [Array.size_append,List.size_toArray,size_zeroCells,hl,List.length_singleton];omega
  ·rw [List.length_append,List.length_singleton]at hi;rw [Nat.zero_add,Array.getElem?_append_left (by simp [hl];omega)];by_cases q:i<L.length
   ·rw [Array.getElem?_append_left (by simp [hl];exact q),List.getElem_append_left q];simpa using ho i q
   ·have e:i=L.length:=by omega
    subst e;rw [Array.getElem?_append_right (by simp [hl])];simp [hl]
 obtain⟨ad,cap,rfl,h1,h2,h3⟩:=h;by_cases hroom:L.length+1<=cap
 ·obtain⟨g,o,cs,rfl,hg,hsz,hcs⟩:=h3 (by omega);have hr:=run_append_room_cells (P:=Tryz.prog) w 85 85 3 i0 Tryz.underlying85 hi g o L.length cap ⟨Y,0,none⟩ 1 1 [.int .i64 (x:Int)] (by rw [hz1];rfl) (hnews w fun _=>rfl) (fun u hu=>by rw [List.mem_singleton.1 hu];rfl) hroom
   (fun j hj=>by
    have hj':j=0:=by simpa using hj
    subst hj';rw [hz1,cell_blk hg,Array.getElem?_eq_getElem (by omega)];rfl) (fun j _=>frozen_blk hg _)
  rw [hz1,Nat.mul_one]at hr;have hs:w.setCells g (o+L.length) [.int .i64 (x:Int)]=w.setCell ⟨g,o+L.length,none⟩ (.int .i64 (x:Int)):=rfl;rw [hs]at hr;refine⟨_,_,_,hr,⟨_,cap,by rw [List.length_append,List.length_singleton],by rw [List.length_append,List.length_singleton];exact hroom,h2,fun _=>⟨g,o,_,rfl,set_blk hg _,by simpa using hsz,fun i hi=>?_⟩⟩,(Fr.refl w _).set (a:=⟨g,o+L.length,none⟩) (.inl ⟨o,_,cap,rfl,by omega⟩) _,fun k hk=>?_⟩
  ·rw [List.length_append,List.length_singleton]at hi;by_cases q:i<L.length
   ·rw [Array.getElem?_setIfInBounds_ne (by omega),List.getElem_append_left q];exact hcs i q
   ·have e:i=L.length:=by omega
    subst e;rw [Array.getElem?_setIfInBounds_self_of_lt (by omega)];simp
  ·obtain⟨o',n',c',e,q⟩:=hk;cases e;exact .inl ⟨_,_,_,rfl,q⟩
 ·have hlc:L.length=cap:=by omega
  have hgr:∀ (o:Obj),Fr w (w.drew.alloc o) (fun k=>RunBlk (.slice ad L.length cap) k):=fun o=>⟨rfl,rfl,rfl,by simp,fun k hk _=>heap_alloc_old w.drew _ hk⟩
  cases ad with
  | none =>
   have hc0:cap=0:=by
    rcases Nat.eq_zero_or_pos cap with q | q
    ·exact q
    ·obtain⟨g,o,cs,e,_⟩:=h3 q;cases e
   have hL:L=[]:=List.length_eq_zero_iff.1 (by omega);subst hL;subst hc0;have hr:=run_append_nil (P:=Tryz.prog) w 85 85 3 i0 _ Tryz.underlying85 hi hz0 ⟨Y,0,none⟩ 1 1 [.int .i64 (x:Int)] (by rw [hz1];rfl) (hnews w fun _=>rfl) (by omega) (by omega) (by rw [hz2];omega);have hf:=fresh [] (grownCap w 1 0 3) (fun i hi=>absurd hi (by simp)) rfl (grownCap_ge w 1 0 3) (grownCap_le_maxLen w 1 0 3 (by unfold maxLen;omega));simp only [List.length_nil,Nat.zero_add,List.nil_append]at hf ⊢;have e0:(([]:List Value).toArray ++ [Value.int .i64 (x:Int)].toArray)=[Value.int .i64 (x:Int)].toArray:=by simp
   rw [e0]at hf;refine⟨_,_,_,hr,hf,hgr _,fun k hk=>?_⟩;obtain⟨o',n',c',e,q⟩:=hk;cases e;exact .inr (Nat.le_refl _)
  | some a =>
   have hgro:∃ ols:List Value,ols.length=L.length/\(∀ (i:Nat) (hi:i<L.length),ols[i]?=some (.int .i64 (L[i]:Int)))/\∀ j u,ols[j]?=some u->w.cell? (a.add j)=some u:=by
    refine⟨L.map fun (i:Nat)=>Value.int .i64 (i:Int),by simp,fun i hi=>by simp [hi],fun j u hu=>?_⟩;rw [List.getElem?_map]at hu;obtain⟨y,hy,e⟩:=Option.map_eq_some_iff.1 hu;obtain⟨hj,hy⟩:=List.getElem?_eq_some_iff.1 hy;obtain⟨g,o,cs,ea,hg,_,hcs⟩:=h3 (by omega);cases ea;rw [add_at,cell_blk hg,hcs j hj,hy,e]
   obtain⟨ols,o1,o2,o3⟩:=hgro;have hr:=run_append_grow (P:=Tryz.prog) w 85 85 3 i0 _ Tryz.underlying85 hi hz0 a L.length cap ols (by rw [hz1,o1,Nat.mul_one]) o3 ⟨Y,0,none⟩ 1 1 [.int .i64 (x:Int)] (by rw [hz1];rfl) (hnews w fun _=>rfl) (by omega) (by omega) (growslice_fits (by omega) (by rw [hz2];omega));refine⟨_,_,_,hr,fresh ols _ o2 o1 (grownCap_ge w (L.length+1) cap 3) (grownCap_le_maxLen w (L.length+1) cap 3 (by unfold maxLen;omega)),hgr _,fun k hk=>?_⟩;obtain⟨o',n',c',e,q⟩:=hk;cases e;exact .inr (Nat.le_refl _)
def MapIs(w:World)(mv:Value)(js:List Jb):Prop:=(mv=.map none/\js=[])\/∃ m n,mv=.map (some m)/\n<=js.length/\Mt w m n (idOf js)
theorem MapIs.like{w':World}{mv:Value}{js:List Jb}(h:MapIs w mv js)(hb:∀ m,mv=.map (some m)->w'.heap[m]?=w.heap[m]?):MapIs w' mv js:=by
 rcases h with q | ⟨m,n,h1,h2,h3⟩
 ·exact .inl q
 ·exact .inr ⟨m,n,h1,h2,h3.like (hb m h1)⟩
theorem MapIs.lt{mv:Value}{js:List Jb}(h:MapIs w mv js):∀ m,mv=.map (some m)->m<w.heap.size:=by
 rintro m rfl;rcases h with q | ⟨m',n,h1,h2,h3⟩
 ·cases q.1
 ·cases h1;exact h3.lt
theorem Mt.same{w:World}{B n:Nat}{f f':Td->Option Value}(h:Mt w B n f)(hf:∀ t,f' t=f t):Mt w B n f':=by
 have:f'=f:=funext hf;rw [this];exact h
theorem map_put{m n:Nat}{js:List Jb}{j:Jb}(h:Mt w m n (idOf js))(hn:n<=js.length)(hz:js.length<=1000000)(ht:TdOk j.asker)(hid:j.id=(js.length:Int)+1)(hnew:js.findIdx? (fun x=>decide (x.asker=j.asker))=none):∃ w',(Instr.mapUpdate 86 (.map (some m)) (tdV j.asker) (.int .i64 j.id)).run Tryz.prog w=.ok () w'/\Mt w' m (n+1) (idOf (js ++ [j]))/\w.grownBy w' (some m):=by
 obtain⟨w',h1,h2,h3⟩:=h.put Tryz.underlying86 (by unfold maxLen;omega) ht (.int .i64 j.id);refine⟨w',h1,h2.same fun t=>?_,h3⟩;rw [idOf_add js j hnew,hid]
end
section
variable {ρ : Operand -> Value} {X : World} {d : Option Tmp} {ty : TypeId} {ps : String} {af : Array Edge} {g : Option (Nat × Bool)}
theorem op_mapUpdate{T:TypeId}{x y z:Operand}{v1 v2 v3:Value}{X':World}(e:ρ x=v1)(e2:ρ y=v2)(e3:ρ z=v3)(h:(Instr.mapUpdate T v1 v2 v3).run Tryz.prog X=.ok () X'):(execOp ρ ⟨d,.mapUpdate T x y z,ty,ps,af,g⟩).run Tryz.prog X=.ok .skip X':=by
 simp only [execOp,e,e2,e3];simp [h]
theorem op_load86{x:Operand}{B i:Nat}{m:Option Nat}(e:ρ x=.pointer (some ⟨B,i,none⟩))(y:X.cell? ⟨B,i,none⟩=some (.map m)):(execOp ρ ⟨d,.load 86 x,ty,ps,af,g⟩).run Tryz.prog X=.ok (.value (.map m)) X:=by
 simp only [execOp,e]
 go_simp
theorem op_s85{x:Operand}{n:Int}(e:ρ x=.int .i64 n):(execOp ρ ⟨d,.buildSlice 85 1 #[(0,x)],ty,ps,af,g⟩).run Tryz.prog X=.ok (.value (.slice (some ⟨X.heap.size,0,none⟩) 1 1)) (X.alloc (.cells #[.int .i64 n] 3)):=by
 simp only [execOp];simp [e]
 go_simp
theorem op_s32{x:Operand}{c:Jb}{a:Option Addr}{n m:Nat}(e:ρ x=.agg (jbA c (.slice a n m))):(execOp ρ ⟨d,.buildSlice 32 1 #[(0,x)],ty,ps,af,g⟩).run Tryz.prog X=.ok (.value (.slice (some ⟨X.heap.size,0,none⟩) 1 1)) (X.alloc (.cells (jbA c (.slice a n m)) 66)):=by
 simp only [execOp];simp [e]
 go_simp
end
end Go.Proofs.YtkhehikaemdnnaaGreat
namespace Go.Proofs.YtkhehikaemdnnaaGreat
open Go.RowKit
abbrev jrow(x:Jb × Value):List Value:=jbL x.1 x.2
theorem jrow_len(x:Jb × Value):(jrow x).length=22:=rfl
section
variable {w w' : World}
theorem own_ty{b:Nat}{e:TypeId}{c:Nat}{v:Value}{n:Nat}{xs:List Value}(h:w.ownsRow b e c v n xs){g:Nat}(hg:v.ownBlock=some g):∃ cs,w.heap[g]?=some (.cells cs e (0,0)):=by
 rcases h.2 with q | ⟨g',cap,cur,hv,h0,hg',r⟩
 ·rw [q.1]at hg;cases hg
 ·rw [hv]at hg;cases hg;exact⟨cur,hg'⟩
theorem run_ty{rv:Value}{L:List Nat}(h:RunL w rv L){g:Nat}(hg:RunBlk rv g):∃ cs,w.heap[g]?=some (.cells cs 3 (0,0)):=by
 obtain⟨o,n,c,rfl,q⟩:=hg;obtain⟨ad,cap,e,h1,h2,h3⟩:=h;cases e;obtain⟨g',o',cs,e,h,_⟩:=h3 q;cases e;exact⟨cs,h⟩
theorem run_lt{rv:Value}{L:List Nat}(h:RunL w rv L){g:Nat}(hg:RunBlk rv g):g<w.heap.size:=by
 obtain⟨_,h⟩:=run_ty h hg;exact blk_lt h
theorem ty_ne{a b:Nat}{c1 c2:Array Value}{t1 t2:TypeId}{f1 f2:Nat × Nat}(h1:w.heap[a]?=some (.cells c1 t1 f1))(h2:w.heap[b]?=some (.cells c2 t2 f2))(ht:t1≠t2):a≠b:=by
 rintro rfl;rw [h1]at h2;simp only [Option.some.injEq,Obj.cells.injEq]at h2;exact ht h2.2.1
theorem map_ne{a b:Nat}{c1:Array Value}{t1:TypeId}{f1:Nat × Nat}{n:Nat}{f:Td->Option Value}(h1:w.heap[a]?=some (.cells c1 t1 f1))(h2:Mt w b n f):a≠b:=by
 rintro rfl;obtain⟨es,ck,h⟩:=h2.isMap;rw [h1]at h;cases h
def TypN(T0:TypeId)(X X':World):Prop:=∃ T,Fr X X' T/\∀ k,T k->∀ cs,X.heap[k]?≠some (.cells cs T0 (0,0))
theorem TypN.refl(T0:TypeId)(X:World):TypN T0 X X:=⟨fun _=>False,Fr.refl _ _,fun _ q=>q.elim⟩
theorem TypN.on{T0:TypeId}{X X':World}(h:Below X.heap.size X X'):TypN T0 X X':=⟨fun _=>False,Fr.ofBelow _ h,fun _ q=>q.elim⟩
theorem own_typN{b:Nat}{T0:TypeId}{c:Nat}{v:Value}{n:Nat}{xs:List Value}(h:w.ownsRow b T0 c v n xs)(k:TypN T0 w w'):w'.ownsRow b T0 c v n xs:=by
 obtain⟨T,hf,ht⟩:=k;refine own_blk h fun g hg hl=>hf.block g hl fun q=>?_;obtain⟨cs,hc⟩:=own_ty h hg;exact ht g q cs hc
def EntAns(w:World)(B:Nat)(s0 s1:Int)(tv lv jvs rv mv:Value)(J:List (Jb × Value))(RX:List Nat)(j:Jb)(e:Ending)(w':World):Prop:=e=.returned (.tuple #[])/\∃ jvs' rv' mv' cv',w'.heap[B]?=some (.cells (bdA s0 s1 tv lv jvs' rv' mv') 88 (0,0))/\MapIs w' mv' (J.map Prod.fst ++ [j])/\w'.ownsRow 0 66 22 jvs' (J.length+1) ((J ++ [(j,cv')]).flatMap jrow)/\RunL w' rv' RX/\w'.ownsRow w.heap.size 56 7 cv' j.ddl.cols.length (j.ddl.cols.flatMap colL)/\(∀ k,jvs'.ownBlock=some k->jvs.ownBlock=some k\/w.heap.size<=k)/\(∀ k,RunBlk rv' k->RunBlk rv k\/w.heap.size<=k)/\(∀ m,mv'=.map (some m)->mv=.map (some m)\/w.heap.size<=m)/\Fr w w' (fun k=>k=B\/jvs.ownBlock=some k\/RunBlk rv k\/mv=.map (some k))
theorem size38:(Tryz.prog.info? 38).map (·.size)=some 3:=by kernel_rfl
theorem oneJb(j:Jb)(a:Option Addr)(n c:Nat):∀ u ∈ jbL j (.slice a n c),u.oneCell'=true:=by
 intro u hu;simp only [jbL,List.mem_cons,List.not_mem_nil,or_false]at hu;rcases hu with h | h | h | h | h | h | h | h | h | h | h | h | h | h | h | h | h | h | h | h | h | h <;> rw [h] <;> rfl
end
theorem orm{a b c d:Prop}(h:a\/b)(f:a->c)(g:b->d):c\/d:=by
 rcases h with h | h
 ·exact .inl (f h)
 ·exact .inr (g h)
theorem wpl_op{P:Program}{w:World}{ops:Array Oper}{rest:List Oper}{d:Option Tmp}{op:Op}{ty:TypeId}{ps:String}{af:Array Edge}{a:Act}{Q:Exit->Act->World->Prop}(v':Value)(_h:d=d)(hrun:(execOp a.eval ⟨d,op,ty,ps,af,none⟩).run P w=.ok (.value v') w)(h:wpList P ops Q rest (a.put d v') w):wpList P ops Q (⟨d,op,ty,ps,af,none⟩ :: rest) a w:=by
 refine wpList_plain (o:=⟨d,op,ty,ps,af,none⟩) rfl fun K hK=>?_;unfold Oper.wp;rw [hrun];exact hK _ _ h
section
variable {ρ : Operand -> Value} {X : World} {d : Option Tmp} {ty : TypeId} {ps : String} {af : Array Edge} {g : Option (Nat × Bool)}
theorem op_isnil86{x y:Operand}{a:Option Nat}(e:ρ x=.map a)(e2:ρ y=.map none):(execOp ρ ⟨d,.binOp .eql 86 x y 86,ty,ps,af,g⟩).run Tryz.prog X=.ok (.value (.bool a.isNone)) X:=by
 have h:Sem.run Tryz.prog (do eqGuard .eql 86 x y (.map a) (.map none);binOp .eql 86 (.map a) (.map none)) X=.ok (.bool a.isNone) X:=by
  cases a <;> kernel_rfl
 simp only [execOp,e,e2,Sem.run_bind]at h ⊢;rw [h];rfl
end
end Go.Proofs.YtkhehikaemdnnaaGreat
