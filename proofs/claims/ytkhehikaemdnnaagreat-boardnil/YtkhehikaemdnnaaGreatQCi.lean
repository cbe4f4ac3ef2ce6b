import Derived.Test.YtkhehikaemdnnaaGreatQCg
namespace Go.Proofs.YtkhehikaemdnnaaGreat
set_option maxHeartbeats 400000
open Go.RowKit Go.Maps
theorem freshC_snoc:∀ (l:List Col) (k:Int) (x:Col),freshC k (l ++ [x])=freshC k l ++ [⟨k+l.length,x.nm,x.kd,3,⟨0,0,⟨#[]⟩⟩⟩]
 | [],k,x=>by simp [freshC]
 | c :: l,k,x=>by
  rw [List.cons_append,freshC,freshC_snoc l,freshC,List.cons_append,List.length_cons];have:k+1+(l.length:Int)=k+((l.length+1:Nat):Int):=by omega
  rw [this]
theorem freshC_len:∀ (l:List Col) (k:Int),(freshC k l).length=l.length
 | [],_=>rfl
 | c :: l,k=>by rw [freshC,List.length_cons,List.length_cons,freshC_len l]
section
variable {w : World}
theorem give_big{A:Nat}{s:Sc}{tv:Value}(hA:w.heap[A]?=some (.cells (scA s tv) 30 (0,0)))(hl:0<=s.last/\s.last<=1152921504606846976):Calls Tryz.prog 162 #[.pointer (some ⟨A,0,none⟩)] w fun e w'=>e=.returned (.int .i64 (s.last+1))/\w'=w.setCell ⟨A,1,none⟩ (.int .i64 (s.last+1)):=by
 have c1:w.cell? ⟨A,1,none⟩=some (.int .i64 s.last):=cell_blk hA 1;have f1:w.frozen? ⟨A,1,none⟩=false:=frozen_blk hA 1;have h1:-9223372036854775808<=s.last+1:=by omega
 have h2:s.last+1<=9223372036854775807:=by omega
 obtain⟨l,hl'⟩:∃ l,s.last=l:=⟨_,rfl⟩
 rw [hl']at c1 h1 h2 ⊢;clear hl hl' hA;go_enter Tryz.func162,Tryz.ntmps162;go_wp2;go_ret;exact⟨rfl,rfl⟩
end
def GL(V1:World)(A Q:Nat)(oldA newA tq:Array Value)(cv:Value)(y:Col)(L:List Col)(b3 b9 b10 b12:Bool)(X:World):Prop:=match b9,b10,b12 with
 | false,_,_=>Fr V1 X (fun k=>k=A)/\X.heap.size=V1.heap.size/\X.heap[A]?=some (.cells (bif b3 then newA else oldA) 30 (0,0))
 | true,false,_=>∃ X0,X=X0.alloc (.cells (colA y) 56)/\Fr V1 X0 (fun k=>k=A)/\X0.heap[A]?=some (.cells newA 30 (0,0))/\X0.heap.size=V1.heap.size
 | true,true,false=>Fr V1 X (fun k=>k=A\/cv.ownBlock=some k)/\X.heap[A]?=some (.cells newA 30 (0,0))
 | true,true,true=>∃ ad cap,X.ownsRow 0 56 7 (.slice ad (L.length+1) cap) (L ++ [y]).length ((L ++ [y]).flatMap colL)/\(∀ k,(Value.slice ad (L.length+1) cap).ownBlock=some k->cv.ownBlock=some k\/V1.heap.size<=k)/\Fr V1 X (fun k=>k=A\/cv.ownBlock=some k\/k=Q)/\X.heap[A]?=some (.cells newA 30 (0,0))/\X.heap[Q]?=some (.cells (tq.setIfInBounds 2 (.slice ad (L.length+1) cap)) 64 (0,0))
def RL(V1:World)(cv:Value)(y:Col)(L:List Col)(v:Value)(X:World):Prop:=∃ ad cap,v=.slice ad (L.length+1) cap/\X.ownsRow 0 56 7 (.slice ad (L.length+1) cap) (L ++ [y]).length ((L ++ [y]).flatMap colL)/\∀ k,(Value.slice ad (L.length+1) cap).ownBlock=some k->cv.ownBlock=some k\/V1.heap.size<=k
section
variable {V1 X : World} {A Q : Nat} {oldA newA tq : Array Value} {cv : Value} {y : Col} {L : List Col} {b3 b9 b10 b12 : Bool}
theorem GL.cell(h:GL V1 A Q oldA newA tq cv y L b3 b9 b10 b12 X)(e:b10=false){B i:Nat}{v:Value}(hB:B≠A)(c:V1.cell? ⟨B,i,none⟩=some v):X.cell? ⟨B,i,none⟩=some v:=by
 subst e;have hl:B<V1.heap.size:=pt_lt c;have key:∀ X0,Fr V1 X0 (fun k=>k=A)->X0.cell? ⟨B,i,none⟩=some v:=fun X0 hf=>by
  unfold World.cell? at c ⊢;rw [hf.block B hl hB];exact c
 cases b9 with
 | false=>exact key X h.1
 | true =>
  obtain⟨X0,rfl,hf,_⟩:=h;exact cell_on (bnew _ _) (key X0 hf)
theorem GL.gave{v:Value}(h:GL V1 A Q oldA newA tq cv y L b3 b9 b10 b12 X)(h3:b3=false)(h9:b9=false)(hs:oldA.setIfInBounds 1 v=newA):GL V1 A Q oldA newA tq cv y L true b9 b10 b12 (X.setCell ⟨A,1,none⟩ v):=by
 subst h3 h9;obtain⟨hf,hz,ha⟩:=h;refine⟨Fr.set (S:=fun k=>k=A) (a:=⟨A,1,none⟩) hf (.inl rfl) v,by simp [World.setCell,hz],?_⟩;rw [set_blk ha,show(bif true then newA else oldA)=newA from rfl,show(bif false then newA else oldA)=oldA from rfl,hs]
theorem GL.built(h:GL V1 A Q oldA newA tq cv y L b3 b9 b10 b12 X)(h3:b3=true)(h9:b9=false)(h10:b10=false):GL V1 A Q oldA newA tq cv y L b3 true b10 b12 (X.alloc (.cells (colA y) 56))/\X.heap.size=V1.heap.size:=by
 subst h3 h9 h10;obtain⟨hf,hz,ha⟩:=h;exact⟨⟨X,rfl,hf,ha,hz⟩,hz⟩
theorem GL.pushed(h:GL V1 A Q oldA newA tq cv y L b3 b9 b10 b12 X)(h9:b9=true)(h10:b10=false)(h12:b12=false)(ho:V1.ownsRow 0 56 7 cv L.length (L.flatMap colL))(hA:V1.heap[A]?=some (.cells oldA 30 (0,0)))(hz:L.length<=1000):∃ v' X',(Builtin.append_ #[43,43] 43 #[cv,.slice (some ⟨V1.heap.size,0,none⟩) 1 1]).run Tryz.prog X=.ok v' X'/\RL V1 cv y L v' X'/\GL V1 A Q oldA newA tq cv y L b3 true true b12 X':=by
 subst h9 h10 h12;obtain⟨X0,rfl,hf,ha,hs⟩:=h;have hne:cv.ownBlock≠some A:=fun q=>by
  obtain⟨cs,tg⟩:=own_tag ho A q;rw [hA]at tg;simp only [Option.some.injEq,Obj.cells.injEq]at tg;exact absurd tg.2.1 (by decide)
 have ho0:=row_keep ho hf (fun k hk q=>hne (by rw [<-q];exact hk));obtain⟨ad,cap,X',hr,r1,r2,r3⟩:=pushC ho0 y (by omega);rw [hs]at hr;refine⟨_,X',hr,⟨ad,cap,rfl,r1,fun k hk=>?_⟩,(hf.mono (fun k hk=>.inl hk)).trans (r2.mono (fun k hk=>.inr hk)),?_⟩
 ·rcases r3 k hk with q | q
  ·exact .inl q
  ·exact .inr (by omega)
 ·rw [r2.block A (blk_lt ha) hne];exact ha
theorem GL.stored{ad:Option Addr}{cap:Nat}(h:GL V1 A Q oldA newA tq cv y L b3 b9 b10 b12 X)(h9:b9=true)(h10:b10=true)(h12:b12=false)(hQ:V1.heap[Q]?=some (.cells tq 64 (0,0)))(hA:V1.heap[A]?=some (.cells oldA 30 (0,0)))(ho:V1.ownsRow 0 56 7 cv L.length (L.flatMap colL))(r:X.ownsRow 0 56 7 (.slice ad (L.length+1) cap) (L ++ [y]).length ((L ++ [y]).flatMap colL))(r2:∀ k,(Value.slice ad (L.length+1) cap).ownBlock=some k->cv.ownBlock=some k\/V1.heap.size<=k):X.heap[Q]?=some (.cells tq 64 (0,0))/\GL V1 A Q oldA newA tq cv y L b3 b9 b10 true (X.setCell ⟨Q,2,none⟩ (.slice ad (L.length+1) cap)):=by
 subst h9 h10 h12;obtain⟨hf,ha⟩:=h;have hQA:Q≠A:=fun q=>by
  rw [q,hA]at hQ;simp only [Option.some.injEq,Obj.cells.injEq]at hQ;exact absurd hQ.2.1 (by decide)
 have hQc:cv.ownBlock≠some Q:=fun q=>by
  obtain⟨cs,tg⟩:=own_tag ho Q q;rw [hQ]at tg;simp only [Option.some.injEq,Obj.cells.injEq]at tg;exact absurd tg.2.1 (by decide)
 have hq:X.heap[Q]?=some (.cells tq 64 (0,0)):=(hf.block Q (blk_lt hQ) (fun z=>by rcases z with z | z;exact hQA z;exact hQc z)).trans hQ;refine⟨hq,ad,cap,own_off (by decide) hq r,r2,Fr.set (S:=fun k=>k=A\/cv.ownBlock=some k\/k=Q) (a:=⟨Q,2,none⟩) (hf.mono (fun k hk=>by rcases hk with z | z;exact .inl z;exact .inr (.inl z))) (.inl (.inr (.inr rfl))) _,?_,set_blk hq _⟩;rw [set_other (a:=⟨Q,2,none⟩) _ (fun z=>hQA z.symm)];exact ha
end
end Go.Proofs.YtkhehikaemdnnaaGreat
