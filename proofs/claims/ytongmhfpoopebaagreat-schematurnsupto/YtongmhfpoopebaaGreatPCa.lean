import Derived.Test.YtongmhfpoopebaaGreatPBy
import Derived.Test.YtongmhfpoopebaaGreatPUs
namespace Go.Proofs.YtongmhfpoopebaaGreat
open Go.RowKit Go.Maps
section
variable {ρ : Operand → Value} {X : World} {d : Option Tmp} {ty : TypeId} {ps : String} {af : Array Edge} {g : Option (Nat × Bool)}
theorem op_make1 {f:FuncId} {x:Operand} {u:Value} (hm:∀ X:World,(Instr.makeFunc (.func f) #[] #[u]).run Tryz.prog X=.ok (.func (.func f) #[] #[u]) X) (e:ρ x=u):(execOp ρ ⟨d,.makeFunc (.func f) #[] #[x],ty,ps,af,g⟩).run Tryz.prog X=.ok (.value (.func (.func f) #[] #[u])) X:=by
 simp only [execOp]
 simp [e,hm]
theorem op_make2 {f:FuncId} {x y:Operand} {u v:Value} (hm:∀ X:World,(Instr.makeFunc (.func f) #[] #[u,v]).run Tryz.prog X=.ok (.func (.func f) #[] #[u,v]) X) (e:ρ x=u) (e2:ρ y=v):(execOp ρ ⟨d,.makeFunc (.func f) #[] #[x,y],ty,ps,af,g⟩).run Tryz.prog X=.ok (.value (.func (.func f) #[] #[u,v])) X:=by
 simp only [execOp]
 simp [e,e2,hm]
theorem op_make3 {f:FuncId} {x y z:Operand} {u v t:Value} (hm:∀ X:World,(Instr.makeFunc (.func f) #[] #[u,v,t]).run Tryz.prog X=.ok (.func (.func f) #[] #[u,v,t]) X) (e:ρ x=u) (e2:ρ y=v) (e3:ρ z=t):(execOp ρ ⟨d,.makeFunc (.func f) #[] #[x,y,z],ty,ps,af,g⟩).run Tryz.prog X=.ok (.value (.func (.func f) #[] #[u,v,t])) X:=by
 simp only [execOp]
 simp [e,e2,e3,hm]
theorem op_extract0 {x:Operand} {u v:Value} (e:ρ x=.tuple #[u,v]):(execOp ρ ⟨d,.extract x 0,ty,ps,af,g⟩).run Tryz.prog X=.ok (.value u) X:=by
 simp only [execOp,e]
 go_simp
theorem op_extract1 {x:Operand} {u v:Value} (e:ρ x=.tuple #[u,v]):(execOp ρ ⟨d,.extract x 1,ty,ps,af,g⟩).run Tryz.prog X=.ok (.value v) X:=by
 simp only [execOp,e]
 go_simp
theorem op_call5 {f:FuncId} {x0 x1 x2 x3 x4:Operand} {v0 v1 v2 v3 v4:Value} {at':Array TypeId} (hf:∀ f,ρ (.func f)=.func (.func f) #[] #[]) (hc:Sem.run Tryz.prog (callFunc f #[v0,v1,v2,v3,v4]) X=.ok (.enter f #[v0,v1,v2,v3,v4]) X) (e0:ρ x0=v0) (e1:ρ x1=v1) (e2:ρ x2=v2) (e3:ρ x3=v3) (e4:ρ x4=v4):(execOp ρ ⟨d,.call { callee:=.value (.func f),args:=#[x0,x1,x2,x3,x4],argTypes:=at' },ty,ps,af,g⟩).run Tryz.prog X=.ok (.enter f #[v0,v1,v2,v3,v4]) X:=by
 simp only [execOp]
 simp [resolve,hf,e0,e1,e2,e3,e4,Deferred.ofValue,invoke,hc]
end
structure Df (w:World) (B A:Nat) (s:Sc) (G:List Gt) (tv:Value):Prop where
 ob:w.heap[A]?=some (.cells (scA s tv) 24 (0,0))
 dr:Dr w B G tv
 tabs:G.map Prod.fst=s.tabs
 hA:B≤A
def ChAns (w:World) (B A:Nat) (s:Sc) (res:Except Int Sc) (e:Ending) (w':World):Prop:=match res with
 | .error er=>e=.returned (.int .i64 er)∧er≠0∧Below B w w'
 | .ok s'=>e=.returned (.int .i64 0)∧(∃ G' tv',Df w' B A ⟨s.ver,s'.last,s'.tabs⟩ G' tv')∧Below B w w'
theorem ChAns.intro_err {w:World} {B A:Nat} {s:Sc} {res:Except Int Sc} {er:Int} {w':World} (h:res=.error er) (hn:er≠0) (hb:Below B w w'):ChAns w B A s res (.returned (.int .i64 er)) w':=by
 rw [h]
 exact ⟨rfl,hn,hb⟩
def erA {α:Type} (res:Except Int α):Int:=match res with
 | .error e=>e
 | .ok _=>0
def chA {α:Type} (f:List α→Bool→Sc) (res:Except Int (List α × Bool)):Except Int Sc:=match res with
 | .error e=>.error e
 | .ok (l,b)=>.ok (f l b)
def chD {α:Type} (f:List α→Sc) (res:Except Int (List α)):Except Int Sc:=match res with
 | .error e=>.error e
 | .ok l=>.ok (f l)
theorem set_take {α:Type} {l:List α} {i:Nat} (h:i<l.length) (y:α):l.take i ++ [y] ++ l.drop (i+1)=l.set i y:=by
 rw [List.set_eq_take_append_cons_drop,if_pos h]
 simp
theorem tab_row {w X:World} {G:List Gt} {TB cap:Nat} {cT:Array Value} {i j:Nat} {u:Value} {y:Gt} (h:w.ownsRow 0 35 5 (.slice (some ⟨TB,0,none⟩) G.length cap) G.length (G.flatMap gL)) (hT:w.heap[TB]?=some (.cells cT 35 (0,0))) (hi:i<G.length) (hj:j<5) (hX:X.heap[TB]?=some (.cells (cT.setIfInBounds (i*5+j) u) 35 (0,0))) (hy:gL y=(gL G[i]).set j u):X.ownsRow 0 35 5 (.slice (some ⟨TB,0,none⟩) G.length cap) G.length ((G.set i y).flatMap gL):=by
 have h1:=row_setc h (i*5+j) u
 rw [fl_set gL_len hi hj hy,set_take hi] at h1
 refine own_like h1 (fun k hk=>?_)
 cases hk
 rw [hX,set_blk hT]
def GC (V:World) (TB off Y:Nat) (cT:Array Value) (tp:Value) (er:Int) (Post:Value→World→Prop) (b1 b2:Bool) (X:World):Prop:=match b1,b2 with
 | false,_=>Below V.heap.size V X
 | true,false=>X.heap[TB]?=some (.cells cT 35 (0,0))∧X.cell? ⟨Y,0,none⟩=some tp
 | true,true=>∃ ad n cap X4,Post (.tuple #[.slice ad n cap,.int .i64 er]) X4∧Fr X4 X (fun k=>k=TB)∧X.heap[TB]?=some (.cells (cT.setIfInBounds off (.slice ad n cap)) 35 (0,0))
def RT (TB:Nat) (er:Int) (Post:Value→World→Prop) (v:Value) (X:World):Prop:=∃ ad n cap X4,v=.tuple #[.slice ad n cap,.int .i64 er]∧Post (.tuple #[.slice ad n cap,.int .i64 er]) X4∧Fr X4 X (fun k=>k=TB)
def RS (TB:Nat) (er:Int) (Post:Value→World→Prop) (v:Value) (X:World):Prop:=∃ ad n cap X4,v=.slice ad n cap∧Post (.tuple #[.slice ad n cap,.int .i64 er]) X4∧Fr X4 X (fun k=>k=TB)
theorem RT.go {TB:Nat} {er:Int} {Post:Value→World→Prop} {v:Value} {X X':World} (h:RT TB er Post v X) (k:Fr X X' (fun k=>k=TB)):RT TB er Post v X':=by
 obtain ⟨a,n,c,X4,e,p,f⟩:=h
 exact ⟨a,n,c,X4,e,p,f.trans k⟩
theorem RS.go {TB:Nat} {er:Int} {Post:Value→World→Prop} {v:Value} {X X':World} (h:RS TB er Post v X) (k:Fr X X' (fun k=>k=TB)):RS TB er Post v X':=by
 obtain ⟨a,n,c,X4,e,p,f⟩:=h
 exact ⟨a,n,c,X4,e,p,f.trans k⟩
theorem GC.early {V X:World} {TB off Y:Nat} {cT:Array Value} {tp:Value} {er:Int} {Post:Value→World→Prop} {b1 b2:Bool} (h:GC V TB off Y cT tp er Post b1 b2 X) (e:b1=false):Below V.heap.size V X:=by
 subst e
 exact h
theorem GC.box {V X:World} {TB off Y:Nat} {cT:Array Value} {tp:Value} {er:Int} {Post:Value→World→Prop} {b1 b2:Bool} (h:GC V TB off Y cT tp er Post b1 b2 X) (e:b2=false) (hY:V.cell? ⟨Y,0,none⟩=some tp):X.cell? ⟨Y,0,none⟩=some tp:=by
 subst e
 cases b1 with
 | false=>exact cell_on h hY
 | true=>exact h.2
theorem GC.blk {V X:World} {TB off Y:Nat} {cT:Array Value} {tp:Value} {er:Int} {Post:Value→World→Prop} {b1 b2:Bool} (h:GC V TB off Y cT tp er Post b1 b2 X) (e1:b1=true) (e2:b2=false):X.heap[TB]?=some (.cells cT 35 (0,0)):=by
 subst e1 e2
 exact h.1
end Go.Proofs.YtongmhfpoopebaaGreat
