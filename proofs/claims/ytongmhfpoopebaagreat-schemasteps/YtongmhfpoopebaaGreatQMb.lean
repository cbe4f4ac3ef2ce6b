import Derived.Test.YtongmhfpoopebaaGreatQSc
import Derived.Test.YtongmhfpoopebaaGreatQNb
import Derived.Test.YtongmhfpoopebaaGreatQBx
import Derived.Test.YtongmhfpoopebaaGreatQUs
namespace Go.Proofs.YtongmhfpoopebaaGreat
open Go.RowKit
section
variable {ρ : Operand → Value} {X : World} {d : Option Tmp} {ty : TypeId} {ps : String} {af : Array Edge} {g : Option (Nat × Bool)}
theorem op_none29:(execOp ρ ⟨d,.buildSlice 29 0 #[],ty,ps,af,g⟩).run Tryz.prog X=.ok (.value (.slice (some ⟨X.heap.size,0,none⟩) 0 0)) (X.alloc (.cells #[] 50)):=by
 simp only [execOp]
 go_simp
theorem op_none32:(execOp ρ ⟨d,.buildSlice 32 0 #[],ty,ps,af,g⟩).run Tryz.prog X=.ok (.value (.slice (some ⟨X.heap.size,0,none⟩) 0 0)) (X.alloc (.cells #[] 71)):=by
 simp only [execOp]
 go_simp
theorem op_none33:(execOp ρ ⟨d,.buildSlice 33 0 #[],ty,ps,af,g⟩).run Tryz.prog X=.ok (.value (.slice (some ⟨X.heap.size,0,none⟩) 0 0)) (X.alloc (.cells #[] 74)):=by
 simp only [execOp]
 go_simp
theorem op_add3m {x y:Operand} {n m r:Int} (e:ρ x=.int .i64 n) (e2:ρ y=.int .i64 m) (h:n+m=r) (h1:-9223372036854775808≤r) (h2:r≤9223372036854775807):(execOp ρ ⟨d,.binOp .add 3 x y 3,ty,ps,af,g⟩).run Tryz.prog X=.ok (.value (.int .i64 r)) X:=by
 subst h
 simp only [execOp,e,e2]
 go_simp
 rw [IntKind.wrap_i64]
 omega
end
def GWo (X0 X1 X2 X3 X4:World) (a b c d:Bool) (X:World):Prop:=X=bif d then X4 else bif c then X3 else bif b then X2 else bif a then X1 else X0
theorem cutC {X:World} {l:List Col} {b o cap k:Nat} (hl:Lr colE 7 X l (.slice (some ⟨b,o,none⟩) l.length cap)) (hk:k < l.length) (hz:l.length≤1000000) :
  ∃ sa sc,(∀ Y:World,(Instr.sliceAt 29 (.slice (some ⟨b,o,none⟩) l.length cap) none (some (.int .i64 (k:Int))) none).run Tryz.prog Y=.ok (.slice (some ⟨b,o,none⟩) k cap) Y) ∧
   (∀ Y:World,(Instr.sliceAt 29 (.slice (some ⟨b,o,none⟩) l.length cap) (some (.int .i64 ((k:Int)+1))) none none).run Tryz.prog Y=.ok (.slice sa (l.length - (k+1)) sc) Y) ∧
   ∃ a1 c1 X2 a2 c2 X3,(Builtin.append_ #[29,29] 29 #[.slice (some ⟨X.heap.size,0,none⟩) 0 0,.slice (some ⟨b,o,none⟩) k cap]).run Tryz.prog (X.alloc (.cells #[] 50))=.ok (.slice a1 k c1) X2 ∧
    (Builtin.append_ #[29,29] 29 #[.slice a1 k c1,.slice sa (l.length - (k+1)) sc]).run Tryz.prog X2=.ok (.slice a2 (l.length - 1) c2) X3 ∧
    X3.ownsRow X.heap.size 50 7 (.slice a2 (l.length - 1) c2) (l.take k ++ l.drop (k+1)).length ((l.take k ++ l.drop (k+1)).flatMap colL)∧Below X.heap.size X (X.alloc (.cells #[] 50))∧Below X.heap.size X X2∧Below X.heap.size X X3:=by
 obtain ⟨a0,c0,e,h0,h1,h2,h3⟩:=id hl
 cases e
 have hm:(cap:Int)≤9223372036854775807:=by unfold maxLen at h2;omega
 rcases Lr.src colL_len hl with ⟨q,_⟩ | ⟨a,ea,hlen,hc⟩
 ·cases q
 cases ea
 have hal:=bnew X (.cells #[] 50)
 have hj:=heap_alloc_new X (.cells #[] 50)
 have ho:(X.alloc (.cells #[] 50)).ownsRow X.heap.size 50 7 (.slice (some ⟨X.heap.size,0,none⟩) 0 0) 0 []:=⟨rfl,.inr ⟨X.heap.size,0,#[],rfl,Nat.le_refl _,hj,Nat.le_refl _,Nat.zero_le _,rfl,rfl⟩⟩
 have et:l.flatMap colL=(l.take k).flatMap colL ++ (l.drop k).flatMap colL:=by rw [← List.flatMap_append,List.take_append_drop]
 obtain ⟨a1,c1,X2,r1,o1,g1,_⟩:=run_col (m:=k) (c:=cap) (news:=(l.take k).flatMap colL) ho hal.size (.inr ⟨⟨b,o,none⟩,rfl,by rw [fl_len colL_len,List.length_take,Nat.min_eq_left (Nat.le_of_lt hk)],fun j u hu=>cell_on hal (hc j u (by
  rw [et,List.getElem?_append_left (List.getElem?_eq_some_iff.1 hu).1]
  exact hu))⟩) (oneC _) (by omega)
 rw [Nat.zero_add] at r1 o1
 rw [List.nil_append] at o1
 have b2:Below X.heap.size X X2:=hal.grown g1 hal.size (fun k hk=>by cases hk;exact Nat.le_refl _)
 have hel:(l.take k ++ l.drop (k+1)).length=l.length - 1:=by
  rw [List.length_append,List.length_take,List.length_drop]
  omega
 have hlo:∀ Y:World,(Instr.sliceAt 29 (.slice (some ⟨b,o,none⟩) l.length cap) none (some (.int .i64 (k:Int))) none).run Tryz.prog Y=.ok (.slice (some ⟨b,o,none⟩) k cap) Y:=fun Y=>by
  have z:(k:Int)≤(cap:Int):=by omega
  have z2:¬ cap=0:=by omega
  have z3:(0:Int)≤(k:Int):=by omega
  go_simp
 have q0:(0:Int)≤(k:Int)+1:=by omega
 have q1:(k:Int)+1≤(l.length:Int):=by omega
 have q2:((k:Int)+1).toNat=k+1:=by omega
 have q3:(l.length:Int)≤(cap:Int):=by omega
 have hn1:k+(l.length - (k+1))=l.length - 1:=by omega
 have fin:∀ {sa:Option Addr} {sc:Nat},((sa=none∧l.length - (k+1)=0∧sc=0∧(l.drop (k+1)).flatMap colL=[]) ∨ ∃ a,sa=some a∧((l.drop (k+1)).flatMap colL).length=(l.length - (k+1)) * 7∧(∀ j u,((l.drop (k+1)).flatMap colL)[j]?=some u→X2.cell? (a.add j)=some u))→∃ a2 c2 X3,(Builtin.append_ #[29,29] 29 #[.slice a1 k c1,.slice sa (l.length - (k+1)) sc]).run Tryz.prog X2=.ok (.slice a2 (l.length - 1) c2) X3 ∧
    X3.ownsRow X.heap.size 50 7 (.slice a2 (l.length - 1) c2) (l.take k ++ l.drop (k+1)).length ((l.take k ++ l.drop (k+1)).flatMap colL)∧Below X.heap.size X X3:=fun hs=>by
  obtain ⟨a2,c2,X3,r2,o2,g2,_⟩:=run_col (news:=(l.drop (k+1)).flatMap colL) o1 b2.size hs (oneC _) (by omega)
  rw [hn1] at r2 o2
  refine ⟨a2,c2,X3,r2,?_,b2.grown g2 b2.size (fun j hj=>(own_ge o1 j hj).1)⟩
  rw [hel,List.flatMap_append]
  exact o2
 by_cases hcp:cap=k+1
 ·have hn:l.length=k+1:=by omega
  have hd:l.drop (k+1)=[]:=List.drop_of_length_le (by omega)
  refine ⟨some ⟨b,o,none⟩,0,hlo,fun Y=>?_,a1,c1,X2,?_⟩
  ·have z:l.length - (k+1)=0:=by omega
   have z3:l.length=cap:=by omega
   rw [z]
   rw [z3,hcp] at *
   go_simp
  ·obtain ⟨a2,c2,X3,y1,y2,y3⟩:=fin (sa:=some ⟨b,o,none⟩) (sc:=0) (.inr ⟨_,rfl,by rw [hd,hn];simp,fun j u hu=>by rw [hd] at hu;simp at hu⟩)
   exact ⟨a2,c2,X3,r1,y1,y2,hal,b2,y3⟩
 ·refine ⟨some ⟨b,o+(k+1) * 7,none⟩,cap - (k+1),hlo,fun Y=>?_,a1,c1,X2,?_⟩
  ·have z2:¬ cap=k+1:=hcp
   go_simp
  ·obtain ⟨a2,c2,X3,y1,y2,y3⟩:=fin (sa:=some ⟨b,o+(k+1) * 7,none⟩) (sc:=cap - (k+1)) (.inr ⟨_,rfl,by rw [fl_len colL_len,List.length_drop],fun j u hu=>by
    rw [fl_drop colL_len l (k+1) hk] at hu
    have:=cell_on b2 (hc _ u hu)
    rw [add_at] at this ⊢
    rw [Nat.add_assoc]
    exact this⟩)
   exact ⟨a2,c2,X3,r1,y1,y2,hal,b2,y3⟩
theorem cutI {X:World} {l:List Ix} {b o cap k:Nat} (hl:Lr ixE 5 X l (.slice (some ⟨b,o,none⟩) l.length cap)) (hk:k < l.length) (hz:l.length≤1000000) :
  ∃ sa sc,(∀ Y:World,(Instr.sliceAt 32 (.slice (some ⟨b,o,none⟩) l.length cap) none (some (.int .i64 (k:Int))) none).run Tryz.prog Y=.ok (.slice (some ⟨b,o,none⟩) k cap) Y) ∧
   (∀ Y:World,(Instr.sliceAt 32 (.slice (some ⟨b,o,none⟩) l.length cap) (some (.int .i64 ((k:Int)+1))) none none).run Tryz.prog Y=.ok (.slice sa (l.length - (k+1)) sc) Y) ∧
   ∃ a1 c1 X2 a2 c2 X3,(Builtin.append_ #[32,32] 32 #[.slice (some ⟨X.heap.size,0,none⟩) 0 0,.slice (some ⟨b,o,none⟩) k cap]).run Tryz.prog (X.alloc (.cells #[] 71))=.ok (.slice a1 k c1) X2 ∧
    (Builtin.append_ #[32,32] 32 #[.slice a1 k c1,.slice sa (l.length - (k+1)) sc]).run Tryz.prog X2=.ok (.slice a2 (l.length - 1) c2) X3 ∧
    X3.ownsRow X.heap.size 71 5 (.slice a2 (l.length - 1) c2) (l.take k ++ l.drop (k+1)).length ((l.take k ++ l.drop (k+1)).flatMap ixL)∧Below X.heap.size X (X.alloc (.cells #[] 71))∧Below X.heap.size X X2∧Below X.heap.size X X3:=by
 obtain ⟨a0,c0,e,h0,h1,h2,h3⟩:=id hl
 cases e
 have hm:(cap:Int)≤9223372036854775807:=by unfold maxLen at h2;omega
 rcases Lr.src ixL_len hl with ⟨q,_⟩ | ⟨a,ea,hlen,hc⟩
 ·cases q
 cases ea
 have hal:=bnew X (.cells #[] 71)
 have hj:=heap_alloc_new X (.cells #[] 71)
 have ho:(X.alloc (.cells #[] 71)).ownsRow X.heap.size 71 5 (.slice (some ⟨X.heap.size,0,none⟩) 0 0) 0 []:=⟨rfl,.inr ⟨X.heap.size,0,#[],rfl,Nat.le_refl _,hj,Nat.le_refl _,Nat.zero_le _,rfl,rfl⟩⟩
 have et:l.flatMap ixL=(l.take k).flatMap ixL ++ (l.drop k).flatMap ixL:=by rw [← List.flatMap_append,List.take_append_drop]
 obtain ⟨a1,c1,X2,r1,o1,g1,_⟩:=run_ix (m:=k) (c:=cap) (news:=(l.take k).flatMap ixL) ho hal.size (.inr ⟨⟨b,o,none⟩,rfl,by rw [fl_len ixL_len,List.length_take,Nat.min_eq_left (Nat.le_of_lt hk)],fun j u hu=>cell_on hal (hc j u (by
  rw [et,List.getElem?_append_left (List.getElem?_eq_some_iff.1 hu).1]
  exact hu))⟩) (oneI _) (by omega)
 rw [Nat.zero_add] at r1 o1
 rw [List.nil_append] at o1
 have b2:Below X.heap.size X X2:=hal.grown g1 hal.size (fun k hk=>by cases hk;exact Nat.le_refl _)
 have hel:(l.take k ++ l.drop (k+1)).length=l.length - 1:=by
  rw [List.length_append,List.length_take,List.length_drop]
  omega
 have hlo:∀ Y:World,(Instr.sliceAt 32 (.slice (some ⟨b,o,none⟩) l.length cap) none (some (.int .i64 (k:Int))) none).run Tryz.prog Y=.ok (.slice (some ⟨b,o,none⟩) k cap) Y:=fun Y=>by
  have z:(k:Int)≤(cap:Int):=by omega
  have z2:¬ cap=0:=by omega
  have z3:(0:Int)≤(k:Int):=by omega
  go_simp
 have q0:(0:Int)≤(k:Int)+1:=by omega
 have q1:(k:Int)+1≤(l.length:Int):=by omega
 have q2:((k:Int)+1).toNat=k+1:=by omega
 have q3:(l.length:Int)≤(cap:Int):=by omega
 have hn1:k+(l.length - (k+1))=l.length - 1:=by omega
 have fin:∀ {sa:Option Addr} {sc:Nat},((sa=none∧l.length - (k+1)=0∧sc=0∧(l.drop (k+1)).flatMap ixL=[]) ∨ ∃ a,sa=some a∧((l.drop (k+1)).flatMap ixL).length=(l.length - (k+1)) * 5∧(∀ j u,((l.drop (k+1)).flatMap ixL)[j]?=some u→X2.cell? (a.add j)=some u))→∃ a2 c2 X3,(Builtin.append_ #[32,32] 32 #[.slice a1 k c1,.slice sa (l.length - (k+1)) sc]).run Tryz.prog X2=.ok (.slice a2 (l.length - 1) c2) X3 ∧
    X3.ownsRow X.heap.size 71 5 (.slice a2 (l.length - 1) c2) (l.take k ++ l.drop (k+1)).length ((l.take k ++ l.drop (k+1)).flatMap ixL)∧Below X.heap.size X X3:=fun hs=>by
  obtain ⟨a2,c2,X3,r2,o2,g2,_⟩:=run_ix (news:=(l.drop (k+1)).flatMap ixL) o1 b2.size hs (oneI _) (by omega)
  rw [hn1] at r2 o2
  refine ⟨a2,c2,X3,r2,?_,b2.grown g2 b2.size (fun j hj=>(own_ge o1 j hj).1)⟩
  rw [hel,List.flatMap_append]
  exact o2
 by_cases hcp:cap=k+1
 ·have hn:l.length=k+1:=by omega
  have hd:l.drop (k+1)=[]:=List.drop_of_length_le (by omega)
  refine ⟨some ⟨b,o,none⟩,0,hlo,fun Y=>?_,a1,c1,X2,?_⟩
  ·have z:l.length - (k+1)=0:=by omega
   have z3:l.length=cap:=by omega
   rw [z]
   rw [z3,hcp] at *
   go_simp
  ·obtain ⟨a2,c2,X3,y1,y2,y3⟩:=fin (sa:=some ⟨b,o,none⟩) (sc:=0) (.inr ⟨_,rfl,by rw [hd,hn];simp,fun j u hu=>by rw [hd] at hu;simp at hu⟩)
   exact ⟨a2,c2,X3,r1,y1,y2,hal,b2,y3⟩
 ·refine ⟨some ⟨b,o+(k+1) * 5,none⟩,cap - (k+1),hlo,fun Y=>?_,a1,c1,X2,?_⟩
  ·have z2:¬ cap=k+1:=hcp
   go_simp
  ·obtain ⟨a2,c2,X3,y1,y2,y3⟩:=fin (sa:=some ⟨b,o+(k+1) * 5,none⟩) (sc:=cap - (k+1)) (.inr ⟨_,rfl,by rw [fl_len ixL_len,List.length_drop],fun j u hu=>by
    rw [fl_drop ixL_len l (k+1) hk] at hu
    have:=cell_on b2 (hc _ u hu)
    rw [add_at] at this ⊢
    rw [Nat.add_assoc]
    exact this⟩)
   exact ⟨a2,c2,X3,r1,y1,y2,hal,b2,y3⟩
theorem cutK {X:World} {l:List Fk} {b o cap k:Nat} (hl:Lr fkE 5 X l (.slice (some ⟨b,o,none⟩) l.length cap)) (hk:k < l.length) (hz:l.length≤1000000) :
  ∃ sa sc,(∀ Y:World,(Instr.sliceAt 33 (.slice (some ⟨b,o,none⟩) l.length cap) none (some (.int .i64 (k:Int))) none).run Tryz.prog Y=.ok (.slice (some ⟨b,o,none⟩) k cap) Y) ∧
   (∀ Y:World,(Instr.sliceAt 33 (.slice (some ⟨b,o,none⟩) l.length cap) (some (.int .i64 ((k:Int)+1))) none none).run Tryz.prog Y=.ok (.slice sa (l.length - (k+1)) sc) Y) ∧
   ∃ a1 c1 X2 a2 c2 X3,(Builtin.append_ #[33,33] 33 #[.slice (some ⟨X.heap.size,0,none⟩) 0 0,.slice (some ⟨b,o,none⟩) k cap]).run Tryz.prog (X.alloc (.cells #[] 74))=.ok (.slice a1 k c1) X2 ∧
    (Builtin.append_ #[33,33] 33 #[.slice a1 k c1,.slice sa (l.length - (k+1)) sc]).run Tryz.prog X2=.ok (.slice a2 (l.length - 1) c2) X3 ∧
    X3.ownsRow X.heap.size 74 5 (.slice a2 (l.length - 1) c2) (l.take k ++ l.drop (k+1)).length ((l.take k ++ l.drop (k+1)).flatMap fkL)∧Below X.heap.size X (X.alloc (.cells #[] 74))∧Below X.heap.size X X2∧Below X.heap.size X X3:=by
 obtain ⟨a0,c0,e,h0,h1,h2,h3⟩:=id hl
 cases e
 have hm:(cap:Int)≤9223372036854775807:=by unfold maxLen at h2;omega
 rcases Lr.src fkL_len hl with ⟨q,_⟩ | ⟨a,ea,hlen,hc⟩
 ·cases q
 cases ea
 have hal:=bnew X (.cells #[] 74)
 have hj:=heap_alloc_new X (.cells #[] 74)
 have ho:(X.alloc (.cells #[] 74)).ownsRow X.heap.size 74 5 (.slice (some ⟨X.heap.size,0,none⟩) 0 0) 0 []:=⟨rfl,.inr ⟨X.heap.size,0,#[],rfl,Nat.le_refl _,hj,Nat.le_refl _,Nat.zero_le _,rfl,rfl⟩⟩
 have et:l.flatMap fkL=(l.take k).flatMap fkL ++ (l.drop k).flatMap fkL:=by rw [← List.flatMap_append,List.take_append_drop]
 obtain ⟨a1,c1,X2,r1,o1,g1,_⟩:=run_fk (m:=k) (c:=cap) (news:=(l.take k).flatMap fkL) ho hal.size (.inr ⟨⟨b,o,none⟩,rfl,by rw [fl_len fkL_len,List.length_take,Nat.min_eq_left (Nat.le_of_lt hk)],fun j u hu=>cell_on hal (hc j u (by
  rw [et,List.getElem?_append_left (List.getElem?_eq_some_iff.1 hu).1]
  exact hu))⟩) (oneK _) (by omega)
 rw [Nat.zero_add] at r1 o1
 rw [List.nil_append] at o1
 have b2:Below X.heap.size X X2:=hal.grown g1 hal.size (fun k hk=>by cases hk;exact Nat.le_refl _)
 have hel:(l.take k ++ l.drop (k+1)).length=l.length - 1:=by
  rw [List.length_append,List.length_take,List.length_drop]
  omega
 have hlo:∀ Y:World,(Instr.sliceAt 33 (.slice (some ⟨b,o,none⟩) l.length cap) none (some (.int .i64 (k:Int))) none).run Tryz.prog Y=.ok (.slice (some ⟨b,o,none⟩) k cap) Y:=fun Y=>by
  have z:(k:Int)≤(cap:Int):=by omega
  have z2:¬ cap=0:=by omega
  have z3:(0:Int)≤(k:Int):=by omega
  go_simp
 have q0:(0:Int)≤(k:Int)+1:=by omega
 have q1:(k:Int)+1≤(l.length:Int):=by omega
 have q2:((k:Int)+1).toNat=k+1:=by omega
 have q3:(l.length:Int)≤(cap:Int):=by omega
 have hn1:k+(l.length - (k+1))=l.length - 1:=by omega
 have fin:∀ {sa:Option Addr} {sc:Nat},((sa=none∧l.length - (k+1)=0∧sc=0∧(l.drop (k+1)).flatMap fkL=[]) ∨ ∃ a,sa=some a∧((l.drop (k+1)).flatMap fkL).length=(l.length - (k+1)) * 5∧(∀ j u,((l.drop (k+1)).flatMap fkL)[j]?=some u→X2.cell? (a.add j)=some u))→∃ a2 c2 X3,(Builtin.append_ #[33,33] 33 #[.slice a1 k c1,.slice sa (l.length - (k+1)) sc]).run Tryz.prog X2=.ok (.slice a2 (l.length - 1) c2) X3 ∧
    X3.ownsRow X.heap.size 74 5 (.slice a2 (l.length - 1) c2) (l.take k ++ l.drop (k+1)).length ((l.take k ++ l.drop (k+1)).flatMap fkL)∧Below X.heap.size X X3:=fun hs=>by
  obtain ⟨a2,c2,X3,r2,o2,g2,_⟩:=run_fk (news:=(l.drop (k+1)).flatMap fkL) o1 b2.size hs (oneK _) (by omega)
  rw [hn1] at r2 o2
  refine ⟨a2,c2,X3,r2,?_,b2.grown g2 b2.size (fun j hj=>(own_ge o1 j hj).1)⟩
  rw [hel,List.flatMap_append]
  exact o2
 by_cases hcp:cap=k+1
 ·have hn:l.length=k+1:=by omega
  have hd:l.drop (k+1)=[]:=List.drop_of_length_le (by omega)
  refine ⟨some ⟨b,o,none⟩,0,hlo,fun Y=>?_,a1,c1,X2,?_⟩
  ·have z:l.length - (k+1)=0:=by omega
   have z3:l.length=cap:=by omega
   rw [z]
   rw [z3,hcp] at *
   go_simp
  ·obtain ⟨a2,c2,X3,y1,y2,y3⟩:=fin (sa:=some ⟨b,o,none⟩) (sc:=0) (.inr ⟨_,rfl,by rw [hd,hn];simp,fun j u hu=>by rw [hd] at hu;simp at hu⟩)
   exact ⟨a2,c2,X3,r1,y1,y2,hal,b2,y3⟩
 ·refine ⟨some ⟨b,o+(k+1) * 5,none⟩,cap - (k+1),hlo,fun Y=>?_,a1,c1,X2,?_⟩
  ·have z2:¬ cap=k+1:=hcp
   go_simp
  ·obtain ⟨a2,c2,X3,y1,y2,y3⟩:=fin (sa:=some ⟨b,o+(k+1) * 5,none⟩) (sc:=cap - (k+1)) (.inr ⟨_,rfl,by rw [fl_len fkL_len,List.length_drop],fun j u hu=>by
    rw [fl_drop fkL_len l (k+1) hk] at hu
    have:=cell_on b2 (hc _ u hu)
    rw [add_at] at this ⊢
    rw [Nat.add_assoc]
    exact this⟩)
   exact ⟨a2,c2,X3,r1,y1,y2,hal,b2,y3⟩
structure WL (B B0:Nat) (w:World) (R:List Gt) (lv:Value):Prop where
 row:w.ownsRow B 35 5 lv R.length (R.flatMap gL)
 c:∀ g ∈ R,w.ownsRow B0 50 7 g.2.1 g.1.cols.length (g.1.cols.flatMap colL)
 i:∀ g ∈ R,w.ownsRow B0 71 5 g.2.2.1 g.1.ixs.length (g.1.ixs.flatMap ixL)
 k:∀ g ∈ R,w.ownsRow B0 74 5 g.2.2.2 g.1.fks.length (g.1.fks.flatMap fkL)
theorem WL.nil (B B0:Nat) (w:World):WL B B0 w [] (.slice none 0 0):=⟨World.ownsRow_nil _ _ 35 5,by simp,by simp,by simp⟩
theorem WL.reads {B B0:Nat} {w:World} {R:List Gt} {lv:Value} (h:WL B B0 w R lv):Lr tbE 5 w (R.map Prod.fst) lv:=by
 obtain ⟨ad,cap,e,h0,h1,h2,h3⟩:=Lr.own gL_len h.row
 refine ⟨ad,cap,by rw [List.length_map];exact e,h0,by rw [List.length_map];exact h1,h2,fun i hi=>?_⟩
 rw [List.length_map] at hi
 obtain ⟨b,o,cs,ha,hl,hE,hc,hh⟩:=h3 i hi
 refine ⟨b,o,cs,ha,hl,?_,hc,hh⟩
 rw [List.getElem_map]
 exact ⟨_,_,_,hE,⟨Lr.own colL_len (h.c _ (List.getElem_mem hi)),Lr.own ixL_len (h.i _ (List.getElem_mem hi)),Lr.own fkL_len (h.k _ (List.getElem_mem hi))⟩⟩
theorem WL.keep {B B0:Nat} {w w':World} {R:List Gt} {lv:Value} {T:Nat→Prop} (h:WL B B0 w R lv) (hf:Fr w w' T) (ht:∀ k,T k→∀ cs e,w.heap[k]?=some (.cells cs e (0,0))→e ≠ 35∧e ≠ 50∧e ≠ 71∧e ≠ 74):WL B B0 w' R lv :=
 ⟨keep_rowB h.row hf (fun k hk cs q=>(ht k hk cs _ q).1 rfl),fun g hg=>keep_rowB (h.c g hg) hf (fun k hk cs q=>(ht k hk cs _ q).2.1 rfl),fun g hg=>keep_rowB (h.i g hg) hf (fun k hk cs q=>(ht k hk cs _ q).2.2.1 rfl),fun g hg=>keep_rowB (h.k g hg) hf (fun k hk cs q=>(ht k hk cs _ q).2.2.2 rfl)⟩
theorem WL.below {B B0:Nat} {w w':World} {R:List Gt} {lv:Value} (h:WL B B0 w R lv) (hb:Below w.heap.size w w'):WL B B0 w' R lv:=⟨own_below h.row hb,fun g hg=>own_below (h.c g hg) hb,fun g hg=>own_below (h.i g hg) hb,fun g hg=>own_below (h.k g hg) hb⟩
theorem WL.push {B B0:Nat} {X:World} {R:List Gt} {lv:Value} (h:WL B B0 X R lv) (hB:B≤X.heap.size) (t:Tb) {ca ia ka:Option Addr} {cn cc im ic kn kc:Nat} (hc:X.ownsRow B0 50 7 (.slice ca cn cc) t.cols.length (t.cols.flatMap colL)) (hi:X.ownsRow B0 71 5 (.slice ia im ic) t.ixs.length (t.ixs.flatMap ixL)) (hk:X.ownsRow B0 74 5 (.slice ka kn kc) t.fks.length (t.fks.flatMap fkL)) (hz:R.length≤1000000) :
  ∃ ad cap w',(Builtin.append_ #[22,22] 22 #[lv,.slice (some ⟨X.heap.size,0,none⟩) 1 1]).run Tryz.prog (X.alloc (.cells (tbA t (.slice ca cn cc) (.slice ia im ic) (.slice ka kn kc)) 35))=.ok (.slice ad (R.length+1) cap) w'∧WL B B0 w' (R ++ [((t,.slice ca cn cc,.slice ia im ic,.slice ka kn kc):Gt)]) (.slice ad (R.length+1) cap)∧Below B X w':=by
 obtain ⟨ad,cap,w',hrun,s1,s2,s3⟩:=pushT (own_mono h.row (Nat.zero_le _)) t (ca:=ca) (cn:=cn) (cc:=cc) (ia:=ia) (im:=im) (ic:=ic) (ka:=ka) (kn:=kn) (kc:=kc) hz
 have up:∀ {e:TypeId} {c n B9:Nat} {v:Value} {xs:List Value},e ≠ 35→X.ownsRow B9 e c v n xs→w'.ownsRow B9 e c v n xs:=fun he q=>keep_rowB q s2 (fun k hk cs tg=>by
  obtain ⟨cs2,t2⟩:=own_tag h.row k hk
  rw [t2] at tg
  simp only [Option.some.injEq,Obj.cells.injEq] at tg
  exact he tg.2.1.symm)
 refine ⟨ad,cap,w',hrun,⟨?_,?_,?_,?_⟩,s2.toBelow (fun k hk q=>by
  have:=(own_ge h.row k q).1
  omega) hB⟩
 ·rw [List.length_append]
  exact own_base s1 (fun k hk=>by
   rcases s3 k hk with z | z
   ·exact (own_ge h.row k z).1
   ·omega)
 ·intro g hg
  rcases List.mem_append.1 hg with q | q
  ·exact up (by decide) (h.c g q)
  ·rw [List.mem_singleton] at q
   subst q
   exact up (by decide) hc
 ·intro g hg
  rcases List.mem_append.1 hg with q | q
  ·exact up (by decide) (h.i g q)
  ·rw [List.mem_singleton] at q
   subst q
   exact up (by decide) hi
 ·intro g hg
  rcases List.mem_append.1 hg with q | q
  ·exact up (by decide) (h.k g q)
  ·rw [List.mem_singleton] at q
   subst q
   exact up (by decide) hk
theorem without_len (d:Dd) (t:Tb):(withoutT d t).length≤1:=by
 unfold withoutT
 repeat' split
 all_goals simp
theorem wo_len (d:Dd):∀ l:List Tb,(l.flatMap (withoutT d)).length≤l.length
 | []=>Nat.le_refl _
 | t :: l=>by
  rw [List.flatMap_cons,List.length_append,List.length_cons]
  have h1:=without_len d t
  have h2:=wo_len d l
  omega
theorem take_next {l:List Tb} {i:Nat} {t:Tb} (h:i < l.length) (ht:l[i]=t) (f:Tb→List Tb):(l.take (i+1)).flatMap f=(l.take i).flatMap f ++ f t:=by
 rw [List.take_add_one,List.getElem?_eq_getElem h,ht,List.flatMap_append]
 simp
theorem cut_no {α:Type} {nm:α→ByteArray} {l:List α} {z:ByteArray} (h:fidx (fun x=>decide (nm x=z)) l=-1):cutN nm l z=l:=by
 unfold cutN
 rcases findIdx_fidx (fun x=>decide (nm x=z)) l with ⟨_,q⟩ | ⟨i,hi,q,_⟩
 ·rw [q]
 ·omega
theorem cut_at {α:Type} {nm:α→ByteArray} {l:List α} {z:ByteArray} {k:Nat} (h:fidx (fun x=>decide (nm x=z)) l=(k:Int)):k < l.length∧cutN nm l z=l.take k ++ l.drop (k+1):=by
 unfold cutN
 rcases findIdx_fidx (fun x=>decide (nm x=z)) l with ⟨q,_⟩ | ⟨i,hi,q,q2,_⟩
 ·omega
 ·obtain rfl:i=k:=by omega
  rw [q2]
  exact ⟨hi,rfl⟩
end Go.Proofs.YtongmhfpoopebaaGreat
