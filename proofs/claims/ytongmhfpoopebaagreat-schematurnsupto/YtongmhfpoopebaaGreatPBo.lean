import Derived.Test.YtongmhfpoopebaaGreatPBb
import Derived.Laws.EntriesVeiled
namespace Go.Proofs.YtongmhfpoopebaaGreat
open Go.RowKit
theorem info_parts {e:TypeId} {z:Option Value} {s b:Nat} (h:(Tryz.prog.info? e).map (fun i=>(i.zero,i.size,i.bytes))=some (z,s,b)):∃ i,Tryz.prog.info? e=some i∧i.zero=z∧i.size=s∧i.bytes=b:=by
 cases hq:Tryz.prog.info? e with
 | none=>rw [hq] at h;cases h
 | some i =>
  rw [hq] at h
  simp only [Option.map_some,Option.some.injEq,Prod.mk.injEq] at h
  exact ⟨i,rfl,h.1,h.2.1,h.2.2⟩
theorem info35:(Tryz.prog.info? 35).map (fun i=>(i.zero,i.size,i.bytes))=some (some (.agg #[.int .i64 0,.string ⟨#[]⟩,.slice none 0 0,.slice none 0 0,.slice none 0 0]),5,96):=by kernel_rfl
theorem size35:(Tryz.prog.info? 35).map (·.size)=some 5:=by kernel_rfl
theorem info50:(Tryz.prog.info? 50).map (fun i=>(i.zero,i.size,i.bytes))=some (some (.agg #[.int .i64 0,.string ⟨#[]⟩,.int .i64 0,.int .i64 0,.int .i64 0,.int .i64 0,.string ⟨#[]⟩]),7,72):=by kernel_rfl
theorem size50:(Tryz.prog.info? 50).map (·.size)=some 7:=by kernel_rfl
theorem info71:(Tryz.prog.info? 71).map (fun i=>(i.zero,i.size,i.bytes))=some (some (.agg #[.int .i64 0,.string ⟨#[]⟩,.int .i64 0,.bool false,.int .i64 0]),5,48):=by kernel_rfl
theorem size71:(Tryz.prog.info? 71).map (·.size)=some 5:=by kernel_rfl
theorem info74:(Tryz.prog.info? 74).map (fun i=>(i.zero,i.size,i.bytes))=some (some (.agg #[.int .i64 0,.string ⟨#[]⟩,.int .i64 0,.int .i64 0,.int .i64 0]),5,48):=by kernel_rfl
theorem size74:(Tryz.prog.info? 74).map (·.size)=some 5:=by kernel_rfl
theorem size24:(Tryz.prog.info? 24).map (·.size)=some 3:=by kernel_rfl
theorem info3:(Tryz.prog.info? 3).map (fun i=>(i.zero,i.size,i.bytes))=some (some (.int .i64 0),1,8):=by kernel_rfl
theorem info9:(Tryz.prog.info? 9).map (fun i=>(i.zero,i.size,i.bytes))=some (some (.string ⟨#[]⟩),1,16):=by kernel_rfl
theorem size28:(Tryz.prog.info? 28).map (·.size)=some 3:=by kernel_rfl
theorem size31:(Tryz.prog.info? 31).map (·.size)=some 11:=by kernel_rfl
theorem size156:(Tryz.prog.info? 156).map (·.size)=some 3:=by kernel_rfl
section
variable {w w' : World} {v : Value}
theorem run_tb {base n m c:Nat} {xs news:List Value} {ad:Option Addr} (ho:w.ownsRow base 35 5 v n xs) (hb:base≤w.heap.size) (hs:(ad=none∧m=0∧c=0∧news=[])∨∃ a,ad=some a∧news.length=m*5∧(∀ j u,news[j]?=some u→w.cell? (a.add j)=some u))
  (h1:∀ u ∈ news,u.oneCell'=true) (hnm:(n+m)*96≤140737488355328):∃ ad' cap' w',(Builtin.append_ #[22,22] 22 #[v,.slice ad m c]).run Tryz.prog w=.ok (.slice ad' (n+m) cap') w'∧w'.ownsRow base 35 5 (.slice ad' (n+m) cap') (n+m) (xs ++ news)∧w.grownBy w' v.ownBlock∧((Value.slice ad' (n+m) cap').ownBlock=v.ownBlock∨(Value.slice ad' (n+m) cap').ownBlock=some w.heap.size):=by
 obtain ⟨i0,hi,hz0,hz1,hz2⟩:=info_parts info35
 rcases hs with ⟨rfl,rfl,rfl,rfl⟩ | ⟨a,rfl,hl,hc⟩
 ·obtain ⟨ad',cap',rfl⟩:=own_shape ho
  refine ⟨ad',cap',w,?_,by simpa using ho,⟨rfl,rfl,rfl,Nat.le_refl _,fun _ _ _=>rfl⟩,.inl rfl⟩
  exact run_append_owned_none (P:=Tryz.prog) (w:=w) base 22 22 35 i0 5 Tryz.underlying22 hi _ n xs ho
 ·obtain ⟨v',w',hr,ho',hg,_,hat⟩:=run_append_own_at (P:=Tryz.prog) (w:=w) base 22 22 35 i0 _ 5 96 Tryz.underlying22 hi hz0 hz1 hz2 rfl (by decide) v n xs ho a m c news hl hc h1 (by unfold maxLen;omega) hnm hb
  obtain ⟨ad',cap',rfl⟩:=own_shape ho'
  exact ⟨ad',cap',w',hr,ho',hg,hat⟩
theorem run_col {base n m c:Nat} {xs news:List Value} {ad:Option Addr} (ho:w.ownsRow base 50 7 v n xs) (hb:base≤w.heap.size) (hs:(ad=none∧m=0∧c=0∧news=[])∨∃ a,ad=some a∧news.length=m*7∧(∀ j u,news[j]?=some u→w.cell? (a.add j)=some u))
  (h1:∀ u ∈ news,u.oneCell'=true) (hnm:(n+m)*72≤140737488355328):∃ ad' cap' w',(Builtin.append_ #[29,29] 29 #[v,.slice ad m c]).run Tryz.prog w=.ok (.slice ad' (n+m) cap') w'∧w'.ownsRow base 50 7 (.slice ad' (n+m) cap') (n+m) (xs ++ news)∧w.grownBy w' v.ownBlock∧((Value.slice ad' (n+m) cap').ownBlock=v.ownBlock∨(Value.slice ad' (n+m) cap').ownBlock=some w.heap.size):=by
 obtain ⟨i0,hi,hz0,hz1,hz2⟩:=info_parts info50
 rcases hs with ⟨rfl,rfl,rfl,rfl⟩ | ⟨a,rfl,hl,hc⟩
 ·obtain ⟨ad',cap',rfl⟩:=own_shape ho
  refine ⟨ad',cap',w,?_,by simpa using ho,⟨rfl,rfl,rfl,Nat.le_refl _,fun _ _ _=>rfl⟩,.inl rfl⟩
  exact run_append_owned_none (P:=Tryz.prog) (w:=w) base 29 29 50 i0 7 Tryz.underlying29 hi _ n xs ho
 ·obtain ⟨v',w',hr,ho',hg,_,hat⟩:=run_append_own_at (P:=Tryz.prog) (w:=w) base 29 29 50 i0 _ 7 72 Tryz.underlying29 hi hz0 hz1 hz2 rfl (by decide) v n xs ho a m c news hl hc h1 (by unfold maxLen;omega) hnm hb
  obtain ⟨ad',cap',rfl⟩:=own_shape ho'
  exact ⟨ad',cap',w',hr,ho',hg,hat⟩
theorem run_ix {base n m c:Nat} {xs news:List Value} {ad:Option Addr} (ho:w.ownsRow base 71 5 v n xs) (hb:base≤w.heap.size) (hs:(ad=none∧m=0∧c=0∧news=[])∨∃ a,ad=some a∧news.length=m*5∧(∀ j u,news[j]?=some u→w.cell? (a.add j)=some u))
  (h1:∀ u ∈ news,u.oneCell'=true) (hnm:(n+m)*48≤140737488355328):∃ ad' cap' w',(Builtin.append_ #[32,32] 32 #[v,.slice ad m c]).run Tryz.prog w=.ok (.slice ad' (n+m) cap') w'∧w'.ownsRow base 71 5 (.slice ad' (n+m) cap') (n+m) (xs ++ news)∧w.grownBy w' v.ownBlock∧((Value.slice ad' (n+m) cap').ownBlock=v.ownBlock∨(Value.slice ad' (n+m) cap').ownBlock=some w.heap.size):=by
 obtain ⟨i0,hi,hz0,hz1,hz2⟩:=info_parts info71
 rcases hs with ⟨rfl,rfl,rfl,rfl⟩ | ⟨a,rfl,hl,hc⟩
 ·obtain ⟨ad',cap',rfl⟩:=own_shape ho
  refine ⟨ad',cap',w,?_,by simpa using ho,⟨rfl,rfl,rfl,Nat.le_refl _,fun _ _ _=>rfl⟩,.inl rfl⟩
  exact run_append_owned_none (P:=Tryz.prog) (w:=w) base 32 32 71 i0 5 Tryz.underlying32 hi _ n xs ho
 ·obtain ⟨v',w',hr,ho',hg,_,hat⟩:=run_append_own_at (P:=Tryz.prog) (w:=w) base 32 32 71 i0 _ 5 48 Tryz.underlying32 hi hz0 hz1 hz2 rfl (by decide) v n xs ho a m c news hl hc h1 (by unfold maxLen;omega) hnm hb
  obtain ⟨ad',cap',rfl⟩:=own_shape ho'
  exact ⟨ad',cap',w',hr,ho',hg,hat⟩
theorem run_fk {base n m c:Nat} {xs news:List Value} {ad:Option Addr} (ho:w.ownsRow base 74 5 v n xs) (hb:base≤w.heap.size) (hs:(ad=none∧m=0∧c=0∧news=[])∨∃ a,ad=some a∧news.length=m*5∧(∀ j u,news[j]?=some u→w.cell? (a.add j)=some u))
  (h1:∀ u ∈ news,u.oneCell'=true) (hnm:(n+m)*48≤140737488355328):∃ ad' cap' w',(Builtin.append_ #[33,33] 33 #[v,.slice ad m c]).run Tryz.prog w=.ok (.slice ad' (n+m) cap') w'∧w'.ownsRow base 74 5 (.slice ad' (n+m) cap') (n+m) (xs ++ news)∧w.grownBy w' v.ownBlock∧((Value.slice ad' (n+m) cap').ownBlock=v.ownBlock∨(Value.slice ad' (n+m) cap').ownBlock=some w.heap.size):=by
 obtain ⟨i0,hi,hz0,hz1,hz2⟩:=info_parts info74
 rcases hs with ⟨rfl,rfl,rfl,rfl⟩ | ⟨a,rfl,hl,hc⟩
 ·obtain ⟨ad',cap',rfl⟩:=own_shape ho
  refine ⟨ad',cap',w,?_,by simpa using ho,⟨rfl,rfl,rfl,Nat.le_refl _,fun _ _ _=>rfl⟩,.inl rfl⟩
  exact run_append_owned_none (P:=Tryz.prog) (w:=w) base 33 33 74 i0 5 Tryz.underlying33 hi _ n xs ho
 ·obtain ⟨v',w',hr,ho',hg,_,hat⟩:=run_append_own_at (P:=Tryz.prog) (w:=w) base 33 33 74 i0 _ 5 48 Tryz.underlying33 hi hz0 hz1 hz2 rfl (by decide) v n xs ho a m c news hl hc h1 (by unfold maxLen;omega) hnm hb
  obtain ⟨ad',cap',rfl⟩:=own_shape ho'
  exact ⟨ad',cap',w',hr,ho',hg,hat⟩
theorem run_in {base n m c:Nat} {xs news:List Value} {ad:Option Addr} (ho:w.ownsRow base 3 1 v n xs) (hb:base≤w.heap.size) (hs:(ad=none∧m=0∧c=0∧news=[])∨∃ a,ad=some a∧news.length=m*1∧(∀ j u,news[j]?=some u→w.cell? (a.add j)=some u))
  (h1:∀ u ∈ news,u.oneCell'=true) (hnm:(n+m)*8≤140737488355328):∃ ad' cap' w',(Builtin.append_ #[65,65] 65 #[v,.slice ad m c]).run Tryz.prog w=.ok (.slice ad' (n+m) cap') w'∧w'.ownsRow base 3 1 (.slice ad' (n+m) cap') (n+m) (xs ++ news)∧w.grownBy w' v.ownBlock∧((Value.slice ad' (n+m) cap').ownBlock=v.ownBlock∨(Value.slice ad' (n+m) cap').ownBlock=some w.heap.size):=by
 obtain ⟨i0,hi,hz0,hz1,hz2⟩:=info_parts info3
 rcases hs with ⟨rfl,rfl,rfl,rfl⟩ | ⟨a,rfl,hl,hc⟩
 ·obtain ⟨ad',cap',rfl⟩:=own_shape ho
  refine ⟨ad',cap',w,?_,by simpa using ho,⟨rfl,rfl,rfl,Nat.le_refl _,fun _ _ _=>rfl⟩,.inl rfl⟩
  exact run_append_owned_none (P:=Tryz.prog) (w:=w) base 65 65 3 i0 1 Tryz.underlying65 hi _ n xs ho
 ·obtain ⟨v',w',hr,ho',hg,_,hat⟩:=run_append_own_at (P:=Tryz.prog) (w:=w) base 65 65 3 i0 _ 1 8 Tryz.underlying65 hi hz0 hz1 hz2 rfl (by decide) v n xs ho a m c news hl hc h1 (by unfold maxLen;omega) hnm hb
  obtain ⟨ad',cap',rfl⟩:=own_shape ho'
  exact ⟨ad',cap',w',hr,ho',hg,hat⟩
theorem run_st {base n m c:Nat} {xs news:List Value} {ad:Option Addr} (ho:w.ownsRow base 9 1 v n xs) (hb:base≤w.heap.size) (hs:(ad=none∧m=0∧c=0∧news=[])∨∃ a,ad=some a∧news.length=m*1∧(∀ j u,news[j]?=some u→w.cell? (a.add j)=some u))
  (h1:∀ u ∈ news,u.oneCell'=true) (hnm:(n+m)*16≤140737488355328):∃ ad' cap' w',(Builtin.append_ #[92,92] 92 #[v,.slice ad m c]).run Tryz.prog w=.ok (.slice ad' (n+m) cap') w'∧w'.ownsRow base 9 1 (.slice ad' (n+m) cap') (n+m) (xs ++ news)∧w.grownBy w' v.ownBlock∧((Value.slice ad' (n+m) cap').ownBlock=v.ownBlock∨(Value.slice ad' (n+m) cap').ownBlock=some w.heap.size):=by
 obtain ⟨i0,hi,hz0,hz1,hz2⟩:=info_parts info9
 rcases hs with ⟨rfl,rfl,rfl,rfl⟩ | ⟨a,rfl,hl,hc⟩
 ·obtain ⟨ad',cap',rfl⟩:=own_shape ho
  refine ⟨ad',cap',w,?_,by simpa using ho,⟨rfl,rfl,rfl,Nat.le_refl _,fun _ _ _=>rfl⟩,.inl rfl⟩
  exact run_append_owned_none (P:=Tryz.prog) (w:=w) base 92 92 9 i0 1 Tryz.underlying92 hi _ n xs ho
 ·obtain ⟨v',w',hr,ho',hg,_,hat⟩:=run_append_own_at (P:=Tryz.prog) (w:=w) base 92 92 9 i0 _ 1 16 Tryz.underlying92 hi hz0 hz1 hz2 rfl (by decide) v n xs ho a m c news hl hc h1 (by unfold maxLen;omega) hnm hb
  obtain ⟨ad',cap',rfl⟩:=own_shape ho'
  exact ⟨ad',cap',w',hr,ho',hg,hat⟩
end
section
variable {ρ : Operand → Value} {X : World} {d : Option Tmp} {ty : TypeId} {ps : String} {af : Array Edge} {g : Option (Nat × Bool)}
theorem op_move {x:Operand} {v:Value} (e:ρ x=v):(execOp ρ ⟨d,.move x,ty,ps,af,g⟩).run Tryz.prog X=.ok (.value v) X:=by
 simp only [execOp,e]
 rfl
theorem op_assign {x:Operand} {v:Value} (e:ρ x=v):(execOp ρ ⟨d,.assign x,ty,ps,af,g⟩).run Tryz.prog X=.ok (.value v) X:=by
 simp only [execOp,e]
 rfl
theorem op_nil {x:Operand} {a:Addr} (e:ρ x=.pointer (some a)):(execOp ρ ⟨d,.nilCheck x,ty,ps,af,g⟩).run Tryz.prog X=.ok (.value (.pointer (some a))) X:=by
 simp only [execOp,e]
 rfl
theorem op_load2 {x:Operand} {B i:Nat} {n:Int} (e:ρ x=.pointer (some ⟨B,i,none⟩)) (y:X.cell? ⟨B,i,none⟩=some (.int .i64 n)):(execOp ρ ⟨d,.load 2 x,ty,ps,af,g⟩).run Tryz.prog X=.ok (.value (.int .i64 n)) X:=by
 simp only [execOp,e]
 go_simp
theorem op_load3 {x:Operand} {B i:Nat} {n:Int} (e:ρ x=.pointer (some ⟨B,i,none⟩)) (y:X.cell? ⟨B,i,none⟩=some (.int .i64 n)):(execOp ρ ⟨d,.load 3 x,ty,ps,af,g⟩).run Tryz.prog X=.ok (.value (.int .i64 n)) X:=by
 simp only [execOp,e]
 go_simp
theorem op_load4 {x:Operand} {B i:Nat} {n:Bool} (e:ρ x=.pointer (some ⟨B,i,none⟩)) (y:X.cell? ⟨B,i,none⟩=some (.bool n)):(execOp ρ ⟨d,.load 4 x,ty,ps,af,g⟩).run Tryz.prog X=.ok (.value (.bool n)) X:=by
 simp only [execOp,e]
 go_simp
theorem op_load9 {x:Operand} {B i:Nat} {n:ByteArray} (e:ρ x=.pointer (some ⟨B,i,none⟩)) (y:X.cell? ⟨B,i,none⟩=some (.string n)):(execOp ρ ⟨d,.load 9 x,ty,ps,af,g⟩).run Tryz.prog X=.ok (.value (.string n)) X:=by
 simp only [execOp,e]
 go_simp
theorem op_load22 {x:Operand} {B i:Nat} {a:Option Addr} {n m:Nat} (e:ρ x=.pointer (some ⟨B,i,none⟩)) (y:X.cell? ⟨B,i,none⟩=some (.slice a n m)):(execOp ρ ⟨d,.load 22 x,ty,ps,af,g⟩).run Tryz.prog X=.ok (.value (.slice a n m)) X:=by
 simp only [execOp,e]
 go_simp
theorem op_load29 {x:Operand} {B i:Nat} {a:Option Addr} {n m:Nat} (e:ρ x=.pointer (some ⟨B,i,none⟩)) (y:X.cell? ⟨B,i,none⟩=some (.slice a n m)):(execOp ρ ⟨d,.load 29 x,ty,ps,af,g⟩).run Tryz.prog X=.ok (.value (.slice a n m)) X:=by
 simp only [execOp,e]
 go_simp
theorem op_load32 {x:Operand} {B i:Nat} {a:Option Addr} {n m:Nat} (e:ρ x=.pointer (some ⟨B,i,none⟩)) (y:X.cell? ⟨B,i,none⟩=some (.slice a n m)):(execOp ρ ⟨d,.load 32 x,ty,ps,af,g⟩).run Tryz.prog X=.ok (.value (.slice a n m)) X:=by
 simp only [execOp,e]
 go_simp
theorem op_load33 {x:Operand} {B i:Nat} {a:Option Addr} {n m:Nat} (e:ρ x=.pointer (some ⟨B,i,none⟩)) (y:X.cell? ⟨B,i,none⟩=some (.slice a n m)):(execOp ρ ⟨d,.load 33 x,ty,ps,af,g⟩).run Tryz.prog X=.ok (.value (.slice a n m)) X:=by
 simp only [execOp,e]
 go_simp
theorem op_load77 {x:Operand} {B i:Nat} {n:Option Addr} (e:ρ x=.pointer (some ⟨B,i,none⟩)) (y:X.cell? ⟨B,i,none⟩=some (.pointer n)):(execOp ρ ⟨d,.load 77 x,ty,ps,af,g⟩).run Tryz.prog X=.ok (.value (.pointer n)) X:=by
 simp only [execOp,e]
 go_simp
theorem op_load81 {x:Operand} {B i:Nat} {n:Option Addr} (e:ρ x=.pointer (some ⟨B,i,none⟩)) (y:X.cell? ⟨B,i,none⟩=some (.pointer n)):(execOp ρ ⟨d,.load 81 x,ty,ps,af,g⟩).run Tryz.prog X=.ok (.value (.pointer n)) X:=by
 simp only [execOp,e]
 go_simp
theorem op_f24_0 {x:Operand} {B o:Nat} (e:ρ x=.pointer (some ⟨B,o,none⟩)):(execOp ρ ⟨d,.fieldAddr 24 x 0,ty,ps,af,g⟩).run Tryz.prog X=.ok (.value (.pointer (some ⟨B,o,none⟩))) X:=by
 simp only [execOp,e]
 go_simp
theorem op_f24_1 {x:Operand} {B o:Nat} (e:ρ x=.pointer (some ⟨B,o,none⟩)):(execOp ρ ⟨d,.fieldAddr 24 x 1,ty,ps,af,g⟩).run Tryz.prog X=.ok (.value (.pointer (some ⟨B,o+1,none⟩))) X:=by
 simp only [execOp,e]
 go_simp
theorem op_f24_2 {x:Operand} {B o:Nat} (e:ρ x=.pointer (some ⟨B,o,none⟩)):(execOp ρ ⟨d,.fieldAddr 24 x 2,ty,ps,af,g⟩).run Tryz.prog X=.ok (.value (.pointer (some ⟨B,o+2,none⟩))) X:=by
 simp only [execOp,e]
 go_simp
theorem op_f31_1 {x:Operand} {B o:Nat} (e:ρ x=.pointer (some ⟨B,o,none⟩)):(execOp ρ ⟨d,.fieldAddr 31 x 1,ty,ps,af,g⟩).run Tryz.prog X=.ok (.value (.pointer (some ⟨B,o+1,none⟩))) X:=by
 simp only [execOp,e]
 go_simp
theorem op_f31_2 {x:Operand} {B o:Nat} (e:ρ x=.pointer (some ⟨B,o,none⟩)):(execOp ρ ⟨d,.fieldAddr 31 x 2,ty,ps,af,g⟩).run Tryz.prog X=.ok (.value (.pointer (some ⟨B,o+2,none⟩))) X:=by
 simp only [execOp,e]
 go_simp
theorem op_f31_3 {x:Operand} {B o:Nat} (e:ρ x=.pointer (some ⟨B,o,none⟩)):(execOp ρ ⟨d,.fieldAddr 31 x 3,ty,ps,af,g⟩).run Tryz.prog X=.ok (.value (.pointer (some ⟨B,o+3,none⟩))) X:=by
 simp only [execOp,e]
 go_simp
theorem op_f31_4 {x:Operand} {B o:Nat} (e:ρ x=.pointer (some ⟨B,o,none⟩)):(execOp ρ ⟨d,.fieldAddr 31 x 4,ty,ps,af,g⟩).run Tryz.prog X=.ok (.value (.pointer (some ⟨B,o+4,none⟩))) X:=by
 simp only [execOp,e]
 go_simp
theorem op_f31_5 {x:Operand} {B o:Nat} (e:ρ x=.pointer (some ⟨B,o,none⟩)):(execOp ρ ⟨d,.fieldAddr 31 x 5,ty,ps,af,g⟩).run Tryz.prog X=.ok (.value (.pointer (some ⟨B,o+5,none⟩))) X:=by
 simp only [execOp,e]
 go_simp
theorem op_f31_6 {x:Operand} {B o:Nat} (e:ρ x=.pointer (some ⟨B,o,none⟩)):(execOp ρ ⟨d,.fieldAddr 31 x 6,ty,ps,af,g⟩).run Tryz.prog X=.ok (.value (.pointer (some ⟨B,o+6,none⟩))) X:=by
 simp only [execOp,e]
 go_simp
theorem op_f31_7 {x:Operand} {B o:Nat} (e:ρ x=.pointer (some ⟨B,o,none⟩)):(execOp ρ ⟨d,.fieldAddr 31 x 7,ty,ps,af,g⟩).run Tryz.prog X=.ok (.value (.pointer (some ⟨B,o+7,none⟩))) X:=by
 simp only [execOp,e]
 go_simp
theorem op_f31_8 {x:Operand} {B o:Nat} (e:ρ x=.pointer (some ⟨B,o,none⟩)):(execOp ρ ⟨d,.fieldAddr 31 x 8,ty,ps,af,g⟩).run Tryz.prog X=.ok (.value (.pointer (some ⟨B,o+10,none⟩))) X:=by
 simp only [execOp,e]
 go_simp
theorem op_f35_0 {x:Operand} {B o:Nat} (e:ρ x=.pointer (some ⟨B,o,none⟩)):(execOp ρ ⟨d,.fieldAddr 35 x 0,ty,ps,af,g⟩).run Tryz.prog X=.ok (.value (.pointer (some ⟨B,o,none⟩))) X:=by
 simp only [execOp,e]
 go_simp
theorem op_f35_1 {x:Operand} {B o:Nat} (e:ρ x=.pointer (some ⟨B,o,none⟩)):(execOp ρ ⟨d,.fieldAddr 35 x 1,ty,ps,af,g⟩).run Tryz.prog X=.ok (.value (.pointer (some ⟨B,o+1,none⟩))) X:=by
 simp only [execOp,e]
 go_simp
theorem op_f35_2 {x:Operand} {B o:Nat} (e:ρ x=.pointer (some ⟨B,o,none⟩)):(execOp ρ ⟨d,.fieldAddr 35 x 2,ty,ps,af,g⟩).run Tryz.prog X=.ok (.value (.pointer (some ⟨B,o+2,none⟩))) X:=by
 simp only [execOp,e]
 go_simp
theorem op_f35_3 {x:Operand} {B o:Nat} (e:ρ x=.pointer (some ⟨B,o,none⟩)):(execOp ρ ⟨d,.fieldAddr 35 x 3,ty,ps,af,g⟩).run Tryz.prog X=.ok (.value (.pointer (some ⟨B,o+3,none⟩))) X:=by
 simp only [execOp,e]
 go_simp
theorem op_f35_4 {x:Operand} {B o:Nat} (e:ρ x=.pointer (some ⟨B,o,none⟩)):(execOp ρ ⟨d,.fieldAddr 35 x 4,ty,ps,af,g⟩).run Tryz.prog X=.ok (.value (.pointer (some ⟨B,o+4,none⟩))) X:=by
 simp only [execOp,e]
 go_simp
theorem op_f50_0 {x:Operand} {B o:Nat} (e:ρ x=.pointer (some ⟨B,o,none⟩)):(execOp ρ ⟨d,.fieldAddr 50 x 0,ty,ps,af,g⟩).run Tryz.prog X=.ok (.value (.pointer (some ⟨B,o,none⟩))) X:=by
 simp only [execOp,e]
 go_simp
theorem op_f50_1 {x:Operand} {B o:Nat} (e:ρ x=.pointer (some ⟨B,o,none⟩)):(execOp ρ ⟨d,.fieldAddr 50 x 1,ty,ps,af,g⟩).run Tryz.prog X=.ok (.value (.pointer (some ⟨B,o+1,none⟩))) X:=by
 simp only [execOp,e]
 go_simp
theorem op_f50_2 {x:Operand} {B o:Nat} (e:ρ x=.pointer (some ⟨B,o,none⟩)):(execOp ρ ⟨d,.fieldAddr 50 x 2,ty,ps,af,g⟩).run Tryz.prog X=.ok (.value (.pointer (some ⟨B,o+2,none⟩))) X:=by
 simp only [execOp,e]
 go_simp
theorem op_f50_3 {x:Operand} {B o:Nat} (e:ρ x=.pointer (some ⟨B,o,none⟩)):(execOp ρ ⟨d,.fieldAddr 50 x 3,ty,ps,af,g⟩).run Tryz.prog X=.ok (.value (.pointer (some ⟨B,o+3,none⟩))) X:=by
 simp only [execOp,e]
 go_simp
theorem op_f50_4 {x:Operand} {B o:Nat} (e:ρ x=.pointer (some ⟨B,o,none⟩)):(execOp ρ ⟨d,.fieldAddr 50 x 4,ty,ps,af,g⟩).run Tryz.prog X=.ok (.value (.pointer (some ⟨B,o+4,none⟩))) X:=by
 simp only [execOp,e]
 go_simp
theorem op_f71_0 {x:Operand} {B o:Nat} (e:ρ x=.pointer (some ⟨B,o,none⟩)):(execOp ρ ⟨d,.fieldAddr 71 x 0,ty,ps,af,g⟩).run Tryz.prog X=.ok (.value (.pointer (some ⟨B,o,none⟩))) X:=by
 simp only [execOp,e]
 go_simp
theorem op_f71_1 {x:Operand} {B o:Nat} (e:ρ x=.pointer (some ⟨B,o,none⟩)):(execOp ρ ⟨d,.fieldAddr 71 x 1,ty,ps,af,g⟩).run Tryz.prog X=.ok (.value (.pointer (some ⟨B,o+1,none⟩))) X:=by
 simp only [execOp,e]
 go_simp
theorem op_f71_2 {x:Operand} {B o:Nat} (e:ρ x=.pointer (some ⟨B,o,none⟩)):(execOp ρ ⟨d,.fieldAddr 71 x 2,ty,ps,af,g⟩).run Tryz.prog X=.ok (.value (.pointer (some ⟨B,o+2,none⟩))) X:=by
 simp only [execOp,e]
 go_simp
theorem op_f71_3 {x:Operand} {B o:Nat} (e:ρ x=.pointer (some ⟨B,o,none⟩)):(execOp ρ ⟨d,.fieldAddr 71 x 3,ty,ps,af,g⟩).run Tryz.prog X=.ok (.value (.pointer (some ⟨B,o+3,none⟩))) X:=by
 simp only [execOp,e]
 go_simp
theorem op_f71_4 {x:Operand} {B o:Nat} (e:ρ x=.pointer (some ⟨B,o,none⟩)):(execOp ρ ⟨d,.fieldAddr 71 x 4,ty,ps,af,g⟩).run Tryz.prog X=.ok (.value (.pointer (some ⟨B,o+4,none⟩))) X:=by
 simp only [execOp,e]
 go_simp
theorem op_f74_0 {x:Operand} {B o:Nat} (e:ρ x=.pointer (some ⟨B,o,none⟩)):(execOp ρ ⟨d,.fieldAddr 74 x 0,ty,ps,af,g⟩).run Tryz.prog X=.ok (.value (.pointer (some ⟨B,o,none⟩))) X:=by
 simp only [execOp,e]
 go_simp
theorem op_f74_1 {x:Operand} {B o:Nat} (e:ρ x=.pointer (some ⟨B,o,none⟩)):(execOp ρ ⟨d,.fieldAddr 74 x 1,ty,ps,af,g⟩).run Tryz.prog X=.ok (.value (.pointer (some ⟨B,o+1,none⟩))) X:=by
 simp only [execOp,e]
 go_simp
theorem op_f74_2 {x:Operand} {B o:Nat} (e:ρ x=.pointer (some ⟨B,o,none⟩)):(execOp ρ ⟨d,.fieldAddr 74 x 2,ty,ps,af,g⟩).run Tryz.prog X=.ok (.value (.pointer (some ⟨B,o+2,none⟩))) X:=by
 simp only [execOp,e]
 go_simp
theorem op_f74_3 {x:Operand} {B o:Nat} (e:ρ x=.pointer (some ⟨B,o,none⟩)):(execOp ρ ⟨d,.fieldAddr 74 x 3,ty,ps,af,g⟩).run Tryz.prog X=.ok (.value (.pointer (some ⟨B,o+3,none⟩))) X:=by
 simp only [execOp,e]
 go_simp
theorem op_f74_4 {x:Operand} {B o:Nat} (e:ρ x=.pointer (some ⟨B,o,none⟩)):(execOp ρ ⟨d,.fieldAddr 74 x 4,ty,ps,af,g⟩).run Tryz.prog X=.ok (.value (.pointer (some ⟨B,o+4,none⟩))) X:=by
 simp only [execOp,e]
 go_simp
theorem op_f28_0 {x:Operand} {B o:Nat} (e:ρ x=.pointer (some ⟨B,o,none⟩)):(execOp ρ ⟨d,.fieldAddr 28 x 0,ty,ps,af,g⟩).run Tryz.prog X=.ok (.value (.pointer (some ⟨B,o,none⟩))) X:=by
 simp only [execOp,e]
 go_simp
theorem op_f28_1 {x:Operand} {B o:Nat} (e:ρ x=.pointer (some ⟨B,o,none⟩)):(execOp ρ ⟨d,.fieldAddr 28 x 1,ty,ps,af,g⟩).run Tryz.prog X=.ok (.value (.pointer (some ⟨B,o+1,none⟩))) X:=by
 simp only [execOp,e]
 go_simp
theorem op_f28_2 {x:Operand} {B o:Nat} (e:ρ x=.pointer (some ⟨B,o,none⟩)):(execOp ρ ⟨d,.fieldAddr 28 x 2,ty,ps,af,g⟩).run Tryz.prog X=.ok (.value (.pointer (some ⟨B,o+2,none⟩))) X:=by
 simp only [execOp,e]
 go_simp
theorem op_i22 {x y:Operand} {B o n m i:Nat} (e:ρ x=.slice (some ⟨B,o,none⟩) n m) (e2:ρ y=.int .i64 (i:Int)) (h:i<n):(execOp ρ ⟨d,.indexAddr 22 x y,ty,ps,af,g⟩).run Tryz.prog X=.ok (.value (.pointer (some ⟨B,o+i*5,none⟩))) X:=by
 have k0:(0:Int)≤(i:Int):=by omega
 have k1:(i:Int)<(n:Int):=by omega
 simp only [execOp,e,e2]
 go_simp
theorem op_len22 {x:Operand} {a:Option Addr} {n m:Nat} (e:ρ x=.slice a n m):(execOp ρ ⟨d,.call { callee:=.builtin .len,args:=#[x],argTypes:=#[22] },ty,ps,af,g⟩).run Tryz.prog X=.ok (.value (.int .i64 (n:Int))) X:=by
 simp only [execOp,resolve,invoke,builtin,Sem.run_bind,Sem.run_pure,Result.andThen_ok,List.map_toArray,List.map_cons,List.map_nil,e]
 go_simp
theorem op_append22 {s x:Operand} {v1 v2 v':Value} {X':World} (hs:ρ s=v1) (hx:ρ x=v2) (hrun:(Builtin.append_ #[22,22] 22 #[v1,v2]).run Tryz.prog X=.ok v' X'):(execOp ρ ⟨d,.call { callee:=.builtin .append,args:=#[s,x],argTypes:=#[22,22] },22,ps,af,g⟩).run Tryz.prog X=.ok (.value v') X':=by
 simp only [execOp,resolve,invoke,builtin,Sem.run_bind,Sem.run_pure,Result.andThen_ok,List.map_toArray,List.map_cons,List.map_nil,hs,hx,hrun]
theorem op_i29 {x y:Operand} {B o n m i:Nat} (e:ρ x=.slice (some ⟨B,o,none⟩) n m) (e2:ρ y=.int .i64 (i:Int)) (h:i<n):(execOp ρ ⟨d,.indexAddr 29 x y,ty,ps,af,g⟩).run Tryz.prog X=.ok (.value (.pointer (some ⟨B,o+i*7,none⟩))) X:=by
 have k0:(0:Int)≤(i:Int):=by omega
 have k1:(i:Int)<(n:Int):=by omega
 simp only [execOp,e,e2]
 go_simp
theorem op_append29 {s x:Operand} {v1 v2 v':Value} {X':World} (hs:ρ s=v1) (hx:ρ x=v2) (hrun:(Builtin.append_ #[29,29] 29 #[v1,v2]).run Tryz.prog X=.ok v' X'):(execOp ρ ⟨d,.call { callee:=.builtin .append,args:=#[s,x],argTypes:=#[29,29] },29,ps,af,g⟩).run Tryz.prog X=.ok (.value v') X':=by
 simp only [execOp,resolve,invoke,builtin,Sem.run_bind,Sem.run_pure,Result.andThen_ok,List.map_toArray,List.map_cons,List.map_nil,hs,hx,hrun]
theorem op_i32 {x y:Operand} {B o n m i:Nat} (e:ρ x=.slice (some ⟨B,o,none⟩) n m) (e2:ρ y=.int .i64 (i:Int)) (h:i<n):(execOp ρ ⟨d,.indexAddr 32 x y,ty,ps,af,g⟩).run Tryz.prog X=.ok (.value (.pointer (some ⟨B,o+i*5,none⟩))) X:=by
 have k0:(0:Int)≤(i:Int):=by omega
 have k1:(i:Int)<(n:Int):=by omega
 simp only [execOp,e,e2]
 go_simp
theorem op_len32 {x:Operand} {a:Option Addr} {n m:Nat} (e:ρ x=.slice a n m):(execOp ρ ⟨d,.call { callee:=.builtin .len,args:=#[x],argTypes:=#[32] },ty,ps,af,g⟩).run Tryz.prog X=.ok (.value (.int .i64 (n:Int))) X:=by
 simp only [execOp,resolve,invoke,builtin,Sem.run_bind,Sem.run_pure,Result.andThen_ok,List.map_toArray,List.map_cons,List.map_nil,e]
 go_simp
theorem op_append32 {s x:Operand} {v1 v2 v':Value} {X':World} (hs:ρ s=v1) (hx:ρ x=v2) (hrun:(Builtin.append_ #[32,32] 32 #[v1,v2]).run Tryz.prog X=.ok v' X'):(execOp ρ ⟨d,.call { callee:=.builtin .append,args:=#[s,x],argTypes:=#[32,32] },32,ps,af,g⟩).run Tryz.prog X=.ok (.value v') X':=by
 simp only [execOp,resolve,invoke,builtin,Sem.run_bind,Sem.run_pure,Result.andThen_ok,List.map_toArray,List.map_cons,List.map_nil,hs,hx,hrun]
theorem op_i33 {x y:Operand} {B o n m i:Nat} (e:ρ x=.slice (some ⟨B,o,none⟩) n m) (e2:ρ y=.int .i64 (i:Int)) (h:i<n):(execOp ρ ⟨d,.indexAddr 33 x y,ty,ps,af,g⟩).run Tryz.prog X=.ok (.value (.pointer (some ⟨B,o+i*5,none⟩))) X:=by
 have k0:(0:Int)≤(i:Int):=by omega
 have k1:(i:Int)<(n:Int):=by omega
 simp only [execOp,e,e2]
 go_simp
theorem op_append33 {s x:Operand} {v1 v2 v':Value} {X':World} (hs:ρ s=v1) (hx:ρ x=v2) (hrun:(Builtin.append_ #[33,33] 33 #[v1,v2]).run Tryz.prog X=.ok v' X'):(execOp ρ ⟨d,.call { callee:=.builtin .append,args:=#[s,x],argTypes:=#[33,33] },33,ps,af,g⟩).run Tryz.prog X=.ok (.value v') X':=by
 simp only [execOp,resolve,invoke,builtin,Sem.run_bind,Sem.run_pure,Result.andThen_ok,List.map_toArray,List.map_cons,List.map_nil,hs,hx,hrun]
theorem op_geq3 {x y:Operand} {n m:Int} {b:Bool} (e:ρ x=.int .i64 n) (e2:ρ y=.int .i64 m) (h:decide (m≤n)=b):(execOp ρ ⟨d,.binOp .geq 3 x y 3,ty,ps,af,g⟩).run Tryz.prog X=.ok (.value (.bool b)) X:=by
 subst h
 simp only [execOp,e,e2]
 go_simp
theorem op_eql3 {x y:Operand} {n m:Int} {b:Bool} (e:ρ x=.int .i64 n) (e2:ρ y=.int .i64 m) (h:decide (n=m)=b):(execOp ρ ⟨d,.binOp .eql 3 x y 3,ty,ps,af,g⟩).run Tryz.prog X=.ok (.value (.bool b)) X:=by
 subst h
 simp only [execOp,e,e2]
 go_simp
 by_cases q:n=m <;> simp [q]
theorem op_neq3 {x y:Operand} {n m:Int} {b:Bool} (e:ρ x=.int .i64 n) (e2:ρ y=.int .i64 m) (h:(!decide (n=m))=b):(execOp ρ ⟨d,.binOp .neq 3 x y 3,ty,ps,af,g⟩).run Tryz.prog X=.ok (.value (.bool b)) X:=by
 subst h
 simp only [execOp,e,e2]
 go_simp
 by_cases q:n=m <;> simp [q]
theorem op_eql9 {x y:Operand} {n m:ByteArray} {b:Bool} (e:ρ x=.string n) (e2:ρ y=.string m) (h:decide (n=m)=b):(execOp ρ ⟨d,.binOp .eql 9 x y 9,ty,ps,af,g⟩).run Tryz.prog X=.ok (.value (.bool b)) X:=by
 subst h
 simp only [execOp,e,e2]
 rw [←same_eq]
 go_simp
theorem op_pick {x y z:Operand} {b:Bool} {v:Value} (e:ρ x=.bool b) (e2:(if b then ρ y else ρ z)=v):(execOp ρ ⟨d,.pick x y z,ty,ps,af,g⟩).run Tryz.prog X=.ok (.value v) X:=by
 simp only [execOp,e]
 cases b <;> simp only [Bool.false_eq_true,if_true,if_false] at e2 <;> simp [asBool,e2]
theorem op_not {x:Operand} {b:Bool} (e:ρ x=.bool b):(execOp ρ ⟨d,.unOp .not 4 x,ty,ps,af,g⟩).run Tryz.prog X=.ok (.value (.bool (!b))) X:=by
 simp only [execOp,e]
 go_simp
theorem op_storeAt {T:TypeId} {x y:Operand} {v p:Value} {X':World} (e:ρ x=p) (e2:ρ y=v) (h:(Instr.storeAt T p v).run Tryz.prog X=.ok () X'):(execOp ρ ⟨d,.store T x y,ty,ps,af,g⟩).run Tryz.prog X=.ok .skip X':=by
 simp only [execOp,e,e2]
 simp [h]
theorem op_loadAt {T:TypeId} {x:Operand} {v p:Value} (e:ρ x=p) (h:(Instr.loadAt T p).run Tryz.prog X=.ok v X):(execOp ρ ⟨d,.load T x,ty,ps,af,g⟩).run Tryz.prog X=.ok (.value v) X:=by
 simp only [execOp,e]
 simp [h]
theorem op_store29 {x y:Operand} {B i:Nat} {a:Option Addr} {n m:Nat} {u:Value} (e:ρ x=.pointer (some ⟨B,i,none⟩)) (e2:ρ y=.slice a n m) (c:X.cell? ⟨B,i,none⟩=some u) (z:X.frozen? ⟨B,i,none⟩=false):(execOp ρ ⟨d,.store 29 x y,ty,ps,af,g⟩).run Tryz.prog X=.ok .skip (X.setCell ⟨B,i,none⟩ (.slice a n m)):=by
 simp only [execOp,e,e2]
 go_simp
theorem op_store32 {x y:Operand} {B i:Nat} {a:Option Addr} {n m:Nat} {u:Value} (e:ρ x=.pointer (some ⟨B,i,none⟩)) (e2:ρ y=.slice a n m) (c:X.cell? ⟨B,i,none⟩=some u) (z:X.frozen? ⟨B,i,none⟩=false):(execOp ρ ⟨d,.store 32 x y,ty,ps,af,g⟩).run Tryz.prog X=.ok .skip (X.setCell ⟨B,i,none⟩ (.slice a n m)):=by
 simp only [execOp,e,e2]
 go_simp
theorem op_store33 {x y:Operand} {B i:Nat} {a:Option Addr} {n m:Nat} {u:Value} (e:ρ x=.pointer (some ⟨B,i,none⟩)) (e2:ρ y=.slice a n m) (c:X.cell? ⟨B,i,none⟩=some u) (z:X.frozen? ⟨B,i,none⟩=false):(execOp ρ ⟨d,.store 33 x y,ty,ps,af,g⟩).run Tryz.prog X=.ok .skip (X.setCell ⟨B,i,none⟩ (.slice a n m)):=by
 simp only [execOp,e,e2]
 go_simp
theorem op_store22 {x y:Operand} {B i:Nat} {a:Option Addr} {n m:Nat} {u:Value} (e:ρ x=.pointer (some ⟨B,i,none⟩)) (e2:ρ y=.slice a n m) (c:X.cell? ⟨B,i,none⟩=some u) (z:X.frozen? ⟨B,i,none⟩=false):(execOp ρ ⟨d,.store 22 x y,ty,ps,af,g⟩).run Tryz.prog X=.ok .skip (X.setCell ⟨B,i,none⟩ (.slice a n m)):=by
 simp only [execOp,e,e2]
 go_simp
theorem op_call1 {f:FuncId} {x0:Operand} {v0:Value} {at':Array TypeId} (hf:∀ f,ρ (.func f)=.func (.func f) #[] #[]) (hc:Sem.run Tryz.prog (callFunc f #[v0]) X=.ok (.enter f #[v0]) X) (e0:ρ x0=v0):(execOp ρ ⟨d,.call { callee:=.value (.func f),args:=#[x0],argTypes:=at' },ty,ps,af,g⟩).run Tryz.prog X=.ok (.enter f #[v0]) X:=by
 simp only [execOp]
 simp [resolve,hf,e0,Deferred.ofValue,invoke,hc]
theorem op_call2 {f:FuncId} {x0 x1:Operand} {v0 v1:Value} {at':Array TypeId} (hf:∀ f,ρ (.func f)=.func (.func f) #[] #[]) (hc:Sem.run Tryz.prog (callFunc f #[v0,v1]) X=.ok (.enter f #[v0,v1]) X) (e0:ρ x0=v0) (e1:ρ x1=v1):(execOp ρ ⟨d,.call { callee:=.value (.func f),args:=#[x0,x1],argTypes:=at' },ty,ps,af,g⟩).run Tryz.prog X=.ok (.enter f #[v0,v1]) X:=by
 simp only [execOp]
 simp [resolve,hf,e0,e1,Deferred.ofValue,invoke,hc]
end
end Go.Proofs.YtongmhfpoopebaaGreat
