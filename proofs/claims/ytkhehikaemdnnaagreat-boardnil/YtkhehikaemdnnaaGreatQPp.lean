import Derived.Test.YtkhehikaemdnnaaGreatQBb
import Derived.Laws.EntriesVeiled
namespace Go.Proofs.YtkhehikaemdnnaaGreat
open Go.RowKit
theorem info_parts{e:TypeId}{z:Option Value}{s b:Nat}(h:(Tryz.prog.info? e).map (fun i=>(i.zero,i.size,i.bytes))=some (z,s,b)):∃ i,Tryz.prog.info? e=some i/\i.zero=z/\i.size=s/\i.bytes=b:=by
 cases hq:Tryz.prog.info? e with
 | none=>rw [hq]at h;cases h
 | some i =>
  rw [hq]at h;simp only [Option.map_some,Option.some.injEq,Prod.mk.injEq]at h;exact⟨i,rfl,h.1,h.2.1,h.2.2⟩
theorem info35:(Tryz.prog.info? 64).map (fun i=>(i.zero,i.size,i.bytes))=some (some (.agg #[.int .i64 0,.string ⟨#[]⟩,.slice none 0 0,.slice none 0 0,.slice none 0 0]),5,96):=by kernel_rfl
theorem size64:(Tryz.prog.info? 64).map (·.size)=some 5:=by kernel_rfl
theorem info50:(Tryz.prog.info? 56).map (fun i=>(i.zero,i.size,i.bytes))=some (some (.agg #[.int .i64 0,.string ⟨#[]⟩,.int .i64 0,.int .i64 0,.int .i64 0,.int .i64 0,.string ⟨#[]⟩]),7,72):=by kernel_rfl
theorem size56:(Tryz.prog.info? 56).map (·.size)=some 7:=by kernel_rfl
theorem info71:(Tryz.prog.info? 138).map (fun i=>(i.zero,i.size,i.bytes))=some (some (.agg #[.int .i64 0,.string ⟨#[]⟩,.int .i64 0,.bool false,.int .i64 0]),5,48):=by kernel_rfl
theorem size138:(Tryz.prog.info? 138).map (·.size)=some 5:=by kernel_rfl
theorem info74:(Tryz.prog.info? 141).map (fun i=>(i.zero,i.size,i.bytes))=some (some (.agg #[.int .i64 0,.string ⟨#[]⟩,.int .i64 0,.int .i64 0,.int .i64 0]),5,48):=by kernel_rfl
theorem size141:(Tryz.prog.info? 141).map (·.size)=some 5:=by kernel_rfl
theorem size30:(Tryz.prog.info? 30).map (·.size)=some 3:=by kernel_rfl
theorem size74:(Tryz.prog.info? 74).map (·.size)=some 2:=by kernel_rfl
theorem info3:(Tryz.prog.info? 3).map (fun i=>(i.zero,i.size,i.bytes))=some (some (.int .i64 0),1,8):=by kernel_rfl
theorem info9:(Tryz.prog.info? 9).map (fun i=>(i.zero,i.size,i.bytes))=some (some (.string ⟨#[]⟩),1,16):=by kernel_rfl
theorem size42:(Tryz.prog.info? 42).map (·.size)=some 3:=by kernel_rfl
theorem size45:(Tryz.prog.info? 45).map (·.size)=some 11:=by kernel_rfl
theorem size222:(Tryz.prog.info? 222).map (·.size)=some 3:=by kernel_rfl
section
variable {w w' : World} {v : Value}
theorem run_tb{base n m c:Nat}{xs news:List Value}{ad:Option Addr}(ho:w.ownsRow base 64 5 v n xs)(hb:base<=w.heap.size)(hs:(ad=none/\m=0/\c=0/\news=[])\/∃ a,ad=some a/\news.length=m*5/\(∀ j u,news[j]?=some u->w.cell? (a.add j)=some u))
  (h1:∀ u ∈ news,u.oneCell'=true) (hnm:(n+m)*96<=140737488355328):∃ ad' cap' w',(Builtin.append_ #[28,28] 28 #[v,.slice ad m c]).run Tryz.prog w=.ok (.slice ad' (n+m) cap') w'/\w'.ownsRow base 64 5 (.slice ad' (n+m) cap') (n+m) (xs ++ news)/\w.grownBy w' v.ownBlock/\((Value.slice ad' (n+m) cap').ownBlock=v.ownBlock\/(Value.slice ad' (n+m) cap').ownBlock=some w.heap.size):=by
 obtain⟨i0,hi,hz0,hz1,hz2⟩:=info_parts info35;rcases hs with⟨rfl,rfl,rfl,rfl⟩ | ⟨a,rfl,hl,hc⟩
 ·obtain⟨ad',cap',rfl⟩:=own_shape ho;refine⟨ad',cap',w,?_,by simpa using ho,⟨rfl,rfl,rfl,Nat.le_refl _,fun _ _ _=>rfl⟩,.inl rfl⟩;exact run_append_owned_none (P:=Tryz.prog) (w:=w) base 28 28 64 i0 5 Tryz.underlying28 hi _ n xs ho
 ·obtain⟨v',w',hr,ho',hg,_,hat⟩:=run_append_own_at (P:=Tryz.prog) (w:=w) base 28 28 64 i0 _ 5 96 Tryz.underlying28 hi hz0 hz1 hz2 rfl (by decide) v n xs ho a m c news hl hc h1 (by unfold maxLen;omega) hnm hb;obtain⟨ad',cap',rfl⟩:=own_shape ho';exact⟨ad',cap',w',hr,ho',hg,hat⟩
theorem run_col{base n m c:Nat}{xs news:List Value}{ad:Option Addr}(ho:w.ownsRow base 56 7 v n xs)(hb:base<=w.heap.size)(hs:(ad=none/\m=0/\c=0/\news=[])\/∃ a,ad=some a/\news.length=m*7/\(∀ j u,news[j]?=some u->w.cell? (a.add j)=some u))
  (h1:∀ u ∈ news,u.oneCell'=true) (hnm:(n+m)*72<=140737488355328):∃ ad' cap' w',(Builtin.append_ #[43,43] 43 #[v,.slice ad m c]).run Tryz.prog w=.ok (.slice ad' (n+m) cap') w'/\w'.ownsRow base 56 7 (.slice ad' (n+m) cap') (n+m) (xs ++ news)/\w.grownBy w' v.ownBlock/\((Value.slice ad' (n+m) cap').ownBlock=v.ownBlock\/(Value.slice ad' (n+m) cap').ownBlock=some w.heap.size):=by
 obtain⟨i0,hi,hz0,hz1,hz2⟩:=info_parts info50;rcases hs with⟨rfl,rfl,rfl,rfl⟩ | ⟨a,rfl,hl,hc⟩
 ·obtain⟨ad',cap',rfl⟩:=own_shape ho;refine⟨ad',cap',w,?_,by simpa using ho,⟨rfl,rfl,rfl,Nat.le_refl _,fun _ _ _=>rfl⟩,.inl rfl⟩;exact run_append_owned_none (P:=Tryz.prog) (w:=w) base 43 43 56 i0 7 Tryz.underlying43 hi _ n xs ho
 ·obtain⟨v',w',hr,ho',hg,_,hat⟩:=run_append_own_at (P:=Tryz.prog) (w:=w) base 43 43 56 i0 _ 7 72 Tryz.underlying43 hi hz0 hz1 hz2 rfl (by decide) v n xs ho a m c news hl hc h1 (by unfold maxLen;omega) hnm hb;obtain⟨ad',cap',rfl⟩:=own_shape ho';exact⟨ad',cap',w',hr,ho',hg,hat⟩
theorem run_ix{base n m c:Nat}{xs news:List Value}{ad:Option Addr}(ho:w.ownsRow base 138 5 v n xs)(hb:base<=w.heap.size)(hs:(ad=none/\m=0/\c=0/\news=[])\/∃ a,ad=some a/\news.length=m*5/\(∀ j u,news[j]?=some u->w.cell? (a.add j)=some u))
  (h1:∀ u ∈ news,u.oneCell'=true) (hnm:(n+m)*48<=140737488355328):∃ ad' cap' w',(Builtin.append_ #[61,61] 61 #[v,.slice ad m c]).run Tryz.prog w=.ok (.slice ad' (n+m) cap') w'/\w'.ownsRow base 138 5 (.slice ad' (n+m) cap') (n+m) (xs ++ news)/\w.grownBy w' v.ownBlock/\((Value.slice ad' (n+m) cap').ownBlock=v.ownBlock\/(Value.slice ad' (n+m) cap').ownBlock=some w.heap.size):=by
 obtain⟨i0,hi,hz0,hz1,hz2⟩:=info_parts info71;rcases hs with⟨rfl,rfl,rfl,rfl⟩ | ⟨a,rfl,hl,hc⟩
 ·obtain⟨ad',cap',rfl⟩:=own_shape ho;refine⟨ad',cap',w,?_,by simpa using ho,⟨rfl,rfl,rfl,Nat.le_refl _,fun _ _ _=>rfl⟩,.inl rfl⟩;exact run_append_owned_none (P:=Tryz.prog) (w:=w) base 61 61 138 i0 5 Tryz.underlying61 hi _ n xs ho
 ·obtain⟨v',w',hr,ho',hg,_,hat⟩:=run_append_own_at (P:=Tryz.prog) (w:=w) base 61 61 138 i0 _ 5 48 Tryz.underlying61 hi hz0 hz1 hz2 rfl (by decide) v n xs ho a m c news hl hc h1 (by unfold maxLen;omega) hnm hb;obtain⟨ad',cap',rfl⟩:=own_shape ho';exact⟨ad',cap',w',hr,ho',hg,hat⟩
theorem run_fk{base n m c:Nat}{xs news:List Value}{ad:Option Addr}(ho:w.ownsRow base 141 5 v n xs)(hb:base<=w.heap.size)(hs:(ad=none/\m=0/\c=0/\news=[])\/∃ a,ad=some a/\news.length=m*5/\(∀ j u,news[j]?=some u->w.cell? (a.add j)=some u))
  (h1:∀ u ∈ news,u.oneCell'=true) (hnm:(n+m)*48<=140737488355328):∃ ad' cap' w',(Builtin.append_ #[62,62] 62 #[v,.slice ad m c]).run Tryz.prog w=.ok (.slice ad' (n+m) cap') w'/\w'.ownsRow base 141 5 (.slice ad' (n+m) cap') (n+m) (xs ++ news)/\w.grownBy w' v.ownBlock/\((Value.slice ad' (n+m) cap').ownBlock=v.ownBlock\/(Value.slice ad' (n+m) cap').ownBlock=some w.heap.size):=by
 obtain⟨i0,hi,hz0,hz1,hz2⟩:=info_parts info74;rcases hs with⟨rfl,rfl,rfl,rfl⟩ | ⟨a,rfl,hl,hc⟩
 ·obtain⟨ad',cap',rfl⟩:=own_shape ho;refine⟨ad',cap',w,?_,by simpa using ho,⟨rfl,rfl,rfl,Nat.le_refl _,fun _ _ _=>rfl⟩,.inl rfl⟩;exact run_append_owned_none (P:=Tryz.prog) (w:=w) base 62 62 141 i0 5 Tryz.underlying62 hi _ n xs ho
 ·obtain⟨v',w',hr,ho',hg,_,hat⟩:=run_append_own_at (P:=Tryz.prog) (w:=w) base 62 62 141 i0 _ 5 48 Tryz.underlying62 hi hz0 hz1 hz2 rfl (by decide) v n xs ho a m c news hl hc h1 (by unfold maxLen;omega) hnm hb;obtain⟨ad',cap',rfl⟩:=own_shape ho';exact⟨ad',cap',w',hr,ho',hg,hat⟩
theorem run_in{base n m c:Nat}{xs news:List Value}{ad:Option Addr}(ho:w.ownsRow base 3 1 v n xs)(hb:base<=w.heap.size)(hs:(ad=none/\m=0/\c=0/\news=[])\/∃ a,ad=some a/\news.length=m*1/\(∀ j u,news[j]?=some u->w.cell? (a.add j)=some u))
  (h1:∀ u ∈ news,u.oneCell'=true) (hnm:(n+m)*8<=140737488355328):∃ ad' cap' w',(Builtin.append_ #[85,85] 85 #[v,.slice ad m c]).run Tryz.prog w=.ok (.slice ad' (n+m) cap') w'/\w'.ownsRow base 3 1 (.slice ad' (n+m) cap') (n+m) (xs ++ news)/\w.grownBy w' v.ownBlock/\((Value.slice ad' (n+m) cap').ownBlock=v.ownBlock\/(Value.slice ad' (n+m) cap').ownBlock=some w.heap.size):=by
 obtain⟨i0,hi,hz0,hz1,hz2⟩:=info_parts info3;rcases hs with⟨rfl,rfl,rfl,rfl⟩ | ⟨a,rfl,hl,hc⟩
 ·obtain⟨ad',cap',rfl⟩:=own_shape ho;refine⟨ad',cap',w,?_,by simpa using ho,⟨rfl,rfl,rfl,Nat.le_refl _,fun _ _ _=>rfl⟩,.inl rfl⟩;exact run_append_owned_none (P:=Tryz.prog) (w:=w) base 85 85 3 i0 1 Tryz.underlying85 hi _ n xs ho
 ·obtain⟨v',w',hr,ho',hg,_,hat⟩:=run_append_own_at (P:=Tryz.prog) (w:=w) base 85 85 3 i0 _ 1 8 Tryz.underlying85 hi hz0 hz1 hz2 rfl (by decide) v n xs ho a m c news hl hc h1 (by unfold maxLen;omega) hnm hb;obtain⟨ad',cap',rfl⟩:=own_shape ho';exact⟨ad',cap',w',hr,ho',hg,hat⟩
theorem run_st{base n m c:Nat}{xs news:List Value}{ad:Option Addr}(ho:w.ownsRow base 9 1 v n xs)(hb:base<=w.heap.size)(hs:(ad=none/\m=0/\c=0/\news=[])\/∃ a,ad=some a/\news.length=m*1/\(∀ j u,news[j]?=some u->w.cell? (a.add j)=some u))
  (h1:∀ u ∈ news,u.oneCell'=true) (hnm:(n+m)*16<=140737488355328):∃ ad' cap' w',(Builtin.append_ #[155,155] 155 #[v,.slice ad m c]).run Tryz.prog w=.ok (.slice ad' (n+m) cap') w'/\w'.ownsRow base 9 1 (.slice ad' (n+m) cap') (n+m) (xs ++ news)/\w.grownBy w' v.ownBlock/\((Value.slice ad' (n+m) cap').ownBlock=v.ownBlock\/(Value.slice ad' (n+m) cap').ownBlock=some w.heap.size):=by
 obtain⟨i0,hi,hz0,hz1,hz2⟩:=info_parts info9;rcases hs with⟨rfl,rfl,rfl,rfl⟩ | ⟨a,rfl,hl,hc⟩
 ·obtain⟨ad',cap',rfl⟩:=own_shape ho;refine⟨ad',cap',w,?_,by simpa using ho,⟨rfl,rfl,rfl,Nat.le_refl _,fun _ _ _=>rfl⟩,.inl rfl⟩;exact run_append_owned_none (P:=Tryz.prog) (w:=w) base 155 155 9 i0 1 Tryz.underlying155 hi _ n xs ho
 ·obtain⟨v',w',hr,ho',hg,_,hat⟩:=run_append_own_at (P:=Tryz.prog) (w:=w) base 155 155 9 i0 _ 1 16 Tryz.underlying155 hi hz0 hz1 hz2 rfl (by decide) v n xs ho a m c news hl hc h1 (by unfold maxLen;omega) hnm hb;obtain⟨ad',cap',rfl⟩:=own_shape ho';exact⟨ad',cap',w',hr,ho',hg,hat⟩
end
section
variable {ρ : Operand -> Value} {X : World} {d : Option Tmp} {ty : TypeId} {ps : String} {af : Array Edge} {g : Option (Nat × Bool)}
theorem op_move{x:Operand}{v:Value}(e:ρ x=v):(execOp ρ ⟨d,.move x,ty,ps,af,g⟩).run Tryz.prog X=.ok (.value v) X:=by
 simp only [execOp,e];rfl
theorem op_assign{x:Operand}{v:Value}(e:ρ x=v):(execOp ρ ⟨d,.assign x,ty,ps,af,g⟩).run Tryz.prog X=.ok (.value v) X:=by
 simp only [execOp,e];rfl
theorem op_nil{x:Operand}{a:Addr}(e:ρ x=.pointer (some a)):(execOp ρ ⟨d,.nilCheck x,ty,ps,af,g⟩).run Tryz.prog X=.ok (.value (.pointer (some a))) X:=by
 simp only [execOp,e];rfl
theorem op_load3{x:Operand}{B i:Nat}{n:Int}(e:ρ x=.pointer (some ⟨B,i,none⟩))(y:X.cell? ⟨B,i,none⟩=some (.int .i64 n)):(execOp ρ ⟨d,.load 3 x,ty,ps,af,g⟩).run Tryz.prog X=.ok (.value (.int .i64 n)) X:=by
 simp only [execOp,e]
 go_simp
theorem op_load4{x:Operand}{B i:Nat}{n:Bool}(e:ρ x=.pointer (some ⟨B,i,none⟩))(y:X.cell? ⟨B,i,none⟩=some (.bool n)):(execOp ρ ⟨d,.load 4 x,ty,ps,af,g⟩).run Tryz.prog X=.ok (.value (.bool n)) X:=by
 simp only [execOp,e]
 go_simp
theorem op_load9{x:Operand}{B i:Nat}{n:ByteArray}(e:ρ x=.pointer (some ⟨B,i,none⟩))(y:X.cell? ⟨B,i,none⟩=some (.string n)):(execOp ρ ⟨d,.load 9 x,ty,ps,af,g⟩).run Tryz.prog X=.ok (.value (.string n)) X:=by
 simp only [execOp,e]
 go_simp
theorem op_load28{x:Operand}{B i:Nat}{a:Option Addr}{n m:Nat}(e:ρ x=.pointer (some ⟨B,i,none⟩))(y:X.cell? ⟨B,i,none⟩=some (.slice a n m)):(execOp ρ ⟨d,.load 28 x,ty,ps,af,g⟩).run Tryz.prog X=.ok (.value (.slice a n m)) X:=by
 simp only [execOp,e]
 go_simp
theorem op_load43{x:Operand}{B i:Nat}{a:Option Addr}{n m:Nat}(e:ρ x=.pointer (some ⟨B,i,none⟩))(y:X.cell? ⟨B,i,none⟩=some (.slice a n m)):(execOp ρ ⟨d,.load 43 x,ty,ps,af,g⟩).run Tryz.prog X=.ok (.value (.slice a n m)) X:=by
 simp only [execOp,e]
 go_simp
theorem op_load61{x:Operand}{B i:Nat}{a:Option Addr}{n m:Nat}(e:ρ x=.pointer (some ⟨B,i,none⟩))(y:X.cell? ⟨B,i,none⟩=some (.slice a n m)):(execOp ρ ⟨d,.load 61 x,ty,ps,af,g⟩).run Tryz.prog X=.ok (.value (.slice a n m)) X:=by
 simp only [execOp,e]
 go_simp
theorem op_load62{x:Operand}{B i:Nat}{a:Option Addr}{n m:Nat}(e:ρ x=.pointer (some ⟨B,i,none⟩))(y:X.cell? ⟨B,i,none⟩=some (.slice a n m)):(execOp ρ ⟨d,.load 62 x,ty,ps,af,g⟩).run Tryz.prog X=.ok (.value (.slice a n m)) X:=by
 simp only [execOp,e]
 go_simp
theorem op_load151{x:Operand}{B i:Nat}{n:Option Addr}(e:ρ x=.pointer (some ⟨B,i,none⟩))(y:X.cell? ⟨B,i,none⟩=some (.pointer n)):(execOp ρ ⟨d,.load 151 x,ty,ps,af,g⟩).run Tryz.prog X=.ok (.value (.pointer n)) X:=by
 simp only [execOp,e]
 go_simp
theorem op_load164{x:Operand}{B i:Nat}{n:Option Addr}(e:ρ x=.pointer (some ⟨B,i,none⟩))(y:X.cell? ⟨B,i,none⟩=some (.pointer n)):(execOp ρ ⟨d,.load 164 x,ty,ps,af,g⟩).run Tryz.prog X=.ok (.value (.pointer n)) X:=by
 simp only [execOp,e]
 go_simp
theorem op_f30_0{x:Operand}{B o:Nat}(e:ρ x=.pointer (some ⟨B,o,none⟩)):(execOp ρ ⟨d,.fieldAddr 30 x 0,ty,ps,af,g⟩).run Tryz.prog X=.ok (.value (.pointer (some ⟨B,o,none⟩))) X:=by
 simp only [execOp,e]
 go_simp
theorem op_f30_2{x:Operand}{B o:Nat}(e:ρ x=.pointer (some ⟨B,o,none⟩)):(execOp ρ ⟨d,.fieldAddr 30 x 2,ty,ps,af,g⟩).run Tryz.prog X=.ok (.value (.pointer (some ⟨B,o+2,none⟩))) X:=by
 simp only [execOp,e]
 go_simp
theorem op_f45_1{x:Operand}{B o:Nat}(e:ρ x=.pointer (some ⟨B,o,none⟩)):(execOp ρ ⟨d,.fieldAddr 45 x 1,ty,ps,af,g⟩).run Tryz.prog X=.ok (.value (.pointer (some ⟨B,o+1,none⟩))) X:=by
 simp only [execOp,e]
 go_simp
theorem op_f45_2{x:Operand}{B o:Nat}(e:ρ x=.pointer (some ⟨B,o,none⟩)):(execOp ρ ⟨d,.fieldAddr 45 x 2,ty,ps,af,g⟩).run Tryz.prog X=.ok (.value (.pointer (some ⟨B,o+2,none⟩))) X:=by
 simp only [execOp,e]
 go_simp
theorem op_f45_3{x:Operand}{B o:Nat}(e:ρ x=.pointer (some ⟨B,o,none⟩)):(execOp ρ ⟨d,.fieldAddr 45 x 3,ty,ps,af,g⟩).run Tryz.prog X=.ok (.value (.pointer (some ⟨B,o+3,none⟩))) X:=by
 simp only [execOp,e]
 go_simp
theorem op_f45_4{x:Operand}{B o:Nat}(e:ρ x=.pointer (some ⟨B,o,none⟩)):(execOp ρ ⟨d,.fieldAddr 45 x 4,ty,ps,af,g⟩).run Tryz.prog X=.ok (.value (.pointer (some ⟨B,o+4,none⟩))) X:=by
 simp only [execOp,e]
 go_simp
theorem op_f45_5{x:Operand}{B o:Nat}(e:ρ x=.pointer (some ⟨B,o,none⟩)):(execOp ρ ⟨d,.fieldAddr 45 x 5,ty,ps,af,g⟩).run Tryz.prog X=.ok (.value (.pointer (some ⟨B,o+5,none⟩))) X:=by
 simp only [execOp,e]
 go_simp
theorem op_f45_6{x:Operand}{B o:Nat}(e:ρ x=.pointer (some ⟨B,o,none⟩)):(execOp ρ ⟨d,.fieldAddr 45 x 6,ty,ps,af,g⟩).run Tryz.prog X=.ok (.value (.pointer (some ⟨B,o+6,none⟩))) X:=by
 simp only [execOp,e]
 go_simp
theorem op_f45_7{x:Operand}{B o:Nat}(e:ρ x=.pointer (some ⟨B,o,none⟩)):(execOp ρ ⟨d,.fieldAddr 45 x 7,ty,ps,af,g⟩).run Tryz.prog X=.ok (.value (.pointer (some ⟨B,o+7,none⟩))) X:=by
 simp only [execOp,e]
 go_simp
theorem op_f64_0{x:Operand}{B o:Nat}(e:ρ x=.pointer (some ⟨B,o,none⟩)):(execOp ρ ⟨d,.fieldAddr 64 x 0,ty,ps,af,g⟩).run Tryz.prog X=.ok (.value (.pointer (some ⟨B,o,none⟩))) X:=by
 simp only [execOp,e]
 go_simp
theorem op_f64_2{x:Operand}{B o:Nat}(e:ρ x=.pointer (some ⟨B,o,none⟩)):(execOp ρ ⟨d,.fieldAddr 64 x 2,ty,ps,af,g⟩).run Tryz.prog X=.ok (.value (.pointer (some ⟨B,o+2,none⟩))) X:=by
 simp only [execOp,e]
 go_simp
theorem op_f64_3{x:Operand}{B o:Nat}(e:ρ x=.pointer (some ⟨B,o,none⟩)):(execOp ρ ⟨d,.fieldAddr 64 x 3,ty,ps,af,g⟩).run Tryz.prog X=.ok (.value (.pointer (some ⟨B,o+3,none⟩))) X:=by
 simp only [execOp,e]
 go_simp
theorem op_f64_4{x:Operand}{B o:Nat}(e:ρ x=.pointer (some ⟨B,o,none⟩)):(execOp ρ ⟨d,.fieldAddr 64 x 4,ty,ps,af,g⟩).run Tryz.prog X=.ok (.value (.pointer (some ⟨B,o+4,none⟩))) X:=by
 simp only [execOp,e]
 go_simp
theorem op_f56_0{x:Operand}{B o:Nat}(e:ρ x=.pointer (some ⟨B,o,none⟩)):(execOp ρ ⟨d,.fieldAddr 56 x 0,ty,ps,af,g⟩).run Tryz.prog X=.ok (.value (.pointer (some ⟨B,o,none⟩))) X:=by
 simp only [execOp,e]
 go_simp
theorem op_f56_1{x:Operand}{B o:Nat}(e:ρ x=.pointer (some ⟨B,o,none⟩)):(execOp ρ ⟨d,.fieldAddr 56 x 1,ty,ps,af,g⟩).run Tryz.prog X=.ok (.value (.pointer (some ⟨B,o+1,none⟩))) X:=by
 simp only [execOp,e]
 go_simp
theorem op_f56_2{x:Operand}{B o:Nat}(e:ρ x=.pointer (some ⟨B,o,none⟩)):(execOp ρ ⟨d,.fieldAddr 56 x 2,ty,ps,af,g⟩).run Tryz.prog X=.ok (.value (.pointer (some ⟨B,o+2,none⟩))) X:=by
 simp only [execOp,e]
 go_simp
theorem op_f141_2{x:Operand}{B o:Nat}(e:ρ x=.pointer (some ⟨B,o,none⟩)):(execOp ρ ⟨d,.fieldAddr 141 x 2,ty,ps,af,g⟩).run Tryz.prog X=.ok (.value (.pointer (some ⟨B,o+2,none⟩))) X:=by
 simp only [execOp,e]
 go_simp
theorem op_f141_3{x:Operand}{B o:Nat}(e:ρ x=.pointer (some ⟨B,o,none⟩)):(execOp ρ ⟨d,.fieldAddr 141 x 3,ty,ps,af,g⟩).run Tryz.prog X=.ok (.value (.pointer (some ⟨B,o+3,none⟩))) X:=by
 simp only [execOp,e]
 go_simp
theorem op_f74_1{x:Operand}{B o:Nat}(e:ρ x=.pointer (some ⟨B,o,none⟩)):(execOp ρ ⟨d,.fieldAddr 74 x 1,ty,ps,af,g⟩).run Tryz.prog X=.ok (.value (.pointer (some ⟨B,o+1,none⟩))) X:=by
 simp only [execOp,e]
 go_simp
theorem op_append28{s x:Operand}{v1 v2 v':Value}{X':World}(hs:ρ s=v1)(hx:ρ x=v2)(hrun:(Builtin.append_ #[28,28] 28 #[v1,v2]).run Tryz.prog X=.ok v' X'):(execOp ρ ⟨d,.call { callee:=.builtin .append,args:=#[s,x],argTypes:=#[28,28] },28,ps,af,g⟩).run Tryz.prog X=.ok (.value v') X':=by
 simp only [execOp,resolve,invoke,builtin,Sem.run_bind,Sem.run_pure,Result.andThen_ok,List.map_toArray,List.map_cons,List.map_nil,hs,hx,hrun]
theorem op_i43{x y:Operand}{B o n m i:Nat}(e:ρ x=.slice (some ⟨B,o,none⟩) n m)(e2:ρ y=.int .i64 (i:Int))(h:i<n):(execOp ρ ⟨d,.indexAddr 43 x y,ty,ps,af,g⟩).run Tryz.prog X=.ok (.value (.pointer (some ⟨B,o+i*7,none⟩))) X:=by
 have k0:(0:Int)<=(i:Int):=by omega
 have k1:(i:Int)<(n:Int):=by omega
 simp only [execOp,e,e2]
 go_simp
theorem op_append43{s x:Operand}{v1 v2 v':Value}{X':World}(hs:ρ s=v1)(hx:ρ x=v2)(hrun:(Builtin.append_ #[43,43] 43 #[v1,v2]).run Tryz.prog X=.ok v' X'):(execOp ρ ⟨d,.call { callee:=.builtin .append,args:=#[s,x],argTypes:=#[43,43] },43,ps,af,g⟩).run Tryz.prog X=.ok (.value v') X':=by
 simp only [execOp,resolve,invoke,builtin,Sem.run_bind,Sem.run_pure,Result.andThen_ok,List.map_toArray,List.map_cons,List.map_nil,hs,hx,hrun]
theorem op_append61{s x:Operand}{v1 v2 v':Value}{X':World}(hs:ρ s=v1)(hx:ρ x=v2)(hrun:(Builtin.append_ #[61,61] 61 #[v1,v2]).run Tryz.prog X=.ok v' X'):(execOp ρ ⟨d,.call { callee:=.builtin .append,args:=#[s,x],argTypes:=#[61,61] },61,ps,af,g⟩).run Tryz.prog X=.ok (.value v') X':=by
 simp only [execOp,resolve,invoke,builtin,Sem.run_bind,Sem.run_pure,Result.andThen_ok,List.map_toArray,List.map_cons,List.map_nil,hs,hx,hrun]
theorem op_append62{s x:Operand}{v1 v2 v':Value}{X':World}(hs:ρ s=v1)(hx:ρ x=v2)(hrun:(Builtin.append_ #[62,62] 62 #[v1,v2]).run Tryz.prog X=.ok v' X'):(execOp ρ ⟨d,.call { callee:=.builtin .append,args:=#[s,x],argTypes:=#[62,62] },62,ps,af,g⟩).run Tryz.prog X=.ok (.value v') X':=by
 simp only [execOp,resolve,invoke,builtin,Sem.run_bind,Sem.run_pure,Result.andThen_ok,List.map_toArray,List.map_cons,List.map_nil,hs,hx,hrun]
theorem op_i106{x y:Operand}{B o n m i:Nat}(e:ρ x=.slice (some ⟨B,o,none⟩) n m)(e2:ρ y=.int .i64 (i:Int))(h:i<n):(execOp ρ ⟨d,.indexAddr 106 x y,ty,ps,af,g⟩).run Tryz.prog X=.ok (.value (.pointer (some ⟨B,o+i*2,none⟩))) X:=by
 have k0:(0:Int)<=(i:Int):=by omega
 have k1:(i:Int)<(n:Int):=by omega
 simp only [execOp,e,e2]
 go_simp
theorem op_len106{x:Operand}{a:Option Addr}{n m:Nat}(e:ρ x=.slice a n m):(execOp ρ ⟨d,.call { callee:=.builtin .len,args:=#[x],argTypes:=#[106] },ty,ps,af,g⟩).run Tryz.prog X=.ok (.value (.int .i64 (n:Int))) X:=by
 simp only [execOp,resolve,invoke,builtin,Sem.run_bind,Sem.run_pure,Result.andThen_ok,List.map_toArray,List.map_cons,List.map_nil,e]
 go_simp
theorem op_i85{x y:Operand}{B o n m i:Nat}(e:ρ x=.slice (some ⟨B,o,none⟩) n m)(e2:ρ y=.int .i64 (i:Int))(h:i<n):(execOp ρ ⟨d,.indexAddr 85 x y,ty,ps,af,g⟩).run Tryz.prog X=.ok (.value (.pointer (some ⟨B,o+i,none⟩))) X:=by
 have k0:(0:Int)<=(i:Int):=by omega
 have k1:(i:Int)<(n:Int):=by omega
 simp only [execOp,e,e2]
 go_simp
theorem op_append85{s x:Operand}{v1 v2 v':Value}{X':World}(hs:ρ s=v1)(hx:ρ x=v2)(hrun:(Builtin.append_ #[85,85] 85 #[v1,v2]).run Tryz.prog X=.ok v' X'):(execOp ρ ⟨d,.call { callee:=.builtin .append,args:=#[s,x],argTypes:=#[85,85] },85,ps,af,g⟩).run Tryz.prog X=.ok (.value v') X':=by
 simp only [execOp,resolve,invoke,builtin,Sem.run_bind,Sem.run_pure,Result.andThen_ok,List.map_toArray,List.map_cons,List.map_nil,hs,hx,hrun]
theorem op_lss3{x y:Operand}{n m:Int}{b:Bool}(e:ρ x=.int .i64 n)(e2:ρ y=.int .i64 m)(h:decide (n<m)=b):(execOp ρ ⟨d,.binOp .lss 3 x y 3,ty,ps,af,g⟩).run Tryz.prog X=.ok (.value (.bool b)) X:=by
 subst h;simp only [execOp,e,e2]
 go_simp
theorem op_geq3{x y:Operand}{n m:Int}{b:Bool}(e:ρ x=.int .i64 n)(e2:ρ y=.int .i64 m)(h:decide (m<=n)=b):(execOp ρ ⟨d,.binOp .geq 3 x y 3,ty,ps,af,g⟩).run Tryz.prog X=.ok (.value (.bool b)) X:=by
 subst h;simp only [execOp,e,e2]
 go_simp
theorem op_neq3{x y:Operand}{n m:Int}{b:Bool}(e:ρ x=.int .i64 n)(e2:ρ y=.int .i64 m)(h:(!decide (n=m))=b):(execOp ρ ⟨d,.binOp .neq 3 x y 3,ty,ps,af,g⟩).run Tryz.prog X=.ok (.value (.bool b)) X:=by
 subst h;simp only [execOp,e,e2]
 go_simp
 by_cases q:n=m <;> simp [q]
theorem op_pick{x y z:Operand}{b:Bool}{v:Value}(e:ρ x=.bool b)(e2:(if b then ρ y else ρ z)=v):(execOp ρ ⟨d,.pick x y z,ty,ps,af,g⟩).run Tryz.prog X=.ok (.value v) X:=by
 simp only [execOp,e];cases b <;> simp only [Bool.false_eq_true,if_true,if_false]at e2 <;> simp [asBool,e2]
theorem op_not{x:Operand}{b:Bool}(e:ρ x=.bool b):(execOp ρ ⟨d,.unOp .not 4 x,ty,ps,af,g⟩).run Tryz.prog X=.ok (.value (.bool (!b))) X:=by
 simp only [execOp,e]
 go_simp
theorem op_storeAt{T:TypeId}{x y:Operand}{v p:Value}{X':World}(e:ρ x=p)(e2:ρ y=v)(h:(Instr.storeAt T p v).run Tryz.prog X=.ok () X'):(execOp ρ ⟨d,.store T x y,ty,ps,af,g⟩).run Tryz.prog X=.ok .skip X':=by
 simp only [execOp,e,e2];simp [h]
theorem op_loadAt{T:TypeId}{x:Operand}{v p:Value}(e:ρ x=p)(h:(Instr.loadAt T p).run Tryz.prog X=.ok v X):(execOp ρ ⟨d,.load T x,ty,ps,af,g⟩).run Tryz.prog X=.ok (.value v) X:=by
 simp only [execOp,e];simp [h]
theorem op_store43{x y:Operand}{B i:Nat}{a:Option Addr}{n m:Nat}{u:Value}(e:ρ x=.pointer (some ⟨B,i,none⟩))(e2:ρ y=.slice a n m)(c:X.cell? ⟨B,i,none⟩=some u)(z:X.frozen? ⟨B,i,none⟩=false):(execOp ρ ⟨d,.store 43 x y,ty,ps,af,g⟩).run Tryz.prog X=.ok .skip (X.setCell ⟨B,i,none⟩ (.slice a n m)):=by
 simp only [execOp,e,e2]
 go_simp
theorem op_store61{x y:Operand}{B i:Nat}{a:Option Addr}{n m:Nat}{u:Value}(e:ρ x=.pointer (some ⟨B,i,none⟩))(e2:ρ y=.slice a n m)(c:X.cell? ⟨B,i,none⟩=some u)(z:X.frozen? ⟨B,i,none⟩=false):(execOp ρ ⟨d,.store 61 x y,ty,ps,af,g⟩).run Tryz.prog X=.ok .skip (X.setCell ⟨B,i,none⟩ (.slice a n m)):=by
 simp only [execOp,e,e2]
 go_simp
theorem op_store62{x y:Operand}{B i:Nat}{a:Option Addr}{n m:Nat}{u:Value}(e:ρ x=.pointer (some ⟨B,i,none⟩))(e2:ρ y=.slice a n m)(c:X.cell? ⟨B,i,none⟩=some u)(z:X.frozen? ⟨B,i,none⟩=false):(execOp ρ ⟨d,.store 62 x y,ty,ps,af,g⟩).run Tryz.prog X=.ok .skip (X.setCell ⟨B,i,none⟩ (.slice a n m)):=by
 simp only [execOp,e,e2]
 go_simp
theorem op_store28{x y:Operand}{B i:Nat}{a:Option Addr}{n m:Nat}{u:Value}(e:ρ x=.pointer (some ⟨B,i,none⟩))(e2:ρ y=.slice a n m)(c:X.cell? ⟨B,i,none⟩=some u)(z:X.frozen? ⟨B,i,none⟩=false):(execOp ρ ⟨d,.store 28 x y,ty,ps,af,g⟩).run Tryz.prog X=.ok .skip (X.setCell ⟨B,i,none⟩ (.slice a n m)):=by
 simp only [execOp,e,e2]
 go_simp
theorem op_call1{f:FuncId}{x0:Operand}{v0:Value}{at':Array TypeId}(hf:∀ f,ρ (.func f)=.func (.func f) #[] #[])(hc:Sem.run Tryz.prog (callFunc f #[v0]) X=.ok (.enter f #[v0]) X)(e0:ρ x0=v0):(execOp ρ ⟨d,.call { callee:=.value (.func f),args:=#[x0],argTypes:=at' },ty,ps,af,g⟩).run Tryz.prog X=.ok (.enter f #[v0]) X:=by
 simp only [execOp];simp [resolve,hf,e0,Deferred.ofValue,invoke,hc]
theorem op_call2{f:FuncId}{x0 x1:Operand}{v0 v1:Value}{at':Array TypeId}(hf:∀ f,ρ (.func f)=.func (.func f) #[] #[])(hc:Sem.run Tryz.prog (callFunc f #[v0,v1]) X=.ok (.enter f #[v0,v1]) X)(e0:ρ x0=v0)(e1:ρ x1=v1):(execOp ρ ⟨d,.call { callee:=.value (.func f),args:=#[x0,x1],argTypes:=at' },ty,ps,af,g⟩).run Tryz.prog X=.ok (.enter f #[v0,v1]) X:=by
 simp only [execOp];simp [resolve,hf,e0,e1,Deferred.ofValue,invoke,hc]
theorem op_call3{f:FuncId}{x0 x1 x2:Operand}{v0 v1 v2:Value}{at':Array TypeId}(hf:∀ f,ρ (.func f)=.func (.func f) #[] #[])(hc:Sem.run Tryz.prog (callFunc f #[v0,v1,v2]) X=.ok (.enter f #[v0,v1,v2]) X)(e0:ρ x0=v0)(e1:ρ x1=v1)(e2:ρ x2=v2):(execOp ρ ⟨d,.call { callee:=.value (.func f),args:=#[x0,x1,x2],argTypes:=at' },ty,ps,af,g⟩).run Tryz.prog X=.ok (.enter f #[v0,v1,v2]) X:=by
 simp only [execOp];simp [resolve,hf,e0,e1,e2,Deferred.ofValue,invoke,hc]
end
end Go.Proofs.YtkhehikaemdnnaaGreat
namespace Go.Proofs.YtkhehikaemdnnaaGreat
set_option maxRecDepth 100000
set_option maxHeartbeats 4000000
open Go.RowKit
abbrev Mv:=Int × Int
abbrev mvL(m:Mv):List Value:=[.int .i64 m.1,.int .i64 m.2]
theorem mvL_len(x:Mv):(mvL x).length=2:=rfl
def onP(k:Int):List Mv :=
 if k=1 then [(1,3)]
 else if k=2 then [(1,1),(1,2),(3,0),(4,0),(1,3)]
 else if k=3 then [(1,2),(1,1),(3,0),(5,0),(1,0)]
 else if k=4 then [(1,1),(1,2),(3,0),(4,0),(2,3)]
 else if k=5 then [(2,2),(1,1),(1,0)]
 else if k=6 then [(1,2),(3,0),(4,0),(1,3)]
 else if k=7 then [(1,0)] else []
def backP(k:Int):List Mv :=
 if k=2 then [(1,1),(3,0),(5,0),(1,0)]
 else if k=4 then [(1,1),(1,0)]
 else if k=6 then [(1,0)] else []
def pathP(k:Int)(b:Bool):List Mv:=if b then backP k else onP k
def MvAns(w:World)(L:List Mv)(e:Ending)(w':World):Prop:=∃ ad cap,e=.returned (.slice ad L.length cap)/\w'.ownsRow w.heap.size 74 2 (.slice ad L.length cap) L.length (L.flatMap mvL)/\Below w.heap.size w w'
theorem mv_ans{w X:World}{L:List Mv}{n:Nat}{cs:Array Value}(hb:Below w.heap.size w X)(hn:L.length=n)(hm:n<=10)(hc:cs.toList=L.flatMap mvL):MvAns w L (.returned (.slice (some ⟨X.heap.size,0,none⟩) n n)) (X.alloc (.cells cs 74)):=by
 subst hn;have hl:=fl_len mvL_len L;have hs:cs.size=L.length*2:=by rw [<-Array.length_toList,hc,hl]
 refine⟨some ⟨X.heap.size,0,none⟩,L.length,rfl,⟨hl,.inr ⟨X.heap.size,L.length,cs,rfl,hb.size,heap_alloc_new X _,Nat.le_refl _,?_,hs,?_⟩⟩,hb.trans ((bnew X _).mono hb.size)⟩
 ·unfold maxLen;omega
 ·rw [hc,List.take_of_length_le (by omega)]
theorem mv_none{w X:World}(hb:Below w.heap.size w X):MvAns w [] (.returned (.slice none 0 0)) X:=⟨none,0,rfl,World.ownsRow_nil _ _ 74 2,hb⟩
section
variable {w0 w : World}
theorem bump_any(hb:Below w0.heap.size w0 w)(s:Int):Calls Tryz.prog 111 #[.int .i64 s] w fun e w'=>e=.returned (.agg #[.int .i64 1,.int .i64 s])/\Below w0.heap.size w0 w':=by
 have HB:=lh hb;clear hb;go_enter Tryz.func111,Tryz.ntmps111;go_wp2;have hj:=heap_alloc_new w (.cells #[.int .i64 1,.int .i64 s] 74);refine bodyPost_ret (results_one rfl rfl (load_var (w:=w.alloc _) hj Tryz.underlying74 rfl size74)) rfl ?_;exact⟨rfl,bgo HB.out (bnew _ _)⟩
theorem plain_any(hb:Below w0.heap.size w0 w)(s:Int):Calls Tryz.prog 112 #[.int .i64 s] w fun e w'=>e=.returned (.agg #[.int .i64 s,.int .i64 0])/\Below w0.heap.size w0 w':=by
 have HB:=lh hb;clear hb;go_enter Tryz.func112,Tryz.ntmps112;go_wp2;have hj:=heap_alloc_new w (.cells #[.int .i64 s,.int .i64 0] 74);refine bodyPost_ret (results_one rfl rfl (load_var (w:=w.alloc _) hj Tryz.underlying74 rfl size74)) rfl ?_;exact⟨rfl,bgo HB.out (bnew _ _)⟩
theorem still_any(hb:Below w0.heap.size w0 w)(s:Int):Calls Tryz.prog 113 #[.int .i64 s] w fun e w'=>e=.returned (.agg #[.int .i64 2,.int .i64 s])/\Below w0.heap.size w0 w':=by
 have HB:=lh hb;clear hb;go_enter Tryz.func113,Tryz.ntmps113;go_wp2;have hj:=heap_alloc_new w (.cells #[.int .i64 2,.int .i64 s] 74);refine bodyPost_ret (results_one rfl rfl (load_var (w:=w.alloc _) hj Tryz.underlying74 rfl size74)) rfl ?_;exact⟨rfl,bgo HB.out (bnew _ _)⟩
theorem wayOn_any(w:World)(k:Int):Calls Tryz.prog 88 #[.int .i64 k] w (MvAns w (onP k)):=by
 have hb:Hid (Below w.heap.size w w):=lh (Below.refl _ w);unfold onP;go_enter Tryz.func88,Tryz.ntmps88;by_cases h1:k=1
 ·subst h1;go_wp2_with (go_at_call 111;refine(bump_any hb.out _).mono ?_;rintro e w1 ⟨rfl,b1⟩;replace hb:=lh b1;clear b1)
  go_ret;exact mv_ans hb.out rfl (by decide) rfl
 by_cases h2:k=2
 ·subst h2;clear h1;go_wp2_with (first|(go_at_call 111;refine(bump_any hb.out _).mono ?_;rintro e w1 ⟨rfl,b1⟩;replace hb:=lh b1;clear b1)|(go_at_call 112;refine(plain_any hb.out _).mono ?_;rintro e w1 ⟨rfl,b1⟩;replace hb:=lh b1;clear b1))
  go_ret;exact mv_ans hb.out rfl (by decide) rfl
 by_cases h3:k=3
 ·subst h3;clear h1 h2;go_wp2_with (first|(go_at_call 111;refine(bump_any hb.out _).mono ?_;rintro e w1 ⟨rfl,b1⟩;replace hb:=lh b1;clear b1)|(go_at_call 112;refine(plain_any hb.out _).mono ?_;rintro e w1 ⟨rfl,b1⟩;replace hb:=lh b1;clear b1))
  go_ret;exact mv_ans hb.out rfl (by decide) rfl
 by_cases h4:k=4
 ·subst h4;clear h1 h2 h3;go_wp2_with (first|(go_at_call 111;refine(bump_any hb.out _).mono ?_;rintro e w1 ⟨rfl,b1⟩;replace hb:=lh b1;clear b1)|(go_at_call 112;refine(plain_any hb.out _).mono ?_;rintro e w1 ⟨rfl,b1⟩;replace hb:=lh b1;clear b1)|(go_at_call 113;refine(still_any hb.out _).mono ?_;rintro e w1 ⟨rfl,b1⟩;replace hb:=lh b1;clear b1))
  go_ret;exact mv_ans hb.out rfl (by decide) rfl
 by_cases h5:k=5
 ·subst h5;clear h1 h2 h3 h4;go_wp2_with (first|(go_at_call 111;refine(bump_any hb.out _).mono ?_;rintro e w1 ⟨rfl,b1⟩;replace hb:=lh b1;clear b1)|(go_at_call 113;refine(still_any hb.out _).mono ?_;rintro e w1 ⟨rfl,b1⟩;replace hb:=lh b1;clear b1))
  go_ret;exact mv_ans hb.out rfl (by decide) rfl
 by_cases h6:k=6
 ·subst h6;clear h1 h2 h3 h4 h5;go_wp2_with (first|(go_at_call 111;refine(bump_any hb.out _).mono ?_;rintro e w1 ⟨rfl,b1⟩;replace hb:=lh b1;clear b1)|(go_at_call 112;refine(plain_any hb.out _).mono ?_;rintro e w1 ⟨rfl,b1⟩;replace hb:=lh b1;clear b1))
  go_ret;exact mv_ans hb.out rfl (by decide) rfl
 by_cases h7:k=7
 ·subst h7;clear h1 h2 h3 h4 h5 h6;go_wp2_with (go_at_call 111;refine(bump_any hb.out _).mono ?_;rintro e w1 ⟨rfl,b1⟩;replace hb:=lh b1;clear b1)
  go_ret;exact mv_ans hb.out rfl (by decide) rfl
 have HE:Hid ((if k=1 then [(1,3)] else if k=2 then [(1,1),(1,2),(3,0),(4,0),(1,3)] else if k=3 then [(1,2),(1,1),(3,0),(5,0),(1,0)] else if k=4 then [(1,1),(1,2),(3,0),(4,0),(2,3)] else if k=5 then [(2,2),(1,1),(1,0)] else if k=6 then [(1,2),(3,0),(4,0),(1,3)] else if k=7 then [(1,0)] else []:List Mv)=[]):=by
  rw [if_neg h1,if_neg h2,if_neg h3,if_neg h4,if_neg h5,if_neg h6,if_neg h7];exact lh rfl
 rw [HE.out];go_wp2;go_ret;exact mv_none hb.out
theorem wayBack_any(w:World)(k:Int):Calls Tryz.prog 87 #[.int .i64 k] w (MvAns w (backP k)):=by
 have hb:Hid (Below w.heap.size w w):=lh (Below.refl _ w);unfold backP;go_enter Tryz.func87,Tryz.ntmps87;by_cases h2:k=2
 ·subst h2;go_wp2_with (first|(go_at_call 111;refine(bump_any hb.out _).mono ?_;rintro e w1 ⟨rfl,b1⟩;replace hb:=lh b1;clear b1)|(go_at_call 112;refine(plain_any hb.out _).mono ?_;rintro e w1 ⟨rfl,b1⟩;replace hb:=lh b1;clear b1))
  go_ret;exact mv_ans hb.out rfl (by decide) rfl
 by_cases h4:k=4
 ·subst h4;clear h2;go_wp2_with (go_at_call 111;refine(bump_any hb.out _).mono ?_;rintro e w1 ⟨rfl,b1⟩;replace hb:=lh b1;clear b1)
  go_ret;exact mv_ans hb.out rfl (by decide) rfl
 by_cases h6:k=6
 ·subst h6;clear h2 h4;go_wp2_with (go_at_call 111;refine(bump_any hb.out _).mono ?_;rintro e w1 ⟨rfl,b1⟩;replace hb:=lh b1;clear b1)
  go_ret;exact mv_ans hb.out rfl (by decide) rfl
 have HE:Hid ((if k=2 then [(1,1),(3,0),(5,0),(1,0)] else if k=4 then [(1,1),(1,0)] else if k=6 then [(1,0)] else []:List Mv)=[]):=by
  rw [if_neg h2,if_neg h4,if_neg h6];exact lh rfl
 rw [HE.out];go_wp2;go_ret;exact mv_none hb.out
theorem MvAns.from{w W:World}{L:List Mv}{e:Ending}{w':World}(hb:Below w.heap.size w W)(h:MvAns W L e w'):MvAns w L e w':=by
 obtain⟨ad,cap,e1,h1,h2⟩:=h;exact⟨ad,cap,e1,own_mono h1 hb.size,bgo hb h2⟩
theorem path_any(w:World)(cs:Array Value)(k:Int)(b:Bool)(h0:cs[0]?=some (.int .i64 k)):Calls Tryz.prog 64 #[.agg cs,.bool b] w (MvAns w (pathP k b)):=by
 obtain⟨W,hW⟩:∃ W,W=w.alloc (.cells cs 45):=⟨_,rfl⟩
 have hbW:=bw1 hW;obtain⟨Y,hY⟩:∃ Y,w.heap.size=Y:=⟨_,rfl⟩
 have jY:W.heap[Y]?=some (.cells cs 45 (0,0)):=by rw [hW,<-hY];exact heap_alloc_new w _
 have c0:W.cell? ⟨Y,0,none⟩=some (.int .i64 k):=(cell_blk jY 0).trans h0;have HW:=lh hW;have HY:=lh hY;have HB:=lh hbW;clear hW hY hbW jY h0;go_enter Tryz.func64,Tryz.ntmps64;go_upto_region 1 with fail
 rw [<-HW.out,HY.out];cases b with
 | true =>
  have hw:=wayBack_any W k;go_wp2_with fail
  refine hw.mono ?_;rintro e w1 ⟨ad,cap,rfl,h1,h2⟩;go_wp2;go_ret;exact MvAns.from HB.out ⟨ad,cap,rfl,h1,h2⟩
 | false =>
  have hw:=wayOn_any W k;go_wp2_with fail
  refine hw.mono ?_;rintro e w1 ⟨ad,cap,rfl,h1,h2⟩;go_wp2;go_ret;exact MvAns.from HB.out ⟨ad,cap,rfl,h1,h2⟩
end
end Go.Proofs.YtkhehikaemdnnaaGreat
