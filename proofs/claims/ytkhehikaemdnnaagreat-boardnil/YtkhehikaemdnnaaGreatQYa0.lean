import Derived.Test.YtkhehikaemdnnaaGreatQLw
namespace Go.Proofs.YtkhehikaemdnnaaGreat
set_option maxRecDepth 100000
set_option maxHeartbeats 4000000
open Go.RowKit
structure Oq where
 at_:Int
 c:Cm
 r:Rest
 cv:Value
abbrev opA(x:Oq):Array Value:=#[.int .i64 x.at_,.int .i64 x.c.kind,.int .i64 x.c.asker.1,.int .i64 x.c.asker.2.1,.int .i64 x.c.asker.2.2,.int .i64 x.r.t.1,.int .i64 x.r.t.2.1,.int .i64 x.r.t.2.2,.int .i64 x.r.home,x.r.rv,x.r.wv,.int .i64 x.r.mn,.int .i64 x.r.un,.int .i64 x.r.ts,.int .i64 x.c.ver,.int .i64 x.c.call,.int .i64 x.c.ddl.kind,.string x.c.ddl.table,.string x.c.ddl.name,.string x.c.ddl.column,.string x.c.ddl.parent,.bool x.c.ddl.uq,.int .i64 x.c.ddl.ty,.int .i64 x.c.ddl.df.k,.int .i64 x.c.ddl.df.n,.string x.c.ddl.df.s,x.cv,.int .i64 x.c.job,.int .i64 x.c.phase,.string x.c.mark,.int .i64 x.c.why]
abbrev opL(x:Oq):List Value:=(opA x).toList
structure OqOk (w:World) (x:Oq):Prop where
 at_:I64 x.at_
 kd:I64 x.c.kind
 td:TdOk x.c.asker
 rv:∃ a n m,x.r.rv=.slice a n m
 wv:∃ a n m,x.r.wv=.slice a n m
 co:Lr colE 7 w x.c.ddl.cols x.cv
 sz:x.c.ddl.cols.length<=1125899906842624
theorem OqOk.on{w w':World}{x:Oq}(h:OqOk w x)(hb:Below w.heap.size w w'):OqOk w' x:=⟨h.at_,h.kd,h.td,h.rv,h.wv,h.co.on colE_held hb,h.sz⟩
abbrev zO:Array Value:=#[.int .i64 0,.int .i64 0,.int .i64 0,.int .i64 0,.int .i64 0,.int .i64 0,.int .i64 0,.int .i64 0,.int .i64 0,.slice none 0 0,.slice none 0 0,.int .i64 0,.int .i64 0,.int .i64 0,.int .i64 0,.int .i64 0,.int .i64 0,.string ⟨#[]⟩,.string ⟨#[]⟩,.string ⟨#[]⟩,.string ⟨#[]⟩,.bool false,.int .i64 0,.int .i64 0,.int .i64 0,.string ⟨#[]⟩,.slice none 0 0,.int .i64 0,.int .i64 0,.string ⟨#[]⟩,.int .i64 0]
end Go.Proofs.YtkhehikaemdnnaaGreat
namespace Go.Proofs.YtkhehikaemdnnaaGreat
open Go.RowKit
theorem two_boxes(v:World){js:Array Value}{a m:Int}(h1:js.size=22)(h2:js.all (·.oneCell')=true):∃ X1 X2,(Instr.storeAt 66 (.pointer (some ⟨v.heap.size,0,none⟩)) (.agg js)).run Tryz.prog ((v.alloc (.cells zJ 66)).alloc (.cells #[.int .i64 0,.int .i64 0] 74))=.ok () X1/\(Instr.storeAt 74 (.pointer (some ⟨v.heap.size+1,0,none⟩)) (.agg #[.int .i64 a,.int .i64 m])).run Tryz.prog X1=.ok () X2/\X2.heap[v.heap.size]?=some (.cells js 66 (0,0))/\X2.heap[v.heap.size+1]?=some (.cells #[.int .i64 a,.int .i64 m] 74 (0,0))/\Below v.heap.size v X2:=by
 obtain⟨W,Y2,Y3,hW,rfl,rfl,hb,j2,j3⟩:=hand_boxes v;rw [<-hW];obtain⟨X1,hs1,k2,f1⟩:=st_row j2 (us:=js) h1 (by rw [h1];exact size66) h2;obtain⟨X2,hs2,k3,f2⟩:=st_row ((f1.block (v.heap.size+1) (blk_lt j3) (fun q=>by have q':v.heap.size+1=v.heap.size:=q;omega)).trans j3) (us:=#[.int .i64 a,.int .i64 m]) rfl size74 (by simp [Value.oneCell']);exact⟨X1,X2,hs1,hs2,(f2.block v.heap.size (blk_lt k2) (fun q=>by have q':v.heap.size=v.heap.size+1:=q;omega)).trans k2,k3,(hb.trans (f1.toBelow (fun k hk q=>by have q':k=v.heap.size:=q;omega) hb.size)).trans (f2.toBelow (fun k hk q=>by have q':k=v.heap.size+1:=q;omega) (Nat.le_trans hb.size f1.size))⟩
end Go.Proofs.YtkhehikaemdnnaaGreat
