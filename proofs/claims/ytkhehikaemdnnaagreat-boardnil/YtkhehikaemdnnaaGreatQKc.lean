import Derived.Test.YtkhehikaemdnnaaGreatQPp
namespace Go.Proofs.YtkhehikaemdnnaaGreat
open Go.RowKit
abbrev Td:=Int × Int × Int
structure Le where
 node:Int
 ver:Int
 til:Int
structure Jb where
 id:Int
 call:Int
 asker:Td
 ddl:Dd
 phase:Int
 back:Bool
 drain:Bool
 mark:ByteArray
 en:Int
 why:Int
structure Bd where
 sch:Sc
 leases:List Le
 jobs:List Jb
structure Rs where
 err:Int
 ver:Int
 til:Int
 job:Int
 new:Bool
structure Cm where
 kind:Int
 asker:Td
 ver:Int
 call:Int
 ddl:Dd
 job:Int
 phase:Int
 mark:ByteArray
 why:Int
abbrev rsE(e:Int):Rs:=⟨e,0,0,0,false⟩
abbrev rsN:Rs:=⟨0,0,0,0,true⟩
def Bd.none:Bd:=⟨⟨0,0,[]⟩,[],[]⟩
def Jb.path(j:Jb):List Mv:=pathP j.ddl.kind j.back
def Jb.move(j:Jb):Mv:=(j.path[j.phase.toNat]?).getD (0,0)
def Jb.runs(j:Jb):Bool:=decide (j.en=0)
def Bd.hand(b:Bd):Option Nat:=b.jobs.findIdx? Jb.runs
def forceB(t:Int)(l:Le):Bool:=decide (t - l.til<=3)
def Bd.clear(b:Bd)(t below:Int):Bool:=b.leases.all fun l=>!(decide (l.ver<below) && forceB t l)
def Bd.drains(b:Bd):Bool:=match b.hand with
 | .none=>false
 | some i=>(b.jobs[i]?.map Jb.drain).getD false
def Bd.grant(b:Bd)(t:Int)(c:Cm):Bd × Rs :=
 if b.drains then (b,rsE 162)
 else ({ b with leases:=b.leases.filter (fun l=>!(!forceB t l || (decide (l.node=c.asker.1) && decide (l.ver=b.sch.ver)))) ++ [⟨c.asker.1,b.sch.ver,t+20⟩] },⟨0,b.sch.ver,t+20,0,true⟩)
def Bd.job(b:Bd)(c:Cm):Jb :=
 let many:=decide (4<=(b.jobs.filter Jb.runs).length)
 ⟨b.jobs.length+1,c.call,c.asker,c.ddl,0,false,false,⟨#[]⟩,if many then 3 else 0,if many then 156 else 0⟩
def Bd.submit(b:Bd)(c:Cm):Bd × Rs :=
 if pathP c.ddl.kind false=[] then (b,rsE 1)
 else match b.jobs.findIdx? (fun j=>decide (j.asker=c.asker))with
 | some i=>(b,⟨0,0,0,i+1,false⟩)
 | .none=>({ b with jobs:=b.jobs ++ [b.job c] },⟨0,0,0,b.jobs.length+1,true⟩)
def Bd.turn(b:Bd)(c:Cm)(ks:List Int):Option (Nat × Jb):=match b.hand with
 | .none=>.none
 | some i=>match b.jobs[i]? with
  | .none=>.none
  | some j=>if j.id=c.job/\j.phase=c.phase/\j.move.1 ∈ ks then some (i,j) else .none
def Jb.step(j:Jb):Jb:={ j with phase:=j.phase+1,mark:=⟨#[]⟩,en:=if j.phase+1<(j.path.length:Int) then j.en else if j.back then 2 else 1 }
def Bd.setJ(b:Bd)(i:Nat)(j:Jb):Bd:={ b with jobs:=b.jobs.set i j }
def Bd.drainC(b:Bd)(c:Cm):Bd × Rs:=match b.turn c [2]with
 | .none=>(b,rsE 160)
 | some (i,j)=>(b.setJ i { j with drain:=true },⟨0,0,0,0,!j.drain⟩)
def Bd.goC(b:Bd)(t:Int)(c:Cm):Bd × Rs:=match b.turn c [1,2,3]with
 | .none=>(b,rsE 160)
 | some (i,j) =>
  if j.move.1=2/\j.drain=false then (b,rsE 160)
  else if b.clear t (if j.move.1=2 then b.sch.ver+1 else b.sch.ver)=false then (b,rsE 161)
  else if j.move.1=3 then (b.setJ i { j with drain:=false }.step,⟨0,b.sch.ver,0,0,true⟩)
  else match turnS b.sch j.ddl j.move.2 with
   | .error e=>(b.setJ i { j with why:=e,drain:=false,en:=3 },rsN)
   | .ok s=>({ b with sch:=s }.setJ i { j with drain:=false }.step,⟨0,s.ver,0,0,true⟩)
def maxS(x y:ByteArray):ByteArray:=if Op.bytesLess x.toList y.toList then y else x
def Bd.markC(b:Bd)(c:Cm):Bd × Rs:=match b.turn c [4,5]with
 | .none=>(b,rsE 160)
 | some (i,j)=>(b.setJ i (if c.ver=1 then j.step else { j with mark:=maxS j.mark c.mark }),rsN)
def Bd.failC(b:Bd)(c:Cm):Bd × Rs:=match b.turn c [4]with
 | .none=>(b,rsE 160)
 | some (i,j)=>if j.back then (b,rsE 160) else (b.setJ i { j with back:=true,phase:=0,mark:=⟨#[]⟩,why:=c.why },rsN)
def Bd.act(b:Bd)(t:Int)(c:Cm):Bd × Rs :=
 if (c.kind<11\/16<c.kind)\/t<0\/1125899906842624<t then (b,rsE 1)
 else if c.kind=11 then b.grant t c
 else if c.kind=12 then b.submit c
 else if c.kind=13 then b.drainC c
 else if c.kind=14 then b.goC t c
 else if c.kind=15 then b.markC c
 else b.failC c
end Go.Proofs.YtkhehikaemdnnaaGreat
namespace Go.Proofs.YtkhehikaemdnnaaGreat
set_option maxRecDepth 100000
set_option maxHeartbeats 4000000
open Go.RowKit
theorem range_on{V X:World}{b o:Nat}{cs:List Value}(h:Below V.heap.size V X)(k:V.rangeAt b o cs):X.rangeAt b o cs:=fun j v hv=>cell_on h (k j v hv)
theorem range_blk{w:World}{b:Nat}{cs:Array Value}{t:TypeId}{fr:Nat × Nat}(h:w.heap[b]?=some (.cells cs t fr)):w.rangeAt b 0 cs.toList:=fun j v hv=>by
 rw [Nat.zero_add,cell_blk h j,<-hv,Array.getElem?_toList]
theorem range_part{w:World}{b o:Nat}{cs:List Value}(h:w.rangeAt b o cs)(k n:Nat):w.rangeAt b (o+k) ((cs.drop k).take n):=fun j v hv=>by
 rw [List.getElem?_take]at hv
 split at hv
 ·rw [List.getElem?_drop]at hv;rw [Nat.add_assoc];exact h (k+j) v hv
 ·cases hv
abbrev leL(l:Le):List Value:=[.int .i64 l.node,.int .i64 l.ver,.int .i64 l.til]
abbrev leA(l:Le):Array Value:=#[.int .i64 l.node,.int .i64 l.ver,.int .i64 l.til]
theorem leL_len(l:Le):(leL l).length=3:=rfl
def leE(_:World)(x:Le)(cs:List Value):Prop:=cs=leL x
theorem leE_held:Held leE:=fun _ _ _ _ _ h=>h
abbrev jbA(j:Jb)(cv:Value):Array Value:=#[.int .i64 j.id,.int .i64 j.call,.int .i64 j.asker.1,.int .i64 j.asker.2.1,.int .i64 j.asker.2.2,.int .i64 j.ddl.kind,.string j.ddl.table,.string j.ddl.name,.string j.ddl.column,.string j.ddl.parent,.bool j.ddl.uq,.int .i64 j.ddl.ty,.int .i64 j.ddl.df.k,.int .i64 j.ddl.df.n,.string j.ddl.df.s,cv,.int .i64 j.phase,.bool j.back,.bool j.drain,.string j.mark,.int .i64 j.en,.int .i64 j.why]
abbrev jbL(j:Jb)(cv:Value):List Value:=(jbA j cv).toList
theorem jbL_len(j:Jb)(cv:Value):(jbL j cv).length=22:=rfl
structure Rest where
 t:Td
 home:Int
 rv:Value
 wv:Value
 mn:Int
 un:Int
 ts:Int
abbrev cmA(c:Cm)(r:Rest)(cv:Value):Array Value:=#[.int .i64 c.kind,.int .i64 c.asker.1,.int .i64 c.asker.2.1,.int .i64 c.asker.2.2,.int .i64 r.t.1,.int .i64 r.t.2.1,.int .i64 r.t.2.2,.int .i64 r.home,r.rv,r.wv,.int .i64 r.mn,.int .i64 r.un,.int .i64 r.ts,.int .i64 c.ver,.int .i64 c.call,.int .i64 c.ddl.kind,.string c.ddl.table,.string c.ddl.name,.string c.ddl.column,.string c.ddl.parent,.bool c.ddl.uq,.int .i64 c.ddl.ty,.int .i64 c.ddl.df.k,.int .i64 c.ddl.df.n,.string c.ddl.df.s,cv,.int .i64 c.job,.int .i64 c.phase,.string c.mark,.int .i64 c.why]
abbrev rsA(r:Rs):Array Value:=#[.int .i64 r.err,.int .i64 0,.int .i64 0,.int .i64 0,.int .i64 0,.int .i64 r.ver,.int .i64 r.til,.int .i64 r.job,.bool r.new]
theorem size66:(Tryz.prog.info? 66).map (·.size)=some 22:=by kernel_rfl
theorem size78:(Tryz.prog.info? 78).map (·.size)=some 3:=by kernel_rfl
theorem size48:(Tryz.prog.info? 48).map (·.size)=some 30:=by kernel_rfl
theorem size53:(Tryz.prog.info? 53).map (·.size)=some 9:=by kernel_rfl
section
variable {ρ : Operand -> Value} {X : World} {d : Option Tmp} {ty : TypeId} {ps : String} {af : Array Edge} {g : Option (Nat × Bool)}
theorem op_f88_0{x:Operand}{B o:Nat}(e:ρ x=.pointer (some ⟨B,o,none⟩)):(execOp ρ ⟨d,.fieldAddr 88 x 0,ty,ps,af,g⟩).run Tryz.prog X=.ok (.value (.pointer (some ⟨B,o,none⟩))) X:=by
 simp only [execOp,e]
 go_simp
theorem op_f88_1{x:Operand}{B o:Nat}(e:ρ x=.pointer (some ⟨B,o,none⟩)):(execOp ρ ⟨d,.fieldAddr 88 x 1,ty,ps,af,g⟩).run Tryz.prog X=.ok (.value (.pointer (some ⟨B,o+3,none⟩))) X:=by
 simp only [execOp,e]
 go_simp
theorem op_f88_2{x:Operand}{B o:Nat}(e:ρ x=.pointer (some ⟨B,o,none⟩)):(execOp ρ ⟨d,.fieldAddr 88 x 2,ty,ps,af,g⟩).run Tryz.prog X=.ok (.value (.pointer (some ⟨B,o+4,none⟩))) X:=by
 simp only [execOp,e]
 go_simp
theorem op_f88_3{x:Operand}{B o:Nat}(e:ρ x=.pointer (some ⟨B,o,none⟩)):(execOp ρ ⟨d,.fieldAddr 88 x 3,ty,ps,af,g⟩).run Tryz.prog X=.ok (.value (.pointer (some ⟨B,o+5,none⟩))) X:=by
 simp only [execOp,e]
 go_simp
theorem op_f88_4{x:Operand}{B o:Nat}(e:ρ x=.pointer (some ⟨B,o,none⟩)):(execOp ρ ⟨d,.fieldAddr 88 x 4,ty,ps,af,g⟩).run Tryz.prog X=.ok (.value (.pointer (some ⟨B,o+6,none⟩))) X:=by
 simp only [execOp,e]
 go_simp
theorem op_f66_0{x:Operand}{B o:Nat}(e:ρ x=.pointer (some ⟨B,o,none⟩)):(execOp ρ ⟨d,.fieldAddr 66 x 0,ty,ps,af,g⟩).run Tryz.prog X=.ok (.value (.pointer (some ⟨B,o,none⟩))) X:=by
 simp only [execOp,e]
 go_simp
theorem op_f66_2{x:Operand}{B o:Nat}(e:ρ x=.pointer (some ⟨B,o,none⟩)):(execOp ρ ⟨d,.fieldAddr 66 x 2,ty,ps,af,g⟩).run Tryz.prog X=.ok (.value (.pointer (some ⟨B,o+2,none⟩))) X:=by
 simp only [execOp,e]
 go_simp
theorem op_f66_3{x:Operand}{B o:Nat}(e:ρ x=.pointer (some ⟨B,o,none⟩)):(execOp ρ ⟨d,.fieldAddr 66 x 3,ty,ps,af,g⟩).run Tryz.prog X=.ok (.value (.pointer (some ⟨B,o+5,none⟩))) X:=by
 simp only [execOp,e]
 go_simp
theorem op_f66_4{x:Operand}{B o:Nat}(e:ρ x=.pointer (some ⟨B,o,none⟩)):(execOp ρ ⟨d,.fieldAddr 66 x 4,ty,ps,af,g⟩).run Tryz.prog X=.ok (.value (.pointer (some ⟨B,o+16,none⟩))) X:=by
 simp only [execOp,e]
 go_simp
theorem op_f66_5{x:Operand}{B o:Nat}(e:ρ x=.pointer (some ⟨B,o,none⟩)):(execOp ρ ⟨d,.fieldAddr 66 x 5,ty,ps,af,g⟩).run Tryz.prog X=.ok (.value (.pointer (some ⟨B,o+17,none⟩))) X:=by
 simp only [execOp,e]
 go_simp
theorem op_f66_7{x:Operand}{B o:Nat}(e:ρ x=.pointer (some ⟨B,o,none⟩)):(execOp ρ ⟨d,.fieldAddr 66 x 7,ty,ps,af,g⟩).run Tryz.prog X=.ok (.value (.pointer (some ⟨B,o+19,none⟩))) X:=by
 simp only [execOp,e]
 go_simp
theorem op_f66_9{x:Operand}{B o:Nat}(e:ρ x=.pointer (some ⟨B,o,none⟩)):(execOp ρ ⟨d,.fieldAddr 66 x 9,ty,ps,af,g⟩).run Tryz.prog X=.ok (.value (.pointer (some ⟨B,o+21,none⟩))) X:=by
 simp only [execOp,e]
 go_simp
theorem op_f38_0{x:Operand}{B o:Nat}(e:ρ x=.pointer (some ⟨B,o,none⟩)):(execOp ρ ⟨d,.fieldAddr 38 x 0,ty,ps,af,g⟩).run Tryz.prog X=.ok (.value (.pointer (some ⟨B,o,none⟩))) X:=by
 simp only [execOp,e]
 go_simp
theorem op_f48_1{x:Operand}{B o:Nat}(e:ρ x=.pointer (some ⟨B,o,none⟩)):(execOp ρ ⟨d,.fieldAddr 48 x 1,ty,ps,af,g⟩).run Tryz.prog X=.ok (.value (.pointer (some ⟨B,o+1,none⟩))) X:=by
 simp only [execOp,e]
 go_simp
theorem op_f48_10{x:Operand}{B o:Nat}(e:ρ x=.pointer (some ⟨B,o,none⟩)):(execOp ρ ⟨d,.fieldAddr 48 x 10,ty,ps,af,g⟩).run Tryz.prog X=.ok (.value (.pointer (some ⟨B,o+14,none⟩))) X:=by
 simp only [execOp,e]
 go_simp
theorem op_f48_11{x:Operand}{B o:Nat}(e:ρ x=.pointer (some ⟨B,o,none⟩)):(execOp ρ ⟨d,.fieldAddr 48 x 11,ty,ps,af,g⟩).run Tryz.prog X=.ok (.value (.pointer (some ⟨B,o+15,none⟩))) X:=by
 simp only [execOp,e]
 go_simp
theorem op_f48_12{x:Operand}{B o:Nat}(e:ρ x=.pointer (some ⟨B,o,none⟩)):(execOp ρ ⟨d,.fieldAddr 48 x 12,ty,ps,af,g⟩).run Tryz.prog X=.ok (.value (.pointer (some ⟨B,o+26,none⟩))) X:=by
 simp only [execOp,e]
 go_simp
theorem op_f48_13{x:Operand}{B o:Nat}(e:ρ x=.pointer (some ⟨B,o,none⟩)):(execOp ρ ⟨d,.fieldAddr 48 x 13,ty,ps,af,g⟩).run Tryz.prog X=.ok (.value (.pointer (some ⟨B,o+27,none⟩))) X:=by
 simp only [execOp,e]
 go_simp
theorem op_f48_14{x:Operand}{B o:Nat}(e:ρ x=.pointer (some ⟨B,o,none⟩)):(execOp ρ ⟨d,.fieldAddr 48 x 14,ty,ps,af,g⟩).run Tryz.prog X=.ok (.value (.pointer (some ⟨B,o+28,none⟩))) X:=by
 simp only [execOp,e]
 go_simp
theorem op_f48_15{x:Operand}{B o:Nat}(e:ρ x=.pointer (some ⟨B,o,none⟩)):(execOp ρ ⟨d,.fieldAddr 48 x 15,ty,ps,af,g⟩).run Tryz.prog X=.ok (.value (.pointer (some ⟨B,o+29,none⟩))) X:=by
 simp only [execOp,e]
 go_simp
theorem op_load31{x:Operand}{B i:Nat}{a:Option Addr}{n m:Nat}(e:ρ x=.pointer (some ⟨B,i,none⟩))(y:X.cell? ⟨B,i,none⟩=some (.slice a n m)):(execOp ρ ⟨d,.load 31 x,ty,ps,af,g⟩).run Tryz.prog X=.ok (.value (.slice a n m)) X:=by
 simp only [execOp,e]
 go_simp
theorem op_i32{x y:Operand}{B o n m i:Nat}(e:ρ x=.slice (some ⟨B,o,none⟩) n m)(e2:ρ y=.int .i64 (i:Int))(h:i<n):(execOp ρ ⟨d,.indexAddr 32 x y,ty,ps,af,g⟩).run Tryz.prog X=.ok (.value (.pointer (some ⟨B,o+i*22,none⟩))) X:=by
 have k0:(0:Int)<=(i:Int):=by omega
 have k1:(i:Int)<(n:Int):=by omega
 simp only [execOp,e,e2]
 go_simp
theorem op_len32{x:Operand}{a:Option Addr}{n m:Nat}(e:ρ x=.slice a n m):(execOp ρ ⟨d,.call { callee:=.builtin .len,args:=#[x],argTypes:=#[32] },ty,ps,af,g⟩).run Tryz.prog X=.ok (.value (.int .i64 (n:Int))) X:=by
 simp only [execOp,resolve,invoke,builtin,Sem.run_bind,Sem.run_pure,Result.andThen_ok,List.map_toArray,List.map_cons,List.map_nil,e]
 go_simp
theorem op_load32{x:Operand}{B i:Nat}{a:Option Addr}{n m:Nat}(e:ρ x=.pointer (some ⟨B,i,none⟩))(y:X.cell? ⟨B,i,none⟩=some (.slice a n m)):(execOp ρ ⟨d,.load 32 x,ty,ps,af,g⟩).run Tryz.prog X=.ok (.value (.slice a n m)) X:=by
 simp only [execOp,e]
 go_simp
theorem op_load85{x:Operand}{B i:Nat}{a:Option Addr}{n m:Nat}(e:ρ x=.pointer (some ⟨B,i,none⟩))(y:X.cell? ⟨B,i,none⟩=some (.slice a n m)):(execOp ρ ⟨d,.load 85 x,ty,ps,af,g⟩).run Tryz.prog X=.ok (.value (.slice a n m)) X:=by
 simp only [execOp,e]
 go_simp
end
section
variable {w : World}
abbrev JobAt(w:World)(g o:Nat)(j:Jb)(cv:Value):Prop:=w.rangeAt g o (jbL j cv)
theorem path_job{g o:Nat}{j:Jb}{cv:Value}(h:JobAt w g o j cv):Calls Tryz.prog 74 #[.pointer (some ⟨g,o,none⟩)] w (MvAns w j.path):=by
 have HR:=lh h;have HD:Hid (w.rangeAt g (o+5) (ddA j.ddl cv).toList):=lh (range_part h 5 11);have c17:w.cell? ⟨g,o+17,none⟩=some (.bool j.back):=h 17 _ rfl;have HC:=lh c17;clear h c17;go_enter Tryz.func74,Tryz.ntmps74;go_upto_region 1 with fail
 refine wp_region_fb (fun _ X9=>Below w.heap.size w X9) (fun X9 X8=>Below X9.heap.size X9 X8) [
  fun v9 _=>v9=.pointer (some ⟨g,o,none⟩),fun v9 _=>v9=.pointer (some ⟨g,o,none⟩),fun v9 _=>v9=.pointer (some ⟨g,o+5,none⟩),fun v9 _=>v9=.agg (ddA j.ddl cv),fun v9 _=>v9=.pointer (some ⟨g,o,none⟩),fun v9 _=>v9=.pointer (some ⟨g,o,none⟩),fun v9 _=>v9=.pointer (some ⟨g,o+17,none⟩),fun v9 _=>v9=.bool j.back,fun v9 X9=>∃ ad cap,v9=.slice ad j.path.length cap/\X9.ownsRow w.heap.size 74 2 (.slice ad j.path.length cap) j.path.length (j.path.flatMap mvL),fun v9 X9=>∃ ad cap,v9=.slice ad j.path.length cap/\X9.ownsRow w.heap.size 74 2 (.slice ad j.path.length cap) j.path.length (j.path.flatMap mvL)]
  (by kernel_rfl) (by kernel_rfl) (by kernel_rfl) ?st ?g0 ?os ?en
 case st=>
  iterate 8 refine⟨fun _ _ _ _ h=>h,?_⟩
  refine⟨(fun _ _ _ hb h=>by obtain⟨ad,cap,e9,h9⟩:=h;exact⟨ad,cap,e9,own_below h9 hb⟩),(fun _ _ _ hb h=>by obtain⟨ad,cap,e9,h9⟩:=h;exact⟨ad,cap,e9,own_below h9 hb⟩),?_⟩;exact trivial
 case g0=>exact⟨rfl,rfl,rfl,Nat.le_refl _,fun _ _=>rfl⟩
 case os =>
  refine⟨?_,?_,?_,?_,?_,?_,?_,?_,?_,?_,trivial⟩
  all_goals intro ρ X9 fl hg hn hl hp ho hc hf hr
  ·exact rv (op_move (show ρ (.tmp 0)=.pointer (some ⟨g,o,none⟩)from ho 0 rfl)) ⟨hg,Below.refl _ _,rfl⟩
  ·exact rv (op_nil (show ρ (.tmp 3)=.pointer (some ⟨g,o,none⟩)from hr 0 3 rfl rfl)) ⟨hg,Below.refl _ _,rfl⟩
  ·exact rv (op_f66_3 (show ρ (.tmp 4)=.pointer (some ⟨g,o,none⟩)from hr 1 4 rfl rfl)) ⟨hg,Below.refl _ _,rfl⟩
  ·exact rv (op_loadAt (show ρ (.tmp 5)=.pointer (some ⟨g,o+5,none⟩)from hr 2 5 rfl rfl) (run_loadAt_mid X9 g (o+5) 45 ((ddA j.ddl cv).toList) _ (range_on hg HD.out) Tryz.underlying45 rfl size45)) ⟨hg,Below.refl _ _,rfl⟩
  ·exact rv (op_move (show ρ (.tmp 0)=.pointer (some ⟨g,o,none⟩)from ho 0 rfl)) ⟨hg,Below.refl _ _,rfl⟩
  ·exact rv (op_nil (show ρ (.tmp 7)=.pointer (some ⟨g,o,none⟩)from hr 4 7 rfl rfl)) ⟨hg,Below.refl _ _,rfl⟩
  ·exact rv (op_f66_5 (show ρ (.tmp 8)=.pointer (some ⟨g,o,none⟩)from hr 5 8 rfl rfl)) ⟨hg,Below.refl _ _,rfl⟩
  ·exact rv (op_load4 (show ρ (.tmp 9)=.pointer (some ⟨g,o+17,none⟩)from hr 6 9 rfl rfl) (cell_on hg HC.out)) ⟨hg,Below.refl _ _,rfl⟩
  ·refine .inl ⟨rfl,?_⟩;refine Runs.goes 64 #[.agg (ddA j.ddl cv),.bool j.back] (op_call2 hf (by go_simp) (show ρ (.tmp 6)=.agg (ddA j.ddl cv)from hr 3 6 rfl rfl) (show ρ (.tmp 10)=.bool j.back from hr 7 10 rfl rfl)) ((path_any X9 (ddA j.ddl cv) j.ddl.kind j.back rfl).mono ?_);rintro e7 w7 ⟨ad,cap,rfl,h7,b7⟩;exact⟨_,rfl,bgo hg b7,b7,ad,cap,rfl,own_mono h7 hg.size⟩
  ·obtain⟨ad,cap,e9,h9⟩:=hr 8 11 rfl rfl;exact rv (op_assign e9) ⟨hg,Below.refl _ _,ad,cap,rfl,h9⟩
 case en =>
  intro a9 w6 fl hfl b6 hs9 hd9 ho9 hr9;obtain⟨x9,hx,hxt⟩:=act_put hs9 hd9 ho9;obtain⟨ad,cap,q2,o2⟩:=hr9 9 2 rfl;have xk2:x9 2=.slice ad j.path.length cap:=(hxt 2).symm.trans q2;change a9=putAll _ x9 [3,4,5,6,7,8,9,10,11,2]at hx;simp only [putAll,Act.put,List.setIfInBounds_toArray,List.set_cons_zero,List.set_cons_succ,xk2]at hx;subst hx;clear hs9 hd9 ho9 hr9 hfl xk2 q2;generalize x9 3=z3,x9 4=z4,x9 5=z5,x9 6=z6,x9 7=z7,x9 8=z8,x9 9=z9,x9 10=z10,x9 11=z11;go_wp2;go_ret;exact⟨ad,cap,rfl,o2,b6⟩
end
end Go.Proofs.YtkhehikaemdnnaaGreat
namespace Go.Proofs.YtkhehikaemdnnaaGreat
set_option maxRecDepth 100000
set_option maxHeartbeats 4000000
open Go.RowKit
theorem st_row{X:World}{Y:Nat}{T:TypeId}{cs us:Array Value}(hY:X.heap[Y]?=some (.cells cs T (0,0)))(hl:us.size=cs.size)(hi:(Tryz.prog.info? T).map (·.size)=some us.size)(h1:us.all (·.oneCell')=true):∃ X',(Instr.storeAt T (.pointer (some ⟨Y,0,none⟩)) (.agg us)).run Tryz.prog X=.ok () X'/\X'.heap[Y]?=some (.cells us T (0,0))/\Fr X X' (fun k=>k=Y):=by
 obtain⟨X',e,j,f⟩:=sets_row hY us hl;exact⟨X',by rw [e];exact store_row hY hl hi h1,j,f⟩
theorem move_at{j:Jb}{p:Nat}(hp:j.phase=(p:Int))(h:p<j.path.length):j.path[p]=j.move:=by
 unfold Jb.move;rw [hp,Int.toNat_natCast,List.getElem?_eq_getElem h];rfl
section
variable {w : World}
theorem move_job{g o p:Nat}{j:Jb}{cv:Value}(h:JobAt w g o j cv)(hp:j.phase=(p:Int))(hlt:p<j.path.length):Calls Tryz.prog 54 #[.pointer (some ⟨g,o,none⟩)] w fun e w'=>e=.returned (.agg #[.int .i64 j.move.1,.int .i64 j.move.2])/\Below w.heap.size w w':=by
 obtain⟨W,hW⟩:∃ W,W=w.alloc (.cells #[.int .i64 0,.int .i64 0] 74):=⟨_,rfl⟩
 have hb:=bw1 hW;obtain⟨Y,hY⟩:∃ Y,w.heap.size=Y:=⟨_,rfl⟩
 have jY:W.heap[Y]?=some (.cells #[.int .i64 0,.int .i64 0] 74 (0,0)):=by rw [hW,<-hY];exact heap_alloc_new w _
 have hjb:JobAt W g o j cv:=range_on hb h;have c16:W.cell? ⟨g,o+16,none⟩=some (.int .i64 (p:Int)):=hp ▸ hjb 16 _ rfl;have HR:=lh hjb;have HC:=lh c16;have HM:=lh (move_at hp hlt);have HLT:=lh hlt;have HJ:=lh jY;have HW:=lh hW;have HYY:Hid (w.heap.size<=Y):=lh (by omega);have HQ:=lh hY;have HB:=lh hb;clear h hjb c16 jY hW hb hY hp;go_enter Tryz.func54,Tryz.ntmps54;go_upto_region 1 with fail
 rw [<-HW.out,HQ.out];refine wp_region_fin (fun X9=>Below W.heap.size W X9) (fun X9 X8=>Below X9.heap.size X9 X8) [
  fun v9 _=>v9=.pointer (some ⟨g,o,none⟩),fun v9 X9=>∃ G cap,v9=.slice (some ⟨G,0,none⟩) j.path.length cap/\X9.rangeAt G (0+p*2) (mvL j.move),fun v9 _=>v9=.pointer (some ⟨g,o,none⟩),fun v9 _=>v9=.pointer (some ⟨g,o,none⟩),fun v9 _=>v9=.pointer (some ⟨g,o+16,none⟩),fun v9 _=>v9=.int .i64 (p:Int),fun v9 X9=>∃ G,v9=.pointer (some ⟨G,0+p*2,none⟩)/\X9.rangeAt G (0+p*2) (mvL j.move),fun v9 _=>v9=.agg #[.int .i64 j.move.1,.int .i64 j.move.2]]
  (fun _ X9=>X9.heap[Y]?=some (.cells #[.int .i64 j.move.1,.int .i64 j.move.2] 74 (0,0))/\Below w.heap.size w X9) rfl (by kernel_rfl) (by kernel_rfl) (by kernel_rfl) (by kernel_rfl) ?st ?g0 ?os ?la ?en
 case st=>exact⟨fun _ _ _ _ h=>h,(fun _ _ _ hb h=>by obtain⟨G,cap,e9,h9⟩:=h;exact⟨G,cap,e9,range_on hb h9⟩),fun _ _ _ _ h=>h,fun _ _ _ _ h=>h,fun _ _ _ _ h=>h,fun _ _ _ _ h=>h,(fun _ _ _ hb h=>by obtain⟨G,e9,h9⟩:=h;exact⟨G,e9,range_on hb h9⟩),fun _ _ _ _ h=>h,trivial⟩
 case g0=>exact⟨rfl,rfl,rfl,Nat.le_refl _,fun _ _=>rfl⟩
 case os =>
  refine⟨?_,?_,?_,?_,?_,?_,?_,?_,trivial⟩
  ·exact⟨rfl,fun ρ _ hg ho _ _ _=>Runs.val _ (op_move (show ρ (.tmp 0)=.pointer (some ⟨g,o,none⟩)from ho 0 rfl)) ⟨hg,Below.refl _ _,rfl⟩⟩
  ·refine⟨rfl,fun ρ X9 hg ho hc hf hr=>?_⟩;refine Runs.goes 74 #[.pointer (some ⟨g,o,none⟩)] (op_call1 hf (by go_simp) (show ρ (.tmp 3)=.pointer (some ⟨g,o,none⟩)from hr 0 3 rfl rfl)) ((path_job (range_on hg HR.out)).mono ?_);rintro e7 w7 ⟨ad,cap,rfl,h7,b7⟩;obtain⟨ad',cap',e8,_,_,_,h8⟩:=Lr.own mvL_len h7;cases e8;obtain⟨b8,o8,cs8,e8,_,hE8,_,hc8⟩:=h8 p HLT.out;subst e8;obtain⟨a9,c9,e9,h9⟩:=own_shape h7;obtain⟨rfl⟩:o8=0:=by
    rcases h7.2 with⟨q,_⟩ | ⟨g',cap',cur,q,_⟩
    ·cases q
    ·cases q;rfl
   have hE8':cs8=mvL j.move:=by rw [hE8,HM.out]
   subst hE8';exact⟨_,rfl,bgo hg b7,b7,b8,cap,rfl,fun k u hu=>hc8 k u hu⟩
  ·exact⟨rfl,fun ρ _ hg ho _ _ _=>Runs.val _ (op_move (show ρ (.tmp 0)=.pointer (some ⟨g,o,none⟩)from ho 0 rfl)) ⟨hg,Below.refl _ _,rfl⟩⟩
  ·exact⟨rfl,fun ρ _ hg _ _ _ hr=>Runs.val _ (op_nil (show ρ (.tmp 5)=.pointer (some ⟨g,o,none⟩)from hr 2 5 rfl rfl)) ⟨hg,Below.refl _ _,rfl⟩⟩
  ·exact⟨rfl,fun ρ _ hg _ _ _ hr=>Runs.val _ (op_f66_4 (show ρ (.tmp 6)=.pointer (some ⟨g,o,none⟩)from hr 3 6 rfl rfl)) ⟨hg,Below.refl _ _,rfl⟩⟩
  ·exact⟨rfl,fun ρ _ hg _ _ _ hr=>Runs.val _ (op_load3 (show ρ (.tmp 7)=.pointer (some ⟨g,o+16,none⟩)from hr 4 7 rfl rfl) (cell_on hg HC.out)) ⟨hg,Below.refl _ _,rfl⟩⟩
  ·refine⟨rfl,fun ρ X9 hg ho hc hf hr=>?_⟩;obtain⟨G,cap,e9,h9⟩:=hr 1 4 rfl rfl;exact Runs.val _ (op_i106 e9 (show ρ (.tmp 8)=.int .i64 (p:Int)from hr 5 8 rfl rfl) HLT.out) ⟨hg,Below.refl _ _,G,rfl,h9⟩
  ·refine⟨rfl,fun ρ X9 hg ho hc hf hr=>?_⟩;obtain⟨G,e9,h9⟩:=hr 6 9 rfl rfl;exact Runs.val _ (op_loadAt e9 (run_loadAt_mid X9 G (0+p*2) 74 (mvL j.move) _ h9 Tryz.underlying74 rfl size74)) ⟨hg,Below.refl _ _,rfl⟩
 case la =>
  refine⟨rfl,fun ρ X9 hg ho hc hf hr=>?_⟩;obtain⟨X',hst,j',f'⟩:=st_row ((hg.block Y (blk_lt HJ.out)).trans HJ.out) (us:=#[.int .i64 j.move.1,.int .i64 j.move.2]) rfl size74 (by simp [Value.oneCell']);exact Runs.skips (op_storeAt (show ρ (.tmp 2)=.pointer (some ⟨Y,0,none⟩)from ho 2 rfl) (show ρ (.tmp 10)=.agg #[.int .i64 j.move.1,.int .i64 j.move.2]from hr 7 10 (by decide) rfl) hst) ⟨j',(HB.out.trans (hg.mono HB.out.size)).trans (f'.toBelow (fun k hk q=>by have:=HYY.out;omega) (HB.out.trans (hg.mono HB.out.size)).size)⟩
 case en =>
  intro a9 w6 wb v9 hF hs9 hd9 ho9 hv9 hr9;obtain⟨x9,hx,hxt⟩:=act_put hs9 hd9 ho9;change a9=putAll _ x9 [3,4,5,6,7,8,9,10]at hx;simp only [putAll,Act.put,List.setIfInBounds_toArray,List.set_cons_zero,List.set_cons_succ]at hx;subst hx;clear hs9 hd9 ho9 hv9 hr9 hxt;generalize x9 3=z3,x9 4=z4,x9 5=z5,x9 6=z6,x9 7=z7,x9 8=z8,x9 9=z9,x9 10=z10;have HF:=lh hF;clear hF;go_wp2;refine bodyPost_ret (results_one rfl rfl (load_var HF.out.1 Tryz.underlying74 rfl size74)) rfl ?_;exact⟨rfl,HF.out.2⟩
theorem atHand_none{B:Nat}{s0 s1:Int}{tv lv jv mv:Value}{ra:Option Addr}{rc:Nat}(hB:w.heap[B]?=some (.cells #[.int .i64 s0,.int .i64 s1,tv,lv,jv,.slice ra 0 rc,mv] 88 (0,0))):Calls Tryz.prog 53 #[.pointer (some ⟨B,0,none⟩)] w fun e w'=>e=.returned (.pointer none)/\Below w.heap.size w w':=by
 have c5:w.cell? ⟨B,5,none⟩=some (.slice ra 0 rc):=cell_blk hB 5;clear hB;go_enter Tryz.func53,Tryz.ntmps53;go_wp2;go_ret;exact⟨rfl,Below.refl _ _⟩
theorem atHand_some{B jb jn jc rb ro rn rc i:Nat}{s0 s1:Int}{tv lv mv:Value}(hB:w.heap[B]?=some (.cells #[.int .i64 s0,.int .i64 s1,tv,lv,.slice (some ⟨jb,0,none⟩) jn jc,.slice (some ⟨rb,ro,none⟩) rn rc,mv] 88 (0,0)))
  (hr0:0<rn) (hc:w.cell? ⟨rb,ro,none⟩=some (.int .i64 (i:Int))) (hi:i<jn):Calls Tryz.prog 53 #[.pointer (some ⟨B,0,none⟩)] w fun e w'=>e=.returned (.pointer (some ⟨jb,i*22,none⟩))/\Below w.heap.size w w':=by
 have c5:w.cell? ⟨B,5,none⟩=some (.slice (some ⟨rb,ro,none⟩) rn rc):=cell_blk hB 5;have c4:w.cell? ⟨B,4,none⟩=some (.slice (some ⟨jb,0,none⟩) jn jc):=cell_blk hB 4;have k0:¬ (rn:Int)=0:=by omega
 have HC5:=lh c5;have HC4:=lh c4;have HC:=lh hc;have HR0:=lh hr0;have HI:=lh hi;clear hB c4 hc hr0 hi;go_enter Tryz.func53,Tryz.ntmps53;go_upto_region 3 with fail
 refine wp_region_fb (fun _ X9=>Below w.heap.size w X9) (fun X9 X8=>Below X9.heap.size X9 X8) [
  fun v9 _=>v9=.pointer (some ⟨B,0,none⟩),fun v9 _=>v9=.pointer (some ⟨B,0,none⟩),fun v9 _=>v9=.pointer (some ⟨B,4,none⟩),fun v9 _=>v9=.slice (some ⟨jb,0,none⟩) jn jc,fun v9 _=>v9=.pointer (some ⟨B,0,none⟩),fun v9 _=>v9=.pointer (some ⟨B,0,none⟩),fun v9 _=>v9=.pointer (some ⟨B,5,none⟩),fun v9 _=>v9=.slice (some ⟨rb,ro,none⟩) rn rc,fun v9 _=>v9=.pointer (some ⟨rb,ro,none⟩),fun v9 _=>v9=.int .i64 (i:Int),fun v9 _=>v9=.pointer (some ⟨jb,0+i*22,none⟩),fun v9 _=>v9=.pointer (some ⟨jb,0+i*22,none⟩)]
  (by kernel_rfl) (by kernel_rfl) (by kernel_rfl) ?st ?g0 ?os ?en
 case st=>
  iterate 12 refine⟨fun _ _ _ _ h=>h,?_⟩
  exact trivial
 case g0=>exact⟨rfl,rfl,rfl,Nat.le_refl _,fun _ _=>rfl⟩
 case os =>
  refine⟨?_,?_,?_,?_,?_,?_,?_,?_,?_,?_,?_,?_,trivial⟩
  all_goals intro ρ X9 fl hg hn hl hp ho hc hf hr
  ·exact rv (op_move (show ρ (.tmp 0)=.pointer (some ⟨B,0,none⟩)from ho 0 rfl)) ⟨hg,Below.refl _ _,rfl⟩
  ·exact rv (op_nil (show ρ (.tmp 9)=.pointer (some ⟨B,0,none⟩)from hr 0 9 rfl rfl)) ⟨hg,Below.refl _ _,rfl⟩
  ·exact rv (op_f88_2 (show ρ (.tmp 10)=.pointer (some ⟨B,0,none⟩)from hr 1 10 rfl rfl)) ⟨hg,Below.refl _ _,rfl⟩
  ·exact rv (op_load32 (show ρ (.tmp 11)=.pointer (some ⟨B,4,none⟩)from hr 2 11 rfl rfl) (cell_on hg HC4.out)) ⟨hg,Below.refl _ _,rfl⟩
  ·exact rv (op_move (show ρ (.tmp 0)=.pointer (some ⟨B,0,none⟩)from ho 0 rfl)) ⟨hg,Below.refl _ _,rfl⟩
  ·exact rv (op_nil (show ρ (.tmp 13)=.pointer (some ⟨B,0,none⟩)from hr 4 13 rfl rfl)) ⟨hg,Below.refl _ _,rfl⟩
  ·exact rv (op_f88_3 (show ρ (.tmp 14)=.pointer (some ⟨B,0,none⟩)from hr 5 14 rfl rfl)) ⟨hg,Below.refl _ _,rfl⟩
  ·exact rv (op_load85 (show ρ (.tmp 15)=.pointer (some ⟨B,5,none⟩)from hr 6 15 rfl rfl) (cell_on hg HC5.out)) ⟨hg,Below.refl _ _,rfl⟩
  ·exact rv (op_i85 (i:=0) (show ρ (.tmp 16)=.slice (some ⟨rb,ro,none⟩) rn rc from hr 7 16 rfl rfl) (hc _) HR0.out) ⟨hg,Below.refl _ _,rfl⟩
  ·exact rv (op_load3 (show ρ (.tmp 17)=.pointer (some ⟨rb,ro,none⟩)from hr 8 17 rfl rfl) (cell_on hg HC.out)) ⟨hg,Below.refl _ _,rfl⟩
  ·exact rv (op_i32 (show ρ (.tmp 12)=.slice (some ⟨jb,0,none⟩) jn jc from hr 3 12 rfl rfl) (show ρ (.tmp 18)=.int .i64 (i:Int)from hr 9 18 rfl rfl) HI.out) ⟨hg,Below.refl _ _,rfl⟩
  ·exact rv (op_assign (show ρ (.tmp 19)=.pointer (some ⟨jb,0+i*22,none⟩)from hr 10 19 rfl rfl)) ⟨hg,Below.refl _ _,rfl⟩
 case en =>
  intro a9 w6 fl hfl b6 hs9 hd9 ho9 hr9;obtain⟨x9,hx,hxt⟩:=act_put hs9 hd9 ho9;have xk2:x9 2=.pointer (some ⟨jb,0+i*22,none⟩):=(hxt 2).symm.trans (hr9 11 2 rfl);change a9=putAll _ x9 [9,10,11,12,13,14,15,16,17,18,19,2]at hx;simp only [putAll,Act.put,List.setIfInBounds_toArray,List.set_cons_zero,List.set_cons_succ,xk2]at hx;subst hx;clear hs9 hd9 ho9 hr9 hfl xk2;generalize x9 9=z9,x9 10=z10,x9 11=z11,x9 12=z12,x9 13=z13,x9 14=z14,x9 15=z15,x9 16=z16,x9 17=z17,x9 18=z18,x9 19=z19;go_wp2;go_ret;exact⟨rfl,b6⟩
theorem index_any{L:List Int}{v:Value}{x:Int}(hL:Lr inE 1 w L v):Calls Tryz.prog 114 #[v,.int .i64 x] w fun e w'=>e=.returned (.int .i64 (fidx (fun y=>decide (x=y)) L))/\Below w.heap.size w w':=by
 obtain⟨ad,cap,rfl,_,z1,z2,hX⟩:=hL;have hmx:(L.length:Int)<=9223372036854775807:=by unfold maxLen at z2;omega
 have HX:=lh hX;clear hX z1 z2;go_enter Tryz.func114,Tryz.ntmps114;go_wp2;go_loopw [8] (fun iv wr=>∃ i:Nat,i<=L.length/\iv=.int .i64 (i:Int)/\(∀ j (hj:j<L.length),j<i->decide (x=L[j])=false)/\Below w.heap.size w wr) (fun iv _=>L.length - (intOf iv).toNat)
 case atStart=>exact⟨0,Nat.zero_le _,rfl,fun j _ hj=>by omega,Below.refl _ _⟩
 case round =>
  obtain⟨i,hi,rfl,hno,hb⟩:=hrel;obtain⟨V,rfl⟩:∃ V,V=wr:=⟨_,rfl⟩
  have HN:=lh hno;have HB:=lh hb;by_cases hlt:i<L.length
  ·obtain⟨b,o,cs',rfl,hbl,hE,_,hcell⟩:=HX.out i hlt;cases hE;obtain⟨y,hy⟩:∃ y,L[i]=y:=⟨_,rfl⟩
   rw [hy]at hcell;have c0:V.cell? ⟨b,o+i,none⟩=some (.int .i64 y):=cell_on hb (by have:=hcell 0 _ rfl;rw [Nat.mul_one]at this;exact this);have k0:(0:Int)<=i:=by omega
   have k1:(i:Int)<L.length:=by omega
   have HAT:=lh (fun hp=>fidx_at (p:=fun y=>decide (x=y)) hlt hp hno);have HXX:=lh hy;clear hb hno hcell hy;by_cases hp:x=y
   ·subst hp;go_wp2;go_ret;exact⟨by rw [HAT.out (by rw [HXX.out];exact decide_eq_true rfl)];rfl,HB.out⟩
   ·have HP:Hid (¬ x=y):=lh hp;have HNN:Hid (∀ j (hj:j<L.length),j<i+1->decide (x=L[j])=false):=lh (fun j hj hji=>by
     rcases Nat.lt_or_ge j i with r | r
     ·exact HN.out j hj r
     ·obtain rfl:j=i:=by omega
      rw [HXX.out];exact decide_eq_false HP.out)
    go_wp2;go_roundw
    case rel=>exact⟨i+1,hlt,by go_num,HNN.out,HB.out⟩
    case measure=>simp [intOf];omega
  ·have k1:¬ (i:Int)<L.length:=by omega
   obtain rfl:i=L.length:=by omega
   have HE:Hid (fidx (fun y=>decide (x=y)) L=-1):=lh (fidx_none (fun j hj=>HN.out j hj hj));clear hno;go_wp2;go_ret;exact⟨by rw [HE.out];rfl,HB.out⟩
theorem fidx_mem{L:List Int}{x:Int}:decide (fidx (fun y=>decide (x=y)) L ≥ 0)=decide (x ∈ L):=by
 unfold fidx;cases h:L.findIdx? (fun y=>decide (x=y))with
 | none =>
  have:x ∉ L:=fun q=>by
   have:=List.findIdx?_eq_none_iff.1 h x q;simp at this
  simp [this]
 | some i =>
  obtain⟨hi,hp,_⟩:=List.findIdx?_eq_some_iff_getElem.1 h;have:x ∈ L:=by
   have:x=L[i]:=by simpa using hp
   rw [this];exact List.getElem_mem hi
  simp [this]
theorem contains_any{L:List Int}{v:Value}{x:Int}(hL:Lr inE 1 w L v):Calls Tryz.prog 89 #[v,.int .i64 x] w fun e w'=>e=.returned (.bool (decide (x ∈ L)))/\Below w.heap.size w w':=by
 have hc:=index_any (x:=x) hL;have HF:=lh (fidx_mem (L:=L) (x:=x));obtain⟨n,hn⟩:∃ n,fidx (fun y=>decide (x=y)) L=n:=⟨_,rfl⟩
 rw [hn]at hc HF;clear hn hL;go_enter Tryz.func89,Tryz.ntmps89;go_wp2_with (refine hc.mono ?_;rintro e w1 ⟨rfl,b1⟩;refine Hid.out ?_)
 refine lh ?_;have HB1:=lh b1;clear b1 hc;go_wp2;go_ret;exact⟨by rw [<-HF.out];rfl,HB1.out⟩
end
end Go.Proofs.YtkhehikaemdnnaaGreat
