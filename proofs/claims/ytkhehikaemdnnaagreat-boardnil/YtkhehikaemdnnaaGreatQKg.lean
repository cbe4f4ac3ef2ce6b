import Derived.Test.YtkhehikaemdnnaaGreatQKf
namespace Go.Proofs.YtkhehikaemdnnaaGreat
set_option maxRecDepth 100000
set_option maxHeartbeats 4000000
open Go.RowKit
section
variable {ρ : Operand -> Value} {X : World} {d : Option Tmp} {ty : TypeId} {ps : String} {af : Array Edge} {g : Option (Nat × Bool)}
theorem op_isnil108{x y:Operand}{a:Option Addr}(e:ρ x=.pointer a)(e2:ρ y=.pointer none):(execOp ρ ⟨d,.binOp .eql 108 x y 108,ty,ps,af,g⟩).run Tryz.prog X=.ok (.value (.bool a.isNone)) X:=by
 simp only [execOp,e,e2];cases a <;> go_simp
theorem op_field74_0{x:Operand}{m n:Int}(e:ρ x=.agg #[.int .i64 m,.int .i64 n]):(execOp ρ ⟨d,.field 74 x 0,ty,ps,af,g⟩).run Tryz.prog X=.ok (.value (.int .i64 m)) X:=by
 have h:(Instr.field 74 (.agg #[.int .i64 m,.int .i64 n]) 0).run Tryz.prog X=.ok (.int .i64 m) X:=by kernel_rfl
 simp only [execOp,e,Sem.run_bind,h,Result.andThen_ok,Sem.run_pure]
end
section
variable {w : World}
def HandIs(w:World)(B:Nat)(P:Value):Prop:=∀ X,Below w.heap.size w X->Calls Tryz.prog 53 #[.pointer (some ⟨B,0,none⟩)] X fun e w'=>e=.returned P/\Below X.heap.size X w'
theorem turn_none{B:Nat}{c:Cm}{r:Rest}{cv kv:Value}(hh:HandIs w B (.pointer none)):Calls Tryz.prog 65 #[.pointer (some ⟨B,0,none⟩),.agg (cmA c r cv),kv] w fun e w'=>e=.returned (.pointer none)/\Below w.heap.size w w':=by
 obtain⟨W,hW⟩:∃ W,W=w.alloc (.cells (cmA c r cv) 48):=⟨_,rfl⟩
 have hb:=bw1 hW;obtain⟨Y,hY⟩:∃ Y,w.heap.size=Y:=⟨_,rfl⟩
 have jY:W.heap[Y]?=some (.cells (cmA c r cv) 48 (0,0)):=by rw [hW,<-hY];exact heap_alloc_new w _
 have hc:=hh W hb;have k26:W.cell? ⟨Y,26,none⟩=some (.int .i64 c.job):=cell_blk jY 26;have k27:W.cell? ⟨Y,27,none⟩=some (.int .i64 c.phase):=cell_blk jY 27;have HK:=lh (And.intro k26 k27);have HW:=lh hW;have HY:=lh hY;have HB:=lh hb;clear hW hb jY hY k26 k27 hh;obtain⟨cs,hcs⟩:∃ cs,cmA c r cv=cs:=⟨_,rfl⟩
 rw [hcs]at HW ⊢;clear hcs;go_enter Tryz.func65,Tryz.ntmps65;go_upto_region 1 with fail
 rw [<-HW.out,HY.out];go_upto_region 2 with (go_at_call 53;refine hc.mono ?_;rintro e w1 ⟨rfl,b1⟩;have HB1:=lh b1;clear b1 hc)
 refine wp_region_fb (fun _ X9=>Below w1.heap.size w1 X9) (fun X9 X8=>Below X9.heap.size X9 X8) [
  fun v9 _=>v9=.pointer none,fun v9 _=>v9=.bool true,fun v9 _=>v9=.bool true,fun v9 _=>v9=undef,fun v9 _=>v9=undef,fun v9 _=>v9=undef,fun v9 _=>v9=undef,fun v9 _=>v9=undef,fun v9 _=>v9=undef,fun v9 _=>v9=undef,fun v9 _=>v9=.bool true,fun v9 _=>v9=.bool true,fun v9 _=>v9=undef,fun v9 _=>v9=undef,fun v9 _=>v9=undef,fun v9 _=>v9=undef,fun v9 _=>v9=undef,fun v9 _=>v9=undef,fun v9 _=>v9=undef,fun v9 _=>v9=.bool true,fun v9 _=>v9=.bool true,fun v9 _=>v9=undef,fun v9 _=>v9=undef,fun v9 _=>v9=undef,fun v9 _=>v9=undef,fun v9 _=>v9=undef,fun v9 _=>v9=undef,fun v9 _=>v9=.bool true]
  (by kernel_rfl) (by kernel_rfl) (by kernel_rfl) ?st ?g0 ?os ?en
 case st=>
  iterate 28 refine⟨fun _ _ _ _ h=>h,?_⟩
  exact trivial
 case g0=>exact⟨rfl,rfl,rfl,Nat.le_refl _,fun _ _=>rfl⟩
 case os =>
  refine⟨?_,?_,?_,?_,?_,?_,?_,?_,?_,?_,?_,?_,?_,?_,?_,?_,?_,?_,?_,?_,?_,?_,?_,?_,?_,?_,?_,?_,trivial⟩
  all_goals intro ρ X9 fl hg hn hl hp ho hc hf hr
  ·exact rv (op_move (show ρ (.tmp 7)=.pointer none from ho 7 rfl)) ⟨hg,Below.refl _ _,rfl⟩
  ·exact rv (op_isnil108 (a:=none) (show ρ (.tmp 10)=.pointer none from hr 0 10 rfl rfl) (hc _)) ⟨hg,Below.refl _ _,rfl⟩
  ·exact rv (op_move (show ρ (.tmp 11)=.bool true from hr 1 11 rfl rfl)) ⟨hg,Below.refl _ _,rfl⟩
  ·exact .inr (.inr ⟨2,12,false,fun _=>rfl,rfl,(fun q=>by rw [show ρ (.tmp 12)=.bool true from hr 2 12 rfl rfl]at q;cases q),hg,Below.refl _ _,rfl⟩)
  ·exact .inr (.inr ⟨2,12,false,fun _=>rfl,rfl,(fun q=>by rw [show ρ (.tmp 12)=.bool true from hr 2 12 rfl rfl]at q;cases q),hg,Below.refl _ _,rfl⟩)
  ·exact .inr (.inr ⟨2,12,false,fun _=>rfl,rfl,(fun q=>by rw [show ρ (.tmp 12)=.bool true from hr 2 12 rfl rfl]at q;cases q),hg,Below.refl _ _,rfl⟩)
  ·exact .inr (.inr ⟨2,12,false,fun _=>rfl,rfl,(fun q=>by rw [show ρ (.tmp 12)=.bool true from hr 2 12 rfl rfl]at q;cases q),hg,Below.refl _ _,rfl⟩)
  ·exact .inr (.inr ⟨2,12,false,fun _=>rfl,rfl,(fun q=>by rw [show ρ (.tmp 12)=.bool true from hr 2 12 rfl rfl]at q;cases q),hg,Below.refl _ _,rfl⟩)
  ·exact .inr (.inr ⟨2,12,false,fun _=>rfl,rfl,(fun q=>by rw [show ρ (.tmp 12)=.bool true from hr 2 12 rfl rfl]at q;cases q),hg,Below.refl _ _,rfl⟩)
  ·exact .inr (.inr ⟨2,12,false,fun _=>rfl,rfl,(fun q=>by rw [show ρ (.tmp 12)=.bool true from hr 2 12 rfl rfl]at q;cases q),hg,Below.refl _ _,rfl⟩)
  ·exact rv (op_pick (show ρ (.tmp 12)=.bool true from hr 2 12 rfl rfl) (show(if (true:Bool) then ρ (.const (.bool true)) else ρ (.tmp 19))=.bool true from hc _)) ⟨hg,Below.refl _ _,rfl⟩
  ·exact rv (op_move (show ρ (.tmp 20)=.bool true from hr 10 20 rfl rfl)) ⟨hg,Below.refl _ _,rfl⟩
  ·exact .inr (.inr ⟨11,21,false,fun _=>rfl,rfl,(fun q=>by rw [show ρ (.tmp 21)=.bool true from hr 11 21 rfl rfl]at q;cases q),hg,Below.refl _ _,rfl⟩)
  ·exact .inr (.inr ⟨11,21,false,fun _=>rfl,rfl,(fun q=>by rw [show ρ (.tmp 21)=.bool true from hr 11 21 rfl rfl]at q;cases q),hg,Below.refl _ _,rfl⟩)
  ·exact .inr (.inr ⟨11,21,false,fun _=>rfl,rfl,(fun q=>by rw [show ρ (.tmp 21)=.bool true from hr 11 21 rfl rfl]at q;cases q),hg,Below.refl _ _,rfl⟩)
  ·exact .inr (.inr ⟨11,21,false,fun _=>rfl,rfl,(fun q=>by rw [show ρ (.tmp 21)=.bool true from hr 11 21 rfl rfl]at q;cases q),hg,Below.refl _ _,rfl⟩)
  ·exact .inr (.inr ⟨11,21,false,fun _=>rfl,rfl,(fun q=>by rw [show ρ (.tmp 21)=.bool true from hr 11 21 rfl rfl]at q;cases q),hg,Below.refl _ _,rfl⟩)
  ·exact .inr (.inr ⟨11,21,false,fun _=>rfl,rfl,(fun q=>by rw [show ρ (.tmp 21)=.bool true from hr 11 21 rfl rfl]at q;cases q),hg,Below.refl _ _,rfl⟩)
  ·exact .inr (.inr ⟨11,21,false,fun _=>rfl,rfl,(fun q=>by rw [show ρ (.tmp 21)=.bool true from hr 11 21 rfl rfl]at q;cases q),hg,Below.refl _ _,rfl⟩)
  ·exact rv (op_pick (show ρ (.tmp 21)=.bool true from hr 11 21 rfl rfl) (show(if (true:Bool) then ρ (.const (.bool true)) else ρ (.tmp 28))=.bool true from hc _)) ⟨hg,Below.refl _ _,rfl⟩
  ·exact rv (op_move (show ρ (.tmp 29)=.bool true from hr 19 29 rfl rfl)) ⟨hg,Below.refl _ _,rfl⟩
  ·exact .inr (.inr ⟨20,30,false,fun _=>rfl,rfl,(fun q=>by rw [show ρ (.tmp 30)=.bool true from hr 20 30 rfl rfl]at q;cases q),hg,Below.refl _ _,rfl⟩)
  ·exact .inr (.inr ⟨20,30,false,fun _=>rfl,rfl,(fun q=>by rw [show ρ (.tmp 30)=.bool true from hr 20 30 rfl rfl]at q;cases q),hg,Below.refl _ _,rfl⟩)
  ·exact .inr (.inr ⟨20,30,false,fun _=>rfl,rfl,(fun q=>by rw [show ρ (.tmp 30)=.bool true from hr 20 30 rfl rfl]at q;cases q),hg,Below.refl _ _,rfl⟩)
  ·exact .inr (.inr ⟨20,30,false,fun _=>rfl,rfl,(fun q=>by rw [show ρ (.tmp 30)=.bool true from hr 20 30 rfl rfl]at q;cases q),hg,Below.refl _ _,rfl⟩)
  ·exact .inr (.inr ⟨20,30,false,fun _=>rfl,rfl,(fun q=>by rw [show ρ (.tmp 30)=.bool true from hr 20 30 rfl rfl]at q;cases q),hg,Below.refl _ _,rfl⟩)
  ·exact .inr (.inr ⟨20,30,false,fun _=>rfl,rfl,(fun q=>by rw [show ρ (.tmp 30)=.bool true from hr 20 30 rfl rfl]at q;cases q),hg,Below.refl _ _,rfl⟩)
  ·exact rv (op_pick (show ρ (.tmp 30)=.bool true from hr 20 30 rfl rfl) (show(if (true:Bool) then ρ (.const (.bool true)) else ρ (.tmp 36))=.bool true from hc _)) ⟨hg,Below.refl _ _,rfl⟩
 case en =>
  intro a9 w6 fl hfl b6 hs9 hd9 ho9 hr9;obtain⟨x9,hx,hxt⟩:=act_put hs9 hd9 ho9;have xk37:x9 37=.bool true:=(hxt 37).symm.trans (hr9 27 37 rfl);change a9=putAll _ x9 [10,11,12,13,14,15,16,17,18,19,20,21,22,23,24,25,26,27,28,29,30,31,32,33,34,35,36,37]at hx;simp only [putAll,Act.put,List.setIfInBounds_toArray,List.set_cons_zero,List.set_cons_succ,xk37]at hx;subst hx;clear hs9 hd9 ho9 hr9 hfl xk37;generalize x9 10=z10,x9 11=z11,x9 12=z12,x9 13=z13,x9 14=z14,x9 15=z15,x9 16=z16,x9 17=z17,x9 18=z18,x9 19=z19,x9 20=z20,x9 21=z21,x9 22=z22,x9 23=z23,x9 24=z24,x9 25=z25,x9 26=z26,x9 27=z27,x9 28=z28,x9 29=z29,x9 30=z30,x9 31=z31,x9 32=z32,x9 33=z33,x9 34=z34,x9 35=z35,x9 36=z36;have HB6:=lh (bgo HB.out (bgo HB1.out b6));clear b6;go_wp2;go_ret;exact⟨rfl,HB6.out⟩
theorem turn_id{B:Nat}{c:Cm}{r:Rest}{cv kv:Value}{jb o:Nat}{j:Jb}{jv:Value}(hh:HandIs w B (.pointer (some ⟨jb,o,none⟩)))(h:JobAt w jb o j jv)(q1:¬ j.id=c.job):Calls Tryz.prog 65 #[.pointer (some ⟨B,0,none⟩),.agg (cmA c r cv),kv] w fun e w'=>e=.returned (.pointer none)/\Below w.heap.size w w':=by
 obtain⟨W,hW⟩:∃ W,W=w.alloc (.cells (cmA c r cv) 48):=⟨_,rfl⟩
 have hb:=bw1 hW;obtain⟨Y,hY⟩:∃ Y,w.heap.size=Y:=⟨_,rfl⟩
 have jY:W.heap[Y]?=some (.cells (cmA c r cv) 48 (0,0)):=by rw [hW,<-hY];exact heap_alloc_new w _
 have hc:=hh W hb;have k26:W.cell? ⟨Y,26,none⟩=some (.int .i64 c.job):=cell_blk jY 26;have k27:W.cell? ⟨Y,27,none⟩=some (.int .i64 c.phase):=cell_blk jY 27;have HK:=lh (And.intro k26 k27);have HW:=lh hW;have HY:=lh hY;have HB:=lh hb;have hj:JobAt W jb o j jv:=range_on hb h;have HJ:=lh hj;clear hj h;have HQ1:=lh q1;clear q1;clear hW hb jY hY k26 k27 hh;obtain⟨cs,hcs⟩:∃ cs,cmA c r cv=cs:=⟨_,rfl⟩
 rw [hcs]at HW ⊢;clear hcs;go_enter Tryz.func65,Tryz.ntmps65;go_upto_region 1 with fail
 rw [<-HW.out,HY.out];go_upto_region 2 with (go_at_call 53;refine hc.mono ?_;rintro e w1 ⟨rfl,b1⟩;have HB1:=lh b1;clear b1 hc)
 refine wp_region_fb (fun _ X9=>Below w1.heap.size w1 X9) (fun X9 X8=>Below X9.heap.size X9 X8) [
  fun v9 _=>v9=.pointer (some ⟨jb,o,none⟩),fun v9 _=>v9=.bool false,fun v9 _=>v9=.bool false,fun v9 _=>v9=.pointer (some ⟨jb,o,none⟩),fun v9 _=>v9=.pointer (some ⟨jb,o,none⟩),fun v9 _=>v9=.pointer (some ⟨jb,o,none⟩),fun v9 _=>v9=.int .i64 j.id,fun v9 _=>v9=.pointer (some ⟨Y,26,none⟩),fun v9 _=>v9=.int .i64 c.job,fun v9 _=>v9=.bool true,fun v9 _=>v9=.bool true,fun v9 _=>v9=.bool true,fun v9 _=>v9=undef,fun v9 _=>v9=undef,fun v9 _=>v9=undef,fun v9 _=>v9=undef,fun v9 _=>v9=undef,fun v9 _=>v9=undef,fun v9 _=>v9=undef,fun v9 _=>v9=.bool true,fun v9 _=>v9=.bool true,fun v9 _=>v9=undef,fun v9 _=>v9=undef,fun v9 _=>v9=undef,fun v9 _=>v9=undef,fun v9 _=>v9=undef,fun v9 _=>v9=undef,fun v9 _=>v9=.bool true]
  (by kernel_rfl) (by kernel_rfl) (by kernel_rfl) ?st ?g0 ?os ?en
 case st=>
  iterate 28 refine⟨fun _ _ _ _ h=>h,?_⟩
  exact trivial
 case g0=>exact⟨rfl,rfl,rfl,Nat.le_refl _,fun _ _=>rfl⟩
 case os =>
  refine⟨?_,?_,?_,?_,?_,?_,?_,?_,?_,?_,?_,?_,?_,?_,?_,?_,?_,?_,?_,?_,?_,?_,?_,?_,?_,?_,?_,?_,trivial⟩
  all_goals intro ρ X9 fl hg hn hl hp ho hc hf hr
  ·exact rv (op_move (show ρ (.tmp 7)=.pointer (some ⟨jb,o,none⟩)from ho 7 rfl)) ⟨hg,Below.refl _ _,rfl⟩
  ·exact rv (op_isnil108 (a:=some ⟨jb,o,none⟩) (show ρ (.tmp 10)=.pointer (some ⟨jb,o,none⟩)from hr 0 10 rfl rfl) (hc _)) ⟨hg,Below.refl _ _,rfl⟩
  ·exact rv (op_move (show ρ (.tmp 11)=.bool false from hr 1 11 rfl rfl)) ⟨hg,Below.refl _ _,rfl⟩
  ·exact .inr (.inl ⟨2,12,false,fun _=>rfl,rfl,hr 2 12 rfl rfl,Runs.val _ (op_move (show ρ (.tmp 7)=.pointer (some ⟨jb,o,none⟩)from ho 7 rfl)) ⟨hg,Below.refl _ _,rfl⟩⟩)
  ·exact .inr (.inl ⟨2,12,false,fun _=>rfl,rfl,hr 2 12 rfl rfl,Runs.val _ (op_nil (show ρ (.tmp 13)=.pointer (some ⟨jb,o,none⟩)from hr 3 13 rfl rfl)) ⟨hg,Below.refl _ _,rfl⟩⟩)
  ·exact .inr (.inl ⟨2,12,false,fun _=>rfl,rfl,hr 2 12 rfl rfl,Runs.val _ (op_f66_0 (show ρ (.tmp 14)=.pointer (some ⟨jb,o,none⟩)from hr 4 14 rfl rfl)) ⟨hg,Below.refl _ _,rfl⟩⟩)
  ·exact .inr (.inl ⟨2,12,false,fun _=>rfl,rfl,hr 2 12 rfl rfl,Runs.val _ (op_load3 (show ρ (.tmp 15)=.pointer (some ⟨jb,o,none⟩)from hr 5 15 rfl rfl) (cell_on (bgo HB1.out hg) (HJ.out 0 _ rfl))) ⟨hg,Below.refl _ _,rfl⟩⟩)
  ·exact .inr (.inl ⟨2,12,false,fun _=>rfl,rfl,hr 2 12 rfl rfl,Runs.val _ (op_f48_12 (show ρ (.tmp 4)=.pointer (some ⟨Y,0,none⟩)from ho 4 rfl)) ⟨hg,Below.refl _ _,rfl⟩⟩)
  ·exact .inr (.inl ⟨2,12,false,fun _=>rfl,rfl,hr 2 12 rfl rfl,Runs.val _ (op_load3 (show ρ (.tmp 17)=.pointer (some ⟨Y,26,none⟩)from hr 7 17 rfl rfl) (cell_on (bgo HB1.out hg) HK.out.1)) ⟨hg,Below.refl _ _,rfl⟩⟩)
  ·exact .inr (.inl ⟨2,12,false,fun _=>rfl,rfl,hr 2 12 rfl rfl,Runs.val _ (op_neq3 (show ρ (.tmp 16)=.int .i64 j.id from hr 6 16 rfl rfl) (show ρ (.tmp 18)=.int .i64 c.job from hr 8 18 rfl rfl) (by rw [decide_eq_false HQ1.out];rfl)) ⟨hg,Below.refl _ _,rfl⟩⟩)
  ·exact rv (op_pick (show ρ (.tmp 12)=.bool false from hr 2 12 rfl rfl) (show(if (false:Bool) then ρ (.const (.bool true)) else ρ (.tmp 19))=.bool true from(show ρ (.tmp 19)=.bool true from hr 9 19 rfl rfl))) ⟨hg,Below.refl _ _,rfl⟩
  ·exact rv (op_move (show ρ (.tmp 20)=.bool true from hr 10 20 rfl rfl)) ⟨hg,Below.refl _ _,rfl⟩
  ·exact .inr (.inr ⟨11,21,false,fun _=>rfl,rfl,(fun q=>by rw [show ρ (.tmp 21)=.bool true from hr 11 21 rfl rfl]at q;cases q),hg,Below.refl _ _,rfl⟩)
  ·exact .inr (.inr ⟨11,21,false,fun _=>rfl,rfl,(fun q=>by rw [show ρ (.tmp 21)=.bool true from hr 11 21 rfl rfl]at q;cases q),hg,Below.refl _ _,rfl⟩)
  ·exact .inr (.inr ⟨11,21,false,fun _=>rfl,rfl,(fun q=>by rw [show ρ (.tmp 21)=.bool true from hr 11 21 rfl rfl]at q;cases q),hg,Below.refl _ _,rfl⟩)
  ·exact .inr (.inr ⟨11,21,false,fun _=>rfl,rfl,(fun q=>by rw [show ρ (.tmp 21)=.bool true from hr 11 21 rfl rfl]at q;cases q),hg,Below.refl _ _,rfl⟩)
  ·exact .inr (.inr ⟨11,21,false,fun _=>rfl,rfl,(fun q=>by rw [show ρ (.tmp 21)=.bool true from hr 11 21 rfl rfl]at q;cases q),hg,Below.refl _ _,rfl⟩)
  ·exact .inr (.inr ⟨11,21,false,fun _=>rfl,rfl,(fun q=>by rw [show ρ (.tmp 21)=.bool true from hr 11 21 rfl rfl]at q;cases q),hg,Below.refl _ _,rfl⟩)
  ·exact .inr (.inr ⟨11,21,false,fun _=>rfl,rfl,(fun q=>by rw [show ρ (.tmp 21)=.bool true from hr 11 21 rfl rfl]at q;cases q),hg,Below.refl _ _,rfl⟩)
  ·exact rv (op_pick (show ρ (.tmp 21)=.bool true from hr 11 21 rfl rfl) (show(if (true:Bool) then ρ (.const (.bool true)) else ρ (.tmp 28))=.bool true from hc _)) ⟨hg,Below.refl _ _,rfl⟩
  ·exact rv (op_move (show ρ (.tmp 29)=.bool true from hr 19 29 rfl rfl)) ⟨hg,Below.refl _ _,rfl⟩
  ·exact .inr (.inr ⟨20,30,false,fun _=>rfl,rfl,(fun q=>by rw [show ρ (.tmp 30)=.bool true from hr 20 30 rfl rfl]at q;cases q),hg,Below.refl _ _,rfl⟩)
  ·exact .inr (.inr ⟨20,30,false,fun _=>rfl,rfl,(fun q=>by rw [show ρ (.tmp 30)=.bool true from hr 20 30 rfl rfl]at q;cases q),hg,Below.refl _ _,rfl⟩)
  ·exact .inr (.inr ⟨20,30,false,fun _=>rfl,rfl,(fun q=>by rw [show ρ (.tmp 30)=.bool true from hr 20 30 rfl rfl]at q;cases q),hg,Below.refl _ _,rfl⟩)
  ·exact .inr (.inr ⟨20,30,false,fun _=>rfl,rfl,(fun q=>by rw [show ρ (.tmp 30)=.bool true from hr 20 30 rfl rfl]at q;cases q),hg,Below.refl _ _,rfl⟩)
  ·exact .inr (.inr ⟨20,30,false,fun _=>rfl,rfl,(fun q=>by rw [show ρ (.tmp 30)=.bool true from hr 20 30 rfl rfl]at q;cases q),hg,Below.refl _ _,rfl⟩)
  ·exact .inr (.inr ⟨20,30,false,fun _=>rfl,rfl,(fun q=>by rw [show ρ (.tmp 30)=.bool true from hr 20 30 rfl rfl]at q;cases q),hg,Below.refl _ _,rfl⟩)
  ·exact rv (op_pick (show ρ (.tmp 30)=.bool true from hr 20 30 rfl rfl) (show(if (true:Bool) then ρ (.const (.bool true)) else ρ (.tmp 36))=.bool true from hc _)) ⟨hg,Below.refl _ _,rfl⟩
 case en =>
  intro a9 w6 fl hfl b6 hs9 hd9 ho9 hr9;obtain⟨x9,hx,hxt⟩:=act_put hs9 hd9 ho9;have xk37:x9 37=.bool true:=(hxt 37).symm.trans (hr9 27 37 rfl);change a9=putAll _ x9 [10,11,12,13,14,15,16,17,18,19,20,21,22,23,24,25,26,27,28,29,30,31,32,33,34,35,36,37]at hx;simp only [putAll,Act.put,List.setIfInBounds_toArray,List.set_cons_zero,List.set_cons_succ,xk37]at hx;subst hx;clear hs9 hd9 ho9 hr9 hfl xk37;generalize x9 10=z10,x9 11=z11,x9 12=z12,x9 13=z13,x9 14=z14,x9 15=z15,x9 16=z16,x9 17=z17,x9 18=z18,x9 19=z19,x9 20=z20,x9 21=z21,x9 22=z22,x9 23=z23,x9 24=z24,x9 25=z25,x9 26=z26,x9 27=z27,x9 28=z28,x9 29=z29,x9 30=z30,x9 31=z31,x9 32=z32,x9 33=z33,x9 34=z34,x9 35=z35,x9 36=z36;have HB6:=lh (bgo HB.out (bgo HB1.out b6));clear b6;go_wp2;go_ret;exact⟨rfl,HB6.out⟩
theorem turn_ph{B:Nat}{c:Cm}{r:Rest}{cv kv:Value}{jb o:Nat}{j:Jb}{jv:Value}(hh:HandIs w B (.pointer (some ⟨jb,o,none⟩)))(h:JobAt w jb o j jv)(q1:j.id=c.job)(q2:¬ j.phase=c.phase):Calls Tryz.prog 65 #[.pointer (some ⟨B,0,none⟩),.agg (cmA c r cv),kv] w fun e w'=>e=.returned (.pointer none)/\Below w.heap.size w w':=by
 obtain⟨W,hW⟩:∃ W,W=w.alloc (.cells (cmA c r cv) 48):=⟨_,rfl⟩
 have hb:=bw1 hW;obtain⟨Y,hY⟩:∃ Y,w.heap.size=Y:=⟨_,rfl⟩
 have jY:W.heap[Y]?=some (.cells (cmA c r cv) 48 (0,0)):=by rw [hW,<-hY];exact heap_alloc_new w _
 have hc:=hh W hb;have k26:W.cell? ⟨Y,26,none⟩=some (.int .i64 c.job):=cell_blk jY 26;have k27:W.cell? ⟨Y,27,none⟩=some (.int .i64 c.phase):=cell_blk jY 27;have HK:=lh (And.intro k26 k27);have HW:=lh hW;have HY:=lh hY;have HB:=lh hb;have hj:JobAt W jb o j jv:=range_on hb h;have HJ:=lh hj;clear hj h;have HQ1:=lh q1;clear q1;have HQ2:=lh q2;clear q2;clear hW hb jY hY k26 k27 hh;obtain⟨cs,hcs⟩:∃ cs,cmA c r cv=cs:=⟨_,rfl⟩
 rw [hcs]at HW ⊢;clear hcs;go_enter Tryz.func65,Tryz.ntmps65;go_upto_region 1 with fail
 rw [<-HW.out,HY.out];go_upto_region 2 with (go_at_call 53;refine hc.mono ?_;rintro e w1 ⟨rfl,b1⟩;have HB1:=lh b1;clear b1 hc)
 refine wp_region_fb (fun _ X9=>Below w1.heap.size w1 X9) (fun X9 X8=>Below X9.heap.size X9 X8) [
  fun v9 _=>v9=.pointer (some ⟨jb,o,none⟩),fun v9 _=>v9=.bool false,fun v9 _=>v9=.bool false,fun v9 _=>v9=.pointer (some ⟨jb,o,none⟩),fun v9 _=>v9=.pointer (some ⟨jb,o,none⟩),fun v9 _=>v9=.pointer (some ⟨jb,o,none⟩),fun v9 _=>v9=.int .i64 j.id,fun v9 _=>v9=.pointer (some ⟨Y,26,none⟩),fun v9 _=>v9=.int .i64 c.job,fun v9 _=>v9=.bool false,fun v9 _=>v9=.bool false,fun v9 _=>v9=.bool false,fun v9 _=>v9=.pointer (some ⟨jb,o,none⟩),fun v9 _=>v9=.pointer (some ⟨jb,o,none⟩),fun v9 _=>v9=.pointer (some ⟨jb,o+16,none⟩),fun v9 _=>v9=.int .i64 j.phase,fun v9 _=>v9=.pointer (some ⟨Y,27,none⟩),fun v9 _=>v9=.int .i64 c.phase,fun v9 _=>v9=.bool true,fun v9 _=>v9=.bool true,fun v9 _=>v9=.bool true,fun v9 _=>v9=undef,fun v9 _=>v9=undef,fun v9 _=>v9=undef,fun v9 _=>v9=undef,fun v9 _=>v9=undef,fun v9 _=>v9=undef,fun v9 _=>v9=.bool true]
  (by kernel_rfl) (by kernel_rfl) (by kernel_rfl) ?st ?g0 ?os ?en
 case st=>
  iterate 28 refine⟨fun _ _ _ _ h=>h,?_⟩
  exact trivial
 case g0=>exact⟨rfl,rfl,rfl,Nat.le_refl _,fun _ _=>rfl⟩
 case os =>
  refine⟨?_,?_,?_,?_,?_,?_,?_,?_,?_,?_,?_,?_,?_,?_,?_,?_,?_,?_,?_,?_,?_,?_,?_,?_,?_,?_,?_,?_,trivial⟩
  all_goals intro ρ X9 fl hg hn hl hp ho hc hf hr
  ·exact rv (op_move (show ρ (.tmp 7)=.pointer (some ⟨jb,o,none⟩)from ho 7 rfl)) ⟨hg,Below.refl _ _,rfl⟩
  ·exact rv (op_isnil108 (a:=some ⟨jb,o,none⟩) (show ρ (.tmp 10)=.pointer (some ⟨jb,o,none⟩)from hr 0 10 rfl rfl) (hc _)) ⟨hg,Below.refl _ _,rfl⟩
  ·exact rv (op_move (show ρ (.tmp 11)=.bool false from hr 1 11 rfl rfl)) ⟨hg,Below.refl _ _,rfl⟩
  ·exact .inr (.inl ⟨2,12,false,fun _=>rfl,rfl,hr 2 12 rfl rfl,Runs.val _ (op_move (show ρ (.tmp 7)=.pointer (some ⟨jb,o,none⟩)from ho 7 rfl)) ⟨hg,Below.refl _ _,rfl⟩⟩)
  ·exact .inr (.inl ⟨2,12,false,fun _=>rfl,rfl,hr 2 12 rfl rfl,Runs.val _ (op_nil (show ρ (.tmp 13)=.pointer (some ⟨jb,o,none⟩)from hr 3 13 rfl rfl)) ⟨hg,Below.refl _ _,rfl⟩⟩)
  ·exact .inr (.inl ⟨2,12,false,fun _=>rfl,rfl,hr 2 12 rfl rfl,Runs.val _ (op_f66_0 (show ρ (.tmp 14)=.pointer (some ⟨jb,o,none⟩)from hr 4 14 rfl rfl)) ⟨hg,Below.refl _ _,rfl⟩⟩)
  ·exact .inr (.inl ⟨2,12,false,fun _=>rfl,rfl,hr 2 12 rfl rfl,Runs.val _ (op_load3 (show ρ (.tmp 15)=.pointer (some ⟨jb,o,none⟩)from hr 5 15 rfl rfl) (cell_on (bgo HB1.out hg) (HJ.out 0 _ rfl))) ⟨hg,Below.refl _ _,rfl⟩⟩)
  ·exact .inr (.inl ⟨2,12,false,fun _=>rfl,rfl,hr 2 12 rfl rfl,Runs.val _ (op_f48_12 (show ρ (.tmp 4)=.pointer (some ⟨Y,0,none⟩)from ho 4 rfl)) ⟨hg,Below.refl _ _,rfl⟩⟩)
  ·exact .inr (.inl ⟨2,12,false,fun _=>rfl,rfl,hr 2 12 rfl rfl,Runs.val _ (op_load3 (show ρ (.tmp 17)=.pointer (some ⟨Y,26,none⟩)from hr 7 17 rfl rfl) (cell_on (bgo HB1.out hg) HK.out.1)) ⟨hg,Below.refl _ _,rfl⟩⟩)
  ·exact .inr (.inl ⟨2,12,false,fun _=>rfl,rfl,hr 2 12 rfl rfl,Runs.val _ (op_neq3 (show ρ (.tmp 16)=.int .i64 j.id from hr 6 16 rfl rfl) (show ρ (.tmp 18)=.int .i64 c.job from hr 8 18 rfl rfl) (by rw [decide_eq_true HQ1.out];rfl)) ⟨hg,Below.refl _ _,rfl⟩⟩)
  ·exact rv (op_pick (show ρ (.tmp 12)=.bool false from hr 2 12 rfl rfl) (show(if (false:Bool) then ρ (.const (.bool true)) else ρ (.tmp 19))=.bool false from(show ρ (.tmp 19)=.bool false from hr 9 19 rfl rfl))) ⟨hg,Below.refl _ _,rfl⟩
  ·exact rv (op_move (show ρ (.tmp 20)=.bool false from hr 10 20 rfl rfl)) ⟨hg,Below.refl _ _,rfl⟩
  ·exact .inr (.inl ⟨11,21,false,fun _=>rfl,rfl,hr 11 21 rfl rfl,Runs.val _ (op_move (show ρ (.tmp 7)=.pointer (some ⟨jb,o,none⟩)from ho 7 rfl)) ⟨hg,Below.refl _ _,rfl⟩⟩)
  ·exact .inr (.inl ⟨11,21,false,fun _=>rfl,rfl,hr 11 21 rfl rfl,Runs.val _ (op_nil (show ρ (.tmp 22)=.pointer (some ⟨jb,o,none⟩)from hr 12 22 rfl rfl)) ⟨hg,Below.refl _ _,rfl⟩⟩)
  ·exact .inr (.inl ⟨11,21,false,fun _=>rfl,rfl,hr 11 21 rfl rfl,Runs.val _ (op_f66_4 (show ρ (.tmp 23)=.pointer (some ⟨jb,o,none⟩)from hr 13 23 rfl rfl)) ⟨hg,Below.refl _ _,rfl⟩⟩)
  ·exact .inr (.inl ⟨11,21,false,fun _=>rfl,rfl,hr 11 21 rfl rfl,Runs.val _ (op_load3 (show ρ (.tmp 24)=.pointer (some ⟨jb,o+16,none⟩)from hr 14 24 rfl rfl) (cell_on (bgo HB1.out hg) (HJ.out 16 _ rfl))) ⟨hg,Below.refl _ _,rfl⟩⟩)
  ·exact .inr (.inl ⟨11,21,false,fun _=>rfl,rfl,hr 11 21 rfl rfl,Runs.val _ (op_f48_13 (show ρ (.tmp 4)=.pointer (some ⟨Y,0,none⟩)from ho 4 rfl)) ⟨hg,Below.refl _ _,rfl⟩⟩)
  ·exact .inr (.inl ⟨11,21,false,fun _=>rfl,rfl,hr 11 21 rfl rfl,Runs.val _ (op_load3 (show ρ (.tmp 26)=.pointer (some ⟨Y,27,none⟩)from hr 16 26 rfl rfl) (cell_on (bgo HB1.out hg) HK.out.2)) ⟨hg,Below.refl _ _,rfl⟩⟩)
  ·exact .inr (.inl ⟨11,21,false,fun _=>rfl,rfl,hr 11 21 rfl rfl,Runs.val _ (op_neq3 (show ρ (.tmp 25)=.int .i64 j.phase from hr 15 25 rfl rfl) (show ρ (.tmp 27)=.int .i64 c.phase from hr 17 27 rfl rfl) (by rw [decide_eq_false HQ2.out];rfl)) ⟨hg,Below.refl _ _,rfl⟩⟩)
  ·exact rv (op_pick (show ρ (.tmp 21)=.bool false from hr 11 21 rfl rfl) (show(if (false:Bool) then ρ (.const (.bool true)) else ρ (.tmp 28))=.bool true from(show ρ (.tmp 28)=.bool true from hr 18 28 rfl rfl))) ⟨hg,Below.refl _ _,rfl⟩
  ·exact rv (op_move (show ρ (.tmp 29)=.bool true from hr 19 29 rfl rfl)) ⟨hg,Below.refl _ _,rfl⟩
  ·exact .inr (.inr ⟨20,30,false,fun _=>rfl,rfl,(fun q=>by rw [show ρ (.tmp 30)=.bool true from hr 20 30 rfl rfl]at q;cases q),hg,Below.refl _ _,rfl⟩)
  ·exact .inr (.inr ⟨20,30,false,fun _=>rfl,rfl,(fun q=>by rw [show ρ (.tmp 30)=.bool true from hr 20 30 rfl rfl]at q;cases q),hg,Below.refl _ _,rfl⟩)
  ·exact .inr (.inr ⟨20,30,false,fun _=>rfl,rfl,(fun q=>by rw [show ρ (.tmp 30)=.bool true from hr 20 30 rfl rfl]at q;cases q),hg,Below.refl _ _,rfl⟩)
  ·exact .inr (.inr ⟨20,30,false,fun _=>rfl,rfl,(fun q=>by rw [show ρ (.tmp 30)=.bool true from hr 20 30 rfl rfl]at q;cases q),hg,Below.refl _ _,rfl⟩)
  ·exact .inr (.inr ⟨20,30,false,fun _=>rfl,rfl,(fun q=>by rw [show ρ (.tmp 30)=.bool true from hr 20 30 rfl rfl]at q;cases q),hg,Below.refl _ _,rfl⟩)
  ·exact .inr (.inr ⟨20,30,false,fun _=>rfl,rfl,(fun q=>by rw [show ρ (.tmp 30)=.bool true from hr 20 30 rfl rfl]at q;cases q),hg,Below.refl _ _,rfl⟩)
  ·exact rv (op_pick (show ρ (.tmp 30)=.bool true from hr 20 30 rfl rfl) (show(if (true:Bool) then ρ (.const (.bool true)) else ρ (.tmp 36))=.bool true from hc _)) ⟨hg,Below.refl _ _,rfl⟩
 case en =>
  intro a9 w6 fl hfl b6 hs9 hd9 ho9 hr9;obtain⟨x9,hx,hxt⟩:=act_put hs9 hd9 ho9;have xk37:x9 37=.bool true:=(hxt 37).symm.trans (hr9 27 37 rfl);change a9=putAll _ x9 [10,11,12,13,14,15,16,17,18,19,20,21,22,23,24,25,26,27,28,29,30,31,32,33,34,35,36,37]at hx;simp only [putAll,Act.put,List.setIfInBounds_toArray,List.set_cons_zero,List.set_cons_succ,xk37]at hx;subst hx;clear hs9 hd9 ho9 hr9 hfl xk37;generalize x9 10=z10,x9 11=z11,x9 12=z12,x9 13=z13,x9 14=z14,x9 15=z15,x9 16=z16,x9 17=z17,x9 18=z18,x9 19=z19,x9 20=z20,x9 21=z21,x9 22=z22,x9 23=z23,x9 24=z24,x9 25=z25,x9 26=z26,x9 27=z27,x9 28=z28,x9 29=z29,x9 30=z30,x9 31=z31,x9 32=z32,x9 33=z33,x9 34=z34,x9 35=z35,x9 36=z36;have HB6:=lh (bgo HB.out (bgo HB1.out b6));clear b6;go_wp2;go_ret;exact⟨rfl,HB6.out⟩
theorem turn_kind{B:Nat}{c:Cm}{r:Rest}{cv kv:Value}{jb o:Nat}{j:Jb}{jv:Value}{p:Nat}{KS:List Int}(hh:HandIs w B (.pointer (some ⟨jb,o,none⟩)))(h:JobAt w jb o j jv)(q1:j.id=c.job)(q2:j.phase=c.phase)(hp:j.phase=(p:Int))(hlt:p<j.path.length)(hks:Lr inE 1 w KS kv)(q3:decide (j.move.1 ∈ KS)=false):Calls Tryz.prog 65 #[.pointer (some ⟨B,0,none⟩),.agg (cmA c r cv),kv] w fun e w'=>e=.returned (.pointer none)/\Below w.heap.size w w':=by
 obtain⟨W,hW⟩:∃ W,W=w.alloc (.cells (cmA c r cv) 48):=⟨_,rfl⟩
 have hb:=bw1 hW;obtain⟨Y,hY⟩:∃ Y,w.heap.size=Y:=⟨_,rfl⟩
 have jY:W.heap[Y]?=some (.cells (cmA c r cv) 48 (0,0)):=by rw [hW,<-hY];exact heap_alloc_new w _
 have hc:=hh W hb;have k26:W.cell? ⟨Y,26,none⟩=some (.int .i64 c.job):=cell_blk jY 26;have k27:W.cell? ⟨Y,27,none⟩=some (.int .i64 c.phase):=cell_blk jY 27;have HK:=lh (And.intro k26 k27);have HW:=lh hW;have HY:=lh hY;have HB:=lh hb;have hj:JobAt W jb o j jv:=range_on hb h;have HJ:=lh hj;clear hj h;have HKS:=lh (hks.on inE_held hb);have HLT:=lh hlt;have HP:=lh hp;have HQ3:=lh q3;clear hks hp q3;have HQ1:=lh q1;clear q1;have HQ2:=lh q2;clear q2;clear hW hb jY hY k26 k27 hh;obtain⟨cs,hcs⟩:∃ cs,cmA c r cv=cs:=⟨_,rfl⟩
 rw [hcs]at HW ⊢;clear hcs;go_enter Tryz.func65,Tryz.ntmps65;go_upto_region 1 with fail
 rw [<-HW.out,HY.out];go_upto_region 2 with (go_at_call 53;refine hc.mono ?_;rintro e w1 ⟨rfl,b1⟩;have HB1:=lh b1;clear b1 hc)
 refine wp_region_fb (fun _ X9=>Below w1.heap.size w1 X9) (fun X9 X8=>Below X9.heap.size X9 X8) [
  fun v9 _=>v9=.pointer (some ⟨jb,o,none⟩),fun v9 _=>v9=.bool false,fun v9 _=>v9=.bool false,fun v9 _=>v9=.pointer (some ⟨jb,o,none⟩),fun v9 _=>v9=.pointer (some ⟨jb,o,none⟩),fun v9 _=>v9=.pointer (some ⟨jb,o,none⟩),fun v9 _=>v9=.int .i64 j.id,fun v9 _=>v9=.pointer (some ⟨Y,26,none⟩),fun v9 _=>v9=.int .i64 c.job,fun v9 _=>v9=.bool false,fun v9 _=>v9=.bool false,fun v9 _=>v9=.bool false,fun v9 _=>v9=.pointer (some ⟨jb,o,none⟩),fun v9 _=>v9=.pointer (some ⟨jb,o,none⟩),fun v9 _=>v9=.pointer (some ⟨jb,o+16,none⟩),fun v9 _=>v9=.int .i64 j.phase,fun v9 _=>v9=.pointer (some ⟨Y,27,none⟩),fun v9 _=>v9=.int .i64 c.phase,fun v9 _=>v9=.bool false,fun v9 _=>v9=.bool false,fun v9 _=>v9=.bool false,fun v9 _=>v9=kv,fun v9 _=>v9=.pointer (some ⟨jb,o,none⟩),fun v9 _=>v9=.agg #[.int .i64 j.move.1,.int .i64 j.move.2],fun v9 _=>v9=.int .i64 j.move.1,fun v9 _=>v9=.bool false,fun v9 _=>v9=.bool true,fun v9 _=>v9=.bool true]
  (by kernel_rfl) (by kernel_rfl) (by kernel_rfl) ?st ?g0 ?os ?en
 case st=>
  iterate 28 refine⟨fun _ _ _ _ h=>h,?_⟩
  exact trivial
 case g0=>exact⟨rfl,rfl,rfl,Nat.le_refl _,fun _ _=>rfl⟩
 case os =>
  refine⟨?_,?_,?_,?_,?_,?_,?_,?_,?_,?_,?_,?_,?_,?_,?_,?_,?_,?_,?_,?_,?_,?_,?_,?_,?_,?_,?_,?_,trivial⟩
  all_goals intro ρ X9 fl hg hn hl hp ho hc hf hr
  ·exact rv (op_move (show ρ (.tmp 7)=.pointer (some ⟨jb,o,none⟩)from ho 7 rfl)) ⟨hg,Below.refl _ _,rfl⟩
  ·exact rv (op_isnil108 (a:=some ⟨jb,o,none⟩) (show ρ (.tmp 10)=.pointer (some ⟨jb,o,none⟩)from hr 0 10 rfl rfl) (hc _)) ⟨hg,Below.refl _ _,rfl⟩
  ·exact rv (op_move (show ρ (.tmp 11)=.bool false from hr 1 11 rfl rfl)) ⟨hg,Below.refl _ _,rfl⟩
  ·exact .inr (.inl ⟨2,12,false,fun _=>rfl,rfl,hr 2 12 rfl rfl,Runs.val _ (op_move (show ρ (.tmp 7)=.pointer (some ⟨jb,o,none⟩)from ho 7 rfl)) ⟨hg,Below.refl _ _,rfl⟩⟩)
  ·exact .inr (.inl ⟨2,12,false,fun _=>rfl,rfl,hr 2 12 rfl rfl,Runs.val _ (op_nil (show ρ (.tmp 13)=.pointer (some ⟨jb,o,none⟩)from hr 3 13 rfl rfl)) ⟨hg,Below.refl _ _,rfl⟩⟩)
  ·exact .inr (.inl ⟨2,12,false,fun _=>rfl,rfl,hr 2 12 rfl rfl,Runs.val _ (op_f66_0 (show ρ (.tmp 14)=.pointer (some ⟨jb,o,none⟩)from hr 4 14 rfl rfl)) ⟨hg,Below.refl _ _,rfl⟩⟩)
  ·exact .inr (.inl ⟨2,12,false,fun _=>rfl,rfl,hr 2 12 rfl rfl,Runs.val _ (op_load3 (show ρ (.tmp 15)=.pointer (some ⟨jb,o,none⟩)from hr 5 15 rfl rfl) (cell_on (bgo HB1.out hg) (HJ.out 0 _ rfl))) ⟨hg,Below.refl _ _,rfl⟩⟩)
  ·exact .inr (.inl ⟨2,12,false,fun _=>rfl,rfl,hr 2 12 rfl rfl,Runs.val _ (op_f48_12 (show ρ (.tmp 4)=.pointer (some ⟨Y,0,none⟩)from ho 4 rfl)) ⟨hg,Below.refl _ _,rfl⟩⟩)
  ·exact .inr (.inl ⟨2,12,false,fun _=>rfl,rfl,hr 2 12 rfl rfl,Runs.val _ (op_load3 (show ρ (.tmp 17)=.pointer (some ⟨Y,26,none⟩)from hr 7 17 rfl rfl) (cell_on (bgo HB1.out hg) HK.out.1)) ⟨hg,Below.refl _ _,rfl⟩⟩)
  ·exact .inr (.inl ⟨2,12,false,fun _=>rfl,rfl,hr 2 12 rfl rfl,Runs.val _ (op_neq3 (show ρ (.tmp 16)=.int .i64 j.id from hr 6 16 rfl rfl) (show ρ (.tmp 18)=.int .i64 c.job from hr 8 18 rfl rfl) (by rw [decide_eq_true HQ1.out];rfl)) ⟨hg,Below.refl _ _,rfl⟩⟩)
  ·exact rv (op_pick (show ρ (.tmp 12)=.bool false from hr 2 12 rfl rfl) (show(if (false:Bool) then ρ (.const (.bool true)) else ρ (.tmp 19))=.bool false from(show ρ (.tmp 19)=.bool false from hr 9 19 rfl rfl))) ⟨hg,Below.refl _ _,rfl⟩
  ·exact rv (op_move (show ρ (.tmp 20)=.bool false from hr 10 20 rfl rfl)) ⟨hg,Below.refl _ _,rfl⟩
  ·exact .inr (.inl ⟨11,21,false,fun _=>rfl,rfl,hr 11 21 rfl rfl,Runs.val _ (op_move (show ρ (.tmp 7)=.pointer (some ⟨jb,o,none⟩)from ho 7 rfl)) ⟨hg,Below.refl _ _,rfl⟩⟩)
  ·exact .inr (.inl ⟨11,21,false,fun _=>rfl,rfl,hr 11 21 rfl rfl,Runs.val _ (op_nil (show ρ (.tmp 22)=.pointer (some ⟨jb,o,none⟩)from hr 12 22 rfl rfl)) ⟨hg,Below.refl _ _,rfl⟩⟩)
  ·exact .inr (.inl ⟨11,21,false,fun _=>rfl,rfl,hr 11 21 rfl rfl,Runs.val _ (op_f66_4 (show ρ (.tmp 23)=.pointer (some ⟨jb,o,none⟩)from hr 13 23 rfl rfl)) ⟨hg,Below.refl _ _,rfl⟩⟩)
  ·exact .inr (.inl ⟨11,21,false,fun _=>rfl,rfl,hr 11 21 rfl rfl,Runs.val _ (op_load3 (show ρ (.tmp 24)=.pointer (some ⟨jb,o+16,none⟩)from hr 14 24 rfl rfl) (cell_on (bgo HB1.out hg) (HJ.out 16 _ rfl))) ⟨hg,Below.refl _ _,rfl⟩⟩)
  ·exact .inr (.inl ⟨11,21,false,fun _=>rfl,rfl,hr 11 21 rfl rfl,Runs.val _ (op_f48_13 (show ρ (.tmp 4)=.pointer (some ⟨Y,0,none⟩)from ho 4 rfl)) ⟨hg,Below.refl _ _,rfl⟩⟩)
  ·exact .inr (.inl ⟨11,21,false,fun _=>rfl,rfl,hr 11 21 rfl rfl,Runs.val _ (op_load3 (show ρ (.tmp 26)=.pointer (some ⟨Y,27,none⟩)from hr 16 26 rfl rfl) (cell_on (bgo HB1.out hg) HK.out.2)) ⟨hg,Below.refl _ _,rfl⟩⟩)
  ·exact .inr (.inl ⟨11,21,false,fun _=>rfl,rfl,hr 11 21 rfl rfl,Runs.val _ (op_neq3 (show ρ (.tmp 25)=.int .i64 j.phase from hr 15 25 rfl rfl) (show ρ (.tmp 27)=.int .i64 c.phase from hr 17 27 rfl rfl) (by rw [decide_eq_true HQ2.out];rfl)) ⟨hg,Below.refl _ _,rfl⟩⟩)
  ·exact rv (op_pick (show ρ (.tmp 21)=.bool false from hr 11 21 rfl rfl) (show(if (false:Bool) then ρ (.const (.bool true)) else ρ (.tmp 28))=.bool false from(show ρ (.tmp 28)=.bool false from hr 18 28 rfl rfl))) ⟨hg,Below.refl _ _,rfl⟩
  ·exact rv (op_move (show ρ (.tmp 29)=.bool false from hr 19 29 rfl rfl)) ⟨hg,Below.refl _ _,rfl⟩
  ·exact .inr (.inl ⟨20,30,false,fun _=>rfl,rfl,hr 20 30 rfl rfl,Runs.val _ (op_move (show ρ (.tmp 2)=kv from ho 2 rfl)) ⟨hg,Below.refl _ _,rfl⟩⟩)
  ·exact .inr (.inl ⟨20,30,false,fun _=>rfl,rfl,hr 20 30 rfl rfl,Runs.val _ (op_move (show ρ (.tmp 7)=.pointer (some ⟨jb,o,none⟩)from ho 7 rfl)) ⟨hg,Below.refl _ _,rfl⟩⟩)
  ·refine .inr (.inl ⟨20,30,false,fun _=>rfl,rfl,hr 20 30 rfl rfl,?_⟩);refine Runs.goes 54 #[.pointer (some ⟨jb,o,none⟩)] (op_call1 hf (by go_simp) (show ρ (.tmp 32)=.pointer (some ⟨jb,o,none⟩)from hr 22 32 rfl rfl)) ((move_job (range_on (bgo HB1.out hg) HJ.out) HP.out HLT.out).mono ?_);rintro e7 w7 ⟨rfl,b7⟩;exact⟨_,rfl,bgo hg b7,b7,rfl⟩
  ·exact .inr (.inl ⟨20,30,false,fun _=>rfl,rfl,hr 20 30 rfl rfl,Runs.val _ (op_field74_0 (show ρ (.tmp 33)=.agg #[.int .i64 j.move.1,.int .i64 j.move.2]from hr 23 33 rfl rfl)) ⟨hg,Below.refl _ _,rfl⟩⟩)
  ·refine .inr (.inl ⟨20,30,false,fun _=>rfl,rfl,hr 20 30 rfl rfl,?_⟩);refine Runs.goes 89 #[kv,.int .i64 j.move.1] (op_call2 hf (by go_simp) (show ρ (.tmp 31)=kv from hr 21 31 rfl rfl) (show ρ (.tmp 34)=.int .i64 j.move.1 from hr 24 34 rfl rfl)) ((contains_any (x:=j.move.1) (HKS.out.on inE_held (bgo HB1.out hg))).mono ?_);rintro e7 w7 ⟨rfl,b7⟩;rw [HQ3.out];exact⟨_,rfl,bgo hg b7,b7,rfl⟩
  ·exact .inr (.inl ⟨20,30,false,fun _=>rfl,rfl,hr 20 30 rfl rfl,Runs.val _ (op_not (show ρ (.tmp 35)=.bool false from hr 25 35 rfl rfl)) ⟨hg,Below.refl _ _,rfl⟩⟩)
  ·exact rv (op_pick (show ρ (.tmp 30)=.bool false from hr 20 30 rfl rfl) (show(if (false:Bool) then ρ (.const (.bool true)) else ρ (.tmp 36))=.bool true from(show ρ (.tmp 36)=.bool true from hr 26 36 rfl rfl))) ⟨hg,Below.refl _ _,rfl⟩
 case en =>
  intro a9 w6 fl hfl b6 hs9 hd9 ho9 hr9;obtain⟨x9,hx,hxt⟩:=act_put hs9 hd9 ho9;have xk37:x9 37=.bool true:=(hxt 37).symm.trans (hr9 27 37 rfl);change a9=putAll _ x9 [10,11,12,13,14,15,16,17,18,19,20,21,22,23,24,25,26,27,28,29,30,31,32,33,34,35,36,37]at hx;simp only [putAll,Act.put,List.setIfInBounds_toArray,List.set_cons_zero,List.set_cons_succ,xk37]at hx;subst hx;clear hs9 hd9 ho9 hr9 hfl xk37;generalize x9 10=z10,x9 11=z11,x9 12=z12,x9 13=z13,x9 14=z14,x9 15=z15,x9 16=z16,x9 17=z17,x9 18=z18,x9 19=z19,x9 20=z20,x9 21=z21,x9 22=z22,x9 23=z23,x9 24=z24,x9 25=z25,x9 26=z26,x9 27=z27,x9 28=z28,x9 29=z29,x9 30=z30,x9 31=z31,x9 32=z32,x9 33=z33,x9 34=z34,x9 35=z35,x9 36=z36;have HB6:=lh (bgo HB.out (bgo HB1.out b6));clear b6;go_wp2;go_ret;exact⟨rfl,HB6.out⟩
theorem turn_yes{B:Nat}{c:Cm}{r:Rest}{cv kv:Value}{jb o:Nat}{j:Jb}{jv:Value}{p:Nat}{KS:List Int}(hh:HandIs w B (.pointer (some ⟨jb,o,none⟩)))(h:JobAt w jb o j jv)(q1:j.id=c.job)(q2:j.phase=c.phase)(hp:j.phase=(p:Int))(hlt:p<j.path.length)(hks:Lr inE 1 w KS kv)(q3:decide (j.move.1 ∈ KS)=true):Calls Tryz.prog 65 #[.pointer (some ⟨B,0,none⟩),.agg (cmA c r cv),kv] w fun e w'=>e=.returned (.pointer (some ⟨jb,o,none⟩))/\Below w.heap.size w w':=by
 obtain⟨W,hW⟩:∃ W,W=w.alloc (.cells (cmA c r cv) 48):=⟨_,rfl⟩
 have hb:=bw1 hW;obtain⟨Y,hY⟩:∃ Y,w.heap.size=Y:=⟨_,rfl⟩
 have jY:W.heap[Y]?=some (.cells (cmA c r cv) 48 (0,0)):=by rw [hW,<-hY];exact heap_alloc_new w _
 have hc:=hh W hb;have k26:W.cell? ⟨Y,26,none⟩=some (.int .i64 c.job):=cell_blk jY 26;have k27:W.cell? ⟨Y,27,none⟩=some (.int .i64 c.phase):=cell_blk jY 27;have HK:=lh (And.intro k26 k27);have HW:=lh hW;have HY:=lh hY;have HB:=lh hb;have hj:JobAt W jb o j jv:=range_on hb h;have HJ:=lh hj;clear hj h;have HKS:=lh (hks.on inE_held hb);have HLT:=lh hlt;have HP:=lh hp;have HQ3:=lh q3;clear hks hp q3;have HQ1:=lh q1;clear q1;have HQ2:=lh q2;clear q2;clear hW hb jY hY k26 k27 hh;obtain⟨cs,hcs⟩:∃ cs,cmA c r cv=cs:=⟨_,rfl⟩
 rw [hcs]at HW ⊢;clear hcs;go_enter Tryz.func65,Tryz.ntmps65;go_upto_region 1 with fail
 rw [<-HW.out,HY.out];go_upto_region 2 with (go_at_call 53;refine hc.mono ?_;rintro e w1 ⟨rfl,b1⟩;have HB1:=lh b1;clear b1 hc)
 refine wp_region_fb (fun _ X9=>Below w1.heap.size w1 X9) (fun X9 X8=>Below X9.heap.size X9 X8) [
  fun v9 _=>v9=.pointer (some ⟨jb,o,none⟩),fun v9 _=>v9=.bool false,fun v9 _=>v9=.bool false,fun v9 _=>v9=.pointer (some ⟨jb,o,none⟩),fun v9 _=>v9=.pointer (some ⟨jb,o,none⟩),fun v9 _=>v9=.pointer (some ⟨jb,o,none⟩),fun v9 _=>v9=.int .i64 j.id,fun v9 _=>v9=.pointer (some ⟨Y,26,none⟩),fun v9 _=>v9=.int .i64 c.job,fun v9 _=>v9=.bool false,fun v9 _=>v9=.bool false,fun v9 _=>v9=.bool false,fun v9 _=>v9=.pointer (some ⟨jb,o,none⟩),fun v9 _=>v9=.pointer (some ⟨jb,o,none⟩),fun v9 _=>v9=.pointer (some ⟨jb,o+16,none⟩),fun v9 _=>v9=.int .i64 j.phase,fun v9 _=>v9=.pointer (some ⟨Y,27,none⟩),fun v9 _=>v9=.int .i64 c.phase,fun v9 _=>v9=.bool false,fun v9 _=>v9=.bool false,fun v9 _=>v9=.bool false,fun v9 _=>v9=kv,fun v9 _=>v9=.pointer (some ⟨jb,o,none⟩),fun v9 _=>v9=.agg #[.int .i64 j.move.1,.int .i64 j.move.2],fun v9 _=>v9=.int .i64 j.move.1,fun v9 _=>v9=.bool true,fun v9 _=>v9=.bool false,fun v9 _=>v9=.bool false]
  (by kernel_rfl) (by kernel_rfl) (by kernel_rfl) ?st ?g0 ?os ?en
 case st=>
  iterate 28 refine⟨fun _ _ _ _ h=>h,?_⟩
  exact trivial
 case g0=>exact⟨rfl,rfl,rfl,Nat.le_refl _,fun _ _=>rfl⟩
 case os =>
  refine⟨?_,?_,?_,?_,?_,?_,?_,?_,?_,?_,?_,?_,?_,?_,?_,?_,?_,?_,?_,?_,?_,?_,?_,?_,?_,?_,?_,?_,trivial⟩
  all_goals intro ρ X9 fl hg hn hl hp ho hc hf hr
  ·exact rv (op_move (show ρ (.tmp 7)=.pointer (some ⟨jb,o,none⟩)from ho 7 rfl)) ⟨hg,Below.refl _ _,rfl⟩
  ·exact rv (op_isnil108 (a:=some ⟨jb,o,none⟩) (show ρ (.tmp 10)=.pointer (some ⟨jb,o,none⟩)from hr 0 10 rfl rfl) (hc _)) ⟨hg,Below.refl _ _,rfl⟩
  ·exact rv (op_move (show ρ (.tmp 11)=.bool false from hr 1 11 rfl rfl)) ⟨hg,Below.refl _ _,rfl⟩
  ·exact .inr (.inl ⟨2,12,false,fun _=>rfl,rfl,hr 2 12 rfl rfl,Runs.val _ (op_move (show ρ (.tmp 7)=.pointer (some ⟨jb,o,none⟩)from ho 7 rfl)) ⟨hg,Below.refl _ _,rfl⟩⟩)
  ·exact .inr (.inl ⟨2,12,false,fun _=>rfl,rfl,hr 2 12 rfl rfl,Runs.val _ (op_nil (show ρ (.tmp 13)=.pointer (some ⟨jb,o,none⟩)from hr 3 13 rfl rfl)) ⟨hg,Below.refl _ _,rfl⟩⟩)
  ·exact .inr (.inl ⟨2,12,false,fun _=>rfl,rfl,hr 2 12 rfl rfl,Runs.val _ (op_f66_0 (show ρ (.tmp 14)=.pointer (some ⟨jb,o,none⟩)from hr 4 14 rfl rfl)) ⟨hg,Below.refl _ _,rfl⟩⟩)
  ·exact .inr (.inl ⟨2,12,false,fun _=>rfl,rfl,hr 2 12 rfl rfl,Runs.val _ (op_load3 (show ρ (.tmp 15)=.pointer (some ⟨jb,o,none⟩)from hr 5 15 rfl rfl) (cell_on (bgo HB1.out hg) (HJ.out 0 _ rfl))) ⟨hg,Below.refl _ _,rfl⟩⟩)
  ·exact .inr (.inl ⟨2,12,false,fun _=>rfl,rfl,hr 2 12 rfl rfl,Runs.val _ (op_f48_12 (show ρ (.tmp 4)=.pointer (some ⟨Y,0,none⟩)from ho 4 rfl)) ⟨hg,Below.refl _ _,rfl⟩⟩)
  ·exact .inr (.inl ⟨2,12,false,fun _=>rfl,rfl,hr 2 12 rfl rfl,Runs.val _ (op_load3 (show ρ (.tmp 17)=.pointer (some ⟨Y,26,none⟩)from hr 7 17 rfl rfl) (cell_on (bgo HB1.out hg) HK.out.1)) ⟨hg,Below.refl _ _,rfl⟩⟩)
  ·exact .inr (.inl ⟨2,12,false,fun _=>rfl,rfl,hr 2 12 rfl rfl,Runs.val _ (op_neq3 (show ρ (.tmp 16)=.int .i64 j.id from hr 6 16 rfl rfl) (show ρ (.tmp 18)=.int .i64 c.job from hr 8 18 rfl rfl) (by rw [decide_eq_true HQ1.out];rfl)) ⟨hg,Below.refl _ _,rfl⟩⟩)
  ·exact rv (op_pick (show ρ (.tmp 12)=.bool false from hr 2 12 rfl rfl) (show(if (false:Bool) then ρ (.const (.bool true)) else ρ (.tmp 19))=.bool false from(show ρ (.tmp 19)=.bool false from hr 9 19 rfl rfl))) ⟨hg,Below.refl _ _,rfl⟩
  ·exact rv (op_move (show ρ (.tmp 20)=.bool false from hr 10 20 rfl rfl)) ⟨hg,Below.refl _ _,rfl⟩
  ·exact .inr (.inl ⟨11,21,false,fun _=>rfl,rfl,hr 11 21 rfl rfl,Runs.val _ (op_move (show ρ (.tmp 7)=.pointer (some ⟨jb,o,none⟩)from ho 7 rfl)) ⟨hg,Below.refl _ _,rfl⟩⟩)
  ·exact .inr (.inl ⟨11,21,false,fun _=>rfl,rfl,hr 11 21 rfl rfl,Runs.val _ (op_nil (show ρ (.tmp 22)=.pointer (some ⟨jb,o,none⟩)from hr 12 22 rfl rfl)) ⟨hg,Below.refl _ _,rfl⟩⟩)
  ·exact .inr (.inl ⟨11,21,false,fun _=>rfl,rfl,hr 11 21 rfl rfl,Runs.val _ (op_f66_4 (show ρ (.tmp 23)=.pointer (some ⟨jb,o,none⟩)from hr 13 23 rfl rfl)) ⟨hg,Below.refl _ _,rfl⟩⟩)
  ·exact .inr (.inl ⟨11,21,false,fun _=>rfl,rfl,hr 11 21 rfl rfl,Runs.val _ (op_load3 (show ρ (.tmp 24)=.pointer (some ⟨jb,o+16,none⟩)from hr 14 24 rfl rfl) (cell_on (bgo HB1.out hg) (HJ.out 16 _ rfl))) ⟨hg,Below.refl _ _,rfl⟩⟩)
  ·exact .inr (.inl ⟨11,21,false,fun _=>rfl,rfl,hr 11 21 rfl rfl,Runs.val _ (op_f48_13 (show ρ (.tmp 4)=.pointer (some ⟨Y,0,none⟩)from ho 4 rfl)) ⟨hg,Below.refl _ _,rfl⟩⟩)
  ·exact .inr (.inl ⟨11,21,false,fun _=>rfl,rfl,hr 11 21 rfl rfl,Runs.val _ (op_load3 (show ρ (.tmp 26)=.pointer (some ⟨Y,27,none⟩)from hr 16 26 rfl rfl) (cell_on (bgo HB1.out hg) HK.out.2)) ⟨hg,Below.refl _ _,rfl⟩⟩)
  ·exact .inr (.inl ⟨11,21,false,fun _=>rfl,rfl,hr 11 21 rfl rfl,Runs.val _ (op_neq3 (show ρ (.tmp 25)=.int .i64 j.phase from hr 15 25 rfl rfl) (show ρ (.tmp 27)=.int .i64 c.phase from hr 17 27 rfl rfl) (by rw [decide_eq_true HQ2.out];rfl)) ⟨hg,Below.refl _ _,rfl⟩⟩)
  ·exact rv (op_pick (show ρ (.tmp 21)=.bool false from hr 11 21 rfl rfl) (show(if (false:Bool) then ρ (.const (.bool true)) else ρ (.tmp 28))=.bool false from(show ρ (.tmp 28)=.bool false from hr 18 28 rfl rfl))) ⟨hg,Below.refl _ _,rfl⟩
  ·exact rv (op_move (show ρ (.tmp 29)=.bool false from hr 19 29 rfl rfl)) ⟨hg,Below.refl _ _,rfl⟩
  ·exact .inr (.inl ⟨20,30,false,fun _=>rfl,rfl,hr 20 30 rfl rfl,Runs.val _ (op_move (show ρ (.tmp 2)=kv from ho 2 rfl)) ⟨hg,Below.refl _ _,rfl⟩⟩)
  ·exact .inr (.inl ⟨20,30,false,fun _=>rfl,rfl,hr 20 30 rfl rfl,Runs.val _ (op_move (show ρ (.tmp 7)=.pointer (some ⟨jb,o,none⟩)from ho 7 rfl)) ⟨hg,Below.refl _ _,rfl⟩⟩)
  ·refine .inr (.inl ⟨20,30,false,fun _=>rfl,rfl,hr 20 30 rfl rfl,?_⟩);refine Runs.goes 54 #[.pointer (some ⟨jb,o,none⟩)] (op_call1 hf (by go_simp) (show ρ (.tmp 32)=.pointer (some ⟨jb,o,none⟩)from hr 22 32 rfl rfl)) ((move_job (range_on (bgo HB1.out hg) HJ.out) HP.out HLT.out).mono ?_);rintro e7 w7 ⟨rfl,b7⟩;exact⟨_,rfl,bgo hg b7,b7,rfl⟩
  ·exact .inr (.inl ⟨20,30,false,fun _=>rfl,rfl,hr 20 30 rfl rfl,Runs.val _ (op_field74_0 (show ρ (.tmp 33)=.agg #[.int .i64 j.move.1,.int .i64 j.move.2]from hr 23 33 rfl rfl)) ⟨hg,Below.refl _ _,rfl⟩⟩)
  ·refine .inr (.inl ⟨20,30,false,fun _=>rfl,rfl,hr 20 30 rfl rfl,?_⟩);refine Runs.goes 89 #[kv,.int .i64 j.move.1] (op_call2 hf (by go_simp) (show ρ (.tmp 31)=kv from hr 21 31 rfl rfl) (show ρ (.tmp 34)=.int .i64 j.move.1 from hr 24 34 rfl rfl)) ((contains_any (x:=j.move.1) (HKS.out.on inE_held (bgo HB1.out hg))).mono ?_);rintro e7 w7 ⟨rfl,b7⟩;rw [HQ3.out];exact⟨_,rfl,bgo hg b7,b7,rfl⟩
  ·exact .inr (.inl ⟨20,30,false,fun _=>rfl,rfl,hr 20 30 rfl rfl,Runs.val _ (op_not (show ρ (.tmp 35)=.bool true from hr 25 35 rfl rfl)) ⟨hg,Below.refl _ _,rfl⟩⟩)
  ·exact rv (op_pick (show ρ (.tmp 30)=.bool false from hr 20 30 rfl rfl) (show(if (false:Bool) then ρ (.const (.bool true)) else ρ (.tmp 36))=.bool false from(show ρ (.tmp 36)=.bool false from hr 26 36 rfl rfl))) ⟨hg,Below.refl _ _,rfl⟩
 case en =>
  intro a9 w6 fl hfl b6 hs9 hd9 ho9 hr9;obtain⟨x9,hx,hxt⟩:=act_put hs9 hd9 ho9;have xk37:x9 37=.bool false:=(hxt 37).symm.trans (hr9 27 37 rfl);change a9=putAll _ x9 [10,11,12,13,14,15,16,17,18,19,20,21,22,23,24,25,26,27,28,29,30,31,32,33,34,35,36,37]at hx;simp only [putAll,Act.put,List.setIfInBounds_toArray,List.set_cons_zero,List.set_cons_succ,xk37]at hx;subst hx;clear hs9 hd9 ho9 hr9 hfl xk37;generalize x9 10=z10,x9 11=z11,x9 12=z12,x9 13=z13,x9 14=z14,x9 15=z15,x9 16=z16,x9 17=z17,x9 18=z18,x9 19=z19,x9 20=z20,x9 21=z21,x9 22=z22,x9 23=z23,x9 24=z24,x9 25=z25,x9 26=z26,x9 27=z27,x9 28=z28,x9 29=z29,x9 30=z30,x9 31=z31,x9 32=z32,x9 33=z33,x9 34=z34,x9 35=z35,x9 36=z36;have HB6:=lh (bgo HB.out (bgo HB1.out b6));clear b6;go_wp2;go_ret;exact⟨rfl,HB6.out⟩
end
end Go.Proofs.YtkhehikaemdnnaaGreat
