import Derived.Test.YtkhehikaemdnnaaGreatQYa0
import Derived.Test.YtkhehikaemdnnaaGreatQTw
import Derived.Test.YtkhehikaemdnnaaGreatQLq
namespace Go.Proofs.YtkhehikaemdnnaaGreat
set_option maxRecDepth 100000
set_option maxHeartbeats 8000000
open Go.RowKit
abbrev zP0:Array Value:=#[.int .i64 0,.int .i64 0,.slice none 0 0,.slice none 0 0,.slice none 0 0]
section
variable {ρ : Operand -> Value} {X : World} {d : Option Tmp} {ty : TypeId} {ps : String} {af : Array Edge} {g : Option (Nat × Bool)}
theorem op_f50_0{x:Operand}{B o:Nat}(e:ρ x=.pointer (some ⟨B,o,none⟩)):(execOp ρ ⟨d,.fieldAddr 50 x 0,ty,ps,af,g⟩).run Tryz.prog X=.ok (.value (.pointer (some ⟨B,o,none⟩))) X:=by
 simp only [execOp,e]
 go_simp
theorem op_f50_1{x:Operand}{B o:Nat}(e:ρ x=.pointer (some ⟨B,o,none⟩)):(execOp ρ ⟨d,.fieldAddr 50 x 1,ty,ps,af,g⟩).run Tryz.prog X=.ok (.value (.pointer (some ⟨B,o+1,none⟩))) X:=by
 simp only [execOp,e]
 go_simp
theorem op_b53(e:ρ (.const (.int .i64 2))=.int .i64 2):(execOp ρ ⟨d,.build 53 #[(0,.const (.int .i64 2))],ty,ps,af,g⟩).run Tryz.prog X=.ok (.value (.agg (rsA (rsE 2)))) X:=by
 simp only [execOp]
 go_simp
theorem op_b34n:(execOp ρ ⟨d,.build 34 #[],ty,ps,af,g⟩).run Tryz.prog X=.ok (.value (.agg zP0)) X:=by
 simp only [execOp]
 go_simp
theorem op_e53{x y:Operand}(e:ρ x=.agg (rsA (rsE 2)))(e2:ρ y=.agg (rsA (rsE 2))):(execOp ρ ⟨d,.binOp .eql 53 x y 53,ty,ps,af,g⟩).run Tryz.prog X=.ok (.value (.bool true)) X:=by
 have h:Sem.run Tryz.prog (do eqGuard .eql 53 x y (.agg (rsA (rsE 2))) (.agg (rsA (rsE 2)));binOp .eql 53 (.agg (rsA (rsE 2))) (.agg (rsA (rsE 2)))) X=.ok (.bool true) X:=by kernel_rfl
 simp only [execOp,e,e2,Sem.run_bind]at h ⊢;rw [h];rfl
theorem op_fv30_2{x:Operand}{m n:Int}{a:Option Addr}{k c:Nat}(e:ρ x=.agg #[.int .i64 m,.int .i64 n,.slice a k c]):(execOp ρ ⟨d,.field 30 x 2,ty,ps,af,g⟩).run Tryz.prog X=.ok (.value (.slice a k c)) X:=by
 have h:(Instr.field 30 (.agg #[.int .i64 m,.int .i64 n,.slice a k c]) 2).run Tryz.prog X=.ok (.slice a k c) X:=by kernel_rfl
 simp only [execOp,e,Sem.run_bind,h,Result.andThen_ok,Sem.run_pure]
end
section
variable {w : World}
theorem nil_law{x:Oq}{n:Int}(hO:OqOk w x)(hz:x.c.ddl.cols.length*72<=140737488355328):Calls Tryz.prog 8 #[.agg (opA x),.int .i64 n] w fun e w'=>e=.returned (.bool true)/\Below w.heap.size w w':=by
 obtain⟨U,hU⟩:∃ U,U=w.alloc (.cells (opA x) 50):=⟨_,rfl⟩
 obtain⟨Y,hY⟩:∃ Y,w.heap.size=Y:=⟨_,rfl⟩
 have hbU:Below w.heap.size w U:=by rw [hU];exact bnew _ _
 have jY:U.heap[Y]?=some (.cells (opA x) 50 (0,0)):=by rw [hU,<-hY];exact heap_alloc_new w _
 have HJ:=lh jY;have HU:=lh hU;have HY:=lh hY;have HBU:=lh hbU;have HO:=lh (hO.on hbU);have HZ:=lh hz;have hhn:=hand_nil (w:=U);obtain⟨os,hos⟩:∃ os,opA x=os:=⟨_,rfl⟩
 rw [hos]at HU ⊢;have HOS:=lh hos;clear hU hY hbU jY hO hz hos;go_enter Tryz.func8,Tryz.ntmps8;go_upto_region 2 with fail
 rw [<-HU.out,HY.out];go_upto_region 3 with (first|(go_at_call 23;refine hhn.mono ?_;rintro e v3 ⟨rfl,b3⟩;obtain⟨X1,X2,hs1,hs2,_,_,bX⟩:=two_boxes v3 (js:=zJ) (a:=0) (m:=0) rfl (by simp [Value.oneCell']);have HS1:=lh hs1;have HS2:=lh hs2;have B3:=lh (bgo b3 bX);clear hhn hs1 hs2 bX b3)|(refine wpl_store _ _ rfl (by first | rfl|(simp [Act.eval];done)) (by first | rfl|(simp [Act.eval];done)) HS1.out ?_)|(refine wpl_store _ _ rfl (by first | rfl|(simp [Act.eval];done)) (by first | rfl|(simp [Act.eval];done)) HS2.out ?_))
 obtain⟨V,hV⟩:∃ V,V=X2:=⟨_,rfl⟩
 subst hV;have HB:=lh (bgo HBU.out B3.out);have HJV:=lh ((B3.out.block Y (blk_lt HJ.out)).trans HJ.out);have HC0:Hid (V.cell? ⟨Y,0,none⟩=some (.int .i64 x.at_)):=lh (cell_blk HJV.out 0);obtain⟨c4,hc4⟩:∃ c4,cmA x.c x.r x.cv=c4:=⟨_,rfl⟩
 have HLD:Hid (∀ X,Below V.heap.size V X->(Instr.loadAt 48 (.pointer (some ⟨Y,1,none⟩))).run Tryz.prog X=.ok (.agg c4) X):=lh fun X hX=>by
  rw [<-hc4];exact run_loadAt_mid X Y 1 48 (cmA x.c x.r x.cv).toList _ (range_on hX (range_part (range_blk HJV.out) 1 30)) Tryz.underlying48 rfl size48
 have HOWN:Hid (∀ X,Below V.heap.size V X->Calls Tryz.prog 12 #[.agg c4] X (OwnAns X x.c x.r)):=lh fun X hX=>by
  rw [<-hc4];exact own_big ((HO.out.co.on colE_held B3.out).on colE_held hX) HZ.out HO.out.rv HO.out.wv
 have HDO:Hid (∀ X g m,Calls Tryz.prog 13 #[.pointer none,.int .i64 x.at_,.agg (cmA x.c x.r (.slice (some ⟨g,0,none⟩) x.c.ddl.cols.length m))] X fun e w'=>e=.returned (.agg (rsA (rsE 2)))/\Below X.heap.size X w'):=lh fun X g m=>do_nil;obtain⟨r0,hr0⟩:∃ r0,planN=r0:=⟨_,rfl⟩
 have HPL:Hid (∀ X,Calls Tryz.prog 25 #[.agg zP0] X fun e w'=>e=.returned (.string r0)/\Below X.heap.size X w'):=lh fun X=>by rw [<-hr0];exact plan_nil
 clear hc4 hr0;refine wp_region_fb (fun _ X9=>Below V.heap.size V X9) (fun X9 X8=>Below X9.heap.size X9 X8) [
  fun v9 _=>v9=.bool true,fun v9 _=>v9=.bool true,fun v9 _=>v9=.pointer none,fun v9 _=>v9=.pointer (some ⟨Y,0,none⟩),fun v9 _=>v9=.int .i64 x.at_,fun v9 _=>v9=.pointer (some ⟨Y,1,none⟩),fun v9 _=>v9=.agg c4,fun v9 _=>∃ g m,v9=.agg (cmA x.c x.r (.slice (some ⟨g,0,none⟩) x.c.ddl.cols.length m)),fun v9 _=>v9=.agg (rsA (rsE 2)),fun v9 _=>v9=.agg (rsA (rsE 2)),fun v9 _=>v9=.bool true,fun v9 _=>v9=.bool true,fun v9 _=>v9=.bool true,fun v9 _=>v9=.bool false,fun v9 _=>v9=.bool true,fun v9 _=>v9=.bool true,fun v9 _=>v9=.bool true,fun v9 _=>v9=.pointer none,fun v9 _=>v9=.pointer (some ⟨Y,0,none⟩),fun v9 _=>v9=.int .i64 x.at_,fun v9 _=>v9=.int .i64 n,fun v9 _=>v9=.bool true,fun v9 _=>v9=.bool true,fun v9 _=>v9=.bool true,fun v9 _=>v9=.pointer none,fun v9 _=>v9=.slice none 0 0,fun v9 _=>v9=.int .i64 0,fun v9 _=>v9=.bool true,fun v9 _=>v9=.bool true,fun v9 _=>v9=.bool true,fun v9 _=>v9=.pointer none,fun v9 _=>v9=.agg zP0,fun v9 _=>v9=.string r0,fun v9 _=>v9=.agg zP0,fun v9 _=>v9=.string r0,fun v9 _=>v9=.bool true,fun v9 _=>v9=.bool true,fun v9 _=>v9=.bool true,fun v9 _=>v9=.pointer none,fun v9 _=>v9=.agg #[.int .i64 0,.int .i64 0,.slice none 0 0],fun v9 _=>v9=.slice none 0 0,fun v9 _=>v9=.int .i64 0,fun v9 _=>v9=.bool true,fun v9 _=>v9=.bool true,fun v9 _=>v9=.bool true]
  (by kernel_rfl) (by kernel_rfl) (by kernel_rfl) ?st ?g0 ?os ?en
 case st=>
  iterate 7 refine⟨fun _ _ _ _ h=>h,?_⟩
  refine⟨(fun _ _ _ _ h=>h),?_⟩
  iterate 37 refine⟨fun _ _ _ _ h=>h,?_⟩
  exact trivial
 case g0=>exact⟨rfl,rfl,rfl,Nat.le_refl _,fun _ _=>rfl⟩
 case os =>
  refine⟨?_,?_,?_,?_,?_,?_,?_,?_,?_,?_,?_,?_,?_,?_,?_,?_,?_,?_,?_,?_,?_,?_,?_,?_,?_,?_,?_,?_,?_,?_,?_,?_,?_,?_,?_,?_,?_,?_,?_,?_,?_,?_,?_,?_,?_,trivial⟩
  all_goals intro ρ X9 fl hg hn hl hp ho hc hf hr
  ·refine .inl ⟨rfl,?_⟩;refine Runs.goes 9 #[] (op_call0 hf (by go_simp) ) ((awake_any X9).mono ?_);rintro e7 w7 ⟨rfl,b7⟩;exact⟨_,rfl,bgo hg b7,b7,rfl⟩
  ·exact rv (op_move (show ρ (.tmp 15)=.bool true from hr 0 15 rfl rfl)) ⟨hg,Below.refl _ _,rfl⟩
  ·exact .inr (.inl ⟨1,16,true,fun _=>rfl,rfl,hr 1 16 rfl rfl,Runs.val _ (op_move (show ρ (.tmp 5)=.pointer none from ho 5 rfl)) ⟨hg,Below.refl _ _,rfl⟩⟩)
  ·exact .inr (.inl ⟨1,16,true,fun _=>rfl,rfl,hr 1 16 rfl rfl,Runs.val _ (op_f50_0 (show ρ (.tmp 2)=.pointer (some ⟨Y,0,none⟩)from ho 2 rfl)) ⟨hg,Below.refl _ _,rfl⟩⟩)
  ·exact .inr (.inl ⟨1,16,true,fun _=>rfl,rfl,hr 1 16 rfl rfl,Runs.val _ (op_load3 (show ρ (.tmp 18)=.pointer (some ⟨Y,0,none⟩)from hr 3 18 rfl rfl) (cell_on hg HC0.out)) ⟨hg,Below.refl _ _,rfl⟩⟩)
  ·exact .inr (.inl ⟨1,16,true,fun _=>rfl,rfl,hr 1 16 rfl rfl,Runs.val _ (op_f50_1 (show ρ (.tmp 2)=.pointer (some ⟨Y,0,none⟩)from ho 2 rfl)) ⟨hg,Below.refl _ _,rfl⟩⟩)
  ·exact .inr (.inl ⟨1,16,true,fun _=>rfl,rfl,hr 1 16 rfl rfl,Runs.val _ (op_loadAt (show ρ (.tmp 20)=.pointer (some ⟨Y,1,none⟩)from hr 5 20 rfl rfl) (HLD.out X9 hg)) ⟨hg,Below.refl _ _,rfl⟩⟩)
  ·refine .inr (.inl ⟨1,16,true,fun _=>rfl,rfl,hr 1 16 rfl rfl,?_⟩);refine Runs.goes 12 #[.agg c4] (op_call1 hf (by go_simp) (show ρ (.tmp 21)=.agg c4 from hr 6 21 rfl rfl)) ((HOWN.out X9 hg).mono ?_);rintro e7 w7 ⟨g,m,rfl,_,_,_,b7⟩;exact⟨_,rfl,bgo hg b7,b7,g,m,rfl⟩
  ·obtain⟨g0,m0,e0⟩:=hr 7 22 rfl rfl;refine .inr (.inl ⟨1,16,true,fun _=>rfl,rfl,hr 1 16 rfl rfl,?_⟩);refine Runs.goes 13 #[.pointer none,.int .i64 x.at_,.agg (cmA x.c x.r (.slice (some ⟨g0,0,none⟩) x.c.ddl.cols.length m0))] (op_call3 hf (by go_simp) (show ρ (.tmp 17)=.pointer none from hr 2 17 rfl rfl) (show ρ (.tmp 19)=.int .i64 x.at_ from hr 4 19 rfl rfl) e0) ((HDO.out X9 g0 m0).mono ?_);rintro e7 w7 ⟨rfl,b7⟩;exact⟨_,rfl,bgo hg b7,b7,rfl⟩
  ·exact .inr (.inl ⟨1,16,true,fun _=>rfl,rfl,hr 1 16 rfl rfl,Runs.val _ (op_b53 (hc _)) ⟨hg,Below.refl _ _,rfl⟩⟩)
  ·exact .inr (.inl ⟨1,16,true,fun _=>rfl,rfl,hr 1 16 rfl rfl,Runs.val _ (op_e53 (show ρ (.tmp 23)=.agg (rsA (rsE 2))from hr 8 23 rfl rfl) (show ρ (.tmp 24)=.agg (rsA (rsE 2))from hr 9 24 rfl rfl)) ⟨hg,Below.refl _ _,rfl⟩⟩)
  ·exact rv (op_pick (b:=true) (show ρ (.tmp 16)=.bool true from hr 1 16 rfl rfl) (show ρ (.tmp 25)=.bool true from hr 10 25 rfl rfl)) ⟨hg,Below.refl _ _,rfl⟩
  ·exact rv (op_move (show ρ (.tmp 26)=.bool true from hr 11 26 rfl rfl)) ⟨hg,Below.refl _ _,rfl⟩
  ·exact .inr (.inl ⟨12,27,true,fun _=>rfl,rfl,hr 12 27 rfl rfl,Runs.val _ (op_move (show ρ (.tmp 8)=.bool false from ho 8 rfl)) ⟨hg,Below.refl _ _,rfl⟩⟩)
  ·exact .inr (.inl ⟨12,27,true,fun _=>rfl,rfl,hr 12 27 rfl rfl,Runs.val _ (op_not (show ρ (.tmp 28)=.bool false from hr 13 28 rfl rfl)) ⟨hg,Below.refl _ _,rfl⟩⟩)
  ·exact rv (op_pick (b:=true) (show ρ (.tmp 27)=.bool true from hr 12 27 rfl rfl) (show ρ (.tmp 29)=.bool true from hr 14 29 rfl rfl)) ⟨hg,Below.refl _ _,rfl⟩
  ·exact rv (op_move (show ρ (.tmp 30)=.bool true from hr 15 30 rfl rfl)) ⟨hg,Below.refl _ _,rfl⟩
  ·exact .inr (.inl ⟨16,31,true,fun _=>rfl,rfl,hr 16 31 rfl rfl,Runs.val _ (op_move (show ρ (.tmp 5)=.pointer none from ho 5 rfl)) ⟨hg,Below.refl _ _,rfl⟩⟩)
  ·exact .inr (.inl ⟨16,31,true,fun _=>rfl,rfl,hr 16 31 rfl rfl,Runs.val _ (op_f50_0 (show ρ (.tmp 2)=.pointer (some ⟨Y,0,none⟩)from ho 2 rfl)) ⟨hg,Below.refl _ _,rfl⟩⟩)
  ·exact .inr (.inl ⟨16,31,true,fun _=>rfl,rfl,hr 16 31 rfl rfl,Runs.val _ (op_load3 (show ρ (.tmp 33)=.pointer (some ⟨Y,0,none⟩)from hr 18 33 rfl rfl) (cell_on hg HC0.out)) ⟨hg,Below.refl _ _,rfl⟩⟩)
  ·exact .inr (.inl ⟨16,31,true,fun _=>rfl,rfl,hr 16 31 rfl rfl,Runs.val _ (op_move (show ρ (.tmp 1)=.int .i64 n from ho 1 rfl)) ⟨hg,Below.refl _ _,rfl⟩⟩)
  ·refine .inr (.inl ⟨16,31,true,fun _=>rfl,rfl,hr 16 31 rfl rfl,?_⟩);refine Runs.goes 16 #[.pointer none,.int .i64 x.at_,.int .i64 n] (op_call3 hf (by go_simp) (show ρ (.tmp 32)=.pointer none from hr 17 32 rfl rfl) (show ρ (.tmp 34)=.int .i64 x.at_ from hr 19 34 rfl rfl) (show ρ (.tmp 35)=.int .i64 n from hr 20 35 rfl rfl)) ((clear_nil).mono ?_);rintro e7 w7 ⟨rfl,b7⟩;exact⟨_,rfl,bgo hg b7,b7,rfl⟩
  ·exact rv (op_pick (b:=true) (show ρ (.tmp 31)=.bool true from hr 16 31 rfl rfl) (show ρ (.tmp 36)=.bool true from hr 21 36 rfl rfl)) ⟨hg,Below.refl _ _,rfl⟩
  ·exact rv (op_move (show ρ (.tmp 37)=.bool true from hr 22 37 rfl rfl)) ⟨hg,Below.refl _ _,rfl⟩
  ·exact .inr (.inl ⟨23,38,true,fun _=>rfl,rfl,hr 23 38 rfl rfl,Runs.val _ (op_move (show ρ (.tmp 5)=.pointer none from ho 5 rfl)) ⟨hg,Below.refl _ _,rfl⟩⟩)
  ·refine .inr (.inl ⟨23,38,true,fun _=>rfl,rfl,hr 23 38 rfl rfl,?_⟩);refine Runs.goes 19 #[.pointer none] (op_call1 hf (by go_simp) (show ρ (.tmp 39)=.pointer none from hr 24 39 rfl rfl)) ((jobs_nil).mono ?_);rintro e7 w7 ⟨rfl,b7⟩;exact⟨_,rfl,bgo hg b7,b7,rfl⟩
  ·exact .inr (.inl ⟨23,38,true,fun _=>rfl,rfl,hr 23 38 rfl rfl,Runs.val _ (op_len32 (show ρ (.tmp 40)=.slice none 0 0 from hr 25 40 rfl rfl)) ⟨hg,Below.refl _ _,rfl⟩⟩)
  ·exact .inr (.inl ⟨23,38,true,fun _=>rfl,rfl,hr 23 38 rfl rfl,Runs.val _ (op_eql3 (show ρ (.tmp 41)=.int .i64 0 from hr 26 41 rfl rfl) (hc _) (by decide)) ⟨hg,Below.refl _ _,rfl⟩⟩)
  ·exact rv (op_pick (b:=true) (show ρ (.tmp 38)=.bool true from hr 23 38 rfl rfl) (show ρ (.tmp 42)=.bool true from hr 27 42 rfl rfl)) ⟨hg,Below.refl _ _,rfl⟩
  ·exact rv (op_move (show ρ (.tmp 43)=.bool true from hr 28 43 rfl rfl)) ⟨hg,Below.refl _ _,rfl⟩
  ·exact .inr (.inl ⟨29,44,true,fun _=>rfl,rfl,hr 29 44 rfl rfl,Runs.val _ (op_move (show ρ (.tmp 5)=.pointer none from ho 5 rfl)) ⟨hg,Below.refl _ _,rfl⟩⟩)
  ·refine .inr (.inl ⟨29,44,true,fun _=>rfl,rfl,hr 29 44 rfl rfl,?_⟩);refine Runs.goes 22 #[.pointer none] (op_call1 hf (by go_simp) (show ρ (.tmp 45)=.pointer none from hr 30 45 rfl rfl)) ((save_nil).mono ?_);rintro e7 w7 ⟨rfl,b7⟩;exact⟨_,rfl,bgo hg b7,b7,rfl⟩
  ·refine .inr (.inl ⟨29,44,true,fun _=>rfl,rfl,hr 29 44 rfl rfl,?_⟩);refine Runs.goes 25 #[.agg zP0] (op_call1 hf (by go_simp) (show ρ (.tmp 46)=.agg zP0 from hr 31 46 rfl rfl)) ((HPL.out X9).mono ?_);rintro e7 w7 ⟨rfl,b7⟩;exact⟨_,rfl,bgo hg b7,b7,rfl⟩
  ·exact .inr (.inl ⟨29,44,true,fun _=>rfl,rfl,hr 29 44 rfl rfl,Runs.val _ (op_b34n) ⟨hg,Below.refl _ _,rfl⟩⟩)
  ·refine .inr (.inl ⟨29,44,true,fun _=>rfl,rfl,hr 29 44 rfl rfl,?_⟩);refine Runs.goes 25 #[.agg zP0] (op_call1 hf (by go_simp) (show ρ (.tmp 48)=.agg zP0 from hr 33 48 rfl rfl)) ((HPL.out X9).mono ?_);rintro e7 w7 ⟨rfl,b7⟩;exact⟨_,rfl,bgo hg b7,b7,rfl⟩
  ·exact .inr (.inl ⟨29,44,true,fun _=>rfl,rfl,hr 29 44 rfl rfl,Runs.val _ (op_eql9 (show ρ (.tmp 47)=.string r0 from hr 32 47 rfl rfl) (show ρ (.tmp 49)=.string r0 from hr 34 49 rfl rfl) (by simp)) ⟨hg,Below.refl _ _,rfl⟩⟩)
  ·exact rv (op_pick (b:=true) (show ρ (.tmp 44)=.bool true from hr 29 44 rfl rfl) (show ρ (.tmp 50)=.bool true from hr 35 50 rfl rfl)) ⟨hg,Below.refl _ _,rfl⟩
  ·exact rv (op_move (show ρ (.tmp 51)=.bool true from hr 36 51 rfl rfl)) ⟨hg,Below.refl _ _,rfl⟩
  ·exact .inr (.inl ⟨37,52,true,fun _=>rfl,rfl,hr 37 52 rfl rfl,Runs.val _ (op_move (show ρ (.tmp 5)=.pointer none from ho 5 rfl)) ⟨hg,Below.refl _ _,rfl⟩⟩)
  ·refine .inr (.inl ⟨37,52,true,fun _=>rfl,rfl,hr 37 52 rfl rfl,?_⟩);refine Runs.goes 18 #[.pointer none] (op_call1 hf (by go_simp) (show ρ (.tmp 53)=.pointer none from hr 38 53 rfl rfl)) ((schema_nil).mono ?_);rintro e7 w7 ⟨rfl,b7⟩;exact⟨_,rfl,bgo hg b7,b7,rfl⟩
  ·exact .inr (.inl ⟨37,52,true,fun _=>rfl,rfl,hr 37 52 rfl rfl,Runs.val _ (op_fv30_2 (show ρ (.tmp 54)=.agg #[.int .i64 0,.int .i64 0,.slice none 0 0]from hr 39 54 rfl rfl)) ⟨hg,Below.refl _ _,rfl⟩⟩)
  ·exact .inr (.inl ⟨37,52,true,fun _=>rfl,rfl,hr 37 52 rfl rfl,Runs.val _ (op_len28 (show ρ (.tmp 55)=.slice none 0 0 from hr 40 55 rfl rfl)) ⟨hg,Below.refl _ _,rfl⟩⟩)
  ·exact .inr (.inl ⟨37,52,true,fun _=>rfl,rfl,hr 37 52 rfl rfl,Runs.val _ (op_eql3 (show ρ (.tmp 56)=.int .i64 0 from hr 41 56 rfl rfl) (hc _) (by decide)) ⟨hg,Below.refl _ _,rfl⟩⟩)
  ·exact rv (op_pick (b:=true) (show ρ (.tmp 52)=.bool true from hr 37 52 rfl rfl) (show ρ (.tmp 57)=.bool true from hr 42 57 rfl rfl)) ⟨hg,Below.refl _ _,rfl⟩
  ·exact rv (op_assign (show ρ (.tmp 58)=.bool true from hr 43 58 rfl rfl)) ⟨hg,Below.refl _ _,rfl⟩
 case en =>
  intro a9 w6 fl hfl b6 hs9 hd9 ho9 hr9;obtain⟨x9,hx,hxt⟩:=act_put hs9 hd9 ho9;have xk4:x9 4=.bool true:=(hxt 4).symm.trans (hr9 44 4 rfl);change a9=putAll _ x9 [15,16,17,18,19,20,21,22,23,24,25,26,27,28,29,30,31,32,33,34,35,36,37,38,39,40,41,42,43,44,45,46,47,48,49,50,51,52,53,54,55,56,57,58,4]at hx;simp only [putAll,Act.put,List.setIfInBounds_toArray,List.set_cons_zero,List.set_cons_succ,xk4]at hx;subst hx;clear hs9 hd9 ho9 hr9 hfl xk4;generalize x9 15=z15,x9 16=z16,x9 17=z17,x9 18=z18,x9 19=z19,x9 20=z20,x9 21=z21,x9 22=z22,x9 23=z23,x9 24=z24,x9 25=z25,x9 26=z26,x9 27=z27,x9 28=z28,x9 29=z29,x9 30=z30,x9 31=z31,x9 32=z32,x9 33=z33,x9 34=z34,x9 35=z35,x9 36=z36,x9 37=z37,x9 38=z38,x9 39=z39,x9 40=z40,x9 41=z41,x9 42=z42,x9 43=z43,x9 44=z44,x9 45=z45,x9 46=z46,x9 47=z47,x9 48=z48,x9 49=z49,x9 50=z50,x9 51=z51,x9 52=z52,x9 53=z53,x9 54=z54,x9 55=z55,x9 56=z56,x9 57=z57,x9 58=z58;go_wp2;go_ret;exact⟨rfl,bgo HB.out b6⟩
end
end Go.Proofs.YtkhehikaemdnnaaGreat
