import Derived.Test.YtkhehikaemdnnaaGreatQLr
namespace Go.Proofs.YtkhehikaemdnnaaGreat
set_option maxRecDepth 100000
set_option maxHeartbeats 4000000
open Go.RowKit Go.Maps
section
variable {w : World}
structure JobsIn (w:World) (n0:Nat) (J:List (Jb × Value)) (v:Value):Prop where
 row:w.ownsRow n0 66 22 v J.length (J.flatMap jrow)
 co:∀ x ∈ J,w.ownsRow n0 56 7 x.2 x.1.ddl.cols.length (x.1.ddl.cols.flatMap colL)
theorem JobsIn.on{w':World}{n0:Nat}{J:List (Jb × Value)}{v:Value}(h:JobsIn w n0 J v)(hb:Below w.heap.size w w'):JobsIn w' n0 J v:=⟨own_below h.row hb,fun x hx=>own_below (h.co x hx) hb⟩
theorem JobsIn.mono{n0 n1:Nat}{J:List (Jb × Value)}{v:Value}(h:JobsIn w n0 J v)(hn:n1<=n0):JobsIn w n1 J v:=⟨own_mono h.row hn,fun x hx=>own_mono (h.co x hx) hn⟩
theorem jobs_nil:Calls Tryz.prog 19 #[.pointer none] w fun e w'=>e=.returned (.slice none 0 0)/\Below w.heap.size w w':=by
 go_enter Tryz.func19,Tryz.ntmps19;go_wp2;go_ret;exact⟨rfl,Below.refl _ _⟩
end
end Go.Proofs.YtkhehikaemdnnaaGreat
namespace Go.Proofs.YtkhehikaemdnnaaGreat
set_option maxRecDepth 100000
set_option maxHeartbeats 4000000
open Go.RowKit Go.Maps
theorem results_three{fn:Func}{t u x:Tmp}{ty ty2:TypeId}{ad ad2:Addr}{v v2 v3:Value}{tmps:Array Value}{w:World}(h:fn.results=#[.cell t ty,.cell u ty2,.tmp x])(ha:tmps.getD t undef=.pointer (some ad))(hb:tmps.getD u undef=.pointer (some ad2))(hx:tmps.getD x undef=v3)(hl:(loadVar ty ad).run Tryz.prog w=.ok v w)(hl2:(loadVar ty2 ad2).run Tryz.prog w=.ok v2 w):(results fn tmps).run Tryz.prog w=.ok (.tuple #[v,v2,v3]) w:=by
 have ha2:tmps[t]?.getD undef=.pointer (some ad):=by simpa using ha
 have hb2:tmps[u]?.getD undef=.pointer (some ad2):=by simpa using hb
 have hx2:tmps[x]?.getD undef=v3:=by simpa using hx
 simp [results,h,ha2,hb2,hx2,asAddr,hl,hl2]
section
variable {w : World}
theorem new_any:Calls Tryz.prog 11 #[] w fun e w'=>∃ B W,e=.returned (.pointer (some ⟨B,0,none⟩))/\Bo w' B W Bd.none/\(∀ k,k<w.heap.size->W k=0)/\Below w.heap.size w w':=by
 obtain⟨V,hV⟩:∃ V,V=w.alloc (.cells (bdA 0 0 (.slice none 0 0) (.slice none 0 0) (.slice none 0 0) (.slice none 0 0) (.map none)) 88):=⟨_,rfl⟩
 have hb:Below w.heap.size w V:=by rw [hV];exact bnew _ _
 have j0:V.heap[w.heap.size]?=some (.cells (bdA 0 0 (.slice none 0 0) (.slice none 0 0) (.slice none 0 0) (.slice none 0 0) (.map none)) 88 (0,0)):=by rw [hV];exact heap_alloc_new w _
 have HBO:Hid (Bx V w.heap.size (fun k=>if k=w.heap.size then 1 else 0) Bd.none [] (.slice none 0 0) (.slice none 0 0) (.slice none 0 0) (.slice none 0 0) (.map none)):=lh {
  ob:=j0
  jj:=rfl
  tb:=fun V' _ _=>⟨none,0,rfl,fun _=>rfl,Nat.le_refl _,Nat.zero_le _,fun i hi=>absurd hi (Nat.not_lt_zero _)⟩
  co:=fun x hx=>by cases hx
  le:=World.ownsRow_nil _ _ _ _
  jb:=World.ownsRow_nil _ _ _ _
  rn:=RunL.nil V
  id:=.inl ⟨rfl,rfl⟩
  wB:=if_pos rfl
  wl:=fun k h=>by cases h
  wj:=fun k h=>by cases h
  wr:=fun k h=>by
   obtain⟨_,_,_,e,_⟩:=h;cases e
  wm:=fun m h=>by cases h
  lt:=fun k h=>by
   by_cases q:k=w.heap.size
   ·rw [q];exact blk_lt j0
   ·exact absurd (if_neg q) h }
 have HB:=lh hb;have HV:=lh hV;clear hV hb j0;go_enter Tryz.func11,Tryz.ntmps11;go_wp2;go_ret;rw [<-HV.out];exact⟨_,_,rfl,⟨_,_,_,_,_,_,HBO.out⟩,fun k hk=>if_neg (by omega),HB.out⟩
theorem schema_nil:Calls Tryz.prog 18 #[.pointer none] w fun e w'=>e=.returned (.agg #[.int .i64 0,.int .i64 0,.slice none 0 0])/\Below w.heap.size w w':=by
 obtain⟨W,hW⟩:∃ W,W=w.alloc (.cells #[.int .i64 0,.int .i64 0,.slice none 0 0] 30):=⟨_,rfl⟩
 have hb:=bw1 hW;obtain⟨Y,hY⟩:∃ Y,w.heap.size=Y:=⟨_,rfl⟩
 have jY:W.heap[Y]?=some (.cells #[.int .i64 0,.int .i64 0,.slice none 0 0] 30 (0,0)):=by rw [hW,<-hY];exact heap_alloc_new w _
 obtain⟨X',hst,j',f'⟩:=st_row jY (us:=#[.int .i64 0,.int .i64 0,.slice none 0 0]) rfl size30 (by simp [Value.oneCell']);have HS:=lh hst;have HX:=lh (And.intro j' (hb.trans (f'.toBelow (fun k hk q=>by have q':k=Y:=q;omega) hb.size)));have HW:=lh hW;have HY:=lh hY;clear hW hb hY jY hst j' f';go_enter Tryz.func18,Tryz.ntmps18;go_upto_region 1 with fail
 rw [<-HW.out,HY.out];go_wp2_with (refine wpl_store _ _ rfl (by simp [Act.eval]) (by simp [Act.eval]) HS.out ?_)
 refine bodyPost_ret (results_one rfl rfl (load_var HX.out.1 Tryz.underlying30 rfl size30)) rfl ?_;exact⟨rfl,HX.out.2⟩
def HandNo(w:World)(e:Ending)(w':World):Prop:=e=.returned (.tuple #[.agg zJ,.agg #[.int .i64 0,.int .i64 0],.bool false])/\Below w.heap.size w w'
theorem hand_boxes(w:World):∃ W Y2 Y3,W=(w.alloc (.cells zJ 66)).alloc (.cells #[.int .i64 0,.int .i64 0] 74)/\w.heap.size=Y2/\Y2+1=Y3/\Below w.heap.size w W/\W.heap[Y2]?=some (.cells zJ 66 (0,0))/\W.heap[Y3]?=some (.cells #[.int .i64 0,.int .i64 0] 74 (0,0)):=by
 refine⟨_,_,_,rfl,rfl,rfl,((Below.refl _ w).alloc (Nat.le_refl _) _).alloc (by simp) _,?_,?_⟩
 ·rw [Below.heap_alloc _ _ _ (by simp only [World.size_alloc];omega)];exact heap_alloc_new w _
 ·have:=heap_alloc_new (w.alloc (.cells zJ 66)) (.cells #[.int .i64 0,.int .i64 0] 74);simp only [World.size_alloc]at this;exact this
theorem hand_nil:Calls Tryz.prog 23 #[.pointer none] w (HandNo w):=by
 obtain⟨W,Y2,Y3,hW,hY2,hY3,hb,j2,j3⟩:=hand_boxes w;obtain⟨X1,hs1,k2,f1⟩:=st_row j2 (us:=zJ) rfl size66 (by simp [Value.oneCell']);obtain⟨X2,hs2,k3,f2⟩:=st_row ((f1.block Y3 (blk_lt j3) (fun q=>by have q':Y3=Y2:=q;omega)).trans j3) (us:=#[.int .i64 0,.int .i64 0]) rfl size74 (by simp [Value.oneCell']);have k22:=(f2.block Y2 (blk_lt k2) (fun q=>by have q':Y2=Y3:=q;omega)).trans k2;have hbX:Below w.heap.size w X2:=(hb.trans (f1.toBelow (fun k hk q=>by have q':k=Y2:=q;omega) hb.size)).trans (f2.toBelow (fun k hk q=>by have q':k=Y3:=q;omega) (Nat.le_trans hb.size f1.size));have HS1:=lh hs1;have HS2:=lh hs2;have HX:=lh (And.intro k22 (And.intro k3 hbX));have HW:=lh hW;have HY2:=lh hY2;have HY3:=lh hY3;clear hW hY2 hY3 hb j2 j3 hs1 k2 f1 hs2 k3 f2 k22 hbX;go_enter Tryz.func23,Tryz.ntmps23;go_upto_region 1 with fail
 rw [<-HW.out,HY2.out,HY3.out];go_wp2_with (first|(refine wpl_store _ _ rfl (by first | rfl|(simp [Act.eval];done)) (by first | rfl|(simp [Act.eval];done)) HS1.out ?_)|(refine wpl_store _ _ rfl (by first | rfl|(simp [Act.eval];done)) (by first | rfl|(simp [Act.eval];done)) HS2.out ?_))
 refine bodyPost_ret (results_three rfl rfl rfl rfl (load_var HX.out.1 Tryz.underlying66 rfl size66) (load_var HX.out.2.1 Tryz.underlying74 rfl size74)) rfl ?_;exact⟨rfl,HX.out.2.2⟩
end
end Go.Proofs.YtkhehikaemdnnaaGreat
namespace Go.Proofs.YtkhehikaemdnnaaGreat
set_option maxRecDepth 100000
set_option maxHeartbeats 4000000
open Go.RowKit Go.Maps
theorem size34:(Tryz.prog.info? 34).map (·.size)=some 5:=by kernel_rfl
theorem own_offB{w w':World}{T:Nat->Prop}{n0:Nat}{e:TypeId}{k:Nat}{v:Value}{n:Nat}{xs:List Value}(h:w.ownsRow n0 e k v n xs)(hf:Fr w w' T)(hT:∀ k,T k->k<n0):w'.ownsRow n0 e k v n xs:=own_blk h fun g hg hl=>hf.block g hl fun q=>by
 have:=hT g q;have:=own_geB h hg;omega
section
variable {w : World}
theorem save_nil:Calls Tryz.prog 22 #[.pointer none] w fun e w'=>e=.returned (.agg #[.int .i64 0,.int .i64 0,.slice none 0 0,.slice none 0 0,.slice none 0 0])/\Below w.heap.size w w':=by
 obtain⟨W,hW⟩:∃ W,W=w.alloc (.cells #[.int .i64 0,.int .i64 0,.slice none 0 0,.slice none 0 0,.slice none 0 0] 34):=⟨_,rfl⟩
 have hb:=bw1 hW;obtain⟨Y,hY⟩:∃ Y,w.heap.size=Y:=⟨_,rfl⟩
 have jY:W.heap[Y]?=some (.cells #[.int .i64 0,.int .i64 0,.slice none 0 0,.slice none 0 0,.slice none 0 0] 34 (0,0)):=by rw [hW,<-hY];exact heap_alloc_new w _
 obtain⟨X',hst,j',f'⟩:=st_row jY (us:=#[.int .i64 0,.int .i64 0,.slice none 0 0,.slice none 0 0,.slice none 0 0]) rfl size34 (by simp [Value.oneCell']);have HS:=lh hst;have HX:=lh (And.intro j' (hb.trans (f'.toBelow (fun k hk q=>by have q':k=Y:=q;omega) hb.size)));have HW:=lh hW;have HY:=lh hY;clear hW hb hY jY hst j' f';go_enter Tryz.func22,Tryz.ntmps22;go_upto_region 1 with fail
 rw [<-HW.out,HY.out];go_wp2_with (refine wpl_store _ _ rfl (by simp [Act.eval]) (by simp [Act.eval]) HS.out ?_)
 refine bodyPost_ret (results_one rfl rfl (load_var HX.out.1 Tryz.underlying34 rfl size34)) rfl ?_;exact⟨rfl,HX.out.2⟩
theorem clear_nil{t below:Int}:Calls Tryz.prog 16 #[.pointer none,.int .i64 t,.int .i64 below] w fun e w'=>e=.returned (.bool true)/\Below w.heap.size w w':=by
 go_enter Tryz.func16,Tryz.ntmps16;go_wp2;go_ret;exact⟨rfl,((Below.refl _ w).alloc (Nat.le_refl _) _).alloc (by simp) _⟩
variable {B n : Nat} {W : Nat -> Nat} {b : Bd}
theorem Fit.few(hk:Fit n b):Few b.sch.tabs:=⟨hk.sch.sz,hk.sch.fw⟩
end
end Go.Proofs.YtkhehikaemdnnaaGreat
