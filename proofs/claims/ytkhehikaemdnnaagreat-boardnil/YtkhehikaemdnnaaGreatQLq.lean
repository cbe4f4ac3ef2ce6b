import Derived.Test.YtkhehikaemdnnaaGreatQLp
import Derived.Carry
namespace Go.Proofs.YtkhehikaemdnnaaGreat
open Go.RowKit Go.Maps
theorem key3:Keyed Tryz.prog 3:=int_keyed Tryz.underlying3
theorem isKey3(i:Int):WideAt.IsKeyLit (.int .i64 i):=by first | trivial | exact Or.inr (Or.inl ⟨_,_,rfl⟩)| simp [WideAt.IsKeyLit]
theorem key3_of{i:Int}(h:I64 i):keyOf Tryz.prog 3 (.int .i64 i)=some (.int .i64 i):=keyOf_int_mk Tryz.underlying3 (WalkArith.wf_i64 (by unfold I64 at h;omega))
theorem zeroF(w:World):(zeroValue 54).run Tryz.prog w=.ok .nilFunc w:=by kernel_rfl
def Mi(w:World)(B n:Nat)(f:Int->Option Value):Prop:=∃ D:DataW Value,w.ownsMap Tryz.prog 3 itself B n D/\∀ i,has D (.int .i64 i)=(f i).isSome/\∀ e,f i=some e->∀ z,D.atKey (.int .i64 i) z=.held e
section
variable {w w' : World} {B n : Nat} {f : Int -> Option Value} {T e : TypeId} {z : Value}
theorem Mi.made(w:World):Mi (w.alloc (.map #[] 0)) w.heap.size 0 (fun _=>none) :=
 ⟨_,World.ownsMap_made w _ _ _,fun i=>⟨rfl,fun e h=>by cases h⟩⟩
theorem Mi.lt(h:Mi w B n f):B<w.heap.size:=by
 obtain⟨D,h1,_⟩:=h;exact h1.lt
theorem Mi.look(h:Mi w B n f)(ht:Tryz.prog.underlying T=some (.map 3 e))(hz:(zeroValue e).run Tryz.prog w=.ok z w){i:Int}(hi:I64 i):(Instr.lookup T (.map (some B)) (.int .i64 i) true).run Tryz.prog w=.ok (.tuple #[(f i).getD z,.bool (f i).isSome]) w:=by
 obtain⟨D,h1,h2⟩:=h;obtain⟨v,ps,hr,hv⟩:=h1.look_ok key3 ht hz (zd:=.held z) (zp:=[]) rfl (key3_of hi);rw [hr,(h2 i).1];have hv:DataW.held v=D.atKey (.int .i64 i) (.held z):=by
  have:=congrArg (Option.map Prod.fst) hv;simpa [itself]using this
 cases hf:f i with
 | none =>
  have h3:=(h2 i).1;rw [hf]at h3;rw [atKey_of_not_has h3]at hv;cases hv;rfl
 | some x =>
  rw [(h2 i).2 x hf]at hv;cases hv;rfl
theorem Mi.put(h:Mi w B n f)(ht:Tryz.prog.underlying T=some (.map 3 e))(hn:n<maxLen){i:Int}(hi:I64 i)(x:Value):∃ w',(Instr.mapUpdate T (.map (some B)) (.int .i64 i) x).run Tryz.prog w=.ok () w'/\Mi w' B (n+1) (fun j=>if j=i then some x else f j)/\w.grownBy w' (some B):=by
 obtain⟨D,h1,h2⟩:=h;obtain⟨w',hr,h3,h4⟩:=h1.update key3 ht hn (val:=x) (d:=.held x) (ps:=[]) (key3_of hi) rfl;refine⟨w',hr,⟨_,h3,fun j=>?_⟩,h4⟩;dsimp only;by_cases hj:j=i
 ·subst hj;rw [if_pos rfl];refine⟨has_put_same h1.isMap (isKey3 j) _,fun v he z=>?_⟩;cases he;exact atKey_put_same h1.isMap (isKey3 j) _ _
 ·rw [if_neg hj];have hne:(Lit.int .i64 j)≠.int .i64 i:=fun q=>hj (by injection q);refine⟨by rw [has_put_other hne];exact(h2 j).1,fun v he z=>?_⟩;rw [atKey_put_other hne];exact(h2 j).2 v he z
end
theorem Fr.low{w w':World}{B:Nat}(h:Fr w w' (fun k=>k=B))(hB:w.heap.size<=B):Below w.heap.size w w' :=
 ⟨h.os,h.tape,h.output,h.size,fun k hk=>h.block k hk (fun e=>by have e':k=B:=e;omega)⟩
abbrev bmV(B F:Nat):Value:=.func (.func F) #[.pointer (some ⟨B,0,none⟩)] #[]
def doF(B:Nat)(k:Int):Option Value:=if k=16 then some (bmV B 32) else if k=15 then some (bmV B 31) else if k=14 then some (bmV B 30) else if k=13 then some (bmV B 29) else if k=12 then some (bmV B 28) else if k=11 then some (bmV B 27) else none
theorem do_map(w:World)(A:Nat):∃ V0 V1 V2 V3 V4 V5 V6 B,(Instr.makeMap 89 none).run Tryz.prog w=.ok (.map (some B)) V0/\(Instr.mapUpdate 89 (.map (some B)) (.int .i64 11) (bmV A 27)).run Tryz.prog V0=.ok () V1/\(Instr.mapUpdate 89 (.map (some B)) (.int .i64 12) (bmV A 28)).run Tryz.prog V1=.ok () V2/\(Instr.mapUpdate 89 (.map (some B)) (.int .i64 13) (bmV A 29)).run Tryz.prog V2=.ok () V3/\(Instr.mapUpdate 89 (.map (some B)) (.int .i64 14) (bmV A 30)).run Tryz.prog V3=.ok () V4/\(Instr.mapUpdate 89 (.map (some B)) (.int .i64 15) (bmV A 31)).run Tryz.prog V4=.ok () V5/\(Instr.mapUpdate 89 (.map (some B)) (.int .i64 16) (bmV A 32)).run Tryz.prog V5=.ok () V6
  /\ (∀ k,I64 k->(Instr.lookup 89 (.map (some B)) (.int .i64 k) true).run Tryz.prog V6=.ok (.tuple #[(doF A k).getD .nilFunc,.bool (doF A k).isSome]) V6)/\Below w.heap.size w V6:=by
 have m0:=Mi.made w;obtain⟨V1,r1,m1,g1⟩:=m0.put Tryz.underlying89 (by unfold maxLen;omega) (i:=11) (by unfold I64;omega) (bmV A 27);obtain⟨V2,r2,m2,g2⟩:=m1.put Tryz.underlying89 (by unfold maxLen;omega) (i:=12) (by unfold I64;omega) (bmV A 28);obtain⟨V3,r3,m3,g3⟩:=m2.put Tryz.underlying89 (by unfold maxLen;omega) (i:=13) (by unfold I64;omega) (bmV A 29);obtain⟨V4,r4,m4,g4⟩:=m3.put Tryz.underlying89 (by unfold maxLen;omega) (i:=14) (by unfold I64;omega) (bmV A 30);obtain⟨V5,r5,m5,g5⟩:=m4.put Tryz.underlying89 (by unfold maxLen;omega) (i:=15) (by unfold I64;omega) (bmV A 31);obtain⟨V6,r6,m6,g6⟩:=m5.put Tryz.underlying89 (by unfold maxLen;omega) (i:=16) (by unfold I64;omega) (bmV A 32);refine⟨_,V1,V2,V3,V4,V5,V6,w.heap.size,run_makeMap 89 w,r1,r2,r3,r4,r5,r6,fun k hk=>m6.look Tryz.underlying89 (zeroF V6) hk,?_⟩;have f0:Fr w (w.alloc (.map #[] 0)) (fun k=>k=w.heap.size):=Fr.ofBelow _ ((Below.refl _ w).alloc (Nat.le_refl _) _);have f1:=Fr.grown f0 g1 (fun j hj=>.inl (Option.some.inj hj).symm);have f2:=Fr.grown f1 g2 (fun j hj=>.inl (Option.some.inj hj).symm);have f3:=Fr.grown f2 g3 (fun j hj=>.inl (Option.some.inj hj).symm);have f4:=Fr.grown f3 g4 (fun j hj=>.inl (Option.some.inj hj).symm);have f5:=Fr.grown f4 g5 (fun j hj=>.inl (Option.some.inj hj).symm);have f6:=Fr.grown f5 g6 (fun j hj=>.inl (Option.some.inj hj).symm);exact f6.low (Nat.le_refl _)
section
variable {w X w2 w' : World} {B : Nat} {W : Nat -> Nat} {b : Bd}
theorem Went.lift{Y:Nat}(hb:Below w.heap.size w X)(hW:∀ k,W k≠0->k<w.heap.size)(h:Went X B W b w2)(hf:Fr w2 w' (fun k=>k=Y))(hY:w.heap.size<=Y)(hX:Y<X.heap.size):Went w B W b w':=by
 obtain⟨W',h1,h2,h3⟩:=h;have h0:W Y=0:=by
  cases q:W Y with
  | zero=>rfl
  | succ n=>have:=hW Y (by rw [q];omega);omega
 refine⟨W',h1.off hf fun k q=>?_,((Fr.ofBelow _ hb).trans h2).step hf fun k q=>.inr (by have q':k=Y:=q;omega),fun k hk=>h3 k (Nat.lt_of_lt_of_le hk hb.size)⟩;have q':k=Y:=q;rw [q',h3 Y hX];exact h0
end
end Go.Proofs.YtkhehikaemdnnaaGreat
namespace Go.Proofs.YtkhehikaemdnnaaGreat
set_option maxRecDepth 100000
set_option maxHeartbeats 8000000
open Go.RowKit Go.Maps
section
variable {w : World}
theorem do_11{B:Nat}{c:Cm}{r:Rest}{cv:Value}{t:Int}{KC:Nat->Nat}{res:Bd × Rs}(hW0:∀ k,KC k≠0->k<w.heap.size)(hkd:c.kind=11)(ht:At t)(hcall:∀ X,Below w.heap.size w X->Does X B KC 27 t c r cv res):Does w B KC 13 t c r cv res:=by
 unfold Does at hcall ⊢;obtain⟨W,hW⟩:∃ W,W=(w.alloc (.cells (cmA c r cv) 48)).alloc (.cells zR 53):=⟨_,rfl⟩
 have hb:=bw2 hW;obtain⟨Y5,hY5⟩:∃ Q,w.heap.size=Q:=⟨_,rfl⟩
 obtain⟨Y6,hY6⟩:∃ Q,Y5+1=Q:=⟨_,rfl⟩
 have j5:W.heap[Y5]?=some (.cells (cmA c r cv) 48 (0,0)):=nw21 hW hY5;have j6:W.heap[Y6]?=some (.cells zR 53 (0,0)):=nw22 hW hY5 hY6;have HJ:=lh (And.intro j5 j6);have HN:Hid (w.heap.size=Y5/\Y5+1=Y6):=lh ⟨hY5,hY6⟩;have HW:=lh hW;have HB:=lh hb;obtain⟨V0,V1,V2,V3,V4,V5,V,M,m0,r1,r2,r3,r4,r5,r6,hlk,bV⟩:=do_map W B;have JV5:=(bV.block Y5 (blk_lt j5)).trans j5;have JV6:=lh ((bV.block Y6 (blk_lt j6)).trans j6);have BV:=lh (bgo hb bV);have k0:V.cell? ⟨Y5,0,none⟩=some (.int .i64 c.kind):=cell_blk JV5 0;have hl:(Instr.lookup 89 (.map (some M)) (.int .i64 11) true).run Tryz.prog V=.ok (.tuple #[bmV B 27,.bool true]) V:=by
  have q:=hlk 11 (by unfold I64;omega);exact q
 rw [hkd]at k0;have hld:(Instr.loadAt 48 (.pointer (some ⟨Y5,0,none⟩))).run Tryz.prog V=.ok (.agg (cmA c r cv)) V:=load_row JV5 Tryz.underlying48 rfl size48;have HLD:=lh hld;have hca:=hcall V BV.out;have HW0:=lh hW0;have a0:¬ t<0:=by have:=ht.1;omega
 have a1:¬ 1125899906842624<t:=by have:=ht.2;omega
 clear hW hb hY5 hY6 j5 j6 hlk hcall hW0 hkd ht hld JV5 bV;obtain⟨cs,hcs⟩:∃ cs,cmA c r cv=cs:=⟨_,rfl⟩
 rw [hcs]at HW HJ HLD hca ⊢;clear hcs;go_enter Tryz.func13,Tryz.ntmps13;go_upto_region 1 with fail
 rw [<-HW.out,HN.out.1,HN.out.2];go_wp2_with (first|(refine wpl_load _ rfl (by simp [Act.eval]) HLD.out ?_)| fail)
 refine hca.mono ?_;rintro e w2 ⟨rfl,hw2⟩;have j2:w2.heap[Y6]?=some (.cells zR 53 (0,0)):=by
  obtain⟨W',_,hf,_⟩:=hw2;refine(hf.block Y6 (blk_lt JV6.out) fun q=>?_).trans JV6.out;have h0:=HW0.out Y6 (by rw [show KC Y6=1 from q];decide);have h1:=HN.out;omega
 obtain⟨X',hst,j',f'⟩:=st_row j2 (us:=rsA res.2) rfl size53 (by simp [Value.oneCell']);have HS:=lh hst;have HX:=lh (And.intro j' (Went.lift BV.out HW0.out hw2 f' (show w.heap.size<=Y6 by have h1:=HN.out;omega) (blk_lt JV6.out)));clear hst j' f' hca j2 hw2;go_wp2_with (refine wpl_store _ _ rfl (by simp [Act.eval]) (by simp [Act.eval]) HS.out ?_)
 refine bodyPost_ret (results_one rfl rfl (load_var HX.out.1 Tryz.underlying53 rfl size53)) rfl ?_;exact⟨rfl,HX.out.2⟩
theorem do_kind{B:Nat}{c:Cm}{r:Rest}{cv:Value}{t:Int}(hkk:I64 c.kind)(hkd:doF B c.kind=none):Calls Tryz.prog 13 #[.pointer (some ⟨B,0,none⟩),.int .i64 t,.agg (cmA c r cv)] w (AdvNo w 1):=by
 obtain⟨W,hW⟩:∃ W,W=(w.alloc (.cells (cmA c r cv) 48)).alloc (.cells zR 53):=⟨_,rfl⟩
 have hb:=bw2 hW;obtain⟨Y5,hY5⟩:∃ Q,w.heap.size=Q:=⟨_,rfl⟩
 obtain⟨Y6,hY6⟩:∃ Q,Y5+1=Q:=⟨_,rfl⟩
 have j5:W.heap[Y5]?=some (.cells (cmA c r cv) 48 (0,0)):=nw21 hW hY5;have j6:W.heap[Y6]?=some (.cells zR 53 (0,0)):=nw22 hW hY5 hY6;have HJ:=lh (And.intro j5 j6);have HN:Hid (w.heap.size=Y5/\Y5+1=Y6):=lh ⟨hY5,hY6⟩;have HW:=lh hW;have HB:=lh hb;obtain⟨V0,V1,V2,V3,V4,V5,V,M,m0,r1,r2,r3,r4,r5,r6,hlk,bV⟩:=do_map W B;have JV5:=(bV.block Y5 (blk_lt j5)).trans j5;have JV6:=lh ((bV.block Y6 (blk_lt j6)).trans j6);have BV:=lh (bgo hb bV);have k0:V.cell? ⟨Y5,0,none⟩=some (.int .i64 c.kind):=cell_blk JV5 0;have hl0:=hlk c.kind hkk;rw [hkd]at hl0;have hl:(Instr.lookup 89 (.map (some M)) (.int .i64 c.kind) true).run Tryz.prog V=.ok (.tuple #[.nilFunc,.bool false]) V:=hl0;obtain⟨X',hst,j',f'⟩:=st_row JV6.out (us:=rsA (rsE 1)) rfl size53 (by simp [Value.oneCell']);have HS:=lh hst;have HX:=lh (And.intro j' f');clear hW hb hY5 hY6 j5 j6 hlk hl0 hkd hkk JV5 bV hst j' f';obtain⟨cs,hcs⟩:∃ cs,cmA c r cv=cs:=⟨_,rfl⟩
 rw [hcs]at HW HJ  ⊢;clear hcs;go_enter Tryz.func13,Tryz.ntmps13;go_upto_region 1 with fail
 rw [<-HW.out,HN.out.1,HN.out.2];go_wp2_with (refine wpl_store _ _ rfl (by simp [Act.eval]) (by simp [Act.eval]) HS.out ?_)
 refine bodyPost_ret (results_one rfl rfl (load_var HX.out.1 Tryz.underlying53 rfl size53)) rfl ?_;exact⟨rfl,BV.out.trans (HX.out.2.toBelow (fun k hk q=>by have h1:=HN.out.1;have h2:=HN.out.2;omega) BV.out.size)⟩
theorem do_lo{B:Nat}{c:Cm}{r:Rest}{cv:Value}{t:Int}(hkk:I64 c.kind)(hkd:(doF B c.kind).isSome=true)(ht:t<0):Calls Tryz.prog 13 #[.pointer (some ⟨B,0,none⟩),.int .i64 t,.agg (cmA c r cv)] w (AdvNo w 1):=by
 obtain⟨W,hW⟩:∃ W,W=(w.alloc (.cells (cmA c r cv) 48)).alloc (.cells zR 53):=⟨_,rfl⟩
 have hb:=bw2 hW;obtain⟨Y5,hY5⟩:∃ Q,w.heap.size=Q:=⟨_,rfl⟩
 obtain⟨Y6,hY6⟩:∃ Q,Y5+1=Q:=⟨_,rfl⟩
 have j5:W.heap[Y5]?=some (.cells (cmA c r cv) 48 (0,0)):=nw21 hW hY5;have j6:W.heap[Y6]?=some (.cells zR 53 (0,0)):=nw22 hW hY5 hY6;have HJ:=lh (And.intro j5 j6);have HN:Hid (w.heap.size=Y5/\Y5+1=Y6):=lh ⟨hY5,hY6⟩;have HW:=lh hW;have HB:=lh hb;obtain⟨V0,V1,V2,V3,V4,V5,V,M,m0,r1,r2,r3,r4,r5,r6,hlk,bV⟩:=do_map W B;have JV5:=(bV.block Y5 (blk_lt j5)).trans j5;have JV6:=lh ((bV.block Y6 (blk_lt j6)).trans j6);have BV:=lh (bgo hb bV);have k0:V.cell? ⟨Y5,0,none⟩=some (.int .i64 c.kind):=cell_blk JV5 0;have hl0:=hlk c.kind hkk;obtain⟨fv,hfv⟩:=Option.isSome_iff_exists.1 hkd;rw [hfv]at hl0;have hl:(Instr.lookup 89 (.map (some M)) (.int .i64 c.kind) true).run Tryz.prog V=.ok (.tuple #[fv,.bool true]) V:=hl0;have a0:t<0:=ht;obtain⟨X',hst,j',f'⟩:=st_row JV6.out (us:=rsA (rsE 1)) rfl size53 (by simp [Value.oneCell']);have HS:=lh hst;have HX:=lh (And.intro j' f');clear hW hb hY5 hY6 j5 j6 hfv hlk hl0 hkd hkk JV5 bV hst j' f' ht;obtain⟨cs,hcs⟩:∃ cs,cmA c r cv=cs:=⟨_,rfl⟩
 rw [hcs]at HW HJ  ⊢;clear hcs;go_enter Tryz.func13,Tryz.ntmps13;go_upto_region 1 with fail
 rw [<-HW.out,HN.out.1,HN.out.2];go_wp2_with (refine wpl_store _ _ rfl (by simp [Act.eval]) (by simp [Act.eval]) HS.out ?_)
 refine bodyPost_ret (results_one rfl rfl (load_var HX.out.1 Tryz.underlying53 rfl size53)) rfl ?_;exact⟨rfl,BV.out.trans (HX.out.2.toBelow (fun k hk q=>by have h1:=HN.out.1;have h2:=HN.out.2;omega) BV.out.size)⟩
theorem do_hi{B:Nat}{c:Cm}{r:Rest}{cv:Value}{t:Int}(hkk:I64 c.kind)(hkd:(doF B c.kind).isSome=true)(ht:1125899906842624<t):Calls Tryz.prog 13 #[.pointer (some ⟨B,0,none⟩),.int .i64 t,.agg (cmA c r cv)] w (AdvNo w 1):=by
 obtain⟨W,hW⟩:∃ W,W=(w.alloc (.cells (cmA c r cv) 48)).alloc (.cells zR 53):=⟨_,rfl⟩
 have hb:=bw2 hW;obtain⟨Y5,hY5⟩:∃ Q,w.heap.size=Q:=⟨_,rfl⟩
 obtain⟨Y6,hY6⟩:∃ Q,Y5+1=Q:=⟨_,rfl⟩
 have j5:W.heap[Y5]?=some (.cells (cmA c r cv) 48 (0,0)):=nw21 hW hY5;have j6:W.heap[Y6]?=some (.cells zR 53 (0,0)):=nw22 hW hY5 hY6;have HJ:=lh (And.intro j5 j6);have HN:Hid (w.heap.size=Y5/\Y5+1=Y6):=lh ⟨hY5,hY6⟩;have HW:=lh hW;have HB:=lh hb;obtain⟨V0,V1,V2,V3,V4,V5,V,M,m0,r1,r2,r3,r4,r5,r6,hlk,bV⟩:=do_map W B;have JV5:=(bV.block Y5 (blk_lt j5)).trans j5;have JV6:=lh ((bV.block Y6 (blk_lt j6)).trans j6);have BV:=lh (bgo hb bV);have k0:V.cell? ⟨Y5,0,none⟩=some (.int .i64 c.kind):=cell_blk JV5 0;have hl0:=hlk c.kind hkk;obtain⟨fv,hfv⟩:=Option.isSome_iff_exists.1 hkd;rw [hfv]at hl0;have hl:(Instr.lookup 89 (.map (some M)) (.int .i64 c.kind) true).run Tryz.prog V=.ok (.tuple #[fv,.bool true]) V:=hl0;have a0:¬ t<0:=by omega
 have a1:1125899906842624<t:=ht;obtain⟨X',hst,j',f'⟩:=st_row JV6.out (us:=rsA (rsE 1)) rfl size53 (by simp [Value.oneCell']);have HS:=lh hst;have HX:=lh (And.intro j' f');clear hW hb hY5 hY6 j5 j6 hfv hlk hl0 hkd hkk JV5 bV hst j' f' ht;obtain⟨cs,hcs⟩:∃ cs,cmA c r cv=cs:=⟨_,rfl⟩
 rw [hcs]at HW HJ  ⊢;clear hcs;go_enter Tryz.func13,Tryz.ntmps13;go_upto_region 1 with fail
 rw [<-HW.out,HN.out.1,HN.out.2];go_wp2_with (refine wpl_store _ _ rfl (by simp [Act.eval]) (by simp [Act.eval]) HS.out ?_)
 refine bodyPost_ret (results_one rfl rfl (load_var HX.out.1 Tryz.underlying53 rfl size53)) rfl ?_;exact⟨rfl,BV.out.trans (HX.out.2.toBelow (fun k hk q=>by have h1:=HN.out.1;have h2:=HN.out.2;omega) BV.out.size)⟩
theorem do_nil{c:Cm}{r:Rest}{cv:Value}{t:Int}:Calls Tryz.prog 13 #[.pointer none,.int .i64 t,.agg (cmA c r cv)] w (AdvNo w 2):=by
 obtain⟨W,hW⟩:∃ W,W=(w.alloc (.cells (cmA c r cv) 48)).alloc (.cells zR 53):=⟨_,rfl⟩
 have hb:=bw2 hW;obtain⟨Y5,hY5⟩:∃ Q,w.heap.size=Q:=⟨_,rfl⟩
 obtain⟨Y6,hY6⟩:∃ Q,Y5+1=Q:=⟨_,rfl⟩
 have j5:W.heap[Y5]?=some (.cells (cmA c r cv) 48 (0,0)):=nw21 hW hY5;have j6:W.heap[Y6]?=some (.cells zR 53 (0,0)):=nw22 hW hY5 hY6;have HJ:=lh (And.intro j5 j6);have HN:Hid (w.heap.size=Y5/\Y5+1=Y6):=lh ⟨hY5,hY6⟩;have HW:=lh hW;have HB:=lh hb;obtain⟨X',hst,j',f'⟩:=st_row j6 (us:=rsA (rsE 2)) rfl size53 (by simp [Value.oneCell']);have HS:=lh hst;have HX:=lh (And.intro j' f');clear hW hb hY5 hY6 j5 j6 hst j' f';obtain⟨cs,hcs⟩:∃ cs,cmA c r cv=cs:=⟨_,rfl⟩
 rw [hcs]at HW HJ  ⊢;clear hcs;go_enter Tryz.func13,Tryz.ntmps13;go_upto_region 1 with fail
 rw [<-HW.out,HN.out.1,HN.out.2];go_wp2_with (refine wpl_store _ _ rfl (by simp [Act.eval]) (by simp [Act.eval]) HS.out ?_)
 refine bodyPost_ret (results_one rfl rfl (load_var HX.out.1 Tryz.underlying53 rfl size53)) rfl ?_;exact⟨rfl,HB.out.trans (HX.out.2.toBelow (fun k hk q=>by have h1:=HN.out.1;have h2:=HN.out.2;omega) HB.out.size)⟩
theorem do_12{B:Nat}{c:Cm}{r:Rest}{cv:Value}{t:Int}{KC:Nat->Nat}{res:Bd × Rs}(hW0:∀ k,KC k≠0->k<w.heap.size)(hkd:c.kind=12)(ht:At t)(hcall:∀ X,Below w.heap.size w X->Does X B KC 28 t c r cv res):Does w B KC 13 t c r cv res:=by
 unfold Does at hcall ⊢;obtain⟨W,hW⟩:∃ W,W=(w.alloc (.cells (cmA c r cv) 48)).alloc (.cells zR 53):=⟨_,rfl⟩
 have hb:=bw2 hW;obtain⟨Y5,hY5⟩:∃ Q,w.heap.size=Q:=⟨_,rfl⟩
 obtain⟨Y6,hY6⟩:∃ Q,Y5+1=Q:=⟨_,rfl⟩
 have j5:W.heap[Y5]?=some (.cells (cmA c r cv) 48 (0,0)):=nw21 hW hY5;have j6:W.heap[Y6]?=some (.cells zR 53 (0,0)):=nw22 hW hY5 hY6;have HJ:=lh (And.intro j5 j6);have HN:Hid (w.heap.size=Y5/\Y5+1=Y6):=lh ⟨hY5,hY6⟩;have HW:=lh hW;have HB:=lh hb;obtain⟨V0,V1,V2,V3,V4,V5,V,M,m0,r1,r2,r3,r4,r5,r6,hlk,bV⟩:=do_map W B;have JV5:=(bV.block Y5 (blk_lt j5)).trans j5;have JV6:=lh ((bV.block Y6 (blk_lt j6)).trans j6);have BV:=lh (bgo hb bV);have k0:V.cell? ⟨Y5,0,none⟩=some (.int .i64 c.kind):=cell_blk JV5 0;have hl:(Instr.lookup 89 (.map (some M)) (.int .i64 12) true).run Tryz.prog V=.ok (.tuple #[bmV B 28,.bool true]) V:=by
  have q:=hlk 12 (by unfold I64;omega);exact q
 rw [hkd]at k0;have hld:(Instr.loadAt 48 (.pointer (some ⟨Y5,0,none⟩))).run Tryz.prog V=.ok (.agg (cmA c r cv)) V:=load_row JV5 Tryz.underlying48 rfl size48;have HLD:=lh hld;have hca:=hcall V BV.out;have HW0:=lh hW0;have a0:¬ t<0:=by have:=ht.1;omega
 have a1:¬ 1125899906842624<t:=by have:=ht.2;omega
 clear hW hb hY5 hY6 j5 j6 hlk hcall hW0 hkd ht hld JV5 bV;obtain⟨cs,hcs⟩:∃ cs,cmA c r cv=cs:=⟨_,rfl⟩
 rw [hcs]at HW HJ HLD hca ⊢;clear hcs;go_enter Tryz.func13,Tryz.ntmps13;go_upto_region 1 with fail
 rw [<-HW.out,HN.out.1,HN.out.2];go_wp2_with (first|(refine wpl_load _ rfl (by simp [Act.eval]) HLD.out ?_)| fail)
 refine hca.mono ?_;rintro e w2 ⟨rfl,hw2⟩;have j2:w2.heap[Y6]?=some (.cells zR 53 (0,0)):=by
  obtain⟨W',_,hf,_⟩:=hw2;refine(hf.block Y6 (blk_lt JV6.out) fun q=>?_).trans JV6.out;have h0:=HW0.out Y6 (by rw [show KC Y6=1 from q];decide);have h1:=HN.out;omega
 obtain⟨X',hst,j',f'⟩:=st_row j2 (us:=rsA res.2) rfl size53 (by simp [Value.oneCell']);have HS:=lh hst;have HX:=lh (And.intro j' (Went.lift BV.out HW0.out hw2 f' (show w.heap.size<=Y6 by have h1:=HN.out;omega) (blk_lt JV6.out)));clear hst j' f' hca j2 hw2;go_wp2_with (refine wpl_store _ _ rfl (by simp [Act.eval]) (by simp [Act.eval]) HS.out ?_)
 refine bodyPost_ret (results_one rfl rfl (load_var HX.out.1 Tryz.underlying53 rfl size53)) rfl ?_;exact⟨rfl,HX.out.2⟩
theorem do_13{B:Nat}{c:Cm}{r:Rest}{cv:Value}{t:Int}{KC:Nat->Nat}{res:Bd × Rs}(hW0:∀ k,KC k≠0->k<w.heap.size)(hkd:c.kind=13)(ht:At t)(hcall:∀ X,Below w.heap.size w X->Does X B KC 29 t c r cv res):Does w B KC 13 t c r cv res:=by
 unfold Does at hcall ⊢;obtain⟨W,hW⟩:∃ W,W=(w.alloc (.cells (cmA c r cv) 48)).alloc (.cells zR 53):=⟨_,rfl⟩
 have hb:=bw2 hW;obtain⟨Y5,hY5⟩:∃ Q,w.heap.size=Q:=⟨_,rfl⟩
 obtain⟨Y6,hY6⟩:∃ Q,Y5+1=Q:=⟨_,rfl⟩
 have j5:W.heap[Y5]?=some (.cells (cmA c r cv) 48 (0,0)):=nw21 hW hY5;have j6:W.heap[Y6]?=some (.cells zR 53 (0,0)):=nw22 hW hY5 hY6;have HJ:=lh (And.intro j5 j6);have HN:Hid (w.heap.size=Y5/\Y5+1=Y6):=lh ⟨hY5,hY6⟩;have HW:=lh hW;have HB:=lh hb;obtain⟨V0,V1,V2,V3,V4,V5,V,M,m0,r1,r2,r3,r4,r5,r6,hlk,bV⟩:=do_map W B;have JV5:=(bV.block Y5 (blk_lt j5)).trans j5;have JV6:=lh ((bV.block Y6 (blk_lt j6)).trans j6);have BV:=lh (bgo hb bV);have k0:V.cell? ⟨Y5,0,none⟩=some (.int .i64 c.kind):=cell_blk JV5 0;have hl:(Instr.lookup 89 (.map (some M)) (.int .i64 13) true).run Tryz.prog V=.ok (.tuple #[bmV B 29,.bool true]) V:=by
  have q:=hlk 13 (by unfold I64;omega);exact q
 rw [hkd]at k0;have hld:(Instr.loadAt 48 (.pointer (some ⟨Y5,0,none⟩))).run Tryz.prog V=.ok (.agg (cmA c r cv)) V:=load_row JV5 Tryz.underlying48 rfl size48;have HLD:=lh hld;have hca:=hcall V BV.out;have HW0:=lh hW0;have a0:¬ t<0:=by have:=ht.1;omega
 have a1:¬ 1125899906842624<t:=by have:=ht.2;omega
 clear hW hb hY5 hY6 j5 j6 hlk hcall hW0 hkd ht hld JV5 bV;obtain⟨cs,hcs⟩:∃ cs,cmA c r cv=cs:=⟨_,rfl⟩
 rw [hcs]at HW HJ HLD hca ⊢;clear hcs;go_enter Tryz.func13,Tryz.ntmps13;go_upto_region 1 with fail
 rw [<-HW.out,HN.out.1,HN.out.2];go_wp2_with (first|(refine wpl_load _ rfl (by simp [Act.eval]) HLD.out ?_)| fail)
 refine hca.mono ?_;rintro e w2 ⟨rfl,hw2⟩;have j2:w2.heap[Y6]?=some (.cells zR 53 (0,0)):=by
  obtain⟨W',_,hf,_⟩:=hw2;refine(hf.block Y6 (blk_lt JV6.out) fun q=>?_).trans JV6.out;have h0:=HW0.out Y6 (by rw [show KC Y6=1 from q];decide);have h1:=HN.out;omega
 obtain⟨X',hst,j',f'⟩:=st_row j2 (us:=rsA res.2) rfl size53 (by simp [Value.oneCell']);have HS:=lh hst;have HX:=lh (And.intro j' (Went.lift BV.out HW0.out hw2 f' (show w.heap.size<=Y6 by have h1:=HN.out;omega) (blk_lt JV6.out)));clear hst j' f' hca j2 hw2;go_wp2_with (refine wpl_store _ _ rfl (by simp [Act.eval]) (by simp [Act.eval]) HS.out ?_)
 refine bodyPost_ret (results_one rfl rfl (load_var HX.out.1 Tryz.underlying53 rfl size53)) rfl ?_;exact⟨rfl,HX.out.2⟩
theorem do_14{B:Nat}{c:Cm}{r:Rest}{cv:Value}{t:Int}{KC:Nat->Nat}{res:Bd × Rs}(hW0:∀ k,KC k≠0->k<w.heap.size)(hkd:c.kind=14)(ht:At t)(hcall:∀ X,Below w.heap.size w X->Does X B KC 30 t c r cv res):Does w B KC 13 t c r cv res:=by
 unfold Does at hcall ⊢;obtain⟨W,hW⟩:∃ W,W=(w.alloc (.cells (cmA c r cv) 48)).alloc (.cells zR 53):=⟨_,rfl⟩
 have hb:=bw2 hW;obtain⟨Y5,hY5⟩:∃ Q,w.heap.size=Q:=⟨_,rfl⟩
 obtain⟨Y6,hY6⟩:∃ Q,Y5+1=Q:=⟨_,rfl⟩
 have j5:W.heap[Y5]?=some (.cells (cmA c r cv) 48 (0,0)):=nw21 hW hY5;have j6:W.heap[Y6]?=some (.cells zR 53 (0,0)):=nw22 hW hY5 hY6;have HJ:=lh (And.intro j5 j6);have HN:Hid (w.heap.size=Y5/\Y5+1=Y6):=lh ⟨hY5,hY6⟩;have HW:=lh hW;have HB:=lh hb;obtain⟨V0,V1,V2,V3,V4,V5,V,M,m0,r1,r2,r3,r4,r5,r6,hlk,bV⟩:=do_map W B;have JV5:=(bV.block Y5 (blk_lt j5)).trans j5;have JV6:=lh ((bV.block Y6 (blk_lt j6)).trans j6);have BV:=lh (bgo hb bV);have k0:V.cell? ⟨Y5,0,none⟩=some (.int .i64 c.kind):=cell_blk JV5 0;have hl:(Instr.lookup 89 (.map (some M)) (.int .i64 14) true).run Tryz.prog V=.ok (.tuple #[bmV B 30,.bool true]) V:=by
  have q:=hlk 14 (by unfold I64;omega);exact q
 rw [hkd]at k0;have hld:(Instr.loadAt 48 (.pointer (some ⟨Y5,0,none⟩))).run Tryz.prog V=.ok (.agg (cmA c r cv)) V:=load_row JV5 Tryz.underlying48 rfl size48;have HLD:=lh hld;have hca:=hcall V BV.out;have HW0:=lh hW0;have a0:¬ t<0:=by have:=ht.1;omega
 have a1:¬ 1125899906842624<t:=by have:=ht.2;omega
 clear hW hb hY5 hY6 j5 j6 hlk hcall hW0 hkd ht hld JV5 bV;obtain⟨cs,hcs⟩:∃ cs,cmA c r cv=cs:=⟨_,rfl⟩
 rw [hcs]at HW HJ HLD hca ⊢;clear hcs;go_enter Tryz.func13,Tryz.ntmps13;go_upto_region 1 with fail
 rw [<-HW.out,HN.out.1,HN.out.2];go_wp2_with (first|(refine wpl_load _ rfl (by simp [Act.eval]) HLD.out ?_)| fail)
 refine hca.mono ?_;rintro e w2 ⟨rfl,hw2⟩;have j2:w2.heap[Y6]?=some (.cells zR 53 (0,0)):=by
  obtain⟨W',_,hf,_⟩:=hw2;refine(hf.block Y6 (blk_lt JV6.out) fun q=>?_).trans JV6.out;have h0:=HW0.out Y6 (by rw [show KC Y6=1 from q];decide);have h1:=HN.out;omega
 obtain⟨X',hst,j',f'⟩:=st_row j2 (us:=rsA res.2) rfl size53 (by simp [Value.oneCell']);have HS:=lh hst;have HX:=lh (And.intro j' (Went.lift BV.out HW0.out hw2 f' (show w.heap.size<=Y6 by have h1:=HN.out;omega) (blk_lt JV6.out)));clear hst j' f' hca j2 hw2;go_wp2_with (refine wpl_store _ _ rfl (by simp [Act.eval]) (by simp [Act.eval]) HS.out ?_)
 refine bodyPost_ret (results_one rfl rfl (load_var HX.out.1 Tryz.underlying53 rfl size53)) rfl ?_;exact⟨rfl,HX.out.2⟩
theorem do_15{B:Nat}{c:Cm}{r:Rest}{cv:Value}{t:Int}{KC:Nat->Nat}{res:Bd × Rs}(hW0:∀ k,KC k≠0->k<w.heap.size)(hkd:c.kind=15)(ht:At t)(hcall:∀ X,Below w.heap.size w X->Does X B KC 31 t c r cv res):Does w B KC 13 t c r cv res:=by
 unfold Does at hcall ⊢;obtain⟨W,hW⟩:∃ W,W=(w.alloc (.cells (cmA c r cv) 48)).alloc (.cells zR 53):=⟨_,rfl⟩
 have hb:=bw2 hW;obtain⟨Y5,hY5⟩:∃ Q,w.heap.size=Q:=⟨_,rfl⟩
 obtain⟨Y6,hY6⟩:∃ Q,Y5+1=Q:=⟨_,rfl⟩
 have j5:W.heap[Y5]?=some (.cells (cmA c r cv) 48 (0,0)):=nw21 hW hY5;have j6:W.heap[Y6]?=some (.cells zR 53 (0,0)):=nw22 hW hY5 hY6;have HJ:=lh (And.intro j5 j6);have HN:Hid (w.heap.size=Y5/\Y5+1=Y6):=lh ⟨hY5,hY6⟩;have HW:=lh hW;have HB:=lh hb;obtain⟨V0,V1,V2,V3,V4,V5,V,M,m0,r1,r2,r3,r4,r5,r6,hlk,bV⟩:=do_map W B;have JV5:=(bV.block Y5 (blk_lt j5)).trans j5;have JV6:=lh ((bV.block Y6 (blk_lt j6)).trans j6);have BV:=lh (bgo hb bV);have k0:V.cell? ⟨Y5,0,none⟩=some (.int .i64 c.kind):=cell_blk JV5 0;have hl:(Instr.lookup 89 (.map (some M)) (.int .i64 15) true).run Tryz.prog V=.ok (.tuple #[bmV B 31,.bool true]) V:=by
  have q:=hlk 15 (by unfold I64;omega);exact q
 rw [hkd]at k0;have hld:(Instr.loadAt 48 (.pointer (some ⟨Y5,0,none⟩))).run Tryz.prog V=.ok (.agg (cmA c r cv)) V:=load_row JV5 Tryz.underlying48 rfl size48;have HLD:=lh hld;have hca:=hcall V BV.out;have HW0:=lh hW0;have a0:¬ t<0:=by have:=ht.1;omega
 have a1:¬ 1125899906842624<t:=by have:=ht.2;omega
 clear hW hb hY5 hY6 j5 j6 hlk hcall hW0 hkd ht hld JV5 bV;obtain⟨cs,hcs⟩:∃ cs,cmA c r cv=cs:=⟨_,rfl⟩
 rw [hcs]at HW HJ HLD hca ⊢;clear hcs;go_enter Tryz.func13,Tryz.ntmps13;go_upto_region 1 with fail
 rw [<-HW.out,HN.out.1,HN.out.2];go_wp2_with (first|(refine wpl_load _ rfl (by simp [Act.eval]) HLD.out ?_)| fail)
 refine hca.mono ?_;rintro e w2 ⟨rfl,hw2⟩;have j2:w2.heap[Y6]?=some (.cells zR 53 (0,0)):=by
  obtain⟨W',_,hf,_⟩:=hw2;refine(hf.block Y6 (blk_lt JV6.out) fun q=>?_).trans JV6.out;have h0:=HW0.out Y6 (by rw [show KC Y6=1 from q];decide);have h1:=HN.out;omega
 obtain⟨X',hst,j',f'⟩:=st_row j2 (us:=rsA res.2) rfl size53 (by simp [Value.oneCell']);have HS:=lh hst;have HX:=lh (And.intro j' (Went.lift BV.out HW0.out hw2 f' (show w.heap.size<=Y6 by have h1:=HN.out;omega) (blk_lt JV6.out)));clear hst j' f' hca j2 hw2;go_wp2_with (refine wpl_store _ _ rfl (by simp [Act.eval]) (by simp [Act.eval]) HS.out ?_)
 refine bodyPost_ret (results_one rfl rfl (load_var HX.out.1 Tryz.underlying53 rfl size53)) rfl ?_;exact⟨rfl,HX.out.2⟩
theorem do_16{B:Nat}{c:Cm}{r:Rest}{cv:Value}{t:Int}{KC:Nat->Nat}{res:Bd × Rs}(hW0:∀ k,KC k≠0->k<w.heap.size)(hkd:c.kind=16)(ht:At t)(hcall:∀ X,Below w.heap.size w X->Does X B KC 32 t c r cv res):Does w B KC 13 t c r cv res:=by
 unfold Does at hcall ⊢;obtain⟨W,hW⟩:∃ W,W=(w.alloc (.cells (cmA c r cv) 48)).alloc (.cells zR 53):=⟨_,rfl⟩
 have hb:=bw2 hW;obtain⟨Y5,hY5⟩:∃ Q,w.heap.size=Q:=⟨_,rfl⟩
 obtain⟨Y6,hY6⟩:∃ Q,Y5+1=Q:=⟨_,rfl⟩
 have j5:W.heap[Y5]?=some (.cells (cmA c r cv) 48 (0,0)):=nw21 hW hY5;have j6:W.heap[Y6]?=some (.cells zR 53 (0,0)):=nw22 hW hY5 hY6;have HJ:=lh (And.intro j5 j6);have HN:Hid (w.heap.size=Y5/\Y5+1=Y6):=lh ⟨hY5,hY6⟩;have HW:=lh hW;have HB:=lh hb;obtain⟨V0,V1,V2,V3,V4,V5,V,M,m0,r1,r2,r3,r4,r5,r6,hlk,bV⟩:=do_map W B;have JV5:=(bV.block Y5 (blk_lt j5)).trans j5;have JV6:=lh ((bV.block Y6 (blk_lt j6)).trans j6);have BV:=lh (bgo hb bV);have k0:V.cell? ⟨Y5,0,none⟩=some (.int .i64 c.kind):=cell_blk JV5 0;have hl:(Instr.lookup 89 (.map (some M)) (.int .i64 16) true).run Tryz.prog V=.ok (.tuple #[bmV B 32,.bool true]) V:=by
  have q:=hlk 16 (by unfold I64;omega);exact q
 rw [hkd]at k0;have hld:(Instr.loadAt 48 (.pointer (some ⟨Y5,0,none⟩))).run Tryz.prog V=.ok (.agg (cmA c r cv)) V:=load_row JV5 Tryz.underlying48 rfl size48;have HLD:=lh hld;have hca:=hcall V BV.out;have HW0:=lh hW0;have a0:¬ t<0:=by have:=ht.1;omega
 have a1:¬ 1125899906842624<t:=by have:=ht.2;omega
 clear hW hb hY5 hY6 j5 j6 hlk hcall hW0 hkd ht hld JV5 bV;obtain⟨cs,hcs⟩:∃ cs,cmA c r cv=cs:=⟨_,rfl⟩
 rw [hcs]at HW HJ HLD hca ⊢;clear hcs;go_enter Tryz.func13,Tryz.ntmps13;go_upto_region 1 with fail
 rw [<-HW.out,HN.out.1,HN.out.2];go_wp2_with (first|(refine wpl_load _ rfl (by simp [Act.eval]) HLD.out ?_)| fail)
 refine hca.mono ?_;rintro e w2 ⟨rfl,hw2⟩;have j2:w2.heap[Y6]?=some (.cells zR 53 (0,0)):=by
  obtain⟨W',_,hf,_⟩:=hw2;refine(hf.block Y6 (blk_lt JV6.out) fun q=>?_).trans JV6.out;have h0:=HW0.out Y6 (by rw [show KC Y6=1 from q];decide);have h1:=HN.out;omega
 obtain⟨X',hst,j',f'⟩:=st_row j2 (us:=rsA res.2) rfl size53 (by simp [Value.oneCell']);have HS:=lh hst;have HX:=lh (And.intro j' (Went.lift BV.out HW0.out hw2 f' (show w.heap.size<=Y6 by have h1:=HN.out;omega) (blk_lt JV6.out)));clear hst j' f' hca j2 hw2;go_wp2_with (refine wpl_store _ _ rfl (by simp [Act.eval]) (by simp [Act.eval]) HS.out ?_)
 refine bodyPost_ret (results_one rfl rfl (load_var HX.out.1 Tryz.underlying53 rfl size53)) rfl ?_;exact⟨rfl,HX.out.2⟩
theorem doF_none{B:Nat}{k:Int}(h:k<11\/16<k):doF B k=none:=by
 unfold doF;rw [if_neg (by omega),if_neg (by omega),if_neg (by omega),if_neg (by omega),if_neg (by omega),if_neg (by omega)]
theorem doF_some{B:Nat}{k:Int}(h:¬ (k<11\/16<k)):(doF B k).isSome=true:=by
 unfold doF
 repeat' split
 all_goals first | rfl | omega
theorem do_does{B n:Nat}{W:Nat->Nat}{b:Bd}{c:Cm}{r:Rest}{cv:Value}{t:Int}(hx:Bo w B W b)(hk:Fit n b)(hn:n<=100000)(hkk:I64 c.kind)(hc:Reads (fun k=>W k=1) w fun V=>Lr colE 7 V c.ddl.cols cv)(hz:c.ddl.cols.length<=1000000)(htd:TdOk c.asker):Does w B W 13 t c r cv (b.act t c):=by
 have hW0:∀ k,W k≠0->k<w.heap.size:=fun k h=>hx.lt h;have no:∀ (e:Ending) (w':World),AdvNo w 1 e w'->e=.returned (.agg (rsA (b,rsE 1).2))/\Went w B W (b,rsE 1).1 w':=fun e w' h=>⟨h.1,Went.same hx h.2⟩
 unfold Bd.act;by_cases hb:(c.kind<11\/16<c.kind)\/t<0\/1125899906842624<t
 ·rw [if_pos hb];by_cases h1:c.kind<11\/16<c.kind
  ·exact(do_kind hkk (doF_none h1)).mono no
  ·rcases hb with q | q | q
   ·exact absurd q h1
   ·exact(do_lo hkk (doF_some h1) q).mono no
   ·exact(do_hi hkk (doF_some h1) q).mono no
 rw [if_neg hb];have ht:At t:=⟨by omega,by omega⟩
 have hcX:∀ X,Below w.heap.size w X->Reads (fun k=>W k=1) X fun V=>Lr colE 7 V c.ddl.cols cv:=fun X hX=>hc.below hX;by_cases h1:c.kind=11
 ·rw [if_pos h1];exact do_11 hW0 h1 ht fun X hX=>grant_does (hx.on hX) hk hn ht
 rw [if_neg h1];by_cases h2:c.kind=12
 ·rw [if_pos h2];exact do_12 hW0 h2 ht fun X hX=>submit_does (hx.on hX) hk hn (hcX X hX) hz htd
 rw [if_neg h2];by_cases h3:c.kind=13
 ·rw [if_pos h3];exact do_13 hW0 h3 ht fun X hX=>drain_does (hx.on hX) hk.ok
 rw [if_neg h3];by_cases h4:c.kind=14
 ·rw [if_pos h4];exact do_14 hW0 h4 ht fun X hX=>go_does (hx.on hX) hk ht
 rw [if_neg h4];by_cases h5:c.kind=15
 ·rw [if_pos h5];exact do_15 hW0 h5 ht fun X hX=>mark_does (hx.on hX) hk.ok
 rw [if_neg h5];exact do_16 hW0 (by omega) ht fun X hX=>fail_does (hx.on hX) hk.ok
end
end Go.Proofs.YtkhehikaemdnnaaGreat
