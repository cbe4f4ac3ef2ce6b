import Derived.Test.YtkhehikaemdnnaaGreatQBt
namespace Go.Proofs.YtkhehikaemdnnaaGreat
set_option maxRecDepth 100000
set_option maxHeartbeats 2000000
open Go.RowKit Go.Maps
theorem goes162:Goes 162:=fun X a=>by go_simp
theorem results_two{fn:Func}{t u:Tmp}{ty:TypeId}{ad:Addr}{v x:Value}{tmps:Array Value}{w:World}(h:fn.results=#[.cell t ty,.tmp u])(ha:tmps.getD t undef=.pointer (some ad))(hu:tmps.getD u undef=x)(hl:(loadVar ty ad).run Tryz.prog w=.ok v w):(results fn tmps).run Tryz.prog w=.ok (.tuple #[v,x]) w:=by
 have ha2:tmps[t]?.getD undef=.pointer (some ad):=by simpa using ha
 have hu2:tmps[u]?.getD undef=x:=by simpa using hu
 simp [results,h,ha2,hu2,asAddr,hl]
structure GW (W:World) (A Y:Nat) (oldA newA:Array Value) (eT:TypeId) (z r:Array Value) (b1 b2:Bool) (X:World):Prop where
 fr:Fr W X (fun k=>k=A\/k=Y)
 a:X.heap[A]?=some (.cells (bif b1 then newA else oldA) 30 (0,0))
 y:X.heap[Y]?=some (.cells (bif b2 then r else z) eT (0,0))
section
variable {W X : World} {A Y : Nat} {oldA newA z r : Array Value} {eT : TypeId} {b1 b2 : Bool}
theorem GW.cell(h:GW W A Y oldA newA eT z r b1 b2 X){B i:Nat}{v:Value}(hA:B≠A)(hY:B≠Y)(c:W.cell? ⟨B,i,none⟩=some v):X.cell? ⟨B,i,none⟩=some v:=by
 have hl:B<W.heap.size:=pt_lt c;unfold World.cell? at c ⊢;rw [h.fr.block B hl (fun q=>by rcases q with q | q;exact hA q;exact hY q)];exact c
theorem GW.gave{b1:Bool}{v:Value}(h:GW W A Y oldA newA eT z r b1 b2 X)(hn:b1=false)(hne:A≠Y)(hs:oldA.setIfInBounds 1 v=newA):GW W A Y oldA newA eT z r true b2 (X.setCell ⟨A,1,none⟩ v):=by
 subst hn;refine⟨Fr.set (S:=fun k=>k=A\/k=Y) (a:=⟨A,1,none⟩) h.fr (.inl (.inl rfl)) v,?_,?_⟩
 ·rw [set_blk h.a];rw [show(bif true then newA else oldA)=newA from rfl,show(bif false then newA else oldA)=oldA from rfl,hs]
 ·rw [set_other (a:=⟨A,1,none⟩) v (fun q=>hne q.symm)];exact h.y
theorem GW.stored{b2:Bool}(h:GW W A Y oldA newA eT z r b1 b2 X)(hn:b2=false)(hne:A≠Y)(hs:r.size=z.size)(hi:(Tryz.prog.info? eT).map (·.size)=some r.size)(h1:r.all (·.oneCell')=true):∃ X',(Instr.storeAt eT (.pointer (some ⟨Y,0,none⟩)) (.agg r)).run Tryz.prog X=.ok () X'/\GW W A Y oldA newA eT z r b1 true X':=by
 subst hn;have hy:X.heap[Y]?=some (.cells z eT (0,0)):=h.y;obtain⟨X',e,j,f⟩:=sets_row hy r hs;refine⟨X',by rw [e];exact store_row hy hs hi h1,h.fr.trans (f.mono (fun k hk=>.inr hk)),?_,j⟩;rw [f.block A (blk_lt h.a) hne];exact h.a
end
def NewAns{α:Type}(V:α->Array Value)(w:World)(A:Nat)(s:Sc)(tv:Value)(res:Except Int α)(e:Ending)(w':World):Prop:=match res with
 | .error er=>∃ z,e=.returned (.tuple #[.agg (V z),.int .i64 er])/\er≠0/\Below w.heap.size w w'
 | .ok x=>e=.returned (.tuple #[.agg (V x),.int .i64 0])/\Fr w w' (fun k=>k=A)/\w'.heap[A]?=some (.cells (scA { s with last:=s.last+1 } tv) 30 (0,0))
def zC:Col:=⟨0,⟨#[]⟩,0,0,⟨0,0,⟨#[]⟩⟩⟩
def zI:Ix:=⟨0,⟨#[]⟩,0,false,0⟩
def zK:Fk:=⟨0,⟨#[]⟩,0,0,0⟩
section
variable {w : World}
theorem op_b56_new{ρ:Operand->Value}{X:World}{d:Option Tmp}{ty:TypeId}{ps:String}{af:Array Edge}{g:Option (Nat × Bool)}{x y z u:Operand}{a c:Int}{b:ByteArray}{v:Vl}(e0:ρ x=.int .i64 a)(e1:ρ y=.string b)(e2:ρ z=.int .i64 c)(e4:ρ u=vlV v):(execOp ρ ⟨d,.build 56 #[(0,x),(1,y),(2,z),(4,u)],ty,ps,af,g⟩).run Tryz.prog X=.ok (.value (.agg #[.int .i64 a,.string b,.int .i64 c,.int .i64 0,.int .i64 v.k,.int .i64 v.n,.string v.s])) X:=by
 simp only [execOp];simp [e0,e1,e2,e4]
 go_simp
theorem newC_any{A:Nat}{s:Sc}{tv:Value}{d:Dd}{da:Option Addr}{dn dc:Nat}(hA:w.heap[A]?=some (.cells (scA s tv) 30 (0,0)))(hl:farB s.last=true):Calls Tryz.prog 120 #[.pointer (some ⟨A,0,none⟩),.agg (dqA d (.slice da dn dc))] w (NewAns colA w A s tv (newC s d)):=by
 obtain⟨W,hW⟩:∃ W,W=(w.alloc (.cells (dqA d (.slice da dn dc)) 45)).alloc (.cells #[.int .i64 0,.string ⟨#[]⟩,.int .i64 0,.int .i64 0,.int .i64 0,.int .i64 0,.string ⟨#[]⟩] 56):=⟨_,rfl⟩
 have hbW:=bw2 hW;obtain⟨Y0,hY0⟩:∃ Y0,w.heap.size=Y0:=⟨_,rfl⟩
 obtain⟨Y1,hY1⟩:∃ Y1,Y0+1=Y1:=⟨_,rfl⟩
 have jY0:W.heap[Y0]?=some (.cells (dqA d (.slice da dn dc)) 45 (0,0)):=nw21 hW hY0;have jY1:W.heap[Y1]?=some (.cells #[.int .i64 0,.string ⟨#[]⟩,.int .i64 0,.int .i64 0,.int .i64 0,.int .i64 0,.string ⟨#[]⟩] 56 (0,0)):=nw22 hW hY0 hY1;have HLA:=lh hl;have hlt:=blk_lt hA;have D:Hid (W.cell? ⟨Y0,3,none⟩=some (.string d.column)/\W.cell? ⟨Y0,6,none⟩=some (.int .i64 d.ty)/\∀ j u,(vlL d.df)[j]?=some u->W.cell? ⟨Y0,7+j,none⟩=some u):=by
  refine⟨cell_blk jY0 3,cell_blk jY0 6,fun j u hu=>?_⟩;rw [cell_blk jY0]
  match j,hu with
  | 0,hu=>exact hu
  | 1,hu=>exact hu
  | 2,hu=>exact hu
 have d6:W.cell? ⟨Y0,6,none⟩=some (.int .i64 d.ty):=cell_blk jY0 6;have d7:W.cell? ⟨Y0,7,none⟩=some (.int .i64 d.df.k):=cell_blk jY0 7;have d8:W.cell? ⟨Y0,7+1,none⟩=some (.int .i64 d.df.n):=cell_blk jY0 8;have d9:W.cell? ⟨Y0,7+2,none⟩=some (.string d.df.s):=cell_blk jY0 9;have JA:Hid (W.heap[A]?=some (.cells (scA s tv) 30 (0,0))):=(hbW.block A hlt).trans hA;have J1:=lh jY1;have NE:Hid (Y0≠A/\Y0≠Y1/\A≠Y1):=lh ⟨by omega,by omega,by omega⟩;have hgeY:w.heap.size<=Y1:=by omega
 have HFRW:Hid (∀ U X,Below W.heap.size W U->Fr U X (fun k=>k=A\/k=Y1)->Fr w X (fun k=>k=A)):=fun U X hU q=>Fr.step (S:=fun k=>k=A) (Fr.ofBelow _ (bgo hbW hU)) q (fun k hk=>by rcases hk with rfl | rfl;exact .inl rfl;exact .inr hgeY);have hk:=kind_any (w:=W) d.ty;have hf:=fit_any (w:=W) d.df d.ty;have HN:Hid (newC s d=if kindB d.ty && fitB d.df d.ty then .ok ⟨s.last+1,d.column,d.ty,0,d.df⟩ else .error 154):=lh rfl;have HBW':=lh hbW;have HST:Hid (∀ X,Below W.heap.size W X->∃ X',(Instr.storeAt 56 (.pointer (some ⟨Y1,0,none⟩)) (.agg #[.int .i64 0,.string ⟨#[]⟩,.int .i64 0,.int .i64 0,.int .i64 0,.int .i64 0,.string ⟨#[]⟩])).run Tryz.prog X=.ok () X'/\X'.heap[Y1]?=some (.cells #[.int .i64 0,.string ⟨#[]⟩,.int .i64 0,.int .i64 0,.int .i64 0,.int .i64 0,.string ⟨#[]⟩] 56 (0,0))/\Below w.heap.size w X'):=fun X hX=>by
  have j:=(hX.block Y1 (blk_lt jY1)).trans jY1;obtain⟨X',e,j',f⟩:=sets_row j #[.int .i64 0,.string ⟨#[]⟩,.int .i64 0,.int .i64 0,.int .i64 0,.int .i64 0,.string ⟨#[]⟩] rfl;exact⟨X',by rw [e];exact store_row j rfl size56 (by simp [Value.oneCell']),j',(bgo hbW hX).trans (f.toBelow (fun k hk q=>by rw [q]at hk;omega) (bgo hbW hX).size)⟩
 have HW:=lh hW;have HBW:=lh hbW;have HY0:=lh hY0;have HY1:=lh hY1;clear hW hbW hY0 hY1;clear jY0 jY1 hA hl hlt hgeY;go_enter Tryz.func120,Tryz.ntmps120;go_upto_region 1 with fail
 rw [<-HW.out,HY0.out,HY1.out];cases q1:kindB d.ty with
 | false =>
  rw [q1]at hk;have HR:Hid (newC s d=.error 154):=by rw [HN.out,q1];exact lh rfl
  obtain⟨X',hst,j',hb'⟩:=HST.out W (Below.refl _ _);have HX:=lh (And.intro j' hb');clear q1 hf j' hb';go_wp2_with (first|(go_at_call 145;refine hk.mono ?_;rintro e w1 ⟨rfl,rfl⟩)|(refine wpl_store _ _ rfl (by simp [Act.eval]) (by simp [Act.eval]) hst ?_))
  refine bodyPost_ret (results_two rfl rfl rfl (load_var HX.out.1 Tryz.underlying56 rfl size56)) rfl ?_;rw [HR.out];exact⟨zC,rfl,by decide,HX.out.2⟩
 | true =>
  rw [q1]at hk;cases q2:fitB d.df d.ty with
  | false =>
   rw [q2]at hf;have HR:Hid (newC s d=.error 154):=by rw [HN.out,q1,q2];exact lh rfl
   clear q1 q2;go_upto_region 2 with (first|(go_at_call 145;refine hk.mono ?_;rintro e w1 ⟨rfl,rfl⟩)|(go_at_call 146;refine hf.mono ?_;rintro e w2 ⟨rfl,b2⟩;refine Hid.out ?_))
   refine lh ?_;obtain⟨X',hst,j',hb'⟩:=HST.out w2 b2;have HX:=lh (And.intro j' hb');clear j' hb' b2 hk hf;go_wp2_with (refine wpl_store _ _ rfl (by simp [Act.eval]) (by simp [Act.eval]) hst ?_)
   refine bodyPost_ret (results_two rfl rfl rfl (load_var HX.out.1 Tryz.underlying56 rfl size56)) rfl ?_;rw [HR.out];exact⟨zC,rfl,by decide,HX.out.2⟩
  | true =>
   rw [q2]at hf;have HR:Hid (newC s d=.ok ⟨s.last+1,d.column,d.ty,0,d.df⟩):=by rw [HN.out,q1,q2];exact lh rfl
   have HEND0:Hid (∀ U X9,Below W.heap.size W U->GW U A Y1 (scA s tv) (scA { s with last:=s.last+1 } tv) 56 #[.int .i64 0,.string ⟨#[]⟩,.int .i64 0,.int .i64 0,.int .i64 0,.int .i64 0,.string ⟨#[]⟩] #[.int .i64 (s.last+1),.string d.column,.int .i64 d.ty,.int .i64 0,.int .i64 d.df.k,.int .i64 d.df.n,.string d.df.s] true true X9->NewAns colA w A s tv (newC s d) (.returned (.tuple #[.agg #[.int .i64 (s.last+1),.string d.column,.int .i64 d.ty,.int .i64 0,.int .i64 d.df.k,.int .i64 d.df.n,.string d.df.s],.int .i64 0])) X9):=fun U X9 hU hG=>by
    rw [HR.out];exact⟨rfl,HFRW.out U X9 hU hG.fr,hG.a⟩
   clear q1 q2;go_wp2_with (first|(go_at_call 145;refine hk.mono ?_;rintro e w1 ⟨rfl,rfl⟩)|(go_at_call 146;refine hf.mono ?_;rintro e U ⟨rfl,b2⟩;refine Hid.out ?_))
   refine lh ?_;have HEND:=lh (fun X9=>HEND0.out U X9 b2);have JA':Hid (U.heap[A]?=some (.cells (scA s tv) 30 (0,0))):=(b2.block A (blk_lt JA.out)).trans JA.out;have J1':Hid (U.heap[Y1]?=some (.cells #[.int .i64 0,.string ⟨#[]⟩,.int .i64 0,.int .i64 0,.int .i64 0,.int .i64 0,.string ⟨#[]⟩] 56 (0,0))):=(b2.block Y1 (blk_lt J1.out)).trans J1.out;have D':Hid (U.cell? ⟨Y0,3,none⟩=some (.string d.column)/\U.cell? ⟨Y0,6,none⟩=some (.int .i64 d.ty)/\∀ j u,(vlL d.df)[j]?=some u->U.cell? ⟨Y0,7+j,none⟩=some u):=⟨cell_on b2 D.out.1,cell_on b2 D.out.2.1,fun j u hu=>cell_on b2 (D.out.2.2 j u hu)⟩
   clear b2 hk hf d6 d7 d8 d9;go_upto_region 3 with fail
   refine wp_region_fl (fun fl X9=>GW U A Y1 (scA s tv) (scA { s with last:=s.last+1 } tv) 56 #[.int .i64 0,.string ⟨#[]⟩,.int .i64 0,.int .i64 0,.int .i64 0,.int .i64 0,.string ⟨#[]⟩] #[.int .i64 (s.last+1),.string d.column,.int .i64 d.ty,.int .i64 0,.int .i64 d.df.k,.int .i64 d.df.n,.string d.df.s] (fl 1) (fl 9) X9) (fun _ _=>True) [
    fun v9 _=>v9=.pointer (some ⟨A,0,none⟩),fun v9 _=>v9=.int .i64 (s.last+1),fun v9 _=>v9=.pointer (some ⟨Y0,3,none⟩),fun v9 _=>v9=.string d.column,fun v9 _=>v9=.pointer (some ⟨Y0,6,none⟩),fun v9 _=>v9=.int .i64 d.ty,fun v9 _=>v9=.pointer (some ⟨Y0,7,none⟩),fun v9 _=>v9=vlV d.df,fun v9 _=>v9=.agg #[.int .i64 (s.last+1),.string d.column,.int .i64 d.ty,.int .i64 0,.int .i64 d.df.k,.int .i64 d.df.n,.string d.df.s],fun _ _=>True,fun v9 _=>v9=.int .i64 0]
    (by kernel_rfl) (by kernel_rfl) (by kernel_rfl) ?st ?g0 ?os ?en
   case st=>
    iterate 11 refine⟨fun _ _ _ _ h=>h,?_⟩
    exact trivial
   case g0=>exact⟨⟨rfl,rfl,rfl,Nat.le_refl _,fun _ _ _=>rfl⟩,JA'.out,J1'.out⟩
   case os =>
    refine⟨?_,?_,?_,?_,?_,?_,?_,?_,?_,?_,?_,trivial⟩
    ·exact fun ρ _ _ hg _ _ _ ho _ _ _=>rv (op_move (show ρ (.tmp 0)=.pointer (some ⟨A,0,none⟩)from ho 0 rfl)) ⟨hg,trivial,rfl⟩
    ·refine fun ρ X9 fl hg hn hl hp ho hc hf hr=>.inl ⟨rfl,?_⟩;refine Runs.goes 162 #[.pointer (some ⟨A,0,none⟩)] (op_call1 hf (goes162 _ _) (show ρ (.tmp 19)=.pointer (some ⟨A,0,none⟩)from hr 0 19 rfl rfl)) ((give_any (s:=s) (tv:=tv) (by have q:=hg.a;rw [hn]at q;exact q) HLA.out).mono ?_);rintro e7 w7 ⟨rfl,rfl⟩;exact⟨_,rfl,hg.gave hn NE.out.2.2 rfl,trivial,rfl⟩
    ·exact fun ρ _ _ hg _ _ _ ho _ _ _=>rv (op_f45_3 (show ρ (.tmp 3)=.pointer (some ⟨Y0,0,none⟩)from ho 3 rfl)) ⟨hg,trivial,rfl⟩
    ·exact fun ρ _ _ hg _ _ _ _ _ _ hr=>rv (op_load9 (show ρ (.tmp 21)=.pointer (some ⟨Y0,3,none⟩)from hr 2 21 rfl rfl) (hg.cell NE.out.1 NE.out.2.1 D'.out.1)) ⟨hg,trivial,rfl⟩
    ·exact fun ρ _ _ hg _ _ _ ho _ _ _=>rv (op_f45_6 (show ρ (.tmp 3)=.pointer (some ⟨Y0,0,none⟩)from ho 3 rfl)) ⟨hg,trivial,rfl⟩
    ·exact fun ρ _ _ hg _ _ _ _ _ _ hr=>rv (op_load3 (show ρ (.tmp 23)=.pointer (some ⟨Y0,6,none⟩)from hr 4 23 rfl rfl) (hg.cell NE.out.1 NE.out.2.1 D'.out.2.1)) ⟨hg,trivial,rfl⟩
    ·exact fun ρ _ _ hg _ _ _ ho _ _ _=>rv (op_f45_7 (show ρ (.tmp 3)=.pointer (some ⟨Y0,0,none⟩)from ho 3 rfl)) ⟨hg,trivial,rfl⟩
    ·exact fun ρ X9 _ hg _ _ _ _ _ _ hr=>rv (op_loadAt (show ρ (.tmp 25)=.pointer (some ⟨Y0,7,none⟩)from hr 6 25 rfl rfl) (run_loadAt_mid (P:=Tryz.prog) X9 Y0 7 42 (vlL d.df) _ (fun j u hu=>hg.cell NE.out.1 NE.out.2.1 (D'.out.2.2 j u hu)) Tryz.underlying42 rfl size42)) ⟨hg,trivial,rfl⟩
    ·exact fun ρ _ _ hg _ _ _ _ _ _ hr=>rv (op_b56_new (show ρ (.tmp 20)=.int .i64 (s.last+1)from hr 1 20 rfl rfl) (show ρ (.tmp 22)=.string d.column from hr 3 22 rfl rfl) (show ρ (.tmp 24)=.int .i64 d.ty from hr 5 24 rfl rfl) (show ρ (.tmp 26)=vlV d.df from hr 7 26 rfl rfl)) ⟨hg,trivial,rfl⟩
    ·refine fun ρ X9 fl hg hn hl hp ho hc hf hr=>.inl ⟨rfl,?_⟩;obtain⟨X',hst,hG'⟩:=hg.stored hn NE.out.2.2 rfl size56 (by simp [Value.oneCell']);exact Runs.skips (op_storeAt (show ρ (.tmp 4)=.pointer (some ⟨Y1,0,none⟩)from ho 4 rfl) (show ρ (.tmp 27)=.agg #[.int .i64 (s.last+1),.string d.column,.int .i64 d.ty,.int .i64 0,.int .i64 d.df.k,.int .i64 d.df.n,.string d.df.s]from hr 8 27 rfl rfl) hst) ⟨hG',trivial,trivial⟩
    ·exact fun _ _ _ hg _ _ _ _ hc _ _=>rv (op_assign (hc _)) ⟨hg,trivial,rfl⟩
   case en =>
    intro a X9 fl hfl hG hs hd ho hr;rw [hfl 1 (by decide),hfl 9 (by decide)]at hG;obtain⟨x,hx,hxt⟩:=act_put hs hd ho;have x5:x 5=.int .i64 0:=(hxt 5).symm.trans (hr 10 5 rfl);change a=putAll _ x [19,20,21,22,23,24,25,26,27,5]at hx;simp only [putAll,Act.put,List.setIfInBounds_toArray,List.set_cons_zero,List.set_cons_succ,x5]at hx;have HG:=lh hG;clear hG hs hd ho hr hxt x5;subst hx;go_wp2;refine bodyPost_ret (results_two rfl rfl rfl (load_var HG.out.y Tryz.underlying56 rfl size56)) rfl ?_;exact HEND.out X9 HG.out
end
end Go.Proofs.YtkhehikaemdnnaaGreat
namespace Go.Proofs.YtkhehikaemdnnaaGreat
set_option maxRecDepth 100000
set_option maxHeartbeats 2000000
open Go.RowKit Go.Maps
theorem goes97:Goes 97:=fun X a=>by go_simp
section
variable {ρ : Operand -> Value} {X : World} {d : Option Tmp} {ty : TypeId} {ps : String} {af : Array Edge} {g : Option (Nat × Bool)}
theorem op_b138_new{x y z u:Operand}{a c:Int}{b:ByteArray}{v:Bool}(e0:ρ x=.int .i64 a)(e1:ρ y=.string b)(e2:ρ z=.int .i64 c)(e4:ρ u=.bool v):(execOp ρ ⟨d,.build 138 #[(0,x),(1,y),(2,z),(3,u)],ty,ps,af,g⟩).run Tryz.prog X=.ok (.value (.agg #[.int .i64 a,.string b,.int .i64 c,.bool v,.int .i64 0])) X:=by
 simp only [execOp];simp [e0,e1,e2,e4]
 go_simp
theorem op_b141_new{x y z u:Operand}{a c v:Int}{b:ByteArray}(e0:ρ x=.int .i64 a)(e1:ρ y=.string b)(e2:ρ z=.int .i64 c)(e4:ρ u=.int .i64 v):(execOp ρ ⟨d,.build 141 #[(0,x),(1,y),(2,z),(3,u)],ty,ps,af,g⟩).run Tryz.prog X=.ok (.value (.agg #[.int .i64 a,.string b,.int .i64 c,.int .i64 v,.int .i64 0])) X:=by
 simp only [execOp];simp [e0,e1,e2,e4]
 go_simp
end
section
variable {w : World}
def Off(w:World)(B q A:Nat):Prop:=B≠A/\∀ b p n cc,w.cell? ⟨B,q+2,none⟩=some (.slice (some ⟨b,p,none⟩) n cc)->b≠A
theorem newI_any{A B q:Nat}{s:Sc}{t:Tb}{tv:Value}{d:Dd}{da:Option Addr}{dn dc:Nat}(hA:w.heap[A]?=some (.cells (scA s tv) 30 (0,0)))(hl:farB s.last=true)(hT:Pt tbE w B q t)(hO:Off w B q A):Calls Tryz.prog 124 #[.pointer (some ⟨A,0,none⟩),.pointer (some ⟨B,q,none⟩),.agg (dqA d (.slice da dn dc))] w (NewAns ixA w A s tv (newI s t d)):=by
 obtain⟨W,hW⟩:∃ W,W=(w.alloc (.cells (dqA d (.slice da dn dc)) 45)).alloc (.cells #[.int .i64 0,.string ⟨#[]⟩,.int .i64 0,.bool false,.int .i64 0] 138):=⟨_,rfl⟩
 have hbW:=bw2 hW;obtain⟨Y0,hY0⟩:∃ Y0,w.heap.size=Y0:=⟨_,rfl⟩
 obtain⟨Y1,hY1⟩:∃ Y1,Y0+1=Y1:=⟨_,rfl⟩
 have jY0:W.heap[Y0]?=some (.cells (dqA d (.slice da dn dc)) 45 (0,0)):=nw21 hW hY0;have jY1:W.heap[Y1]?=some (.cells #[.int .i64 0,.string ⟨#[]⟩,.int .i64 0,.bool false,.int .i64 0] 138 (0,0)):=nw22 hW hY0 hY1;have HLA:=lh hl;have hlt:=blk_lt hA;have hcall:=pubC_any (w:=W) d.column (hT.on tbE_held hbW);have d3:W.cell? ⟨Y0,3,none⟩=some (.string d.column):=cell_blk jY0 3;have D:Hid (W.cell? ⟨Y0,2,none⟩=some (.string d.name)/\W.cell? ⟨Y0,5,none⟩=some (.bool d.uq)):=⟨cell_blk jY0 2,cell_blk jY0 5⟩
 have JA:Hid (W.heap[A]?=some (.cells (scA s tv) 30 (0,0))):=(hbW.block A hlt).trans hA;have J1:=lh jY1;have NE:Hid (Y0≠A/\Y0≠Y1/\A≠Y1):=lh ⟨by omega,by omega,by omega⟩;have hgeY:w.heap.size<=Y1:=by omega
 have GEY:=lh hgeY;have HFRW:Hid (∀ U X,Below W.heap.size W U->Fr U X (fun k=>k=A\/k=Y1)->Fr w X (fun k=>k=A)):=fun U X hU q=>Fr.step (S:=fun k=>k=A) (Fr.ofBelow _ (bgo hbW hU)) q (fun k hk=>by rcases hk with rfl | rfl;exact .inl rfl;exact .inr hgeY);have HN:Hid (newI s t d=match pubC t d.column with | none=>.error 151 | some c=>.ok ⟨s.last+1,d.name,c.id,d.uq,0⟩):=lh rfl;have HP:=lh (find_fidx (fun c:Col=>decide (c.nm=d.column) && decide (c.st=3)) t.cols);have HT:=lh hT;have HO:=lh hO;have HST:Hid (∀ X,Below W.heap.size W X->∃ X',(Instr.storeAt 138 (.pointer (some ⟨Y1,0,none⟩)) (.agg #[.int .i64 0,.string ⟨#[]⟩,.int .i64 0,.bool false,.int .i64 0])).run Tryz.prog X=.ok () X'/\X'.heap[Y1]?=some (.cells #[.int .i64 0,.string ⟨#[]⟩,.int .i64 0,.bool false,.int .i64 0] 138 (0,0))/\Below w.heap.size w X'):=fun X hX=>by
  have j:=(hX.block Y1 (blk_lt jY1)).trans jY1;obtain⟨X',e,j',f⟩:=sets_row j #[.int .i64 0,.string ⟨#[]⟩,.int .i64 0,.bool false,.int .i64 0] rfl;exact⟨X',by rw [e];exact store_row j rfl size138 (by simp [Value.oneCell']),j',(bgo hbW hX).trans (f.toBelow (fun k hk q=>by rw [q]at hk;omega) (bgo hbW hX).size)⟩
 obtain⟨fi,hfi⟩:∃ fi,fidx (fun c:Col=>decide (c.nm=d.column) && decide (c.st=3)) t.cols=fi:=⟨_,rfl⟩
 rw [hfi]at hcall HP;have HW:=lh hW;have HBW:=lh hbW;have HY0:=lh hY0;have HY1:=lh hY1;clear hW hbW hY0 hY1;clear jY0 jY1 hA hl hlt hgeY hT hO hfi;go_enter Tryz.func124,Tryz.ntmps124;go_upto_region 1 with fail
 rw [<-HW.out,HY0.out,HY1.out];go_upto_region 2 with (go_at_call 167;refine hcall.mono ?_;rintro e U ⟨rfl,b2⟩;refine Hid.out ?_)
 refine lh ?_;rcases HP.out with⟨hn,hf⟩ | ⟨i,hi,rfl,hf⟩
 ·have HR:Hid (newI s t d=.error 151):=by rw [HN.out];unfold pubC;rw [hf];exact lh rfl
  obtain⟨X',hst,j',hb'⟩:=HST.out U b2;have HX:=lh (And.intro j' hb');clear hf j' hb' b2 hcall;go_wp2_with (refine wpl_store _ _ rfl (by simp [Act.eval]) (by simp [Act.eval]) hst ?_)
  refine bodyPost_ret (results_two rfl rfl rfl (load_var HX.out.1 Tryz.underlying138 rfl size138)) rfl ?_;rw [HR.out];exact⟨zI,rfl,by decide,HX.out.2⟩
 ·have hn:¬ (i:Int)<0:=by omega
  obtain⟨c,hc⟩:∃ c,t.cols[i]=c:=⟨_,rfl⟩
  rw [hc]at hf;have HR:Hid (newI s t d=.ok ⟨s.last+1,d.name,c.id,d.uq,0⟩):=by rw [HN.out];unfold pubC;rw [hf];exact lh rfl
  have HEND:Hid (∀ X9,GW U A Y1 (scA s tv) (scA { s with last:=s.last+1 } tv) 138 #[.int .i64 0,.string ⟨#[]⟩,.int .i64 0,.bool false,.int .i64 0] #[.int .i64 (s.last+1),.string d.name,.int .i64 c.id,.bool d.uq,.int .i64 0] true true X9->NewAns ixA w A s tv (newI s t d) (.returned (.tuple #[.agg #[.int .i64 (s.last+1),.string d.name,.int .i64 c.id,.bool d.uq,.int .i64 0],.int .i64 0])) X9):=fun X9 hG=>by
   rw [HR.out];exact⟨rfl,HFRW.out U X9 b2 hG.fr,hG.a⟩
  have JA':Hid (U.heap[A]?=some (.cells (scA s tv) 30 (0,0))):=(b2.block A (blk_lt JA.out)).trans JA.out;have J1':Hid (U.heap[Y1]?=some (.cells #[.int .i64 0,.string ⟨#[]⟩,.int .i64 0,.bool false,.int .i64 0] 138 (0,0))):=(b2.block Y1 (blk_lt J1.out)).trans J1.out;have D':Hid (U.cell? ⟨Y0,2,none⟩=some (.string d.name)/\U.cell? ⟨Y0,5,none⟩=some (.bool d.uq)):=⟨cell_on b2 D.out.1,cell_on b2 D.out.2⟩
  have hwU:=bgo HBW.out b2;obtain⟨cs,⟨cv,iv,kv,rfl,h3⟩,hcl⟩:=HT.out;obtain⟨ca,cc,rfl,_,_,_,hX⟩:=h3.c;obtain⟨b,p,cs1,rfl,hbl,hE,_,hcell⟩:=hX i hi;cases hE;rw [hc]at hcell;have e2w:w.cell? ⟨B,q+2,none⟩=some (.slice (some ⟨b,p,none⟩) t.cols.length cc):=hcl 2 _ rfl;have E2:Hid (U.cell? ⟨B,q+2,none⟩=some (.slice (some ⟨b,p,none⟩) t.cols.length cc)/\U.cell? ⟨b,p+i*7,none⟩=some (.int .i64 c.id)):=⟨cell_on hwU e2w,cell_on hwU (hcell 0 _ rfl)⟩
  have NEB:Hid (B≠A/\B≠Y1/\b≠A/\b≠Y1):=by
   have q1:=pt_lt e2w;have q2:=GEY.out;simp only at q1;exact lh ⟨HO.out.1,by omega,HO.out.2 _ _ _ _ e2w,by omega⟩
  have HI:=lh hi;clear b2 hcall hf hc hwU hcl hcell hX h3 hbl e2w d3;go_upto_region 4 with fail
  refine wp_region_fl (fun fl X9=>GW U A Y1 (scA s tv) (scA { s with last:=s.last+1 } tv) 138 #[.int .i64 0,.string ⟨#[]⟩,.int .i64 0,.bool false,.int .i64 0] #[.int .i64 (s.last+1),.string d.name,.int .i64 c.id,.bool d.uq,.int .i64 0] (fl 1) (fl 15) X9) (fun _ _=>True) [
   fun v9 _=>v9=.pointer (some ⟨A,0,none⟩),fun v9 _=>v9=.int .i64 (s.last+1),fun v9 _=>v9=.pointer (some ⟨Y0,2,none⟩),fun v9 _=>v9=.string d.name,fun v9 _=>v9=.pointer (some ⟨B,q,none⟩),fun v9 _=>v9=.pointer (some ⟨B,q,none⟩),fun v9 _=>v9=.pointer (some ⟨B,q+2,none⟩),fun v9 _=>v9=.slice (some ⟨b,p,none⟩) t.cols.length cc,fun v9 _=>v9=.int .i64 (i:Int),fun v9 _=>v9=.pointer (some ⟨b,p+i*7,none⟩),fun v9 _=>v9=.pointer (some ⟨b,p+i*7,none⟩),fun v9 _=>v9=.int .i64 c.id,fun v9 _=>v9=.pointer (some ⟨Y0,5,none⟩),fun v9 _=>v9=.bool d.uq,fun v9 _=>v9=.agg #[.int .i64 (s.last+1),.string d.name,.int .i64 c.id,.bool d.uq,.int .i64 0],fun _ _=>True,fun v9 _=>v9=.int .i64 0]
   (by kernel_rfl) (by kernel_rfl) (by kernel_rfl) ?st ?g0 ?os ?en
  case st=>
   iterate 17 refine⟨fun _ _ _ _ h=>h,?_⟩
   exact trivial
  case g0=>exact⟨⟨rfl,rfl,rfl,Nat.le_refl _,fun _ _ _=>rfl⟩,JA'.out,J1'.out⟩
  case os =>
   refine⟨?_,?_,?_,?_,?_,?_,?_,?_,?_,?_,?_,?_,?_,?_,?_,?_,?_,trivial⟩
   ·exact fun ρ _ _ hg _ _ _ ho _ _ _=>rv (op_move (show ρ (.tmp 0)=.pointer (some ⟨A,0,none⟩)from ho 0 rfl)) ⟨hg,trivial,rfl⟩
   ·refine fun ρ X9 fl hg hn hl hp ho hc hf hr=>.inl ⟨rfl,?_⟩;refine Runs.goes 162 #[.pointer (some ⟨A,0,none⟩)] (op_call1 hf (goes162 _ _) (show ρ (.tmp 16)=.pointer (some ⟨A,0,none⟩)from hr 0 16 rfl rfl)) ((give_any (s:=s) (tv:=tv) (by have q:=hg.a;rw [hn]at q;exact q) HLA.out).mono ?_);rintro e7 w7 ⟨rfl,rfl⟩;exact⟨_,rfl,hg.gave hn NE.out.2.2 rfl,trivial,rfl⟩
   ·exact fun ρ _ _ hg _ _ _ ho _ _ _=>rv (op_f45_2 (show ρ (.tmp 5)=.pointer (some ⟨Y0,0,none⟩)from ho 5 rfl)) ⟨hg,trivial,rfl⟩
   ·exact fun ρ _ _ hg _ _ _ _ _ _ hr=>rv (op_load9 (show ρ (.tmp 18)=.pointer (some ⟨Y0,2,none⟩)from hr 2 18 rfl rfl) (hg.cell NE.out.1 NE.out.2.1 D'.out.1)) ⟨hg,trivial,rfl⟩
   ·exact fun ρ _ _ hg _ _ _ ho _ _ _=>rv (op_move (show ρ (.tmp 1)=.pointer (some ⟨B,q,none⟩)from ho 1 rfl)) ⟨hg,trivial,rfl⟩
   ·exact fun ρ _ _ hg _ _ _ _ _ _ hr=>rv (op_nil (show ρ (.tmp 20)=.pointer (some ⟨B,q,none⟩)from hr 4 20 rfl rfl)) ⟨hg,trivial,rfl⟩
   ·exact fun ρ _ _ hg _ _ _ _ _ _ hr=>rv (op_f64_2 (show ρ (.tmp 21)=.pointer (some ⟨B,q,none⟩)from hr 5 21 rfl rfl)) ⟨hg,trivial,rfl⟩
   ·exact fun ρ _ _ hg _ _ _ _ _ _ hr=>rv (op_load43 (show ρ (.tmp 22)=.pointer (some ⟨B,q+2,none⟩)from hr 6 22 rfl rfl) (hg.cell NEB.out.1 NEB.out.2.1 E2.out.1)) ⟨hg,trivial,rfl⟩
   ·exact fun ρ _ _ hg _ _ _ ho _ _ _=>rv (op_move (show ρ (.tmp 8)=.int .i64 (i:Int)from ho 8 rfl)) ⟨hg,trivial,rfl⟩
   ·exact fun ρ _ _ hg _ _ _ _ _ _ hr=>rv (op_i43 (show ρ (.tmp 23)=.slice (some ⟨b,p,none⟩) t.cols.length cc from hr 7 23 rfl rfl) (show ρ (.tmp 24)=.int .i64 (i:Int)from hr 8 24 rfl rfl) HI.out) ⟨hg,trivial,rfl⟩
   ·exact fun ρ _ _ hg _ _ _ _ _ _ hr=>rv (op_f56_0 (show ρ (.tmp 25)=.pointer (some ⟨b,p+i*7,none⟩)from hr 9 25 rfl rfl)) ⟨hg,trivial,rfl⟩
   ·exact fun ρ _ _ hg _ _ _ _ _ _ hr=>rv (op_load3 (show ρ (.tmp 26)=.pointer (some ⟨b,p+i*7,none⟩)from hr 10 26 rfl rfl) (hg.cell NEB.out.2.2.1 NEB.out.2.2.2 E2.out.2)) ⟨hg,trivial,rfl⟩
   ·exact fun ρ _ _ hg _ _ _ ho _ _ _=>rv (op_f45_5 (show ρ (.tmp 5)=.pointer (some ⟨Y0,0,none⟩)from ho 5 rfl)) ⟨hg,trivial,rfl⟩
   ·exact fun ρ _ _ hg _ _ _ _ _ _ hr=>rv (op_load4 (show ρ (.tmp 28)=.pointer (some ⟨Y0,5,none⟩)from hr 12 28 rfl rfl) (hg.cell NE.out.1 NE.out.2.1 D'.out.2)) ⟨hg,trivial,rfl⟩
   ·exact fun ρ _ _ hg _ _ _ _ _ _ hr=>rv (op_b138_new (show ρ (.tmp 17)=.int .i64 (s.last+1)from hr 1 17 rfl rfl) (show ρ (.tmp 19)=.string d.name from hr 3 19 rfl rfl) (show ρ (.tmp 27)=.int .i64 c.id from hr 11 27 rfl rfl) (show ρ (.tmp 29)=.bool d.uq from hr 13 29 rfl rfl)) ⟨hg,trivial,rfl⟩
   ·refine fun ρ X9 fl hg hn hl hp ho hc hf hr=>.inl ⟨rfl,?_⟩;obtain⟨X',hst,hG'⟩:=hg.stored hn NE.out.2.2 rfl size138 (by simp [Value.oneCell']);exact Runs.skips (op_storeAt (show ρ (.tmp 6)=.pointer (some ⟨Y1,0,none⟩)from ho 6 rfl) (show ρ (.tmp 30)=.agg #[.int .i64 (s.last+1),.string d.name,.int .i64 c.id,.bool d.uq,.int .i64 0]from hr 14 30 rfl rfl) hst) ⟨hG',trivial,trivial⟩
   ·exact fun _ _ _ hg _ _ _ _ hc _ _=>rv (op_assign (hc _)) ⟨hg,trivial,rfl⟩
  case en =>
   intro a X9 fl hfl hG hs hd ho hr;rw [hfl 1 (by decide),hfl 15 (by decide)]at hG;obtain⟨x,hx,hxt⟩:=act_put hs hd ho;have x7:x 7=.int .i64 0:=(hxt 7).symm.trans (hr 16 7 rfl);change a=putAll _ x [16,17,18,19,20,21,22,23,24,25,26,27,28,29,30,7]at hx;simp only [putAll,Act.put,List.setIfInBounds_toArray,List.set_cons_zero,List.set_cons_succ,x7]at hx;have HG:=lh hG;clear hG hs hd ho hr hxt x7;subst hx;go_wp2;refine bodyPost_ret (results_two rfl rfl rfl (load_var HG.out.y Tryz.underlying138 rfl size138)) rfl ?_;exact HEND.out X9 HG.out
end
end Go.Proofs.YtkhehikaemdnnaaGreat
