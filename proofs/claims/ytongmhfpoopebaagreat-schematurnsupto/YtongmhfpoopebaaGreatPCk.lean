import Derived.Test.YtongmhfpoopebaaGreatPCj
namespace Go.Proofs.YtongmhfpoopebaaGreat
open Go.RowKit Go.Maps
theorem changeT_ver {s s':Sc} {d:Dd} {st:Int} {i:Nat} {t:Tb} (h:changeT s d st i t=.ok s'):s'.ver=s.ver+1:=by
 unfold changeT at h
 repeat' split at h
 all_goals first
  | (cases h;rfl)
  | cases h
theorem changeS_ver {s s':Sc} {d:Dd} {st:Int} (h:changeS s d st=.ok s'):s'.ver=s.ver+1:=by
 unfold changeS createS at h
 repeat' split at h
 all_goals first
  | exact changeT_ver h
  | (cases h;rfl)
  | cases h
theorem right_parts {s:Sc} (h:rightS s=true):farB s.ver=true∧farB s.last=true∧s.tabs.length≤6∧∀ t ∈ s.tabs,cntB t=true:=by
 unfold rightS at h
 simp only [Bool.and_eq_true,decide_eq_true_eq,List.all_eq_true] at h
 obtain ⟨⟨⟨⟨⟨⟨⟨h1,h2⟩,h3⟩,h4⟩,_⟩,_⟩,_⟩,_⟩:=h
 refine ⟨h1,h2,h3,fun t ht=>?_⟩
 have:=h4 t ht
 unfold tabB at this
 simp only [Bool.and_eq_true] at this
 exact this.1.1
def TuAns (w:World) (res:Except Int Sc) (e:Ending) (w':World):Prop:=match res with
 | .error er=>e=.returned (.tuple #[.agg #[.int .i64 0,.int .i64 0,.slice none 0 0],.int .i64 er])∧er≠0∧Below w.heap.size w w'
 | .ok s'=>∃ G tv,e=.returned (.tuple #[.agg (scA s' tv),.int .i64 0])∧G.map Prod.fst=s'.tabs∧Dr w' w.heap.size G tv∧Below w.heap.size w w'
section
variable {w : World}
set_option maxHeartbeats 4000000 in
set_option maxRecDepth 100000 in
theorem turn_any {s:Sc} {tv:Value} {d:Dd} {st:Int} {da:Option Addr} {dc:Nat} (hL:Lr tbE 5 w s.tabs tv) (hI:∀ t ∈ s.tabs,∀ i ∈ idsT t,I64 i) (hd:Lr colE 7 w d.cols (.slice da d.cols.length dc)) (hz:d.cols.length≤1000000):Calls Tryz.prog 15 #[scV s tv,.agg #[.int .i64 d.kind,.string d.table,.string d.name,.string d.column,.string d.parent,.bool d.uq,.int .i64 d.ty,.int .i64 d.df.k,.int .i64 d.df.n,.string d.df.s,.slice da d.cols.length dc],.int .i64 st] w (TuAns w (turnS s d st)):=by
 obtain ⟨ta,tc,rfl,hr0⟩:=hL
 have hL:Lr tbE 5 w s.tabs (.slice ta s.tabs.length tc):=⟨ta,tc,rfl,hr0⟩
 obtain ⟨W,hW⟩:∃ W,W=((w.alloc (.cells #[.int .i64 s.ver,.int .i64 s.last,.slice ta s.tabs.length tc] 24)).alloc (.cells #[.int .i64 d.kind,.string d.table,.string d.name,.string d.column,.string d.parent,.bool d.uq,.int .i64 d.ty,.int .i64 d.df.k,.int .i64 d.df.n,.string d.df.s,.slice da d.cols.length dc] 31)).alloc (.cells #[.int .i64 0,.int .i64 0,.slice none 0 0] 24):=⟨_,rfl⟩
 have hbW:Below w.heap.size w W:=by rw [hW];exact (((Below.refl _ w).alloc (Nat.le_refl _) _).alloc (by simp) _).alloc (by simp;omega) _
 obtain ⟨Y0,hY0⟩:∃ Y0,w.heap.size=Y0:=⟨_,rfl⟩
 obtain ⟨Y1,hY1⟩:∃ Y1,Y0+1=Y1:=⟨_,rfl⟩
 obtain ⟨Y2,hY2⟩:∃ Y2,Y1+1=Y2:=⟨_,rfl⟩
 have jY0:W.heap[Y0]?=some (.cells #[.int .i64 s.ver,.int .i64 s.last,.slice ta s.tabs.length tc] 24 (0,0)):=by
  have:=heap_alloc_new w (.cells #[.int .i64 s.ver,.int .i64 s.last,.slice ta s.tabs.length tc] 24)
  rw [hW,←hY0]
  rw [Below.heap_alloc _ _ _ (by simp only [World.size_alloc];omega),Below.heap_alloc _ _ _ (by simp only [World.size_alloc];omega)]
  exact this
 have jY1:W.heap[Y1]?=some (.cells #[.int .i64 d.kind,.string d.table,.string d.name,.string d.column,.string d.parent,.bool d.uq,.int .i64 d.ty,.int .i64 d.df.k,.int .i64 d.df.n,.string d.df.s,.slice da d.cols.length dc] 31 (0,0)):=by
  have:=heap_alloc_new (w.alloc (.cells #[.int .i64 s.ver,.int .i64 s.last,.slice ta s.tabs.length tc] 24)) (.cells #[.int .i64 d.kind,.string d.table,.string d.name,.string d.column,.string d.parent,.bool d.uq,.int .i64 d.ty,.int .i64 d.df.k,.int .i64 d.df.n,.string d.df.s,.slice da d.cols.length dc] 31)
  simp only [World.size_alloc] at this
  rw [hW,←hY1,←hY0]
  rw [Below.heap_alloc _ _ _ (by simp only [World.size_alloc];omega)]
  exact this
 have jY2:W.heap[Y2]?=some (.cells #[.int .i64 0,.int .i64 0,.slice none 0 0] 24 (0,0)):=by
  have:=heap_alloc_new ((w.alloc (.cells #[.int .i64 s.ver,.int .i64 s.last,.slice ta s.tabs.length tc] 24)).alloc (.cells #[.int .i64 d.kind,.string d.table,.string d.name,.string d.column,.string d.parent,.bool d.uq,.int .i64 d.ty,.int .i64 d.df.k,.int .i64 d.df.n,.string d.df.s,.slice da d.cols.length dc] 31)) (.cells #[.int .i64 0,.int .i64 0,.slice none 0 0] 24)
  simp only [World.size_alloc] at this
  rw [hW,←hY2,←hY1,←hY0]
  exact this
 have hge:w.heap.size≤Y2:=by omega
 have HGE:=lh hge
 have HST:Hid (∀ X,Below W.heap.size W X→∃ X',(Instr.storeAt 24 (.pointer (some ⟨Y2,0,none⟩)) (.agg #[.int .i64 0,.int .i64 0,.slice none 0 0])).run Tryz.prog X=.ok () X'∧X'.heap[Y2]?=some (.cells #[.int .i64 0,.int .i64 0,.slice none 0 0] 24 (0,0))∧Below w.heap.size w X'):=fun X hX=>by
  have j:=(hX.block Y2 (blk_lt jY2)).trans jY2
  obtain ⟨X',e,j',f⟩:=sets_row j #[.int .i64 0,.int .i64 0,.slice none 0 0] rfl
  exact ⟨X',by rw [e];exact store_row j rfl size24 (by simp [Value.oneCell']),j',(bgo hbW hX).trans (f.toBelow (fun k hk q=>by rw [q] at hk;omega) (bgo hbW hX).size)⟩
 have hr:=right_sch (hL.on tbE_held hbW) hI
 have d0:W.cell? ⟨Y0,0,none⟩=some (.int .i64 s.ver):=cell_blk jY0 0
 have d1:W.cell? ⟨Y0,1,none⟩=some (.int .i64 s.last):=cell_blk jY0 1
 have d2:W.cell? ⟨Y0,2,none⟩=some (.slice ta s.tabs.length tc):=cell_blk jY0 2
 have HL:=lh (hL.on tbE_held hbW)
 have HD:=lh hd
 have HZ:=lh hz
 have JJ:=lh (And.intro jY0 (And.intro jY1 jY2))
 have HW:=lh hW
 have HBW:=lh hbW
 have HY0:=lh hY0
 have HY1:=lh hY1
 have HY2:=lh hY2
 clear hW hbW hY0 hY1 hY2 jY0 jY1 jY2 hge hL hr0 hI hd hz
 go_enter Tryz.func15,Tryz.ntmps15
 go_upto_region 1 with fail
 rw [←HW.out,HY0.out,HY1.out,HY2.out]
 cases q1:rightS s with
 | false =>
  rw [q1] at hr
  have HR:Hid (turnS s d st=.error 100):=by unfold turnS;rw [if_pos (.inl q1)];exact lh rfl
  clear q1
  go_upto_region 2 with (go_at_call 33;refine hr.mono ?_;rintro e w1 ⟨rfl,b1⟩;refine Hid.out ?_)
  refine lh ?_
  obtain ⟨X',hst,j',hb'⟩:=HST.out w1 b1
  have HX:=lh (And.intro j' hb')
  clear hr j' hb' b1 d0 d1 d2
  go_wp2_with (refine wpl_store _ _ rfl (by simp [Act.eval]) (by simp [Act.eval]) hst ?_)
  refine bodyPost_ret (results_two rfl rfl rfl (load_var HX.out.1 Tryz.underlying24 rfl size24)) rfl ?_
  rw [HR.out]
  exact ⟨rfl,by decide,HX.out.2⟩
 | true =>
  rw [q1] at hr
  have HQ1:=lh q1
  clear q1
  by_cases v1:st<0
  ·have HR:Hid (turnS s d st=.error 100):=by unfold turnS;rw [if_pos (.inr (.inl v1))];exact lh rfl
   have g1:decide (st<0)=true:=decide_eq_true v1
   go_upto_region 2 with (go_at_call 33;refine hr.mono ?_;rintro e w1 ⟨rfl,b1⟩;refine Hid.out ?_)
   refine lh ?_
   obtain ⟨X',hst,j',hb'⟩:=HST.out w1 b1
   have HX:=lh (And.intro j' hb')
   clear hr j' hb' b1 d0 d1 d2
   go_wp2_with (refine wpl_store _ _ rfl (by simp [Act.eval]) (by simp [Act.eval]) hst ?_)
   refine bodyPost_ret (results_two rfl rfl rfl (load_var HX.out.1 Tryz.underlying24 rfl size24)) rfl ?_
   rw [HR.out]
   exact ⟨rfl,by decide,HX.out.2⟩
  by_cases v2:3<st
  ·have HR:Hid (turnS s d st=.error 100):=by unfold turnS;rw [if_pos (.inr (.inr v2))];exact lh rfl
   have g1:decide (st<0)=false:=decide_eq_false v1
   have g2:decide (3<st)=true:=decide_eq_true v2
   go_upto_region 2 with (go_at_call 33;refine hr.mono ?_;rintro e w1 ⟨rfl,b1⟩;refine Hid.out ?_)
   refine lh ?_
   obtain ⟨X',hst,j',hb'⟩:=HST.out w1 b1
   have HX:=lh (And.intro j' hb')
   clear hr j' hb' b1 d0 d1 d2
   go_wp2_with (refine wpl_store _ _ rfl (by simp [Act.eval]) (by simp [Act.eval]) hst ?_)
   refine bodyPost_ret (results_two rfl rfl rfl (load_var HX.out.1 Tryz.underlying24 rfl size24)) rfl ?_
   rw [HR.out]
   exact ⟨rfl,by decide,HX.out.2⟩
  have HR:Hid (turnS s d st=changeS s d st):=by unfold turnS;rw [if_neg (by rw [HQ1.out];simp;omega)];exact lh rfl
  have g1:decide (st<0)=false:=decide_eq_false v1
  have g2:decide (3<st)=false:=decide_eq_false v2
  go_upto_region 3 with (go_at_call 33;refine hr.mono ?_;rintro e U ⟨rfl,b1⟩;refine Hid.out ?_)
  refine lh ?_
  have hcl:=cloneS_any (HL.out.on tbE_held b1) ⟨by have:=(right_parts HQ1.out).2.2.1;omega,fun t ht=>(tab_few ((right_parts HQ1.out).2.2.2 t ht)).1⟩
  have e0:=cell_on b1 d0
  have e1:=cell_on b1 d1
  have e2:=cell_on b1 d2
  have B1:=lh b1
  clear hr b1 d0 d1 d2 g1 g2
  go_upto_region 4 with (go_at_call 34;refine hcl.mono ?_;rintro e U1 ⟨G,tv',rfl,hG,hDr,b2⟩;refine Hid.out ?_)
  refine lh ?_
  obtain ⟨ta',tc',hsh⟩:=own_shape hDr.row
  subst hsh
  obtain ⟨A,hA⟩:∃ A,U1.heap.size=A:=⟨_,rfl⟩
  have jA:=heap_alloc_new U1 (.cells #[.int .i64 0,.int .i64 0,.slice none 0 0] 24)
  have bA:=bnew U1 (.cells #[.int .i64 0,.int .i64 0,.slice none 0 0] 24)
  obtain ⟨V1,eV,jV,fV⟩:=sets_row jA (scA s (.slice ta' G.length tc')) rfl
  have hst:(Instr.storeAt 24 (.pointer (some ⟨U1.heap.size,0,none⟩)) (.agg (scA s (.slice ta' G.length tc')))).run Tryz.prog (U1.alloc (.cells #[.int .i64 0,.int .i64 0,.slice none 0 0] 24))=.ok () V1:=by
   rw [eV]
   exact store_row jA rfl size24 (by simp [Value.oneCell'])
  have b3:Below U1.heap.size U1 V1:=bA.trans (fV.toBelow (fun k hk q=>by omega) bA.size)
  have bUV:Below U.heap.size U V1:=bgo b2 b3
  have bWV:Below W.heap.size W V1:=bgo B1.out bUV
  have bwV:Below w.heap.size w V1:=bgo HBW.out bWV
  have hWU:W.heap.size≤U.heap.size:=B1.out.size
  have hwU:w.heap.size≤U.heap.size:=Nat.le_trans HBW.out.size hWU
  have hUA:U.heap.size≤A:=by rw [←hA];exact b2.size
  rw [hA] at jV
  have DF:Df V1 U.heap.size A s G (.slice ta' G.length tc'):=⟨jV,hDr.below b3,hG,hUA⟩
  have hch:=change_any (st:=st) (da:=da) (dc:=dc) (d:=d) DF (right_parts HQ1.out).2.1 (right_parts HQ1.out).2.2.2 (right_parts HQ1.out).2.2.1 rfl (HD.out.on colE_held bwV) HZ.out (by
   intro b p n cc e hn
   obtain ⟨da',dc',ed,_,q1,q2,hX⟩:=HD.out
   obtain ⟨b',p',cs,eb,hbl,_⟩:=hX 0 (by omega)
   cases ed
   cases e
   cases eb
   omega)
  have hld:=load_row ((bWV.block Y1 (blk_lt JJ.out.2.1)).trans JJ.out.2.1) Tryz.underlying31 rfl size31
  have BWV:=lh bWV
  have HUA:=lh (And.intro hWU (And.intro hwU hUA))
  have HA:=lh hA
  clear hcl e0 e1 e2 jA bA eV jV fV b3 bUV bWV bwV hWU hwU hUA DF hG hDr b2 hA
  go_upto_region 4 with (refine wpl_store _ _ rfl (by simp [Act.eval]) (by simp [Act.eval]) hst ?_)
  rw [HA.out]
  clear hst
  cases qc:changeS s d st with
  | error er =>
   rw [qc] at hch
   have HR2:Hid (turnS s d st=.error er):=lh (HR.out.trans qc)
   clear qc
   go_upto_region 6 with (first | (refine wpl_load _ rfl (by simp [Act.eval,Act.put]) hld ?_) | (go_at_call 35;refine hch.mono ?_;rintro e w3 ⟨rfl,hne,b3⟩;refine Hid.out ?_))
   refine lh ?_
   obtain ⟨X',hst,j',hb'⟩:=HST.out w3 (BWV.out.trans (b3.mono HUA.out.1))
   have HX:=lh (And.intro j' hb')
   have hne':¬ er=0:=hne
   clear hch hld j' hb' b3
   go_wp2_with (refine wpl_store _ _ rfl (by simp [Act.eval]) (by simp [Act.eval]) hst ?_)
   refine bodyPost_ret (results_two rfl rfl rfl (load_var HX.out.1 Tryz.underlying24 rfl size24)) rfl ?_
   rw [HR2.out]
   exact ⟨rfl,hne,HX.out.2⟩
  | ok s' =>
   rw [qc] at hch
   have HR2:Hid (turnS s d st=.ok s'):=lh (HR.out.trans qc)
   have HV:Hid (s'.ver=s.ver+1):=lh (changeS_ver qc)
   clear qc
   go_upto_region 7 with (first | (refine wpl_load _ rfl (by simp [Act.eval,Act.put]) hld ?_) | (go_at_call 35;refine hch.mono ?_;rintro e w3 ⟨rfl,⟨G',tv9,hDf⟩,b3⟩;refine Hid.out ?_))
   refine lh ?_
   obtain ⟨v3,v4⟩:0≤s.ver∧s.ver≤1125899906842624:=by
    have q:=(right_parts HQ1.out).1
    unfold farB at q
    simp only [Bool.and_eq_true,decide_eq_true_eq] at q
    exact q
   obtain ⟨ta9,tc9,hsh⟩:=own_shape hDf.dr.row
   subst hsh
   have u0:w3.cell? ⟨A,0,none⟩=some (.int .i64 s.ver):=cell_blk hDf.ob 0
   have z0:w3.frozen? ⟨A,0,none⟩=false:=frozen_blk hDf.ob 0
   have bW3:Below W.heap.size W w3:=BWV.out.trans (b3.mono HUA.out.1)
   have jY:w3.heap[Y2]?=some (.cells #[.int .i64 0,.int .i64 0,.slice none 0 0] 24 (0,0)):=(bW3.block Y2 (blk_lt JJ.out.2.2)).trans JJ.out.2.2
   have hne:Y2≠A:=by
    have q1:=blk_lt JJ.out.2.2
    have q2:=HUA.out
    omega
   obtain ⟨X1,hX1⟩:∃ X1,X1=w3.setCell ⟨A,0,none⟩ (.int .i64 (s.ver+1)):=⟨_,rfl⟩
   have jA1:X1.heap[A]?=some (.cells (scA s' (.slice ta9 G'.length tc9)) 24 (0,0)):=by
    rw [hX1,set_blk hDf.ob]
    unfold scA
    rw [HV.out]
    rfl
   have jY1':X1.heap[Y2]?=some (.cells #[.int .i64 0,.int .i64 0,.slice none 0 0] 24 (0,0)):=by rw [hX1,set_other _ hne];exact jY
   have hld2:=load_row jA1 Tryz.underlying24 rfl size24
   obtain ⟨X4,e4,j4,f4⟩:=sets_row jY1' (scA s' (.slice ta9 G'.length tc9)) rfl
   have hst:(Instr.storeAt 24 (.pointer (some ⟨Y2,0,none⟩)) (.agg (scA s' (.slice ta9 G'.length tc9)))).run Tryz.prog X1=.ok () X4:=by
    rw [e4]
    exact store_row jY1' rfl size24 (by simp [Value.oneCell'])
   have f3:Fr w3 X4 (fun k=>k=A∨k=Y2):=by
    refine Fr.trans ?_ (f4.mono (fun k hk=>.inr hk))
    rw [hX1]
    exact Fr.set (S:=fun k=>k=A∨k=Y2) (a:=⟨A,0,none⟩) (Fr.refl _ _) (.inl (.inl rfl)) _
   have HE:Hid (Dr X4 w.heap.size G' (.slice ta9 G'.length tc9)∧Below w.heap.size w X4):=by
    refine ⟨(hDf.dr.keep f3 (fun k hk=>.inr (fun cs e q=>?_))).mono HUA.out.2.1,(bgo HBW.out bW3).trans (f3.toBelow (fun k hk q=>?_) (bgo HBW.out bW3).size)⟩
    ·rcases hk with rfl | rfl
     ·rw [hDf.ob] at q
      simp only [Option.some.injEq,Obj.cells.injEq] at q
      rw [←q.2.1]
      decide
     ·rw [jY] at q
      simp only [Option.some.injEq,Obj.cells.injEq] at q
      rw [←q.2.1]
      decide
    ·have q1:=HGE.out
     have q2:=HUA.out
     rcases q with q | q <;> omega
   have HG9:Hid (G'.map Prod.fst=s'.tabs):=hDf.tabs
   have J4:=lh j4
   have HX1:=lh hX1
   clear hch hld hDf b3 bW3 jY hne hX1 jA1 jY1' e4 j4 f4 f3
   go_upto_region 8 with fail
   rw [←HX1.out]
   go_wp2_with (first | (refine wpl_load _ rfl (by simp [Act.eval]) hld2 ?_) | (refine wpl_store _ _ rfl (by simp [Act.eval,Act.put]) (by simp [Act.eval,Act.put]) hst ?_))
   refine bodyPost_ret (results_two rfl rfl rfl (load_var J4.out Tryz.underlying24 rfl size24)) rfl ?_
   rw [HR2.out]
   exact ⟨G',_,rfl,HG9.out,HE.out.1,HE.out.2⟩
end
end Go.Proofs.YtongmhfpoopebaaGreat
