import Derived.Test.YtongmhfpoopebaaGreatPTb
namespace Go.Proofs.YtongmhfpoopebaaGreat
open Go.RowKit
section
variable {w : World}
set_option maxHeartbeats 8000000 in
set_option maxRecDepth 100000 in
theorem schema_ref {s:Sc} {tv:Value} (hl:Lr tbE 5 w s.tabs tv) (hI:ScIn s) (hz:(schL s).length≤1000000000):Calls Tryz.prog 24 #[scV s tv] w fun e w'=>e=.returned (.string (txt (schL s)))∧Below w.heap.size w w':=by
 have HL:=lh hl
 obtain ⟨ta,tc,rfl,_,_,hcap,_⟩:=hl
 obtain ⟨n,hn⟩:∃ n,s.tabs.length=n:=⟨_,rfl⟩
 have hmx:(n:Int)≤9223372036854775807:=by unfold maxLen at hcap;omega
 have hfull:schL s=numsL [s.ver,s.last] ++ num (n:Int) ++ s.tabs.flatMap tab1L:=by unfold schL;rw [hn]
 rw [hfull] at hz
 have HZ:=lh hz
 simp only [List.length_append] at hz
 unfold scV
 rw [hn]
 obtain ⟨V,hV⟩:∃ V,V=w.alloc (.cells #[.int .i64 s.ver,.int .i64 s.last,.slice ta n tc] 24):=⟨_,rfl⟩
 have hb:Below w.heap.size w V:=by rw [hV];exact bnew _ _
 obtain ⟨Y,hY⟩:∃ Y,w.heap.size=Y:=⟨_,rfl⟩
 have jY:V.heap[Y]?=some (.cells #[.int .i64 s.ver,.int .i64 s.last,.slice ta n tc] 24 (0,0)):=by rw [hV,←hY];exact heap_alloc_new w _
 have c0:V.cell? ⟨Y,0,none⟩=some (.int .i64 s.ver):=cell_blk jY 0
 have c1:V.cell? ⟨Y,1,none⟩=some (.int .i64 s.last):=cell_blk jY 1
 have c2:V.cell? ⟨Y,2,none⟩=some (.slice ta n tc):=cell_blk jY 2
 have HT5:=lh (fun X F (hF:Ints X F [s.ver,s.last])=>nums_ref X 2 rfl (by omega) hF (fun z hz=>by
  simp at hz
  rcases hz with rfl | rfl
  ·exact hI.ver
  ·exact hI.last))
 have HT9:=lh (fun X=>num_ref (n:Int) X (by unfold I64;omega))
 have s10:=sum_ok (a:=txt (numsL [s.ver,s.last])) (b:=txt (num (n:Int))) (by rw [txt_size];omega) (by rw [txt_size];omega)
 have hend:txt (numsL [s.ver,s.last]) ++ txt (num (n:Int))=txt (numsL [s.ver,s.last] ++ num (n:Int)):=by simp only [txt_append]
 have HEND:=lh hend
 obtain ⟨pre,hpre⟩:∃ pre,numsL [s.ver,s.last] ++ num (n:Int)=pre:=⟨_,rfl⟩
 have HPRE:Hid (txt (numsL [s.ver,s.last] ++ num (n:Int))=txt pre):=lh (by rw [hpre])
 rw [hpre] at hfull HZ
 have HFU:=lh hfull
 have HN:=lh hn
 have HTI:=lh hI.t
 have HV:=lh hV
 have HY:=lh hY
 have HB:=lh hb
 have HC2:Hid (∀ X,Below V.heap.size V X→X.cell? ⟨Y,2,none⟩=some (.slice ta n tc)):=lh (fun X hX=>cell_on hX c2)
 clear hV hY hb jY hz hend hfull hpre hn hI hcap
 go_enter Tryz.func24,Tryz.ntmps24
 go_upto_region 1 with fail
 rw [←HV.out,HY.out]
 refine wp_region_fin (fun X9=>Below V.heap.size V X9) (fun X9 X'=>Below X9.heap.size X9 X') [
  fun v9 _=>v9=.pointer (some ⟨Y,0,none⟩),
  fun v9 _=>v9=.int .i64 s.ver,
  fun v9 _=>v9=.pointer (some ⟨Y,1,none⟩),
  fun v9 _=>v9=.int .i64 s.last,
  fun v9 X9=>∃ F,v9=.slice (some ⟨F,0,none⟩) 2 2∧Ints X9 F [s.ver,s.last],
  fun v9 _=>v9=.string (txt (numsL [s.ver,s.last])),
  fun v9 _=>v9=.pointer (some ⟨Y,2,none⟩),
  fun v9 _=>v9=.slice ta n tc,
  fun v9 _=>v9=.int .i64 (n:Int),
  fun v9 _=>v9=.string (txt (num (n:Int))),
  fun v9 _=>v9=.string (txt (numsL [s.ver,s.last]) ++ txt (num (n:Int)))]
  (fun v9 X9=>v9=.string (txt (numsL [s.ver,s.last]) ++ txt (num (n:Int)))∧Below V.heap.size V X9) rfl (by kernel_rfl) (by kernel_rfl) (by kernel_rfl) (by kernel_rfl) ?st ?g0 ?os ?la ?en
 case st=>exact ⟨fun _ _ _ _ h=>h,fun _ _ _ _ h=>h,fun _ _ _ _ h=>h,fun _ _ _ _ h=>h,(fun _ _ _ hb h=>by obtain ⟨F,e9,h9⟩:=h;exact ⟨F,e9,h9.on hb⟩),fun _ _ _ _ h=>h,fun _ _ _ _ h=>h,fun _ _ _ _ h=>h,fun _ _ _ _ h=>h,fun _ _ _ _ h=>h,fun _ _ _ _ h=>h,trivial⟩
 case g0=>exact ⟨rfl,rfl,rfl,Nat.le_refl _,fun _ _=>rfl⟩
 case os =>
  refine ⟨?_,?_,?_,?_,?_,?_,?_,?_,?_,?_,?_,trivial⟩
  ·exact ⟨rfl,fun ρ X9 hg ho hc hf hr=>Runs.val _ (op_f24_0 (show ρ (.tmp 1)=.pointer (some ⟨Y,0,none⟩) from ho 1 rfl)) ⟨hg,Below.refl _ _,rfl⟩⟩
  ·exact ⟨rfl,fun ρ X9 hg ho hc hf hr=>Runs.val _ (op_load3 (show ρ (.tmp 10)=.pointer (some ⟨Y,0,none⟩) from hr 0 10 rfl rfl) (cell_on hg c0)) ⟨hg,Below.refl _ _,rfl⟩⟩
  ·exact ⟨rfl,fun ρ X9 hg ho hc hf hr=>Runs.val _ (op_f24_1 (show ρ (.tmp 1)=.pointer (some ⟨Y,0,none⟩) from ho 1 rfl)) ⟨hg,Below.refl _ _,rfl⟩⟩
  ·exact ⟨rfl,fun ρ X9 hg ho hc hf hr=>Runs.val _ (op_load3 (show ρ (.tmp 12)=.pointer (some ⟨Y,1,none⟩) from hr 2 12 rfl rfl) (cell_on hg c1)) ⟨hg,Below.refl _ _,rfl⟩⟩
  ·refine ⟨rfl,fun ρ X9 hg ho hc hf hr=>?_⟩
   have b7:Below X9.heap.size X9 (X9.alloc (.cells #[.int .i64 s.ver,.int .i64 s.last] 3)):=(Below.refl _ X9).alloc (Nat.le_refl _) _
   refine Runs.val _ (op_ints2 (show ρ (.tmp 11)=.int .i64 s.ver from hr 1 11 rfl rfl) (show ρ (.tmp 13)=.int .i64 s.last from hr 3 13 rfl rfl)) ⟨hg.trans (b7.mono hg.size),b7,_,rfl,_,_,heap_alloc_new X9 _,fun i hi=>?_⟩
   match i,hi with
   | 0,_=>rfl
   | 1,_=>rfl
  ·refine ⟨rfl,fun ρ X9 hg ho hc hf hr=>?_⟩
   obtain ⟨F,e9,h9⟩:∃ F,ρ (.tmp 14)=.slice (some ⟨F,0,none⟩) 2 2∧Ints X9 F [s.ver,s.last]:=hr 4 14 rfl rfl
   refine Runs.goes 47 #[.slice (some ⟨F,0,none⟩) 2 2] (op_call1 hf (by go_simp) e9) ((HT5.out X9 F h9).mono ?_)
   rintro e7 w7 ⟨rfl,b7⟩
   exact ⟨_,rfl,hg.trans (b7.mono hg.size),b7,rfl⟩
  ·exact ⟨rfl,fun ρ X9 hg ho hc hf hr=>Runs.val _ (op_f24_2 (show ρ (.tmp 1)=.pointer (some ⟨Y,0,none⟩) from ho 1 rfl)) ⟨hg,Below.refl _ _,rfl⟩⟩
  ·exact ⟨rfl,fun ρ X9 hg ho hc hf hr=>Runs.val _ (op_load22 (show ρ (.tmp 16)=.pointer (some ⟨Y,2,none⟩) from hr 6 16 rfl rfl) (cell_on hg c2)) ⟨hg,Below.refl _ _,rfl⟩⟩
  ·exact ⟨rfl,fun ρ X9 hg ho hc hf hr=>Runs.val _ (op_len22 (show ρ (.tmp 17)=.slice ta n tc from hr 7 17 rfl rfl)) ⟨hg,Below.refl _ _,rfl⟩⟩
  ·refine ⟨rfl,fun ρ X9 hg ho hc hf hr=>?_⟩
   refine Runs.goes 48 #[.int .i64 (n:Int)] (op_call1 hf (by go_simp) (show ρ (.tmp 18)=.int .i64 (n:Int) from hr 8 18 rfl rfl)) ((HT9.out X9).mono ?_)
   rintro e7 w7 ⟨rfl,b7⟩
   exact ⟨_,rfl,hg.trans (b7.mono hg.size),b7,rfl⟩
  ·exact ⟨rfl,fun ρ X9 hg ho hc hf hr=>Runs.val _ (op_cat (show ρ (.tmp 15)=.string (txt (numsL [s.ver,s.last])) from hr 5 15 rfl rfl) (show ρ (.tmp 19)=.string (txt (num (n:Int))) from hr 9 19 rfl rfl) s10) ⟨hg,Below.refl _ _,rfl⟩⟩
 case la =>
  refine ⟨rfl,fun ρ X9 hg ho hc hf hr=>?_⟩
  exact Runs.val _ (op_assign (show ρ (.tmp 20)=.string (txt (numsL [s.ver,s.last]) ++ txt (num (n:Int))) from hr 10 20 (by decide) rfl)) ⟨rfl,hg⟩
 case en =>
  intro a9 X9 Xb v9 hF hs9 hd9 ho9 hv9 hr9
  obtain ⟨x9,hx,hxt⟩:=act_put hs9 hd9 ho9
  have e3:x9 3=.string (txt (numsL [s.ver,s.last]) ++ txt (num (n:Int))):=(hxt 3).symm.trans ((hv9 3 rfl).trans hF.1)
  change a9=putAll _ x9 [10,11,12,13,14,15,16,17,18,19,20,3] at hx
  simp only [putAll,Act.put,List.setIfInBounds_toArray,List.set_cons_zero,List.set_cons_succ,e3] at hx
  have HG:=lh hF.2
  clear hF hs9 hd9 ho9 hv9 hr9 hxt e3
  subst hx
  generalize x9 10=z10,x9 11=z11,x9 12=z12,x9 13=z13,x9 14=z14,x9 15=z15,x9 16=z16,x9 17=z17,x9 18=z18,x9 19=z19,x9 20=z20
  rw [HEND.out]
  rw [HPRE.out]
  have HB1:=lh (bgo HB.out HG.out)
  have HC3:Hid (∀ X,Below X9.heap.size X9 X→X.cell? ⟨Y,2,none⟩=some (.slice ta n tc)):=lh (fun X hX=>HC2.out X (bgo HG.out hX))
  obtain ⟨W1,rfl⟩:∃ W,W=X9:=⟨_,rfl⟩
  have HL1:=lh (HL.out.on tbE_held HB1.out)
  clear HG HEND HC2 HPRE HL HT5 HT9 s10 c0 c1 c2
  have cY:=HC3.out W1 (Below.refl _ _)
  go_wp2
  go_loopw [3,4] (fun ov iv wr=>TJ W1 pre tab1L s.tabs wr ov iv) (fun _ iv _=>n - (intOf iv).toNat)
  case atStart=>exact ⟨0,Nat.zero_le _,rfl,by rw [List.take_zero];simp,Below.refl _ _⟩
  case round =>
   clear cY
   obtain ⟨i,hi,rfl,rfl,hb⟩:=hrel
   obtain ⟨V,rfl⟩:∃ V,V=wr:=⟨_,rfl⟩
   have hin:i≤n:=by rw [←HN.out];exact hi
   have cY:=HC3.out V hb
   by_cases hlt:i<n
   ·have hiL:i<s.tabs.length:=by rw [HN.out];exact hlt
    have k0:(0:Int)≤i:=by omega
    have k1:(i:Int)<n:=by omega
    obtain ⟨_,_,e1,_,_,_,hcs⟩:=HL1.out.on tbE_held hb
    obtain ⟨b,o,cs,ha,hbl,⟨cv,iv,kv,rfl,h3⟩,_,hcell⟩:=hcs i hiL
    simp only [Value.slice.injEq] at e1
    obtain ⟨rfl,_,rfl⟩:=e1
    subst ha
    obtain ⟨ca,cc,rfl,_,_,_,_⟩:=h3.c
    obtain ⟨ia,ic,rfl,_,hmi1,hmi2,_⟩:=h3.i
    obtain ⟨ka,kc,rfl,_,hmk1,hmk2,_⟩:=h3.k
    have c0:=hcell 0 _ rfl
    have c1:=hcell 1 _ rfl
    have c2:=hcell 2 _ rfl
    have c3:=hcell 3 _ rfl
    have c4:=hcell 4 _ rfl
    simp only [Nat.add_zero] at c0
    have hnx:=fm_next tab1L hiL
    have hln:(pre ++ (s.tabs.take (i+1)).flatMap tab1L).length≤1000000000:=by
     have h1:=HZ.out
     have h2:=fmy_take tab1L s.tabs (i+1)
     simp only [List.length_append] at h1 ⊢
     omega
    have hti:=HTI.out _ (List.getElem_mem hiL)
    obtain ⟨x,hx⟩:∃ x,s.tabs[i]=x:=⟨_,rfl⟩
    rw [hx] at c0 c1 c2 c3 c4 hnx hti h3 hmi1 hmk1
    obtain ⟨acc,hacc⟩:∃ acc,pre ++ (s.tabs.take i).flatMap tab1L=acc:=⟨_,rfl⟩
    have hna:pre ++ (s.tabs.take (i+1)).flatMap tab1L=acc ++ tab1L x:=by rw [hnx,←List.append_assoc,hacc]
    rw [hna] at hln
    rw [hacc]
    have HNA:=lh hna
    have HBV:=lh (bgo HB1.out hb)
    have HBW:=lh hb
    obtain ⟨mi,hmi⟩:∃ m,x.ixs.length=m:=⟨_,rfl⟩
    obtain ⟨mk,hmk0⟩:∃ m,x.fks.length=m:=⟨_,rfl⟩
    have hmi':(mi:Int)≤9223372036854775807:=by unfold maxLen at hmi2;omega
    have hmk:(mk:Int)≤9223372036854775807:=by unfold maxLen at hmk2;omega
    obtain ⟨U,hU⟩:∃ U,U=V.alloc (.cells #[.int .i64 x.id,.string x.nm,.slice ca x.cols.length cc,.slice ia mi ic,.slice ka mk kc] 35):=⟨_,rfl⟩
    obtain ⟨Q,hQ⟩:∃ Q,V.heap.size=Q:=⟨_,rfl⟩
    have bU:Below V.heap.size V U:=by rw [hU];exact bnew _ _
    have jU:U.heap[Q]?=some (.cells #[.int .i64 x.id,.string x.nm,.slice ca x.cols.length cc,.slice ia mi ic,.slice ka mk kc] 35 (0,0)):=by rw [hU,←hQ];exact heap_alloc_new V _
    have g0:U.cell? ⟨Q,0,none⟩=some (.int .i64 x.id):=cell_blk jU 0
    have g1:U.cell? ⟨Q,1,none⟩=some (.string x.nm):=cell_blk jU 1
    have g2:U.cell? ⟨Q,2,none⟩=some (.slice ca x.cols.length cc):=cell_blk jU 2
    have g3:U.cell? ⟨Q,3,none⟩=some (.slice ia mi ic):=cell_blk jU 3
    have g4:U.cell? ⟨Q,4,none⟩=some (.slice ka mk kc):=cell_blk jU 4
    have h3u:=h3.on bU
    have hlc:=h3u.c
    unfold tab1L tabIL at hln
    rw [hmi,hmk0] at hln
    simp only [List.length_append] at hln
    have HT3:=lh (fun X=>num_ref x.id X hti.id)
    have s4:=sum_ok (a:=txt acc) (b:=txt (num x.id)) (by rw [txt_size];omega) (by rw [txt_size];omega)
    have HT7:=lh (fun X=>text_ref x.nm X (by have:=textL_len x.nm;omega))
    have s8:=sum_ok (a:=txt acc ++ txt (num x.id)) (b:=txt (textL x.nm)) (by simp only [txt_append,txt_size,List.length_append];omega) (by rw [txt_size];omega)
    have HT11:=lh (fun X (hX:Below U.heap.size U X)=>cols_ref (hlc.on colE_held hX) hti.c (by omega))
    have s12:=sum_ok (a:=txt acc ++ txt (num x.id) ++ txt (textL x.nm)) (b:=txt (colsL x.cols)) (by simp only [txt_append,txt_size,List.length_append];omega) (by rw [txt_size];omega)
    have HT16:=lh (fun X=>num_ref (mi:Int) X (by unfold I64;omega))
    have s17:=sum_ok (a:=txt acc ++ txt (num x.id) ++ txt (textL x.nm) ++ txt (colsL x.cols)) (b:=txt (num (mi:Int))) (by simp only [txt_append,txt_size,List.length_append];omega) (by rw [txt_size];omega)
    have hend:txt acc ++ txt (num x.id) ++ txt (textL x.nm) ++ txt (colsL x.cols) ++ txt (num (mi:Int))=txt (acc ++ num x.id ++ textL x.nm ++ colsL x.cols ++ num (mi:Int)):=by simp only [txt_append]
    have HEND:=lh hend
    obtain ⟨pre2,hp2⟩:∃ pre2,acc ++ num x.id ++ textL x.nm ++ colsL x.cols ++ num (mi:Int)=pre2:=⟨_,rfl⟩
    have HP2:Hid (txt (acc ++ num x.id ++ textL x.nm ++ colsL x.cols ++ num (mi:Int))=txt pre2):=lh (by rw [hp2])
    have HX2:Hid (acc ++ tab1L x=pre2 ++ x.ixs.flatMap ix1L ++ num (mk:Int) ++ x.fks.flatMap fk1L):=lh (by rw [←hp2];unfold tab1L tabIL;rw [hmi,hmk0];simp only [List.append_assoc])
    have HZmi:Hid ((pre2 ++ x.ixs.flatMap ix1L ++ num (mk:Int) ++ x.fks.flatMap fk1L).length≤1000000000):=lh (by rw [←hp2];simp only [List.length_append];omega)
    have HImi:Hid (∀ y ∈ x.ixs,IxIn y):=lh hti.i
    have HImk:Hid (∀ y ∈ x.fks,FkIn y):=lh hti.k
    have H3I:=h3u.i
    have H3K:=h3u.k
    rw [hmi] at H3I
    rw [hmk0] at H3K
    have HLI:=lh H3I
    have HLK:=lh H3K
    have Hmi:=lh hmi
    have Hmk:=lh hmk0
    have HQ:=lh hQ
    have HU:=lh hU
    have HBU:=lh bU
    rw [hmi] at c3
    rw [hmk0] at c4
    clear hcs hcell hb hx hnx hna hln hacc hend hti hU hQ bU jU hmi hmk0 h3 h3u hlc H3I H3K hmi1 hmi2 hmk1 hmk2 hp2
    go_upto_region 6 with fail
    rw [←HU.out,HQ.out]
    clear c0 c1 c2 c3 c4 cY
    refine wp_region_fin (fun X9=>Below U.heap.size U X9) (fun X9 X'=>Below X9.heap.size X9 X') [
     fun v9 _=>v9=.string (txt acc),
     fun v9 _=>v9=.pointer (some ⟨Q,0,none⟩),
     fun v9 _=>v9=.int .i64 x.id,
     fun v9 _=>v9=.string (txt (num x.id)),
     fun v9 _=>v9=.string (txt acc ++ txt (num x.id)),
     fun v9 _=>v9=.pointer (some ⟨Q,1,none⟩),
     fun v9 _=>v9=.string x.nm,
     fun v9 _=>v9=.string (txt (textL x.nm)),
     fun v9 _=>v9=.string (txt acc ++ txt (num x.id) ++ txt (textL x.nm)),
     fun v9 _=>v9=.pointer (some ⟨Q,2,none⟩),
     fun v9 _=>v9=.slice ca x.cols.length cc,
     fun v9 _=>v9=.string (txt (colsL x.cols)),
     fun v9 _=>v9=.string (txt acc ++ txt (num x.id) ++ txt (textL x.nm) ++ txt (colsL x.cols)),
     fun v9 _=>v9=.pointer (some ⟨Q,3,none⟩),
     fun v9 _=>v9=.slice ia mi ic,
     fun v9 _=>v9=.int .i64 (mi:Int),
     fun v9 _=>v9=.string (txt (num (mi:Int))),
     fun v9 _=>v9=.string (txt acc ++ txt (num x.id) ++ txt (textL x.nm) ++ txt (colsL x.cols) ++ txt (num (mi:Int)))]
     (fun v9 X9=>v9=.string (txt acc ++ txt (num x.id) ++ txt (textL x.nm) ++ txt (colsL x.cols) ++ txt (num (mi:Int)))∧Below U.heap.size U X9) rfl (by kernel_rfl) (by kernel_rfl) (by kernel_rfl) (by kernel_rfl) ?st ?g0 ?os ?la ?en
    case st=>exact ⟨fun _ _ _ _ h=>h,fun _ _ _ _ h=>h,fun _ _ _ _ h=>h,fun _ _ _ _ h=>h,fun _ _ _ _ h=>h,fun _ _ _ _ h=>h,fun _ _ _ _ h=>h,fun _ _ _ _ h=>h,fun _ _ _ _ h=>h,fun _ _ _ _ h=>h,fun _ _ _ _ h=>h,fun _ _ _ _ h=>h,fun _ _ _ _ h=>h,fun _ _ _ _ h=>h,fun _ _ _ _ h=>h,fun _ _ _ _ h=>h,fun _ _ _ _ h=>h,fun _ _ _ _ h=>h,trivial⟩
    case g0=>exact ⟨rfl,rfl,rfl,Nat.le_refl _,fun _ _=>rfl⟩
    case os =>
     refine ⟨?_,?_,?_,?_,?_,?_,?_,?_,?_,?_,?_,?_,?_,?_,?_,?_,?_,?_,trivial⟩
     ·exact ⟨rfl,fun ρ X9 hg ho hc hf hr=>Runs.val _ (op_move (show ρ (.tmp 3)=.string (txt acc) from ho 3 rfl)) ⟨hg,Below.refl _ _,rfl⟩⟩
     ·exact ⟨rfl,fun ρ X9 hg ho hc hf hr=>Runs.val _ (op_f35_0 (show ρ (.tmp 5)=.pointer (some ⟨Q,0,none⟩) from ho 5 rfl)) ⟨hg,Below.refl _ _,rfl⟩⟩
     ·exact ⟨rfl,fun ρ X9 hg ho hc hf hr=>Runs.val _ (op_load3 (show ρ (.tmp 34)=.pointer (some ⟨Q,0,none⟩) from hr 1 34 rfl rfl) (cell_on hg g0)) ⟨hg,Below.refl _ _,rfl⟩⟩
     ·refine ⟨rfl,fun ρ X9 hg ho hc hf hr=>?_⟩
      refine Runs.goes 48 #[.int .i64 x.id] (op_call1 hf (by go_simp) (show ρ (.tmp 35)=.int .i64 x.id from hr 2 35 rfl rfl)) ((HT3.out X9).mono ?_)
      rintro e7 w7 ⟨rfl,b7⟩
      exact ⟨_,rfl,hg.trans (b7.mono hg.size),b7,rfl⟩
     ·exact ⟨rfl,fun ρ X9 hg ho hc hf hr=>Runs.val _ (op_cat (show ρ (.tmp 33)=.string (txt acc) from hr 0 33 rfl rfl) (show ρ (.tmp 36)=.string (txt (num x.id)) from hr 3 36 rfl rfl) s4) ⟨hg,Below.refl _ _,rfl⟩⟩
     ·exact ⟨rfl,fun ρ X9 hg ho hc hf hr=>Runs.val _ (op_f35_1 (show ρ (.tmp 5)=.pointer (some ⟨Q,0,none⟩) from ho 5 rfl)) ⟨hg,Below.refl _ _,rfl⟩⟩
     ·exact ⟨rfl,fun ρ X9 hg ho hc hf hr=>Runs.val _ (op_load9 (show ρ (.tmp 38)=.pointer (some ⟨Q,1,none⟩) from hr 5 38 rfl rfl) (cell_on hg g1)) ⟨hg,Below.refl _ _,rfl⟩⟩
     ·refine ⟨rfl,fun ρ X9 hg ho hc hf hr=>?_⟩
      refine Runs.goes 49 #[.string x.nm] (op_call1 hf (by go_simp) (show ρ (.tmp 39)=.string x.nm from hr 6 39 rfl rfl)) ((HT7.out X9).mono ?_)
      rintro e7 w7 ⟨rfl,b7⟩
      exact ⟨_,rfl,hg.trans (b7.mono hg.size),b7,rfl⟩
     ·exact ⟨rfl,fun ρ X9 hg ho hc hf hr=>Runs.val _ (op_cat (show ρ (.tmp 37)=.string (txt acc ++ txt (num x.id)) from hr 4 37 rfl rfl) (show ρ (.tmp 40)=.string (txt (textL x.nm)) from hr 7 40 rfl rfl) s8) ⟨hg,Below.refl _ _,rfl⟩⟩
     ·exact ⟨rfl,fun ρ X9 hg ho hc hf hr=>Runs.val _ (op_f35_2 (show ρ (.tmp 5)=.pointer (some ⟨Q,0,none⟩) from ho 5 rfl)) ⟨hg,Below.refl _ _,rfl⟩⟩
     ·exact ⟨rfl,fun ρ X9 hg ho hc hf hr=>Runs.val _ (op_load29 (show ρ (.tmp 42)=.pointer (some ⟨Q,2,none⟩) from hr 9 42 rfl rfl) (cell_on hg g2)) ⟨hg,Below.refl _ _,rfl⟩⟩
     ·refine ⟨rfl,fun ρ X9 hg ho hc hf hr=>?_⟩
      refine Runs.goes 50 #[.slice ca x.cols.length cc] (op_call1 hf (by go_simp) (show ρ (.tmp 43)=.slice ca x.cols.length cc from hr 10 43 rfl rfl)) ((HT11.out X9 hg).mono ?_)
      rintro e7 w7 ⟨rfl,b7⟩
      exact ⟨_,rfl,hg.trans (b7.mono hg.size),b7,rfl⟩
     ·exact ⟨rfl,fun ρ X9 hg ho hc hf hr=>Runs.val _ (op_cat (show ρ (.tmp 41)=.string (txt acc ++ txt (num x.id) ++ txt (textL x.nm)) from hr 8 41 rfl rfl) (show ρ (.tmp 44)=.string (txt (colsL x.cols)) from hr 11 44 rfl rfl) s12) ⟨hg,Below.refl _ _,rfl⟩⟩
     ·exact ⟨rfl,fun ρ X9 hg ho hc hf hr=>Runs.val _ (op_f35_3 (show ρ (.tmp 5)=.pointer (some ⟨Q,0,none⟩) from ho 5 rfl)) ⟨hg,Below.refl _ _,rfl⟩⟩
     ·exact ⟨rfl,fun ρ X9 hg ho hc hf hr=>Runs.val _ (op_load32 (show ρ (.tmp 46)=.pointer (some ⟨Q,3,none⟩) from hr 13 46 rfl rfl) (cell_on hg g3)) ⟨hg,Below.refl _ _,rfl⟩⟩
     ·exact ⟨rfl,fun ρ X9 hg ho hc hf hr=>Runs.val _ (op_len32 (show ρ (.tmp 47)=.slice ia mi ic from hr 14 47 rfl rfl)) ⟨hg,Below.refl _ _,rfl⟩⟩
     ·refine ⟨rfl,fun ρ X9 hg ho hc hf hr=>?_⟩
      refine Runs.goes 48 #[.int .i64 (mi:Int)] (op_call1 hf (by go_simp) (show ρ (.tmp 48)=.int .i64 (mi:Int) from hr 15 48 rfl rfl)) ((HT16.out X9).mono ?_)
      rintro e7 w7 ⟨rfl,b7⟩
      exact ⟨_,rfl,hg.trans (b7.mono hg.size),b7,rfl⟩
     ·exact ⟨rfl,fun ρ X9 hg ho hc hf hr=>Runs.val _ (op_cat (show ρ (.tmp 45)=.string (txt acc ++ txt (num x.id) ++ txt (textL x.nm) ++ txt (colsL x.cols)) from hr 12 45 rfl rfl) (show ρ (.tmp 49)=.string (txt (num (mi:Int))) from hr 16 49 rfl rfl) s17) ⟨hg,Below.refl _ _,rfl⟩⟩
    case la =>
     refine ⟨rfl,fun ρ X9 hg ho hc hf hr=>?_⟩
     exact Runs.val _ (op_assign (show ρ (.tmp 50)=.string (txt acc ++ txt (num x.id) ++ txt (textL x.nm) ++ txt (colsL x.cols) ++ txt (num (mi:Int))) from hr 17 50 (by decide) rfl)) ⟨rfl,hg⟩
    case en =>
     intro a9 X9 Xb v9 hF hs9 hd9 ho9 hv9 hr9
     obtain ⟨x9,hx,hxt⟩:=act_put hs9 hd9 ho9
     have e3:x9 3=.string (txt acc ++ txt (num x.id) ++ txt (textL x.nm) ++ txt (colsL x.cols) ++ txt (num (mi:Int))):=(hxt 3).symm.trans ((hv9 3 rfl).trans hF.1)
     change a9=putAll _ x9 [33,34,35,36,37,38,39,40,41,42,43,44,45,46,47,48,49,50,3] at hx
     simp only [putAll,Act.put,List.setIfInBounds_toArray,List.set_cons_zero,List.set_cons_succ,e3] at hx
     have HG:=lh hF.2
     clear hF hs9 hd9 ho9 hv9 hr9 hxt e3
     subst hx
     generalize x9 33=z33,x9 34=z34,x9 35=z35,x9 36=z36,x9 37=z37,x9 38=z38,x9 39=z39,x9 40=z40,x9 41=z41,x9 42=z42,x9 43=z43,x9 44=z44,x9 45=z45,x9 46=z46,x9 47=z47,x9 48=z48,x9 49=z49,x9 50=z50
     rw [HEND.out]
     rw [HP2.out]
     have HB2:=lh (bgo HBW.out (bgo HBU.out HG.out))
     have HCX:Hid (∀ Y,Below X9.heap.size X9 Y→Y.cell? ⟨Q,3,none⟩=some (.slice ia mi ic)∧Y.cell? ⟨Q,4,none⟩=some (.slice ka mk kc)):=lh (fun Y hY=>⟨cell_on hY (cell_on HG.out g3),cell_on hY (cell_on HG.out g4)⟩)
     have HLmi:=lh (HLI.out.on ixE_held HG.out)
     have HLmk:=lh (HLK.out.on fkE_held HG.out)
     clear HG HEND HP2 HLI HLK HT3 s4 HT7 s8 HT11 s12 HT16 s17 g0 g1 g2 g3 g4
     obtain ⟨W2,rfl⟩:∃ W,W=X9:=⟨_,rfl⟩
     go_wp2
     go_loopw [3,6] (fun ov iv wr=>TJ W2 pre2 ix1L x.ixs wr ov iv) (fun _ iv _=>mi - (intOf iv).toNat)
     case atStart=>exact ⟨0,Nat.zero_le _,rfl,by rw [List.take_zero];simp,Below.refl _ _⟩
     case round =>
      obtain ⟨j,hj,rfl,rfl,hbj⟩:=hrel
      obtain ⟨V,rfl⟩:∃ V,V=wr:=⟨_,rfl⟩
      have hjm:j≤mi:=by rw [←Hmi.out];exact hj
      have cl:=(HCX.out V hbj).1
      by_cases hltj:j<mi
      ·have hjL:j<x.ixs.length:=by rw [Hmi.out];exact hltj
       have m0:(0:Int)≤j:=by omega
       have m1:(j:Int)<mi:=by omega
       obtain ⟨_,_,e1,_,_,_,hcs⟩:=HLmi.out.on ixE_held hbj
       obtain ⟨b3,o3,cs3,ha,_,hE,_,hcell⟩:=hcs j hjL
       have hE':cs3=ixL x.ixs[j]:=hE
       subst hE'
       simp only [Value.slice.injEq] at e1
       obtain ⟨rfl,_,rfl⟩:=e1
       subst ha
       have d0:=hcell 0 _ rfl
       have d1:=hcell 1 _ rfl
       have d2:=hcell 2 _ rfl
       have d3:=hcell 3 _ rfl
       have d4:=hcell 4 _ rfl
       simp only [Nat.add_zero] at d0
       have hnx:=fm_next ix1L hjL
       have hln:(pre2 ++ (x.ixs.take (j+1)).flatMap ix1L).length≤1000000000:=by
        have h1:=HZmi.out
        have h2:=fmy_take ix1L x.ixs (j+1)
        simp only [List.length_append] at h1 ⊢
        omega
       have hti:=HImi.out _ (List.getElem_mem hjL)
       obtain ⟨y,hy⟩:∃ y,x.ixs[j]=y:=⟨_,rfl⟩
       rw [hy] at d0 d1 d2 d3 d4 hnx hti
       obtain ⟨acc2,hacc⟩:∃ acc2,pre2 ++ (x.ixs.take j).flatMap ix1L=acc2:=⟨_,rfl⟩
       have hna:pre2 ++ (x.ixs.take (j+1)).flatMap ix1L=acc2 ++ ix1L y:=by rw [hnx,←List.append_assoc,hacc]
       rw [hna] at hln
       rw [hacc]
       have HNB:=lh hna
       have HBJ:=lh hbj
       unfold ix1L at hln
       simp only [List.length_append] at hln
       have HT3:=lh (fun X=>num_ref y.id X hti.id)
       have s4:=sum_ok (a:=txt acc2) (b:=txt (num y.id)) (by rw [txt_size];omega) (by rw [txt_size];omega)
       have HT7:=lh (fun X=>text_ref y.nm X (by have:=textL_len y.nm;omega))
       have s8:=sum_ok (a:=txt acc2 ++ txt (num y.id)) (b:=txt (textL y.nm)) (by simp only [txt_append,txt_size,List.length_append];omega) (by rw [txt_size];omega)
       have HT11:=lh (fun X=>num_ref y.col X hti.col)
       have s12:=sum_ok (a:=txt acc2 ++ txt (num y.id) ++ txt (textL y.nm)) (b:=txt (num y.col)) (by simp only [txt_append,txt_size,List.length_append];omega) (by rw [txt_size];omega)
       have HT15:=lh (fun X=>flag_ref y.uq X)
       have s16:=sum_ok (a:=txt acc2 ++ txt (num y.id) ++ txt (textL y.nm) ++ txt (num y.col)) (b:=txt (flagL y.uq)) (by simp only [txt_append,txt_size,List.length_append];omega) (by rw [txt_size];omega)
       have HT19:=lh (fun X=>num_ref y.st X hti.st)
       have s20:=sum_ok (a:=txt acc2 ++ txt (num y.id) ++ txt (textL y.nm) ++ txt (num y.col) ++ txt (flagL y.uq)) (b:=txt (num y.st)) (by simp only [txt_append,txt_size,List.length_append];omega) (by rw [txt_size];omega)
       have hend:txt acc2 ++ txt (num y.id) ++ txt (textL y.nm) ++ txt (num y.col) ++ txt (flagL y.uq) ++ txt (num y.st)=txt (acc2 ++ num y.id ++ textL y.nm ++ num y.col ++ flagL y.uq ++ num y.st):=by simp only [txt_append]
       have HEND:=lh hend
       have hfin:acc2 ++ num y.id ++ textL y.nm ++ num y.col ++ flagL y.uq ++ num y.st=acc2 ++ ix1L y:=by unfold ix1L;simp only [List.append_assoc]
       have HFIN:=lh hfin
       obtain ⟨U,hU⟩:∃ U,U=V.alloc (.cells (ixA y) 71):=⟨_,rfl⟩
       obtain ⟨Z,hZ⟩:∃ Z,V.heap.size=Z:=⟨_,rfl⟩
       have bU:Below V.heap.size V U:=by rw [hU];exact bnew _ _
       have jU:U.heap[Z]?=some (.cells (ixA y) 71 (0,0)):=by rw [hU,←hZ];exact heap_alloc_new V _
       have g0:U.cell? ⟨Z,0,none⟩=some (.int .i64 y.id):=cell_blk jU 0
       have g1:U.cell? ⟨Z,1,none⟩=some (.string y.nm):=cell_blk jU 1
       have g2:U.cell? ⟨Z,2,none⟩=some (.int .i64 y.col):=cell_blk jU 2
       have g3:U.cell? ⟨Z,3,none⟩=some (.bool y.uq):=cell_blk jU 3
       have g4:U.cell? ⟨Z,4,none⟩=some (.int .i64 y.st):=cell_blk jU 4
       have HU:=lh hU
       have HZZ:=lh hZ
       have HBU:=lh bU
       clear hcs hcell hE hbj hy hnx hna hln hacc hend hti hfin hU hZ bU jU
       go_upto_region 11 with fail
       rw [←HU.out,HZZ.out]
       clear cl d0 d1 d2 d3 d4
       refine wp_region_fin (fun X9=>Below U.heap.size U X9) (fun X9 X'=>Below X9.heap.size X9 X') [
        fun v9 _=>v9=.string (txt acc2),
        fun v9 _=>v9=.pointer (some ⟨Z,0,none⟩),
        fun v9 _=>v9=.int .i64 y.id,
        fun v9 _=>v9=.string (txt (num y.id)),
        fun v9 _=>v9=.string (txt acc2 ++ txt (num y.id)),
        fun v9 _=>v9=.pointer (some ⟨Z,1,none⟩),
        fun v9 _=>v9=.string y.nm,
        fun v9 _=>v9=.string (txt (textL y.nm)),
        fun v9 _=>v9=.string (txt acc2 ++ txt (num y.id) ++ txt (textL y.nm)),
        fun v9 _=>v9=.pointer (some ⟨Z,2,none⟩),
        fun v9 _=>v9=.int .i64 y.col,
        fun v9 _=>v9=.string (txt (num y.col)),
        fun v9 _=>v9=.string (txt acc2 ++ txt (num y.id) ++ txt (textL y.nm) ++ txt (num y.col)),
        fun v9 _=>v9=.pointer (some ⟨Z,3,none⟩),
        fun v9 _=>v9=.bool y.uq,
        fun v9 _=>v9=.string (txt (flagL y.uq)),
        fun v9 _=>v9=.string (txt acc2 ++ txt (num y.id) ++ txt (textL y.nm) ++ txt (num y.col) ++ txt (flagL y.uq)),
        fun v9 _=>v9=.pointer (some ⟨Z,4,none⟩),
        fun v9 _=>v9=.int .i64 y.st,
        fun v9 _=>v9=.string (txt (num y.st)),
        fun v9 _=>v9=.string (txt acc2 ++ txt (num y.id) ++ txt (textL y.nm) ++ txt (num y.col) ++ txt (flagL y.uq) ++ txt (num y.st))]
        (fun v9 X9=>v9=.string (txt acc2 ++ txt (num y.id) ++ txt (textL y.nm) ++ txt (num y.col) ++ txt (flagL y.uq) ++ txt (num y.st))∧Below U.heap.size U X9) rfl (by kernel_rfl) (by kernel_rfl) (by kernel_rfl) (by kernel_rfl) ?st ?g0 ?os ?la ?en
       case st=>exact ⟨fun _ _ _ _ h=>h,fun _ _ _ _ h=>h,fun _ _ _ _ h=>h,fun _ _ _ _ h=>h,fun _ _ _ _ h=>h,fun _ _ _ _ h=>h,fun _ _ _ _ h=>h,fun _ _ _ _ h=>h,fun _ _ _ _ h=>h,fun _ _ _ _ h=>h,fun _ _ _ _ h=>h,fun _ _ _ _ h=>h,fun _ _ _ _ h=>h,fun _ _ _ _ h=>h,fun _ _ _ _ h=>h,fun _ _ _ _ h=>h,fun _ _ _ _ h=>h,fun _ _ _ _ h=>h,fun _ _ _ _ h=>h,fun _ _ _ _ h=>h,fun _ _ _ _ h=>h,trivial⟩
       case g0=>exact ⟨rfl,rfl,rfl,Nat.le_refl _,fun _ _=>rfl⟩
       case os =>
        refine ⟨?_,?_,?_,?_,?_,?_,?_,?_,?_,?_,?_,?_,?_,?_,?_,?_,?_,?_,?_,?_,?_,trivial⟩
        ·exact ⟨rfl,fun ρ X9 hg ho hc hf hr=>Runs.val _ (op_move (show ρ (.tmp 3)=.string (txt acc2) from ho 3 rfl)) ⟨hg,Below.refl _ _,rfl⟩⟩
        ·exact ⟨rfl,fun ρ X9 hg ho hc hf hr=>Runs.val _ (op_f71_0 (show ρ (.tmp 7)=.pointer (some ⟨Z,0,none⟩) from ho 7 rfl)) ⟨hg,Below.refl _ _,rfl⟩⟩
        ·exact ⟨rfl,fun ρ X9 hg ho hc hf hr=>Runs.val _ (op_load3 (show ρ (.tmp 64)=.pointer (some ⟨Z,0,none⟩) from hr 1 64 rfl rfl) (cell_on hg g0)) ⟨hg,Below.refl _ _,rfl⟩⟩
        ·refine ⟨rfl,fun ρ X9 hg ho hc hf hr=>?_⟩
         refine Runs.goes 48 #[.int .i64 y.id] (op_call1 hf (by go_simp) (show ρ (.tmp 65)=.int .i64 y.id from hr 2 65 rfl rfl)) ((HT3.out X9).mono ?_)
         rintro e7 w7 ⟨rfl,b7⟩
         exact ⟨_,rfl,hg.trans (b7.mono hg.size),b7,rfl⟩
        ·exact ⟨rfl,fun ρ X9 hg ho hc hf hr=>Runs.val _ (op_cat (show ρ (.tmp 63)=.string (txt acc2) from hr 0 63 rfl rfl) (show ρ (.tmp 66)=.string (txt (num y.id)) from hr 3 66 rfl rfl) s4) ⟨hg,Below.refl _ _,rfl⟩⟩
        ·exact ⟨rfl,fun ρ X9 hg ho hc hf hr=>Runs.val _ (op_f71_1 (show ρ (.tmp 7)=.pointer (some ⟨Z,0,none⟩) from ho 7 rfl)) ⟨hg,Below.refl _ _,rfl⟩⟩
        ·exact ⟨rfl,fun ρ X9 hg ho hc hf hr=>Runs.val _ (op_load9 (show ρ (.tmp 68)=.pointer (some ⟨Z,1,none⟩) from hr 5 68 rfl rfl) (cell_on hg g1)) ⟨hg,Below.refl _ _,rfl⟩⟩
        ·refine ⟨rfl,fun ρ X9 hg ho hc hf hr=>?_⟩
         refine Runs.goes 49 #[.string y.nm] (op_call1 hf (by go_simp) (show ρ (.tmp 69)=.string y.nm from hr 6 69 rfl rfl)) ((HT7.out X9).mono ?_)
         rintro e7 w7 ⟨rfl,b7⟩
         exact ⟨_,rfl,hg.trans (b7.mono hg.size),b7,rfl⟩
        ·exact ⟨rfl,fun ρ X9 hg ho hc hf hr=>Runs.val _ (op_cat (show ρ (.tmp 67)=.string (txt acc2 ++ txt (num y.id)) from hr 4 67 rfl rfl) (show ρ (.tmp 70)=.string (txt (textL y.nm)) from hr 7 70 rfl rfl) s8) ⟨hg,Below.refl _ _,rfl⟩⟩
        ·exact ⟨rfl,fun ρ X9 hg ho hc hf hr=>Runs.val _ (op_f71_2 (show ρ (.tmp 7)=.pointer (some ⟨Z,0,none⟩) from ho 7 rfl)) ⟨hg,Below.refl _ _,rfl⟩⟩
        ·exact ⟨rfl,fun ρ X9 hg ho hc hf hr=>Runs.val _ (op_load3 (show ρ (.tmp 72)=.pointer (some ⟨Z,2,none⟩) from hr 9 72 rfl rfl) (cell_on hg g2)) ⟨hg,Below.refl _ _,rfl⟩⟩
        ·refine ⟨rfl,fun ρ X9 hg ho hc hf hr=>?_⟩
         refine Runs.goes 48 #[.int .i64 y.col] (op_call1 hf (by go_simp) (show ρ (.tmp 73)=.int .i64 y.col from hr 10 73 rfl rfl)) ((HT11.out X9).mono ?_)
         rintro e7 w7 ⟨rfl,b7⟩
         exact ⟨_,rfl,hg.trans (b7.mono hg.size),b7,rfl⟩
        ·exact ⟨rfl,fun ρ X9 hg ho hc hf hr=>Runs.val _ (op_cat (show ρ (.tmp 71)=.string (txt acc2 ++ txt (num y.id) ++ txt (textL y.nm)) from hr 8 71 rfl rfl) (show ρ (.tmp 74)=.string (txt (num y.col)) from hr 11 74 rfl rfl) s12) ⟨hg,Below.refl _ _,rfl⟩⟩
        ·exact ⟨rfl,fun ρ X9 hg ho hc hf hr=>Runs.val _ (op_f71_3 (show ρ (.tmp 7)=.pointer (some ⟨Z,0,none⟩) from ho 7 rfl)) ⟨hg,Below.refl _ _,rfl⟩⟩
        ·exact ⟨rfl,fun ρ X9 hg ho hc hf hr=>Runs.val _ (op_load4 (show ρ (.tmp 76)=.pointer (some ⟨Z,3,none⟩) from hr 13 76 rfl rfl) (cell_on hg g3)) ⟨hg,Below.refl _ _,rfl⟩⟩
        ·refine ⟨rfl,fun ρ X9 hg ho hc hf hr=>?_⟩
         refine Runs.goes 51 #[.bool y.uq] (op_call1 hf (by go_simp) (show ρ (.tmp 77)=.bool y.uq from hr 14 77 rfl rfl)) ((HT15.out X9).mono ?_)
         rintro e7 w7 ⟨rfl,b7⟩
         exact ⟨_,rfl,hg.trans (b7.mono hg.size),b7,rfl⟩
        ·exact ⟨rfl,fun ρ X9 hg ho hc hf hr=>Runs.val _ (op_cat (show ρ (.tmp 75)=.string (txt acc2 ++ txt (num y.id) ++ txt (textL y.nm) ++ txt (num y.col)) from hr 12 75 rfl rfl) (show ρ (.tmp 78)=.string (txt (flagL y.uq)) from hr 15 78 rfl rfl) s16) ⟨hg,Below.refl _ _,rfl⟩⟩
        ·exact ⟨rfl,fun ρ X9 hg ho hc hf hr=>Runs.val _ (op_f71_4 (show ρ (.tmp 7)=.pointer (some ⟨Z,0,none⟩) from ho 7 rfl)) ⟨hg,Below.refl _ _,rfl⟩⟩
        ·exact ⟨rfl,fun ρ X9 hg ho hc hf hr=>Runs.val _ (op_load3 (show ρ (.tmp 80)=.pointer (some ⟨Z,4,none⟩) from hr 17 80 rfl rfl) (cell_on hg g4)) ⟨hg,Below.refl _ _,rfl⟩⟩
        ·refine ⟨rfl,fun ρ X9 hg ho hc hf hr=>?_⟩
         refine Runs.goes 48 #[.int .i64 y.st] (op_call1 hf (by go_simp) (show ρ (.tmp 81)=.int .i64 y.st from hr 18 81 rfl rfl)) ((HT19.out X9).mono ?_)
         rintro e7 w7 ⟨rfl,b7⟩
         exact ⟨_,rfl,hg.trans (b7.mono hg.size),b7,rfl⟩
        ·exact ⟨rfl,fun ρ X9 hg ho hc hf hr=>Runs.val _ (op_cat (show ρ (.tmp 79)=.string (txt acc2 ++ txt (num y.id) ++ txt (textL y.nm) ++ txt (num y.col) ++ txt (flagL y.uq)) from hr 16 79 rfl rfl) (show ρ (.tmp 82)=.string (txt (num y.st)) from hr 19 82 rfl rfl) s20) ⟨hg,Below.refl _ _,rfl⟩⟩
       case la =>
        refine ⟨rfl,fun ρ X9 hg ho hc hf hr=>?_⟩
        exact Runs.val _ (op_assign (show ρ (.tmp 83)=.string (txt acc2 ++ txt (num y.id) ++ txt (textL y.nm) ++ txt (num y.col) ++ txt (flagL y.uq) ++ txt (num y.st)) from hr 20 83 (by decide) rfl)) ⟨rfl,hg⟩
       case en =>
        intro a9 X9 Xb v9 hF hs9 hd9 ho9 hv9 hr9
        obtain ⟨x9,hx,hxt⟩:=act_put hs9 hd9 ho9
        have e3:x9 3=.string (txt acc2 ++ txt (num y.id) ++ txt (textL y.nm) ++ txt (num y.col) ++ txt (flagL y.uq) ++ txt (num y.st)):=(hxt 3).symm.trans ((hv9 3 rfl).trans hF.1)
        change a9=putAll _ x9 [63,64,65,66,67,68,69,70,71,72,73,74,75,76,77,78,79,80,81,82,83,3] at hx
        simp only [putAll,Act.put,List.setIfInBounds_toArray,List.set_cons_zero,List.set_cons_succ,e3] at hx
        have HG:=lh hF.2
        clear hF hs9 hd9 ho9 hv9 hr9 hxt e3
        subst hx
        generalize x9 63=z63,x9 64=z64,x9 65=z65,x9 66=z66,x9 67=z67,x9 68=z68,x9 69=z69,x9 70=z70,x9 71=z71,x9 72=z72,x9 73=z73,x9 74=z74,x9 75=z75,x9 76=z76,x9 77=z77,x9 78=z78,x9 79=z79,x9 80=z80,x9 81=z81,x9 82=z82,x9 83=z83
        rw [HEND.out]
        rw [HFIN.out]
        go_wp2
        go_roundw
        case rel=>exact ⟨j+1,hjL,by go_num,by rw [HNB.out],bgo HBJ.out (bgo HBU.out HG.out)⟩
        case measure=>simp [intOf];omega
      ·have m1:¬ ((j:Int)<mi):=by omega
       have ei:(x.ixs.take j)=x.ixs:=List.take_of_length_le (by rw [Hmi.out];omega)
       rw [ei]
       have hl2:=HZmi.out
       obtain ⟨acc3,hacc3⟩:∃ acc3,pre2 ++ x.ixs.flatMap ix1L=acc3:=⟨_,rfl⟩
       rw [hacc3]
       have hz4:acc3.length+(num (mk:Int)).length+(x.fks.flatMap fk1L).length≤1000000000:=by
        rw [←hacc3]
        simp only [List.length_append] at hl2 ⊢
        omega
       have s4:=sum_ok (a:=txt acc3) (b:=txt (num (mk:Int))) (by rw [txt_size];omega) (by rw [txt_size];omega)
       obtain ⟨pre4,hp4⟩:∃ pre4,acc3 ++ num (mk:Int)=pre4:=⟨_,rfl⟩
       have HP4:Hid (txt acc3 ++ txt (num (mk:Int))=txt pre4):=lh (by rw [txt_append,hp4])
       have HTOT:Hid (acc ++ tab1L x=pre4 ++ x.fks.flatMap fk1L):=lh (by rw [←hp4,←hacc3,HX2.out])
       have HZmk:Hid ((pre4 ++ x.fks.flatMap fk1L).length≤1000000000):=lh (by rw [←hp4];simp only [List.length_append];omega)
       have hnk:=num_ref (mk:Int) V (by unfold I64;have:=hmk;omega)
       have cl2:=(HCX.out V hbj).2
       have HB2':=lh (bgo HB2.out hbj)
       have HCV:=lh (fun Y (hY:Below V.heap.size V Y)=>HCX.out Y (bgo hbj hY))
       have HLV:=lh (HLmk.out.on fkE_held hbj)
       clear hbj ei hl2 hacc3 hz4 hp4
       go_wp2_with (go_at_call 48;refine hnk.mono ?_;rintro e W3 ⟨rfl,hb3⟩;refine Hid.out ?_)
       refine lh ?_
       have HB3:=lh (bgo HB2'.out hb3)
       have HCX:Hid (∀ Y,Below W3.heap.size W3 Y→Y.cell? ⟨Q,3,none⟩=some (.slice ia mi ic)∧Y.cell? ⟨Q,4,none⟩=some (.slice ka mk kc)):=lh (fun Y hY=>HCV.out Y (bgo hb3 hY))
       have HLmk:=lh (HLV.out.on fkE_held hb3)
       have cl2:=(HCX.out W3 (Below.refl _ _)).2
       clear hb3 hnk HLV HCV cl
       go_upto_region 13 with fail
       rw [HP4.out]
       clear cl2
       go_wp2
       go_loopw [3,8] (fun ov iv wr=>TJ W3 pre4 fk1L x.fks wr ov iv) (fun _ iv _=>mk - (intOf iv).toNat)
       case atStart=>exact ⟨0,Nat.zero_le _,rfl,by rw [List.take_zero];simp,Below.refl _ _⟩
       case round =>
        obtain ⟨j,hj,rfl,rfl,hbj⟩:=hrel
        obtain ⟨V,rfl⟩:∃ V,V=wr:=⟨_,rfl⟩
        have hjm:j≤mk:=by rw [←Hmk.out];exact hj
        have cl:=(HCX.out V hbj).2
        by_cases hltj:j<mk
        ·have hjL:j<x.fks.length:=by rw [Hmk.out];exact hltj
         have m0:(0:Int)≤j:=by omega
         have m1:(j:Int)<mk:=by omega
         obtain ⟨_,_,e1,_,_,_,hcs⟩:=HLmk.out.on fkE_held hbj
         obtain ⟨b3,o3,cs3,ha,_,hE,_,hcell⟩:=hcs j hjL
         have hE':cs3=fkL x.fks[j]:=hE
         subst hE'
         simp only [Value.slice.injEq] at e1
         obtain ⟨rfl,_,rfl⟩:=e1
         subst ha
         have d0:=hcell 0 _ rfl
         have d1:=hcell 1 _ rfl
         have d2:=hcell 2 _ rfl
         have d3:=hcell 3 _ rfl
         have d4:=hcell 4 _ rfl
         simp only [Nat.add_zero] at d0
         have hnx:=fm_next fk1L hjL
         have hln:(pre4 ++ (x.fks.take (j+1)).flatMap fk1L).length≤1000000000:=by
          have h1:=HZmk.out
          have h2:=fmy_take fk1L x.fks (j+1)
          simp only [List.length_append] at h1 ⊢
          omega
         have hti:=HImk.out _ (List.getElem_mem hjL)
         obtain ⟨y,hy⟩:∃ y,x.fks[j]=y:=⟨_,rfl⟩
         rw [hy] at d0 d1 d2 d3 d4 hnx hti
         obtain ⟨acc2,hacc⟩:∃ acc2,pre4 ++ (x.fks.take j).flatMap fk1L=acc2:=⟨_,rfl⟩
         have hna:pre4 ++ (x.fks.take (j+1)).flatMap fk1L=acc2 ++ fk1L y:=by rw [hnx,←List.append_assoc,hacc]
         rw [hna] at hln
         rw [hacc]
         have HNB:=lh hna
         have HBJ:=lh hbj
         unfold fk1L at hln
         simp only [List.length_append] at hln
         have HT3:=lh (fun X=>num_ref y.id X hti.id)
         have s4:=sum_ok (a:=txt acc2) (b:=txt (num y.id)) (by rw [txt_size];omega) (by rw [txt_size];omega)
         have HT7:=lh (fun X=>text_ref y.nm X (by have:=textL_len y.nm;omega))
         have s8:=sum_ok (a:=txt acc2 ++ txt (num y.id)) (b:=txt (textL y.nm)) (by simp only [txt_append,txt_size,List.length_append];omega) (by rw [txt_size];omega)
         have HT16:=lh (fun X F (hF:Ints X F [y.col,y.par,y.st])=>nums_ref X 3 rfl (by omega) hF (fun z hz=>by
          simp at hz
          rcases hz with rfl | rfl | rfl
          ·exact hti.col
          ·exact hti.par
          ·exact hti.st))
         have s17:=sum_ok (a:=txt acc2 ++ txt (num y.id) ++ txt (textL y.nm)) (b:=txt (numsL [y.col,y.par,y.st])) (by simp only [txt_append,txt_size,List.length_append];omega) (by rw [txt_size];omega)
         have hend:txt acc2 ++ txt (num y.id) ++ txt (textL y.nm) ++ txt (numsL [y.col,y.par,y.st])=txt (acc2 ++ num y.id ++ textL y.nm ++ numsL [y.col,y.par,y.st]):=by simp only [txt_append]
         have HEND:=lh hend
         have hfin:acc2 ++ num y.id ++ textL y.nm ++ numsL [y.col,y.par,y.st]=acc2 ++ fk1L y:=by unfold fk1L;simp only [List.append_assoc]
         have HFIN:=lh hfin
         obtain ⟨U,hU⟩:∃ U,U=V.alloc (.cells (fkA y) 74):=⟨_,rfl⟩
         obtain ⟨Z,hZ⟩:∃ Z,V.heap.size=Z:=⟨_,rfl⟩
         have bU:Below V.heap.size V U:=by rw [hU];exact bnew _ _
         have jU:U.heap[Z]?=some (.cells (fkA y) 74 (0,0)):=by rw [hU,←hZ];exact heap_alloc_new V _
         have g0:U.cell? ⟨Z,0,none⟩=some (.int .i64 y.id):=cell_blk jU 0
         have g1:U.cell? ⟨Z,1,none⟩=some (.string y.nm):=cell_blk jU 1
         have g2:U.cell? ⟨Z,2,none⟩=some (.int .i64 y.col):=cell_blk jU 2
         have g3:U.cell? ⟨Z,3,none⟩=some (.int .i64 y.par):=cell_blk jU 3
         have g4:U.cell? ⟨Z,4,none⟩=some (.int .i64 y.st):=cell_blk jU 4
         have HU:=lh hU
         have HZZ:=lh hZ
         have HBU:=lh bU
         clear hcs hcell hE hbj hy hnx hna hln hacc hend hti hfin hU hZ bU jU
         go_upto_region 17 with fail
         rw [←HU.out,HZZ.out]
         clear cl d0 d1 d2 d3 d4
         refine wp_region_fin (fun X9=>Below U.heap.size U X9) (fun X9 X'=>Below X9.heap.size X9 X') [
          fun v9 _=>v9=.string (txt acc2),
          fun v9 _=>v9=.pointer (some ⟨Z,0,none⟩),
          fun v9 _=>v9=.int .i64 y.id,
          fun v9 _=>v9=.string (txt (num y.id)),
          fun v9 _=>v9=.string (txt acc2 ++ txt (num y.id)),
          fun v9 _=>v9=.pointer (some ⟨Z,1,none⟩),
          fun v9 _=>v9=.string y.nm,
          fun v9 _=>v9=.string (txt (textL y.nm)),
          fun v9 _=>v9=.string (txt acc2 ++ txt (num y.id) ++ txt (textL y.nm)),
          fun v9 _=>v9=.pointer (some ⟨Z,2,none⟩),
          fun v9 _=>v9=.int .i64 y.col,
          fun v9 _=>v9=.pointer (some ⟨Z,3,none⟩),
          fun v9 _=>v9=.int .i64 y.par,
          fun v9 _=>v9=.pointer (some ⟨Z,4,none⟩),
          fun v9 _=>v9=.int .i64 y.st,
          fun v9 X9=>∃ F,v9=.slice (some ⟨F,0,none⟩) 3 3∧Ints X9 F [y.col,y.par,y.st],
          fun v9 _=>v9=.string (txt (numsL [y.col,y.par,y.st])),
          fun v9 _=>v9=.string (txt acc2 ++ txt (num y.id) ++ txt (textL y.nm) ++ txt (numsL [y.col,y.par,y.st]))]
          (fun v9 X9=>v9=.string (txt acc2 ++ txt (num y.id) ++ txt (textL y.nm) ++ txt (numsL [y.col,y.par,y.st]))∧Below U.heap.size U X9) rfl (by kernel_rfl) (by kernel_rfl) (by kernel_rfl) (by kernel_rfl) ?st ?g0 ?os ?la ?en
         case st=>exact ⟨fun _ _ _ _ h=>h,fun _ _ _ _ h=>h,fun _ _ _ _ h=>h,fun _ _ _ _ h=>h,fun _ _ _ _ h=>h,fun _ _ _ _ h=>h,fun _ _ _ _ h=>h,fun _ _ _ _ h=>h,fun _ _ _ _ h=>h,fun _ _ _ _ h=>h,fun _ _ _ _ h=>h,fun _ _ _ _ h=>h,fun _ _ _ _ h=>h,fun _ _ _ _ h=>h,fun _ _ _ _ h=>h,(fun _ _ _ hb h=>by obtain ⟨F,e9,h9⟩:=h;exact ⟨F,e9,h9.on hb⟩),fun _ _ _ _ h=>h,fun _ _ _ _ h=>h,trivial⟩
         case g0=>exact ⟨rfl,rfl,rfl,Nat.le_refl _,fun _ _=>rfl⟩
         case os =>
          refine ⟨?_,?_,?_,?_,?_,?_,?_,?_,?_,?_,?_,?_,?_,?_,?_,?_,?_,?_,trivial⟩
          ·exact ⟨rfl,fun ρ X9 hg ho hc hf hr=>Runs.val _ (op_move (show ρ (.tmp 3)=.string (txt acc2) from ho 3 rfl)) ⟨hg,Below.refl _ _,rfl⟩⟩
          ·exact ⟨rfl,fun ρ X9 hg ho hc hf hr=>Runs.val _ (op_f74_0 (show ρ (.tmp 9)=.pointer (some ⟨Z,0,none⟩) from ho 9 rfl)) ⟨hg,Below.refl _ _,rfl⟩⟩
          ·exact ⟨rfl,fun ρ X9 hg ho hc hf hr=>Runs.val _ (op_load3 (show ρ (.tmp 103)=.pointer (some ⟨Z,0,none⟩) from hr 1 103 rfl rfl) (cell_on hg g0)) ⟨hg,Below.refl _ _,rfl⟩⟩
          ·refine ⟨rfl,fun ρ X9 hg ho hc hf hr=>?_⟩
           refine Runs.goes 48 #[.int .i64 y.id] (op_call1 hf (by go_simp) (show ρ (.tmp 104)=.int .i64 y.id from hr 2 104 rfl rfl)) ((HT3.out X9).mono ?_)
           rintro e7 w7 ⟨rfl,b7⟩
           exact ⟨_,rfl,hg.trans (b7.mono hg.size),b7,rfl⟩
          ·exact ⟨rfl,fun ρ X9 hg ho hc hf hr=>Runs.val _ (op_cat (show ρ (.tmp 102)=.string (txt acc2) from hr 0 102 rfl rfl) (show ρ (.tmp 105)=.string (txt (num y.id)) from hr 3 105 rfl rfl) s4) ⟨hg,Below.refl _ _,rfl⟩⟩
          ·exact ⟨rfl,fun ρ X9 hg ho hc hf hr=>Runs.val _ (op_f74_1 (show ρ (.tmp 9)=.pointer (some ⟨Z,0,none⟩) from ho 9 rfl)) ⟨hg,Below.refl _ _,rfl⟩⟩
          ·exact ⟨rfl,fun ρ X9 hg ho hc hf hr=>Runs.val _ (op_load9 (show ρ (.tmp 107)=.pointer (some ⟨Z,1,none⟩) from hr 5 107 rfl rfl) (cell_on hg g1)) ⟨hg,Below.refl _ _,rfl⟩⟩
          ·refine ⟨rfl,fun ρ X9 hg ho hc hf hr=>?_⟩
           refine Runs.goes 49 #[.string y.nm] (op_call1 hf (by go_simp) (show ρ (.tmp 108)=.string y.nm from hr 6 108 rfl rfl)) ((HT7.out X9).mono ?_)
           rintro e7 w7 ⟨rfl,b7⟩
           exact ⟨_,rfl,hg.trans (b7.mono hg.size),b7,rfl⟩
          ·exact ⟨rfl,fun ρ X9 hg ho hc hf hr=>Runs.val _ (op_cat (show ρ (.tmp 106)=.string (txt acc2 ++ txt (num y.id)) from hr 4 106 rfl rfl) (show ρ (.tmp 109)=.string (txt (textL y.nm)) from hr 7 109 rfl rfl) s8) ⟨hg,Below.refl _ _,rfl⟩⟩
          ·exact ⟨rfl,fun ρ X9 hg ho hc hf hr=>Runs.val _ (op_f74_2 (show ρ (.tmp 9)=.pointer (some ⟨Z,0,none⟩) from ho 9 rfl)) ⟨hg,Below.refl _ _,rfl⟩⟩
          ·exact ⟨rfl,fun ρ X9 hg ho hc hf hr=>Runs.val _ (op_load3 (show ρ (.tmp 111)=.pointer (some ⟨Z,2,none⟩) from hr 9 111 rfl rfl) (cell_on hg g2)) ⟨hg,Below.refl _ _,rfl⟩⟩
          ·exact ⟨rfl,fun ρ X9 hg ho hc hf hr=>Runs.val _ (op_f74_3 (show ρ (.tmp 9)=.pointer (some ⟨Z,0,none⟩) from ho 9 rfl)) ⟨hg,Below.refl _ _,rfl⟩⟩
          ·exact ⟨rfl,fun ρ X9 hg ho hc hf hr=>Runs.val _ (op_load3 (show ρ (.tmp 113)=.pointer (some ⟨Z,3,none⟩) from hr 11 113 rfl rfl) (cell_on hg g3)) ⟨hg,Below.refl _ _,rfl⟩⟩
          ·exact ⟨rfl,fun ρ X9 hg ho hc hf hr=>Runs.val _ (op_f74_4 (show ρ (.tmp 9)=.pointer (some ⟨Z,0,none⟩) from ho 9 rfl)) ⟨hg,Below.refl _ _,rfl⟩⟩
          ·exact ⟨rfl,fun ρ X9 hg ho hc hf hr=>Runs.val _ (op_load3 (show ρ (.tmp 115)=.pointer (some ⟨Z,4,none⟩) from hr 13 115 rfl rfl) (cell_on hg g4)) ⟨hg,Below.refl _ _,rfl⟩⟩
          ·refine ⟨rfl,fun ρ X9 hg ho hc hf hr=>?_⟩
           have b7:Below X9.heap.size X9 (X9.alloc (.cells #[.int .i64 y.col,.int .i64 y.par,.int .i64 y.st] 3)):=(Below.refl _ X9).alloc (Nat.le_refl _) _
           refine Runs.val _ (op_ints3 (show ρ (.tmp 112)=.int .i64 y.col from hr 10 112 rfl rfl) (show ρ (.tmp 114)=.int .i64 y.par from hr 12 114 rfl rfl) (show ρ (.tmp 116)=.int .i64 y.st from hr 14 116 rfl rfl)) ⟨hg.trans (b7.mono hg.size),b7,_,rfl,_,_,heap_alloc_new X9 _,fun i hi=>?_⟩
           match i,hi with
           | 0,_=>rfl
           | 1,_=>rfl
           | 2,_=>rfl
          ·refine ⟨rfl,fun ρ X9 hg ho hc hf hr=>?_⟩
           obtain ⟨F,e9,h9⟩:∃ F,ρ (.tmp 117)=.slice (some ⟨F,0,none⟩) 3 3∧Ints X9 F [y.col,y.par,y.st]:=hr 15 117 rfl rfl
           refine Runs.goes 47 #[.slice (some ⟨F,0,none⟩) 3 3] (op_call1 hf (by go_simp) e9) ((HT16.out X9 F h9).mono ?_)
           rintro e7 w7 ⟨rfl,b7⟩
           exact ⟨_,rfl,hg.trans (b7.mono hg.size),b7,rfl⟩
          ·exact ⟨rfl,fun ρ X9 hg ho hc hf hr=>Runs.val _ (op_cat (show ρ (.tmp 110)=.string (txt acc2 ++ txt (num y.id) ++ txt (textL y.nm)) from hr 8 110 rfl rfl) (show ρ (.tmp 118)=.string (txt (numsL [y.col,y.par,y.st])) from hr 16 118 rfl rfl) s17) ⟨hg,Below.refl _ _,rfl⟩⟩
         case la =>
          refine ⟨rfl,fun ρ X9 hg ho hc hf hr=>?_⟩
          exact Runs.val _ (op_assign (show ρ (.tmp 119)=.string (txt acc2 ++ txt (num y.id) ++ txt (textL y.nm) ++ txt (numsL [y.col,y.par,y.st])) from hr 17 119 (by decide) rfl)) ⟨rfl,hg⟩
         case en =>
          intro a9 X9 Xb v9 hF hs9 hd9 ho9 hv9 hr9
          obtain ⟨x9,hx,hxt⟩:=act_put hs9 hd9 ho9
          have e3:x9 3=.string (txt acc2 ++ txt (num y.id) ++ txt (textL y.nm) ++ txt (numsL [y.col,y.par,y.st])):=(hxt 3).symm.trans ((hv9 3 rfl).trans hF.1)
          change a9=putAll _ x9 [102,103,104,105,106,107,108,109,110,111,112,113,114,115,116,117,118,119,3] at hx
          simp only [putAll,Act.put,List.setIfInBounds_toArray,List.set_cons_zero,List.set_cons_succ,e3] at hx
          have HG:=lh hF.2
          clear hF hs9 hd9 ho9 hv9 hr9 hxt e3
          subst hx
          generalize x9 102=z102,x9 103=z103,x9 104=z104,x9 105=z105,x9 106=z106,x9 107=z107,x9 108=z108,x9 109=z109,x9 110=z110,x9 111=z111,x9 112=z112,x9 113=z113,x9 114=z114,x9 115=z115,x9 116=z116,x9 117=z117,x9 118=z118,x9 119=z119
          rw [HEND.out]
          rw [HFIN.out]
          go_wp2
          go_roundw
          case rel=>exact ⟨j+1,hjL,by go_num,by rw [HNB.out],bgo HBJ.out (bgo HBU.out HG.out)⟩
          case measure=>simp [intOf];omega
        ·have m1:¬ ((j:Int)<mk):=by omega
         have ei:(x.fks.take j)=x.fks:=List.take_of_length_le (by rw [Hmk.out];omega)
         rw [ei]
         have HBK:=lh (bgo HB3.out hbj)
         clear hbj ei
         go_wp2
         go_roundw
         case rel=>exact ⟨i+1,hiL,by go_num,by rw [HNA.out,HTOT.out],HBK.out⟩
         case measure=>simp [intOf];omega
     
   ·have k1:¬ ((i:Int)<n):=by omega
    have ei:(s.tabs.take i)=s.tabs:=List.take_of_length_le (by rw [HN.out];omega)
    rw [ei,←HFU.out]
    have HBX:=lh (bgo HB1.out hb)
    clear hb ei
    go_wp2
    go_ret
    exact ⟨rfl,HBX.out⟩
end
end Go.Proofs.YtongmhfpoopebaaGreat
