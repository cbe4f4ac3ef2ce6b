import Derived.Test.YtongmhfpoopebaaGreatPBp
namespace Go.Proofs.YtongmhfpoopebaaGreat
open Go.RowKit Go.Maps
theorem find_fidx {α:Type} (p:α→Bool) (L:List α):(fidx p L<0∧L.find? p=none)∨∃ (i:Nat) (h:i<L.length),fidx p L=(i:Int)∧L.find? p=some L[i]:=by
 rcases fidx_cases p L with ⟨e,h⟩ | ⟨i,hi,e,hp,hb⟩
 ·exact .inl ⟨by omega,List.find?_eq_none.2 fun x hx=>by simp [h x hx]⟩
 ·refine .inr ⟨i,hi,e,?_⟩
  rw [List.find?_eq_some_iff_getElem]
  exact ⟨hp,i,hi,rfl,fun j hj=>by simp [hb j (by omega) hj]⟩
theorem head_kd:∀ {t:Tb} (h:1≤t.cols.length),keyKd t=some (t.cols[0]).kd
 | ⟨_,_,[],_,_⟩,h=>by simp at h
 | ⟨_,_,c :: r,_,_⟩,_=>rfl
section
variable {w : World}
theorem goes103:Goes 103:=fun X a=>by go_simp
theorem goes106:Goes 106:=fun X a=>by go_simp
set_option maxHeartbeats 400000 in
set_option maxRecDepth 100000 in
theorem lost_f {t:Tb} {ca ia ka:Option Addr} {cc ic kc:Nat} {x:Ix} {B q Y:Nat} (h:Pt ixE w B q x) (hc:Lr colE 7 w t.cols (.slice ca t.cols.length cc)) (jY:w.heap[Y]?=some (.cells #[.int .i64 t.id,.string t.nm,.slice ca t.cols.length cc,.slice ia t.ixs.length ic,.slice ka t.fks.length kc] 35 (0,0))):Calls Tryz.prog 102 #[.pointer (some ⟨B,q,none⟩),.pointer (some ⟨Y,0,none⟩)] w fun e w'=>e=.returned (.bool (!(t.cols.any (fun c=>decide (c.id=x.col)))))∧Below w.heap.size w w':=by
 obtain ⟨cs,hE,hcell⟩:=h
 cases hE
 have c2:w.cell? ⟨B,q+2,none⟩=some (.int .i64 x.col):=hcell 2 _ rfl
 have d0:w.cell? ⟨Y,0,none⟩=some (.int .i64 t.id):=cell_blk jY 0
 have d1:w.cell? ⟨Y,1,none⟩=some (.string t.nm):=cell_blk jY 1
 have d2:w.cell? ⟨Y,2,none⟩=some (.slice ca t.cols.length cc):=cell_blk jY 2
 have d3:w.cell? ⟨Y,3,none⟩=some (.slice ia t.ixs.length ic):=cell_blk jY 3
 have d4:w.cell? ⟨Y,4,none⟩=some (.slice ka t.fks.length kc):=cell_blk jY 4
 have HO:Hid (∀ X:World,Below w.heap.size w X→Calls Tryz.prog 103 #[.agg #[.int .i64 t.id,.string t.nm,.slice ca t.cols.length cc,.slice ia t.ixs.length ic,.slice ka t.fks.length kc],.int .i64 x.col] X fun e w'=>e=.returned (.int .i64 (colOf t x.col))∧Below X.heap.size X w'):=fun X hX=>colOf_any _ (hc.on colE_held hX) ⟨_,_,_,rfl⟩ ⟨_,_,_,rfl⟩
 have hn:decide (colOf t x.col<0)=!(t.cols.any (fun c=>decide (c.id=x.col))):=by
  unfold colOf
  rw [fidx_neg,List.not_any_eq_all_not]
 obtain ⟨r,hr⟩:∃ r,(!(t.cols.any (fun c=>decide (c.id=x.col))))=r:=⟨_,rfl⟩
 obtain ⟨i,hi⟩:∃ i,colOf t x.col=i:=⟨_,rfl⟩
 rw [hi] at HO
 rw [hr,hi] at hn
 rw [hr]
 clear hr hi hcell jY hc
 have HN:=lh hn
 clear hn
 go_enter Tryz.func102,Tryz.ntmps102
 go_wp2
 go_region_with (go_at_call 103;refine (HO.out _ (by first | exact bdrew (Below.refl _ _) | exact bdrewN (Below.refl _ _) _)).mono ?_;rintro e w1 ⟨rfl,b1⟩)
 all_goals
  go_wp2
  go_ret
  exact ⟨by rw [←HN.out];rfl,⟨b1.os,b1.tape,b1.output,b1.size,b1.block⟩⟩
set_option maxHeartbeats 400000 in
set_option maxRecDepth 100000 in
theorem wrong_f {L:List Tb} {t:Tb} {ta ca ia ka:Option Addr} {tc cc ic kc:Nat} {x:Fk} {B q Y Z:Nat} (h:Pt fkE w B q x) (hL:Lr tbE 5 w L (.slice ta L.length tc)) (hc:Lr colE 7 w t.cols (.slice ca t.cols.length cc)) (jY:w.heap[Y]?=some (.cells #[.int .i64 t.id,.string t.nm,.slice ca t.cols.length cc,.slice ia t.ixs.length ic,.slice ka t.fks.length kc] 35 (0,0))) (jZ:w.heap[Z]?=some (.cells #[.slice ta L.length tc] 22 (0,0))) (hk:∀ t ∈ L,1≤t.cols.length):Calls Tryz.prog 105 #[.pointer (some ⟨B,q,none⟩),.pointer (some ⟨Y,0,none⟩),.pointer (some ⟨Z,0,none⟩)] w fun e w'=>e=.returned (.bool (!fkB L t x))∧Below w.heap.size w w':=by
 obtain ⟨cs,hE,hcell⟩:=h
 cases hE
 have c2:w.cell? ⟨B,q+2,none⟩=some (.int .i64 x.col):=hcell 2 _ rfl
 have c3:w.cell? ⟨B,q+3,none⟩=some (.int .i64 x.par):=hcell 3 _ rfl
 have d0:w.cell? ⟨Y,0,none⟩=some (.int .i64 t.id):=cell_blk jY 0
 have d1:w.cell? ⟨Y,1,none⟩=some (.string t.nm):=cell_blk jY 1
 have d2:w.cell? ⟨Y,2,none⟩=some (.slice ca t.cols.length cc):=cell_blk jY 2
 have d3:w.cell? ⟨Y,3,none⟩=some (.slice ia t.ixs.length ic):=cell_blk jY 3
 have d4:w.cell? ⟨Y,4,none⟩=some (.slice ka t.fks.length kc):=cell_blk jY 4
 have z0:w.cell? ⟨Z,0,none⟩=some (.slice ta L.length tc):=cell_blk jZ 0
 have HO1:Hid (∀ X:World,Below w.heap.size w X→Calls Tryz.prog 103 #[.agg #[.int .i64 t.id,.string t.nm,.slice ca t.cols.length cc,.slice ia t.ixs.length ic,.slice ka t.fks.length kc],.int .i64 x.col] X fun e w'=>e=.returned (.int .i64 (colOf t x.col))∧Below X.heap.size X w'):=fun X hX=>colOf_any _ (hc.on colE_held hX) ⟨_,_,_,rfl⟩ ⟨_,_,_,rfl⟩
 have HO2:Hid (∀ X:World,Below w.heap.size w X→Calls Tryz.prog 106 #[.slice ta L.length tc,.int .i64 x.par] X fun e w'=>e=.returned (.int .i64 (tabOf L x.par))∧Below X.heap.size X w'):=fun X hX=>tabO_any _ (hL.on tbE_held hX)
 have hC:=find_fidx (fun c:Col=>decide (c.id=x.col)) t.cols
 have hT:=find_fidx (fun c:Tb=>decide (c.id=x.par)) L
 have HR:Hid (fkB L t x=match t.cols.find? (fun c=>decide (c.id=x.col)),L.find? (fun t=>decide (t.id=x.par)) with | some c,some p=>decide (keyKd p=some c.kd) | _,_=>false):=lh rfl
 obtain ⟨i,hi⟩:∃ i,colOf t x.col=i:=⟨_,rfl⟩
 obtain ⟨j,hj⟩:∃ j,tabOf L x.par=j:=⟨_,rfl⟩
 rw [hi] at HO1
 rw [hj] at HO2
 have hi':fidx (fun c:Col=>decide (c.id=x.col)) t.cols=i:=hi
 have hj':fidx (fun c:Tb=>decide (c.id=x.par)) L=j:=hj
 rw [hi'] at hC
 rw [hj'] at hT
 have HL:=lh hL
 have HC:=lh hc
 have HK:=lh hk
 have HFC:=lh hC
 have HFT:=lh hT
 have J:=lh (And.intro jY jZ)
 have HKP:Hid (∀ X,Below w.heap.size w X→X.cell? ⟨B,q+2,none⟩=some (.int .i64 x.col)∧X.cell? ⟨B,q+3,none⟩=some (.int .i64 x.par)∧X.cell? ⟨Y,0,none⟩=some (.int .i64 t.id)∧X.cell? ⟨Y,1,none⟩=some (.string t.nm)∧X.cell? ⟨Y,2,none⟩=some (.slice ca t.cols.length cc)∧X.cell? ⟨Y,3,none⟩=some (.slice ia t.ixs.length ic)∧X.cell? ⟨Y,4,none⟩=some (.slice ka t.fks.length kc)∧X.cell? ⟨Z,0,none⟩=some (.slice ta L.length tc)∧Hid (Below w.heap.size w X)):=fun X hX=>⟨cell_on hX c2,cell_on hX c3,cell_on hX d0,cell_on hX d1,cell_on hX d2,cell_on hX d3,cell_on hX d4,cell_on hX z0,lh hX⟩
 clear hi hj hi' hj' hcell jY jZ hc hL hk hC hT
 go_enter Tryz.func105,Tryz.ntmps105
 go_wp2
 refine wp_region_fl (fun _ X9=>Below w.heap.size w X9) (fun X9 X'=>Below X9.heap.size X9 X') [
  fun v9 _=>v9=.agg #[.int .i64 t.id,.string t.nm,.slice ca t.cols.length cc,.slice ia t.ixs.length ic,.slice ka t.fks.length kc],
  fun v9 _=>v9=.pointer (some ⟨B,q,none⟩),
  fun v9 _=>v9=.pointer (some ⟨B,q,none⟩),
  fun v9 _=>v9=.pointer (some ⟨B,q+2,none⟩),
  fun v9 _=>v9=.int .i64 x.col,
  fun v9 _=>v9=.int .i64 i,
  fun v9 _=>v9=.slice ta L.length tc,
  fun v9 _=>v9=.pointer (some ⟨B,q,none⟩),
  fun v9 _=>v9=.pointer (some ⟨B,q,none⟩),
  fun v9 _=>v9=.pointer (some ⟨B,q+3,none⟩),
  fun v9 _=>v9=.int .i64 x.par,
  fun v9 _=>v9=.int .i64 j,
  fun v9 _=>v9=.int .i64 i,
  fun v9 _=>v9=.int .i64 j]
  (by kernel_rfl) (by kernel_rfl) (by kernel_rfl) ?st ?g0 ?os ?en
 case st=>exact ⟨fun _ _ _ _ h=>h,fun _ _ _ _ h=>h,fun _ _ _ _ h=>h,fun _ _ _ _ h=>h,fun _ _ _ _ h=>h,fun _ _ _ _ h=>h,fun _ _ _ _ h=>h,fun _ _ _ _ h=>h,fun _ _ _ _ h=>h,fun _ _ _ _ h=>h,fun _ _ _ _ h=>h,fun _ _ _ _ h=>h,fun _ _ _ _ h=>h,fun _ _ _ _ h=>h,trivial⟩
 case g0=>exact ⟨rfl,rfl,rfl,Nat.le_refl _,fun _ _=>rfl⟩
 case os =>
  refine ⟨?_,?_,?_,?_,?_,?_,?_,?_,?_,?_,?_,?_,?_,?_,trivial⟩
  ·exact fun ρ X9 fl hg hn hl hp ho hc hf hr=>.inl ⟨rfl,Runs.val _ (op_loadAt (show ρ (.tmp 1)=.pointer (some ⟨Y,0,none⟩) from ho 1 rfl) (load_row ((hg.block Y (blk_lt J.out.1)).trans J.out.1) Tryz.underlying35 rfl size35)) ⟨hg,Below.refl _ _,rfl⟩⟩
  ·exact fun ρ X9 fl hg hn hl hp ho hc hf hr=>.inl ⟨rfl,Runs.val _ (op_move (show ρ (.tmp 0)=.pointer (some ⟨B,q,none⟩) from ho 0 rfl)) ⟨hg,Below.refl _ _,rfl⟩⟩
  ·exact fun ρ X9 fl hg hn hl hp ho hc hf hr=>.inl ⟨rfl,Runs.val _ (op_nil (show ρ (.tmp 8)=.pointer (some ⟨B,q,none⟩) from hr 1 8 rfl rfl)) ⟨hg,Below.refl _ _,rfl⟩⟩
  ·exact fun ρ X9 fl hg hn hl hp ho hc hf hr=>.inl ⟨rfl,Runs.val _ (op_f74_2 (show ρ (.tmp 9)=.pointer (some ⟨B,q,none⟩) from hr 2 9 rfl rfl)) ⟨hg,Below.refl _ _,rfl⟩⟩
  ·exact fun ρ X9 fl hg hn hl hp ho hc hf hr=>.inl ⟨rfl,Runs.val _ (op_load3 (show ρ (.tmp 10)=.pointer (some ⟨B,q+2,none⟩) from hr 3 10 rfl rfl) (cell_on hg c2)) ⟨hg,Below.refl _ _,rfl⟩⟩
  ·refine fun ρ X9 fl hg hn hl hp ho hc hf hr=>.inl ⟨rfl,?_⟩
   refine Runs.goes 103 #[.agg #[.int .i64 t.id,.string t.nm,.slice ca t.cols.length cc,.slice ia t.ixs.length ic,.slice ka t.fks.length kc],.int .i64 x.col] (op_call2 hf (goes103 _ _) (show ρ (.tmp 7)=.agg #[.int .i64 t.id,.string t.nm,.slice ca t.cols.length cc,.slice ia t.ixs.length ic,.slice ka t.fks.length kc] from hr 0 7 rfl rfl) (show ρ (.tmp 11)=.int .i64 x.col from hr 4 11 rfl rfl)) ((HO1.out X9 hg).mono ?_)
   rintro e7 w7 ⟨rfl,b7⟩
   exact ⟨_,rfl,bgo hg b7,b7,rfl⟩
  ·exact fun ρ X9 fl hg hn hl hp ho hc hf hr=>.inl ⟨rfl,Runs.val _ (op_load22 (show ρ (.tmp 2)=.pointer (some ⟨Z,0,none⟩) from ho 2 rfl) (cell_on hg z0)) ⟨hg,Below.refl _ _,rfl⟩⟩
  ·exact fun ρ X9 fl hg hn hl hp ho hc hf hr=>.inl ⟨rfl,Runs.val _ (op_move (show ρ (.tmp 0)=.pointer (some ⟨B,q,none⟩) from ho 0 rfl)) ⟨hg,Below.refl _ _,rfl⟩⟩
  ·exact fun ρ X9 fl hg hn hl hp ho hc hf hr=>.inl ⟨rfl,Runs.val _ (op_nil (show ρ (.tmp 14)=.pointer (some ⟨B,q,none⟩) from hr 7 14 rfl rfl)) ⟨hg,Below.refl _ _,rfl⟩⟩
  ·exact fun ρ X9 fl hg hn hl hp ho hc hf hr=>.inl ⟨rfl,Runs.val _ (op_f74_3 (show ρ (.tmp 15)=.pointer (some ⟨B,q,none⟩) from hr 8 15 rfl rfl)) ⟨hg,Below.refl _ _,rfl⟩⟩
  ·exact fun ρ X9 fl hg hn hl hp ho hc hf hr=>.inl ⟨rfl,Runs.val _ (op_load3 (show ρ (.tmp 16)=.pointer (some ⟨B,q+3,none⟩) from hr 9 16 rfl rfl) (cell_on hg c3)) ⟨hg,Below.refl _ _,rfl⟩⟩
  ·refine fun ρ X9 fl hg hn hl hp ho hc hf hr=>.inl ⟨rfl,?_⟩
   refine Runs.goes 106 #[.slice ta L.length tc,.int .i64 x.par] (op_call2 hf (goes106 _ _) (show ρ (.tmp 13)=.slice ta L.length tc from hr 6 13 rfl rfl) (show ρ (.tmp 17)=.int .i64 x.par from hr 10 17 rfl rfl)) ((HO2.out X9 hg).mono ?_)
   rintro e7 w7 ⟨rfl,b7⟩
   exact ⟨_,rfl,bgo hg b7,b7,rfl⟩
  ·exact fun ρ X9 fl hg hn hl hp ho hc hf hr=>.inl ⟨rfl,Runs.val _ (op_assign (show ρ (.tmp 12)=.int .i64 i from hr 5 12 rfl rfl)) ⟨hg,Below.refl _ _,rfl⟩⟩
  ·exact fun ρ X9 fl hg hn hl hp ho hc hf hr=>.inl ⟨rfl,Runs.val _ (op_assign (show ρ (.tmp 18)=.int .i64 j from hr 11 18 rfl rfl)) ⟨hg,Below.refl _ _,rfl⟩⟩
 case en =>
  intro a V fl hfl hbc hs hd ho hr
  obtain ⟨x',hx,hxt⟩:=act_put hs hd ho
  have x5:x' 5=.int .i64 i:=(hxt 5).symm.trans (hr 12 5 rfl)
  have x6:x' 6=.int .i64 j:=(hxt 6).symm.trans (hr 13 6 rfl)
  change a=putAll _ x' [7,8,9,10,11,12,13,14,15,16,17,18,5,6] at hx
  simp only [putAll,Act.put,List.setIfInBounds_toArray,List.set_cons_zero,List.set_cons_succ,x5,x6] at hx
  clear hs hd ho hr hxt x5 x6
  subst hx
  obtain ⟨_,_,_,_,e2,_,_,e8,_⟩:=HKP.out V hbc
  have HB:=lh hbc
  clear c2 c3 d0 d1 d2 d3 d4 z0
  rcases HFC.out with ⟨hn,hf⟩ | ⟨ci,hci,rfl,hf⟩
  ·have HR2:Hid (fkB L t x=false):=by rw [HR.out,hf];exact lh rfl
   clear hf hbc
   go_wp2
   go_quiet (fail)
   go_wp2
   go_ret
   exact ⟨by rw [HR2.out];rfl,bdrewN HB.out _⟩
  ·have hn:decide ((ci:Int)<0)=false:=decide_eq_false (by omega)
   rcases HFT.out with ⟨hn2,hf2⟩ | ⟨pj,hpj,rfl,hf2⟩
   ·have HR2:Hid (fkB L t x=false):=by rw [HR.out,hf,hf2];exact lh rfl
    clear hf hf2 hbc
    go_wp2
    go_quiet (fail)
    go_wp2
    go_ret
    exact ⟨by rw [HR2.out];rfl,bdrewN HB.out _⟩
   ·have hn2:decide ((pj:Int)<0)=false:=decide_eq_false (by omega)
    have hp1:=HK.out _ (List.getElem_mem hpj)
    have HR2:Hid (fkB L t x=decide ((L[pj].cols[0]).kd=t.cols[ci].kd)):=lh (by
     rw [HR.out,hf,hf2]
     show decide (keyKd L[pj]=some t.cols[ci].kd)=_
     rw [head_kd hp1]
     simp)
    obtain ⟨a1,k1,e1,_,_,_,hX1⟩:=HC.out.on colE_held hbc
    cases e1
    obtain ⟨b1,p1,cs1,rfl,_,hE1,_,hcl1⟩:=hX1 ci hci
    cases hE1
    obtain ⟨a2,k2,e2',_,_,_,hX2⟩:=HL.out.on tbE_held hbc
    cases e2'
    obtain ⟨b2,p2,cs2,rfl,_,hE2,_,hcl2⟩:=hX2 pj hpj
    obtain ⟨cv,iv,kv,rfl,h3⟩:=hE2
    obtain ⟨a3,k3,rfl,_,_,_,hX3⟩:=h3.c
    obtain ⟨b3,p3,cs3,rfl,_,hE3,_,hcl3⟩:=hX3 0 (by omega)
    cases hE3
    have f1:V.cell? ⟨b1,p1+ci*7+2,none⟩=some (.int .i64 t.cols[ci].kd):=hcl1 2 _ rfl
    have f2:V.cell? ⟨b2,p2+pj*5+2,none⟩=some (.slice (some ⟨b3,p3,none⟩) (L[pj].cols).length k3):=hcl2 2 _ rfl
    have f3:V.cell? ⟨b3,p3+2,none⟩=some (.int .i64 (L[pj].cols[0]).kd):=by
     have:=hcl3 2 _ rfl
     rw [Nat.zero_mul,Nat.add_zero] at this
     exact this
    have m0:(0:Int)≤(ci:Int):=by omega
    have m1:(ci:Int)<(t.cols.length:Int):=by omega
    have m2:(0:Int)≤(pj:Int):=by omega
    have m3:(pj:Int)<(L.length:Int):=by omega
    have m4:(0:Int)<((L[pj].cols).length:Int):=by omega
    obtain ⟨u1,hu1⟩:∃ u1,(L[pj].cols[0]).kd=u1:=⟨_,rfl⟩
    obtain ⟨u2,hu2⟩:∃ u2,t.cols[ci].kd=u2:=⟨_,rfl⟩
    obtain ⟨n3,hn3⟩:∃ n3,(L[pj].cols).length=n3:=⟨_,rfl⟩
    rw [hu1] at f3 HR2
    rw [hu2] at f1 HR2
    rw [hn3] at f2 m4
    clear hf hf2 hbc hX1 hX2 hX3 hcl1 hcl2 hcl3 h3 hu1 hu2 hn3
    by_cases hq:u1=u2
    ·subst hq
     go_wp2
     go_quiet (fail)
     go_wp2
     go_ret
     exact ⟨by rw [HR2.out];simp,bdrewN HB.out _⟩
    ·go_wp2
     go_quiet (fail)
     go_wp2
     go_ret
     exact ⟨by rw [HR2.out];simp [hq],bdrewN HB.out _⟩
end
end Go.Proofs.YtongmhfpoopebaaGreat
namespace Go.Proofs.YtongmhfpoopebaaGreat
open Go.RowKit Go.Maps
section
variable {w : World}
set_option maxHeartbeats 1000000 in
set_option maxRecDepth 100000 in
theorem links_any {L:List Tb} {t:Tb} {tv cv iv kv:Value} (hL:Lr tbE 5 w L tv) (h:Three w t cv iv kv) (hk:∀ t ∈ L,1≤t.cols.length):Calls Tryz.prog 62 #[tv,tbV t cv iv kv] w fun e w'=>e=.returned (.bool (linkB L t))∧Below w.heap.size w w':=by
 have HT:=lh h
 have HL:=lh hL
 obtain ⟨ta,tc,rfl,_⟩:=hL
 obtain ⟨ca,cc,rfl,_⟩:=h.c
 obtain ⟨ia,ic,rfl,_⟩:=h.i
 obtain ⟨ka,kc,rfl,_⟩:=h.k
 obtain ⟨W,hW⟩:∃ W,W=(w.alloc (.cells #[.slice ta L.length tc] 22)).alloc (.cells #[.int .i64 t.id,.string t.nm,.slice ca t.cols.length cc,.slice ia t.ixs.length ic,.slice ka t.fks.length kc] 35):=⟨_,rfl⟩
 have hbW:Below w.heap.size w W:=by rw [hW];exact ((Below.refl _ w).alloc (Nat.le_refl _) _).alloc (by simp) _
 obtain ⟨Y0,hY0⟩:∃ Y0,w.heap.size=Y0:=⟨_,rfl⟩
 obtain ⟨Y1,hY1⟩:∃ Y1,Y0+1=Y1:=⟨_,rfl⟩
 have jY0:W.heap[Y0]?=some (.cells #[.slice ta L.length tc] 22 (0,0)):=by
  have:=heap_alloc_new w (.cells #[.slice ta L.length tc] 22)
  rw [hW,←hY0]
  rw [Below.heap_alloc _ _ _ (by simp only [World.size_alloc];omega)]
  exact this
 have jY1:W.heap[Y1]?=some (.cells #[.int .i64 t.id,.string t.nm,.slice ca t.cols.length cc,.slice ia t.ixs.length ic,.slice ka t.fks.length kc] 35 (0,0)):=by
  have:=heap_alloc_new (w.alloc (.cells #[.slice ta L.length tc] 22)) (.cells #[.int .i64 t.id,.string t.nm,.slice ca t.cols.length cc,.slice ia t.ixs.length ic,.slice ka t.fks.length kc] 35)
  simp only [World.size_alloc] at this
  rw [hW,←hY1,←hY0]
  exact this
 have d3:W.cell? ⟨Y1,3,none⟩=some (.slice ia t.ixs.length ic):=cell_blk jY1 3
 have hc1:=findI_any (w:=W) (f:=102) (cs:=#[.pointer (some ⟨Y1,0,none⟩)]) (p:=fun x=>!(t.cols.any (fun c=>decide (c.id=x.col)))) (HT.out.i.on ixE_held hbW) goes102 (fun X hX B q x _ _ hp=>lost_f hp ((HT.out.c.on colE_held hbW).on colE_held hX) ((hX.block Y1 (blk_lt jY1)).trans jY1))
 have HF:Hid (∀ X,Below W.heap.size W X→X.cell? ⟨Y1,4,none⟩=some (.slice ka t.fks.length kc)∧Calls Tryz.prog 104 #[.slice ka t.fks.length kc,.func (.func 105) #[] #[.pointer (some ⟨Y1,0,none⟩),.pointer (some ⟨Y0,0,none⟩)]] X fun e w'=>e=.returned (.int .i64 (fidx (fun x=>!fkB L t x) t.fks))∧Below X.heap.size X w'):=fun X hX=>by
  have hwX:=bgo hbW hX
  refine ⟨cell_on hX (cell_blk jY1 4),findK_any (w:=X) (f:=105) (p:=fun x=>!fkB L t x) (HT.out.k.on fkE_held hwX) goes105 (fun X' hX' B q x _ _ hp=>wrong_f hp ((HL.out.on tbE_held hwX).on tbE_held hX') ((HT.out.c.on colE_held hwX).on colE_held hX') (((bgo hX hX').block Y1 (blk_lt jY1)).trans jY1) (((bgo hX hX').block Y0 (blk_lt jY0)).trans jY0) hk)⟩
 have n1:=fidx_neg (fun x:Ix=>!(t.cols.any (fun c=>decide (c.id=x.col)))) t.ixs
 have n2:=fidx_neg (fun x:Fk=>!fkB L t x) t.fks
 simp only [Bool.not_not] at n1 n2
 obtain ⟨i1,hi1⟩:∃ i1,fidx (fun x:Ix=>!(t.cols.any (fun c=>decide (c.id=x.col)))) t.ixs=i1:=⟨_,rfl⟩
 obtain ⟨i2,hi2⟩:∃ i2,fidx (fun x:Fk=>!fkB L t x) t.fks=i2:=⟨_,rfl⟩
 obtain ⟨r1,hr1⟩:∃ r1,t.ixs.all (fun x=>t.cols.any (fun c=>decide (c.id=x.col)))=r1:=⟨_,rfl⟩
 obtain ⟨r2,hr2⟩:∃ r2,t.fks.all (fun x=>fkB L t x)=r2:=⟨_,rfl⟩
 have HR:Hid (linkB L t=(r1 && r2)):=by
  unfold linkB
  rw [hr1,show t.fks.all (fkB L t)=r2 from hr2]
  exact lh rfl
 rw [hi1] at hc1 n1
 rw [hi2] at HF n2
 rw [hr1] at n1
 rw [hr2] at n2
 have HW:=lh hW
 have HBW:=lh hbW
 have HY0:=lh hY0
 have HY1:=lh hY1
 clear hW hbW hY0 hY1
 clear jY0 jY1 hi1 hi2 hr1 hr2 h hk
 go_enter Tryz.func62,Tryz.ntmps62
 go_upto_region 1 with fail
 rw [←HW.out,HY0.out,HY1.out]
 go_upto_region 2 with (go_at_call 101;refine hc1.mono ?_;rintro e w1 ⟨rfl,b1⟩;refine Hid.out ?_)
 refine lh ?_
 have HB1:=lh b1
 obtain ⟨e4,hc2⟩:=HF.out w1 b1
 clear hc1 b1 d3
 go_upto_region 3 with (go_at_call 104;refine hc2.mono ?_;rintro e w2 ⟨rfl,b2⟩;refine Hid.out ?_)
 refine lh ?_
 have HB2:=lh b2
 clear hc2 b2 e4
 cases r1 with
 | false =>
  have q1:=of_decide_eq_false n1
  clear n1 n2
  go_wp2
  go_ret
  exact ⟨by rw [HR.out];simp,bgo HBW.out (bgo HB1.out HB2.out)⟩
 | true =>
  have q1:=of_decide_eq_true n1
  clear n1
  cases r2 with
  | false =>
   have q2:=of_decide_eq_false n2
   clear n2
   go_wp2
   go_ret
   exact ⟨by rw [HR.out];simp,bgo HBW.out (bgo HB1.out HB2.out)⟩
  | true =>
   have q2:=of_decide_eq_true n2
   clear n2
   go_wp2
   go_ret
   exact ⟨by rw [HR.out];simp,bgo HBW.out (bgo HB1.out HB2.out)⟩
set_option maxHeartbeats 400000 in
set_option maxRecDepth 100000 in
theorem id_f {x z:Int} {B q Z:Nat} (h:Pt inE w B q x) (cz:w.cell? ⟨Z,1,none⟩=some (.int .i64 z)):Calls Tryz.prog 58 #[.pointer (some ⟨B,q,none⟩),.pointer (some ⟨Z,0,none⟩)] w fun e w'=>e=.returned (.bool (!(decide (1≤x) && decide (x≤z))))∧Below w.heap.size w w':=by
 obtain ⟨cs,hE,hc⟩:=h
 cases hE
 have c0:w.cell? ⟨B,q,none⟩=some (.int .i64 x):=hc 0 _ rfl
 clear hc
 by_cases q1:x<1
 ·have k1:decide (x<1)=true:=decide_eq_true q1
  have k2:¬ 1≤x:=by omega
  go_enter Tryz.func58,Tryz.ntmps58
  go_wp2
  go_quiet (fail)
  go_wp2
  go_ret
  exact ⟨by simp [k2],bdrewN (Below.refl _ _) _⟩
 ·have k1:decide (x<1)=false:=decide_eq_false q1
  have k2:1≤x:=by omega
  by_cases q2:z<x
  ·have k4:¬ x≤z:=by omega
   go_enter Tryz.func58,Tryz.ntmps58
   go_wp2
   go_quiet (fail)
   go_wp2
   go_ret
   exact ⟨by simp [k4],bdrewN (Below.refl _ _) _⟩
  ·have k4:x≤z:=by omega
   go_enter Tryz.func58,Tryz.ntmps58
   go_wp2
   go_quiet (fail)
   go_wp2
   go_ret
   exact ⟨by simp [k2,k4],bdrewN (Below.refl _ _) _⟩
set_option maxHeartbeats 1000000 in
set_option maxRecDepth 100000 in
theorem link_f {L:List Tb} {x:Tb} {tv:Value} {B q Z:Nat} (h:Pt tbE w B q x) (hL:Lr tbE 5 w L tv) (cz:w.cell? ⟨Z,2,none⟩=some tv) (hk:∀ t ∈ L,1≤t.cols.length):Calls Tryz.prog 61 #[.pointer (some ⟨B,q,none⟩),.pointer (some ⟨Z,0,none⟩)] w fun e w'=>e=.returned (.bool (!linkB L x))∧Below w.heap.size w w':=by
 obtain ⟨cs,⟨cv,iv,kv,rfl,h3⟩,hc⟩:=h
 have HO:Hid (∀ X:World,Below w.heap.size w X→Calls Tryz.prog 62 #[tv,tbV x cv iv kv] X fun e w'=>e=.returned (.bool (linkB L x))∧Below X.heap.size X w'):=fun X hX=>links_any (hL.on tbE_held hX) (h3.on hX) hk
 have c0:w.cell? ⟨B,q,none⟩=some (.int .i64 x.id):=hc 0 _ rfl
 have c1:w.cell? ⟨B,q+1,none⟩=some (.string x.nm):=hc 1 _ rfl
 have c2:w.cell? ⟨B,q+2,none⟩=some cv:=hc 2 _ rfl
 have c3:w.cell? ⟨B,q+3,none⟩=some iv:=hc 3 _ rfl
 have c4:w.cell? ⟨B,q+4,none⟩=some kv:=hc 4 _ rfl
 obtain ⟨ta,tc,rfl,_⟩:=hL
 obtain ⟨ca,cc,rfl,_⟩:=h3.c
 obtain ⟨ia,ic,rfl,_⟩:=h3.i
 obtain ⟨ka,kc,rfl,_⟩:=h3.k
 obtain ⟨r,hr⟩:∃ r,linkB L x=r:=⟨_,rfl⟩
 rw [hr] at HO ⊢
 clear hr hc h3 hk
 go_enter Tryz.func61,Tryz.ntmps61
 go_wp2
 go_region_with (go_at_call 62;refine (HO.out _ (by first | exact bdrew (Below.refl _ _) | exact bdrewN (Below.refl _ _) _)).mono ?_;rintro e w1 ⟨rfl,b1⟩)
 all_goals
  go_wp2
  go_ret
  exact ⟨rfl,⟨b1.os,b1.tape,b1.output,b1.size,b1.block⟩⟩
end
end Go.Proofs.YtongmhfpoopebaaGreat
