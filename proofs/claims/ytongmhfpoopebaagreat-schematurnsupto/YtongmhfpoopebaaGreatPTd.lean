import Derived.Test.YtongmhfpoopebaaGreatPTc
namespace Go.Proofs.YtongmhfpoopebaaGreat
open Go.RowKit
section
variable {w : World}
set_option maxHeartbeats 4000000 in
set_option maxRecDepth 100000 in
theorem same_any {s:Sc} {ta tb:Value} (ha:Lr tbE 5 w s.tabs ta) (hb:Lr tbE 5 w s.tabs tb) (hI:ScIn s) (hz:(schL s).length≤1000000000):Calls Tryz.prog 11 #[scV s ta,scV s tb] w fun e w'=>e=.returned (.bool true)∧Below w.heap.size w w':=by
 obtain ⟨W,hW⟩:∃ W,W=(w.alloc (.cells #[.int .i64 s.ver,.int .i64 s.last,ta] 24)).alloc (.cells #[.int .i64 s.ver,.int .i64 s.last,tb] 24):=⟨_,rfl⟩
 have hbW:Below w.heap.size w W:=by rw [hW];exact ((Below.refl _ w).alloc (Nat.le_refl _) _).alloc (by simp) _
 obtain ⟨Y0,hY0⟩:∃ Y0,w.heap.size=Y0:=⟨_,rfl⟩
 obtain ⟨Y1,hY1⟩:∃ Y1,Y0+1=Y1:=⟨_,rfl⟩
 have j0:W.heap[Y0]?=some (.cells (scA s ta) 24 (0,0)):=by
  have:=heap_alloc_new w (.cells #[.int .i64 s.ver,.int .i64 s.last,ta] 24)
  rw [hW,←hY0]
  rw [Below.heap_alloc _ _ _ (by simp only [World.size_alloc];omega)]
  exact this
 have j1:W.heap[Y1]?=some (.cells (scA s tb) 24 (0,0)):=by
  have:=heap_alloc_new (w.alloc (.cells #[.int .i64 s.ver,.int .i64 s.last,ta] 24)) (.cells #[.int .i64 s.ver,.int .i64 s.last,tb] 24)
  simp only [World.size_alloc] at this
  rw [hW,←hY1,←hY0]
  exact this
 have HA:=lh (ha.on tbE_held hbW)
 have HB:=lh (hb.on tbE_held hbW)
 obtain ⟨a1,a2,rfl,_⟩:=ha
 obtain ⟨b1,b2,rfl,_⟩:=hb
 have HI:=lh hI
 have HZ:=lh hz
 have HW:=lh hW
 have HBW:=lh hbW
 have HY0:=lh hY0
 have HY1:=lh hY1
 clear hW hbW hY0 hY1 hI hz
 go_enter Tryz.func11,Tryz.ntmps11
 go_upto_region 1 with fail
 rw [←HW.out,HY0.out,HY1.out]
 refine wp_region_fin (fun X9=>Below W.heap.size W X9) (fun X9 X'=>Below X9.heap.size X9 X') [
  fun v9 _=>v9=scV s (.slice a1 s.tabs.length a2),
  fun v9 _=>v9=.string (txt (schL s)),
  fun v9 _=>v9=scV s (.slice b1 s.tabs.length b2),
  fun v9 _=>v9=.string (txt (schL s)),
  fun v9 _=>v9=.bool true]
  (fun v9 X9=>v9=.bool true∧Below W.heap.size W X9) rfl (by kernel_rfl) (by kernel_rfl) (by kernel_rfl) (by kernel_rfl) ?st ?g0 ?os ?la ?en
 case st=>exact ⟨fun _ _ _ _ h=>h,fun _ _ _ _ h=>h,fun _ _ _ _ h=>h,fun _ _ _ _ h=>h,fun _ _ _ _ h=>h,trivial⟩
 case g0=>exact ⟨rfl,rfl,rfl,Nat.le_refl _,fun _ _=>rfl⟩
 case os =>
  refine ⟨?_,?_,?_,?_,?_,trivial⟩
  ·exact ⟨rfl,fun ρ X9 hg ho hc hf hr=>Runs.val _ (op_loadAt (show ρ (.tmp 2)=.pointer (some ⟨Y0,0,none⟩) from ho 2 rfl) (load_row ((hg.block Y0 (blk_lt j0)).trans j0) Tryz.underlying24 rfl size24)) ⟨hg,Below.refl _ _,rfl⟩⟩
  ·refine ⟨rfl,fun ρ X9 hg ho hc hf hr=>?_⟩
   refine Runs.goes 24 #[scV s (.slice a1 s.tabs.length a2)] (op_call1 hf (by go_simp) (show ρ (.tmp 5)=scV s (.slice a1 s.tabs.length a2) from hr 0 5 rfl rfl)) ((schema_ref (HA.out.on tbE_held hg) HI.out HZ.out).mono ?_)
   rintro e7 w7 ⟨rfl,b7⟩
   exact ⟨_,rfl,hg.trans (b7.mono hg.size),b7,rfl⟩
  ·exact ⟨rfl,fun ρ X9 hg ho hc hf hr=>Runs.val _ (op_loadAt (show ρ (.tmp 3)=.pointer (some ⟨Y1,0,none⟩) from ho 3 rfl) (load_row ((hg.block Y1 (blk_lt j1)).trans j1) Tryz.underlying24 rfl size24)) ⟨hg,Below.refl _ _,rfl⟩⟩
  ·refine ⟨rfl,fun ρ X9 hg ho hc hf hr=>?_⟩
   refine Runs.goes 24 #[scV s (.slice b1 s.tabs.length b2)] (op_call1 hf (by go_simp) (show ρ (.tmp 7)=scV s (.slice b1 s.tabs.length b2) from hr 2 7 rfl rfl)) ((schema_ref (HB.out.on tbE_held hg) HI.out HZ.out).mono ?_)
   rintro e7 w7 ⟨rfl,b7⟩
   exact ⟨_,rfl,hg.trans (b7.mono hg.size),b7,rfl⟩
  ·exact ⟨rfl,fun ρ X9 hg ho hc hf hr=>Runs.val _ (op_eql9 (show ρ (.tmp 6)=.string (txt (schL s)) from hr 1 6 rfl rfl) (show ρ (.tmp 8)=.string (txt (schL s)) from hr 3 8 rfl rfl) (by simp)) ⟨hg,Below.refl _ _,rfl⟩⟩
 case la =>
  refine ⟨rfl,fun ρ X9 hg ho hc hf hr=>?_⟩
  exact Runs.val _ (op_assign (show ρ (.tmp 9)=.bool true from hr 4 9 (by decide) rfl)) ⟨rfl,hg⟩
 case en =>
  intro a9 X9 Xb v9 hF hs9 hd9 ho9 hv9 hr9
  obtain ⟨x9,hx,hxt⟩:=act_put hs9 hd9 ho9
  have e4:x9 4=.bool true:=(hxt 4).symm.trans ((hv9 4 rfl).trans hF.1)
  change a9=putAll _ x9 [5,6,7,8,9,4] at hx
  simp only [putAll,Act.put,List.setIfInBounds_toArray,List.set_cons_zero,List.set_cons_succ,e4] at hx
  have HG:=lh hF.2
  clear hF hs9 hd9 ho9 hv9 hr9 hxt e4
  subst hx
  generalize x9 5=z5,x9 6=z6,x9 7=z7,x9 8=z8,x9 9=z9
  go_wp2
  go_ret
  exact ⟨rfl,bgo HBW.out HG.out⟩
def cntT (t:Tb):Nat:=t.cols.length+t.ixs.length+t.fks.length
def cntN (l:List Tb):Nat:=(l.map cntT).sum
theorem cntN_next {l:List Tb} {i:Nat} (h:i<l.length):cntN (l.take (i+1))=cntN (l.take i)+cntT l[i]:=by
 unfold cntN
 rw [List.take_succ_eq_append_getElem h,List.map_append,List.sum_append]
 simp
def GrAns (w:World) (P:Prop) (e:Ending) (w':World):Prop:=∃ g,e=.returned (.bool g)∧(g=false→P)∧Below w.heap.size w w'
def GJ (w:World) (s:Sc) (m:Nat) (nv iv:Value) (wr:World):Prop:=∃ i k:Nat,i≤s.tabs.length∧iv=.int .i64 (i:Int)∧k=s.tabs.length+m+cntN (s.tabs.take i)∧nv=.int .i64 (k:Int)∧(0<i→k≤300)∧Below w.heap.size w wr
set_option maxHeartbeats 4000000 in
set_option maxRecDepth 100000 in
theorem great_any {s:Sc} {d:Dd} {tv:Value} {da:Option Addr} {dc:Nat} (hL:Lr tbE 5 w s.tabs tv) (h1:s.tabs.length≤1000000000000000) (h2:d.cols.length≤1000000000000000) (h3:∀ t ∈ s.tabs,cntT t≤1000000000000000):Calls Tryz.prog 8 #[scV s tv,.agg #[.int .i64 d.kind,.string d.table,.string d.name,.string d.column,.string d.parent,.bool d.uq,.int .i64 d.ty,.int .i64 d.df.k,.int .i64 d.df.n,.string d.df.s,.slice da d.cols.length dc]] w (GrAns w (s.tabs.length+d.cols.length+cntN s.tabs≤300)):=by
 obtain ⟨m,hm⟩:∃ m,d.cols.length=m:=⟨_,rfl⟩
 rw [hm] at h2 ⊢
 obtain ⟨ta,tc,rfl,hr0⟩:=hL
 have hL:Lr tbE 5 w s.tabs (.slice ta s.tabs.length tc):=⟨ta,tc,rfl,hr0⟩
 obtain ⟨W,hW⟩:∃ W,W=(w.alloc (.cells #[.int .i64 s.ver,.int .i64 s.last,.slice ta s.tabs.length tc] 24)).alloc (.cells #[.int .i64 d.kind,.string d.table,.string d.name,.string d.column,.string d.parent,.bool d.uq,.int .i64 d.ty,.int .i64 d.df.k,.int .i64 d.df.n,.string d.df.s,.slice da m dc] 31):=⟨_,rfl⟩
 have hbW:Below w.heap.size w W:=by rw [hW];exact ((Below.refl _ w).alloc (Nat.le_refl _) _).alloc (by simp) _
 obtain ⟨Y0,hY0⟩:∃ Y0,w.heap.size=Y0:=⟨_,rfl⟩
 obtain ⟨Y1,hY1⟩:∃ Y1,Y0+1=Y1:=⟨_,rfl⟩
 have j0:W.heap[Y0]?=some (.cells #[.int .i64 s.ver,.int .i64 s.last,.slice ta s.tabs.length tc] 24 (0,0)):=by
  have:=heap_alloc_new w (.cells #[.int .i64 s.ver,.int .i64 s.last,.slice ta s.tabs.length tc] 24)
  rw [hW,←hY0]
  rw [Below.heap_alloc _ _ _ (by simp only [World.size_alloc];omega)]
  exact this
 have j1:W.heap[Y1]?=some (.cells #[.int .i64 d.kind,.string d.table,.string d.name,.string d.column,.string d.parent,.bool d.uq,.int .i64 d.ty,.int .i64 d.df.k,.int .i64 d.df.n,.string d.df.s,.slice da m dc] 31 (0,0)):=by
  have:=heap_alloc_new (w.alloc (.cells #[.int .i64 s.ver,.int .i64 s.last,.slice ta s.tabs.length tc] 24)) (.cells #[.int .i64 d.kind,.string d.table,.string d.name,.string d.column,.string d.parent,.bool d.uq,.int .i64 d.ty,.int .i64 d.df.k,.int .i64 d.df.n,.string d.df.s,.slice da m dc] 31)
  simp only [World.size_alloc] at this
  rw [hW,←hY1,←hY0]
  exact this
 have e2:W.cell? ⟨Y0,2,none⟩=some (.slice ta s.tabs.length tc):=cell_blk j0 2
 have e10:W.cell? ⟨Y1,10,none⟩=some (.slice da m dc):=cell_blk j1 10
 obtain ⟨n,hn⟩:∃ n,s.tabs.length=n:=⟨_,rfl⟩
 have HL:=lh (hL.on tbE_held hbW)
 have H3:=lh h3
 have HW:=lh hW
 have HBW:=lh hbW
 have HY0:=lh hY0
 have HY1:=lh hY1
 have HN:=lh hn
 have H0:Hid (GJ W s m (.int .i64 ((n+m:Nat):Int)) (.int .i64 0) W):=lh ⟨0,n+m,Nat.zero_le _,rfl,by rw [List.take_zero,hn];rfl,rfl,fun q=>by omega,Below.refl _ _⟩
 rw [hn] at e2 h1
 have k1:(n:Int)+m≤9223372036854775807:=by omega
 have k2:(n:Int)≤9223372036854775807:=by omega
 have k3:(m:Int)≤9223372036854775807:=by omega
 have kz:((n+m:Nat):Int)=(n:Int)+m:=by omega
 rw [kz] at H0
 unfold scV
 rw [hn] at HW HL ⊢
 clear hW hbW hY0 hY1 j0 j1 hL hr0 h3 hm hn kz
 go_enter Tryz.func8,Tryz.ntmps8
 go_upto_region 1 with fail
 rw [←HW.out,HY0.out,HY1.out]
 go_wp2
 go_loopw [5,18] (fun nv iv wr=>GJ W s m nv iv wr) (fun _ iv _=>n - (intOf iv).toNat)
 case atStart=>exact H0.out
 case round =>
  clear H0 e2 e10
  obtain ⟨i,k,hi,rfl,hk,rfl,hk3,hb⟩:=hrel
  obtain ⟨V,rfl⟩:∃ V,V=wr:=⟨_,rfl⟩
  have hin:i≤n:=by rw [←HN.out];exact hi
  have HBV:=lh (bgo HBW.out hb)
  have HBW2:=lh hb
  by_cases hlt:i<n
  ·have hiL:i<s.tabs.length:=by rw [HN.out];exact hlt
   have k0:(0:Int)≤i:=by omega
   have kk1:(i:Int)<n:=by omega
   obtain ⟨_,_,e1,_,_,_,hcs⟩:=HL.out.on tbE_held hb
   obtain ⟨b,o,cs,ha,hbl,⟨cv,iv,kv,rfl,ht⟩,_,hcell⟩:=hcs i hiL
   simp only [Value.slice.injEq] at e1
   obtain ⟨rfl,_,rfl⟩:=e1
   subst ha
   obtain ⟨ca,cc,rfl,_,_,_,_⟩:=ht.c
   obtain ⟨ia,ic,rfl,_,_,_,_⟩:=ht.i
   obtain ⟨ka,kc,rfl,_,_,_,_⟩:=ht.k
   have c0:=hcell 0 _ rfl
   have c1:=hcell 1 _ rfl
   have c2:=hcell 2 _ rfl
   have c3:=hcell 3 _ rfl
   have c4:=hcell 4 _ rfl
   simp only [Nat.add_zero] at c0
   have hnx:=cntN_next hiL
   have hsm:=H3.out _ (List.getElem_mem hiL)
   obtain ⟨x,hx⟩:∃ x,s.tabs[i]=x:=⟨_,rfl⟩
   rw [hx] at c0 c1 c2 c3 c4 hnx hsm
   obtain ⟨p,hp⟩:∃ p,x.cols.length=p:=⟨_,rfl⟩
   obtain ⟨q,hq⟩:∃ q,x.ixs.length=q:=⟨_,rfl⟩
   obtain ⟨r,hr⟩:∃ r,x.fks.length=r:=⟨_,rfl⟩
   have hct:cntT x=p+q+r:=by unfold cntT;rw [hp,hq,hr]
   rw [hct] at hsm hnx
   rw [hp] at c2
   rw [hq] at c3
   rw [hr] at c4
   have hkb:k≤2000000000000000:=by
    rcases Nat.eq_zero_or_pos i with z | z
    ·subst z
     rw [hk,List.take_zero,HN.out]
     show n+m+0≤_
     omega
    ·have:=hk3 z;omega
   have b1:(p:Int)+q≤9223372036854775807:=by omega
   have b2:(p:Int)+q+r≤9223372036854775807:=by omega
   have b3:(k:Int)+(p+q+r)≤9223372036854775807:=by omega
   have hk':k+(p+q+r)=s.tabs.length+m+cntN (s.tabs.take (i+1)):=by rw [hnx,hk];omega
   have HK:=lh hk'
   clear hcs hcell hbl ht hx hnx hsm hp hq hr hct hb hk hk3 hk'
   by_cases hgt:k+(p+q+r)≤300
   ·have g1:¬ (300:Int)<(k:Int)+(p+q+r):=by omega
    go_wp2
    go_roundw
    case rel=>exact ⟨i+1,k+(p+q+r),hiL,by go_num,HK.out,by go_num,fun _=>hgt,by
     exact bgo HBW2.out (bnew _ _)⟩
    case measure=>simp [intOf];omega
   ·have g1:(300:Int)<(k:Int)+(p+q+r):=by omega
    go_wp2
    go_ret
    exact ⟨true,rfl,fun q=>(by cases q),bgo HBV.out (bnew _ _)⟩
  ·have kk1:¬ ((i:Int)<n):=by omega
   obtain rfl:i=n:=by omega
   have hti:s.tabs.take i=s.tabs:=List.take_of_length_le (by rw [HN.out];omega)
   rw [hti] at hk
   have HK:=lh hk
   clear hb hk hk3 hti
   by_cases hgt:k≤300
   ·have g1:¬ (300:Int)<(k:Int):=by omega
    go_wp2
    go_ret
    exact ⟨false,rfl,fun _=>by have:=HK.out;rw [HN.out] at this;omega,HBV.out⟩
   ·have g1:(300:Int)<(k:Int):=by omega
    go_wp2
    go_ret
    exact ⟨true,rfl,fun q=>(by cases q),HBV.out⟩
end
end Go.Proofs.YtongmhfpoopebaaGreat
