import Derived.Test.YtongmhfpoopebaaGreatQHa
import Derived.Test.YtongmhfpoopebaaGreatQNb
namespace Go.Proofs.YtongmhfpoopebaaGreat
open Go.RowKit
section
variable {w : World}
set_option maxHeartbeats 8000000 in
set_option maxRecDepth 100000 in
theorem state_ref {s:Sc} {tv cv:Value} {d:Dd} (hL:Lr tbE 5 w s.tabs tv):Calls Tryz.prog 17 #[scV s tv,.agg #[.int .i64 d.kind,.string d.table,.string d.name,.string d.column,.string d.parent,.bool d.uq,.int .i64 d.ty,.int .i64 d.df.k,.int .i64 d.df.n,.string d.df.s,cv]] w fun e w'=>e=.returned (.int .i64 (stateP s d))∧Below w.heap.size w w':=by
 obtain ⟨ta,tc,rfl,q0,q1,q2,hX⟩:=hL
 have hL:Lr tbE 5 w s.tabs (.slice ta s.tabs.length tc):=⟨ta,tc,rfl,q0,q1,q2,hX⟩
 have hmx:(s.tabs.length:Int)≤9223372036854775807:=by unfold maxLen at q2;omega
 obtain ⟨kd,hkd⟩:∃ kd,d.kind=kd:=⟨_,rfl⟩
 rw [hkd]
 obtain ⟨W,hW⟩:∃ W,W=(w.alloc (.cells #[.int .i64 s.ver,.int .i64 s.last,.slice ta s.tabs.length tc] 24)).alloc (.cells #[.int .i64 kd,.string d.table,.string d.name,.string d.column,.string d.parent,.bool d.uq,.int .i64 d.ty,.int .i64 d.df.k,.int .i64 d.df.n,.string d.df.s,cv] 31):=⟨_,rfl⟩
 have hbW:Below w.heap.size w W:=by rw [hW];exact ((Below.refl _ w).alloc (Nat.le_refl _) _).alloc (by simp) _
 obtain ⟨Y0,hY0⟩:∃ Y0,w.heap.size=Y0:=⟨_,rfl⟩
 obtain ⟨Y1,hY1⟩:∃ Y1,Y0+1=Y1:=⟨_,rfl⟩
 have j0:W.heap[Y0]?=some (.cells #[.int .i64 s.ver,.int .i64 s.last,.slice ta s.tabs.length tc] 24 (0,0)):=by
  have:=heap_alloc_new w (.cells #[.int .i64 s.ver,.int .i64 s.last,.slice ta s.tabs.length tc] 24)
  rw [hW,← hY0,Below.heap_alloc _ _ _ (by simp only [World.size_alloc];omega)]
  exact this
 have j1:W.heap[Y1]?=some (.cells #[.int .i64 kd,.string d.table,.string d.name,.string d.column,.string d.parent,.bool d.uq,.int .i64 d.ty,.int .i64 d.df.k,.int .i64 d.df.n,.string d.df.s,cv] 31 (0,0)):=by
  have:=heap_alloc_new (w.alloc (.cells #[.int .i64 s.ver,.int .i64 s.last,.slice ta s.tabs.length tc] 24)) (.cells #[.int .i64 kd,.string d.table,.string d.name,.string d.column,.string d.parent,.bool d.uq,.int .i64 d.ty,.int .i64 d.df.k,.int .i64 d.df.n,.string d.df.s,cv] 31)
  simp only [World.size_alloc] at this
  rw [hW,← hY1,← hY0]
  exact this
 have hta:=tabAt_any (hL.on tbE_held hbW) d.table
 have f0:W.cell? ⟨Y0,0,none⟩=some (.int .i64 s.ver):=cell_blk j0 0
 have f1:W.cell? ⟨Y0,1,none⟩=some (.int .i64 s.last):=cell_blk j0 1
 have f2:W.cell? ⟨Y0,2,none⟩=some (.slice ta s.tabs.length tc):=cell_blk j0 2
 have e1:W.cell? ⟨Y1,1,none⟩=some (.string d.table):=cell_blk j1 1
 have J0:=lh j0
 have J1:=lh j1
 have HX:=lh (hL.on tbE_held hbW)
 have HW:=lh hW
 have HBW:=lh hbW
 have HY0:=lh hY0
 have HY1:=lh hY1
 have HKD:=lh hkd
 clear hW hbW hY0 hY1 j0 j1 hL hX q0 q1 q2 hkd
 go_enter Tryz.func17,Tryz.ntmps17
 go_upto_region 1 with fail
 rw [← HW.out,HY0.out,HY1.out]
 cases et:s.tabs.findIdx? (fun t=>decide (t.nm=d.table)) with
 | none =>
  have hf:fidx (fun x=>decide (x.nm=d.table)) s.tabs=-1:=by unfold fidx;rw [et]
  rw [hf] at hta
  have HR:Hid (stateP s d=0):=lh (by
   unfold stateP
   have:s.tabs.find? (fun t=>decide (t.nm=d.table))=none:=List.find?_eq_none.2 fun a ha=>by simpa using idx_none et a ha
   rw [this])
  clear hf et
  go_wp2_with (go_at_call 10;refine hta.mono ?_;rintro e w1 ⟨rfl,b1⟩;refine Hid.out ?_)
  refine lh ?_
  have e0:w1.cell? ⟨Y1,0,none⟩=some (.int .i64 kd):=cell_on b1 (cell_blk J1.out 0)
  have HB1:=lh (bgo HBW.out b1)
  clear hta b1 f0 f1 f2 e1
  by_cases k1:kd=1
  ·subst k1
   go_wp2
   go_ret
   exact ⟨by rw [HR.out];rfl,HB1.out⟩
  ·go_wp2
   go_ret
   exact ⟨by rw [HR.out];rfl,HB1.out⟩
 | some i =>
  obtain ⟨hiL,hpi⟩:=idx_some et
  have hf:fidx (fun x=>decide (x.nm=d.table)) s.tabs=(i:Int):=by unfold fidx;rw [et]
  rw [hf] at hta
  have HT:=lh et
  clear hf et hpi
  go_wp2_with (go_at_call 10;refine hta.mono ?_;rintro e w1 ⟨rfl,b1⟩;refine Hid.out ?_)
  refine lh ?_
  have HB1:=lh (bgo HBW.out b1)
  have e0:w1.cell? ⟨Y1,0,none⟩=some (.int .i64 kd):=cell_on b1 (cell_blk J1.out 0)
  by_cases k1:kd=1
  ·subst k1
   have HR:Hid (stateP s d=3):=lh (by rw [state_at hiL HT.out];unfold stateT;rw [if_pos HKD.out])
   clear hta b1 f0 f1 f2 e1
   go_wp2
   go_ret
   exact ⟨by rw [HR.out];rfl,HB1.out⟩
  have f2':w1.cell? ⟨Y0,2,none⟩=some (.slice ta s.tabs.length tc):=cell_on b1 f2
  obtain ⟨t,ht⟩:∃ t,s.tabs[i]=t:=⟨_,rfl⟩
  have HTT:=lh ht
  obtain ⟨_,_,ee,_,_,_,hcs⟩:=HX.out.on tbE_held b1
  obtain ⟨b,p,cs,ha,hbl,⟨tcv,iv,kv,rfl,h3⟩,_,hcell⟩:=hcs i hiL
  cases ee
  subst ha
  rw [ht] at hcell h3
  have m0:(0:Int)≤i:=by omega
  have m1:(i:Int) < s.tabs.length:=by omega
  obtain ⟨ca,cc,rfl,_⟩:=h3.c
  obtain ⟨ia,ic,rfl,_⟩:=h3.i
  obtain ⟨ka,kc,rfl,_⟩:=h3.k
  have H3:=lh h3
  have c0:w1.cell? ⟨b,p+i * 5,none⟩=some (.int .i64 t.id):=hcell 0 _ rfl
  have c1:w1.cell? ⟨b,p+i * 5+1,none⟩=some (.string t.nm):=hcell 1 _ rfl
  have c2:w1.cell? ⟨b,p+i * 5+2,none⟩=some (.slice ca t.cols.length cc):=hcell 2 _ rfl
  have c3:w1.cell? ⟨b,p+i * 5+3,none⟩=some (.slice ia t.ixs.length ic):=hcell 3 _ rfl
  have c4:w1.cell? ⟨b,p+i * 5+4,none⟩=some (.slice ka t.fks.length kc):=hcell 4 _ rfl
  obtain ⟨V1,hV1⟩:∃ V1,V1=w1.alloc (.cells (tbA t (.slice ca t.cols.length cc) (.slice ia t.ixs.length ic) (.slice ka t.fks.length kc)) 35):=⟨_,rfl⟩
  obtain ⟨Q,hQ⟩:∃ Q,w1.heap.size=Q:=⟨_,rfl⟩
  have jQ:V1.heap[Q]?=some (.cells (tbA t (.slice ca t.cols.length cc) (.slice ia t.ixs.length ic) (.slice ka t.fks.length kc)) 35 (0,0)):=by rw [hV1,← hQ];exact heap_alloc_new w1 _
  have bV1:Hid (Below w1.heap.size w1 V1):=lh (by rw [hV1];exact bnew _ _)
  have HBV:=lh (bgo HB1.out bV1.out)
  have JQ:=lh jQ
  have j1':=(bV1.out.block Y1 (Nat.lt_of_lt_of_le (blk_lt J1.out) b1.size)).trans ((b1.block Y1 (blk_lt J1.out)).trans J1.out)
  have HV1:=lh hV1
  have HQ:=lh hQ
  have s0:V1.cell? ⟨Y1,0,none⟩=some (.int .i64 kd):=cell_blk j1' 0
  have s2:V1.cell? ⟨Y1,2,none⟩=some (.string d.name):=cell_blk j1' 2
  have s3:V1.cell? ⟨Y1,3,none⟩=some (.string d.column):=cell_blk j1' 3
  have t0:V1.cell? ⟨Q,0,none⟩=some (.int .i64 t.id):=cell_blk jQ 0
  have t1:V1.cell? ⟨Q,1,none⟩=some (.string t.nm):=cell_blk jQ 1
  have t2:V1.cell? ⟨Q,2,none⟩=some (.slice ca t.cols.length cc):=cell_blk jQ 2
  have t3:V1.cell? ⟨Q,3,none⟩=some (.slice ia t.ixs.length ic):=cell_blk jQ 3
  have t4:V1.cell? ⟨Q,4,none⟩=some (.slice ka t.fks.length kc):=cell_blk jQ 4
  clear hta b1 f0 f1 f2 e1 hcs hcell h3 ht hV1 hQ jQ j1' hbl
  go_upto_region 9 with fail
  rw [← HV1.out,HQ.out]
  clear c0 c1 c2 c3 c4 f2' e0
  by_cases k4:kd=4
  ·subst k4
   have hat:=colAt_any (H3.out.on bV1.out) d.column
   cases ek:t.cols.findIdx? (fun x=>decide (x.nm=d.column)) with
   | none =>
    have hf:fidx (fun x=>decide (x.nm=d.column)) t.cols=-1:=by unfold fidx;rw [ek]
    rw [hf] at hat
    have HR:Hid (stateP s d=0):=lh (by
     rw [state_at hiL HT.out,HTT.out,stateC (by have:=HKD.out;omega)]
     unfold stOf
     have:t.cols.find? (fun y=>decide (y.nm=d.column))=none:=List.find?_eq_none.2 fun a ha=>by simpa using idx_none ek a ha
     rw [this])
    clear hf ek
    go_wp2_with (go_at_call 26;refine hat.mono ?_;rintro e w2 ⟨rfl,b2⟩;refine Hid.out ?_)
    refine lh ?_
    have HB2:=lh (bgo HBV.out b2)
    clear hat b2
    go_wp2
    go_ret
    exact ⟨by rw [HR.out];rfl,HB2.out⟩
   | some k =>
    obtain ⟨hk,-⟩:=idx_some ek
    have hf:fidx (fun x=>decide (x.nm=d.column)) t.cols=(k:Int):=by unfold fidx;rw [ek]
    rw [hf] at hat
    have HR:Hid (stateP s d=t.cols[k].st):=lh (by
     rw [state_at hiL HT.out,HTT.out,stateC (by have:=HKD.out;omega)]
     unfold stOf
     rw [find_idx hk ek])
    obtain ⟨_,_,ee,_,_,_,hcs⟩:=H3.out.c
    obtain ⟨b3,o3,cs3,ha,_,hE3,_,hc3⟩:=hcs k hk
    cases ee
    cases hE3
    subst ha
    have d3:w1.cell? ⟨b3,o3+k * 7+3,none⟩=some (.int .i64 t.cols[k].st):=hc3 3 _ rfl
    obtain ⟨st,hst⟩:∃ st,t.cols[k].st=st:=⟨_,rfl⟩
    rw [hst] at d3 HR
    have d3':V1.cell? ⟨b3,o3+k * 7+3,none⟩=some (.int .i64 st):=cell_on bV1.out d3
    obtain ⟨n,hn⟩:∃ n,t.cols.length=n:=⟨_,rfl⟩
    have k0:(0:Int)≤k:=by omega
    have k1:(k:Int) < n:=by omega
    have g9:V1.cell? ⟨Q,2,none⟩=some (.slice (some ⟨b3,o3,none⟩) n cc):=by rw [← hn];exact cell_blk JQ.out 2
    have G9:=lh g9
    have D3:=lh d3'
    clear hf ek hcs hc3 d3 hst hn g9 d3'
    go_wp2_with (go_at_call 26;refine hat.mono ?_;rintro e w2 ⟨rfl,b2⟩;refine Hid.out ?_)
    refine lh ?_
    have HB2:=lh (bgo HBV.out b2)
    have g9:=cell_on b2 G9.out
    have d9:=cell_on b2 D3.out
    clear hat b2
    go_wp2
    go_ret
    exact ⟨by rw [HR.out];rfl,HB2.out⟩
  by_cases k5:kd=5
  ·subst k5
   have hat:=colAt_any (H3.out.on bV1.out) d.column
   cases ek:t.cols.findIdx? (fun x=>decide (x.nm=d.column)) with
   | none =>
    have hf:fidx (fun x=>decide (x.nm=d.column)) t.cols=-1:=by unfold fidx;rw [ek]
    rw [hf] at hat
    have HR:Hid (stateP s d=0):=lh (by
     rw [state_at hiL HT.out,HTT.out,stateC (by have:=HKD.out;omega)]
     unfold stOf
     have:t.cols.find? (fun y=>decide (y.nm=d.column))=none:=List.find?_eq_none.2 fun a ha=>by simpa using idx_none ek a ha
     rw [this])
    clear hf ek
    go_wp2_with (go_at_call 26;refine hat.mono ?_;rintro e w2 ⟨rfl,b2⟩;refine Hid.out ?_)
    refine lh ?_
    have HB2:=lh (bgo HBV.out b2)
    clear hat b2
    go_wp2
    go_ret
    exact ⟨by rw [HR.out];rfl,HB2.out⟩
   | some k =>
    obtain ⟨hk,-⟩:=idx_some ek
    have hf:fidx (fun x=>decide (x.nm=d.column)) t.cols=(k:Int):=by unfold fidx;rw [ek]
    rw [hf] at hat
    have HR:Hid (stateP s d=t.cols[k].st):=lh (by
     rw [state_at hiL HT.out,HTT.out,stateC (by have:=HKD.out;omega)]
     unfold stOf
     rw [find_idx hk ek])
    obtain ⟨_,_,ee,_,_,_,hcs⟩:=H3.out.c
    obtain ⟨b3,o3,cs3,ha,_,hE3,_,hc3⟩:=hcs k hk
    cases ee
    cases hE3
    subst ha
    have d3:w1.cell? ⟨b3,o3+k * 7+3,none⟩=some (.int .i64 t.cols[k].st):=hc3 3 _ rfl
    obtain ⟨st,hst⟩:∃ st,t.cols[k].st=st:=⟨_,rfl⟩
    rw [hst] at d3 HR
    have d3':V1.cell? ⟨b3,o3+k * 7+3,none⟩=some (.int .i64 st):=cell_on bV1.out d3
    obtain ⟨n,hn⟩:∃ n,t.cols.length=n:=⟨_,rfl⟩
    have k0:(0:Int)≤k:=by omega
    have k1:(k:Int) < n:=by omega
    have g9:V1.cell? ⟨Q,2,none⟩=some (.slice (some ⟨b3,o3,none⟩) n cc):=by rw [← hn];exact cell_blk JQ.out 2
    have G9:=lh g9
    have D3:=lh d3'
    clear hf ek hcs hc3 d3 hst hn g9 d3'
    go_wp2_with (go_at_call 26;refine hat.mono ?_;rintro e w2 ⟨rfl,b2⟩;refine Hid.out ?_)
    refine lh ?_
    have HB2:=lh (bgo HBV.out b2)
    have g9:=cell_on b2 G9.out
    have d9:=cell_on b2 D3.out
    clear hat b2
    go_wp2
    go_ret
    exact ⟨by rw [HR.out];rfl,HB2.out⟩
  by_cases k2:kd=2
  ·subst k2
   have hat:=ixAt_any (H3.out.on bV1.out) d.name
   cases ek:t.ixs.findIdx? (fun x=>decide (x.nm=d.name)) with
   | none =>
    have hf:fidx (fun x=>decide (x.nm=d.name)) t.ixs=-1:=by unfold fidx;rw [ek]
    rw [hf] at hat
    have HR:Hid (stateP s d=0):=lh (by
     rw [state_at hiL HT.out,HTT.out,stateI (by have:=HKD.out;omega)]
     unfold stOf
     have:t.ixs.find? (fun y=>decide (y.nm=d.name))=none:=List.find?_eq_none.2 fun a ha=>by simpa using idx_none ek a ha
     rw [this])
    clear hf ek
    go_wp2_with (go_at_call 29;refine hat.mono ?_;rintro e w2 ⟨rfl,b2⟩;refine Hid.out ?_)
    refine lh ?_
    have HB2:=lh (bgo HBV.out b2)
    clear hat b2
    go_wp2
    go_ret
    exact ⟨by rw [HR.out];rfl,HB2.out⟩
   | some k =>
    obtain ⟨hk,-⟩:=idx_some ek
    have hf:fidx (fun x=>decide (x.nm=d.name)) t.ixs=(k:Int):=by unfold fidx;rw [ek]
    rw [hf] at hat
    have HR:Hid (stateP s d=t.ixs[k].st):=lh (by
     rw [state_at hiL HT.out,HTT.out,stateI (by have:=HKD.out;omega)]
     unfold stOf
     rw [find_idx hk ek])
    obtain ⟨_,_,ee,_,_,_,hcs⟩:=H3.out.i
    obtain ⟨b3,o3,cs3,ha,_,hE3,_,hc3⟩:=hcs k hk
    cases ee
    cases hE3
    subst ha
    have d3:w1.cell? ⟨b3,o3+k * 5+4,none⟩=some (.int .i64 t.ixs[k].st):=hc3 4 _ rfl
    obtain ⟨st,hst⟩:∃ st,t.ixs[k].st=st:=⟨_,rfl⟩
    rw [hst] at d3 HR
    have d3':V1.cell? ⟨b3,o3+k * 5+4,none⟩=some (.int .i64 st):=cell_on bV1.out d3
    obtain ⟨n,hn⟩:∃ n,t.ixs.length=n:=⟨_,rfl⟩
    have k0:(0:Int)≤k:=by omega
    have k1:(k:Int) < n:=by omega
    have g9:V1.cell? ⟨Q,3,none⟩=some (.slice (some ⟨b3,o3,none⟩) n ic):=by rw [← hn];exact cell_blk JQ.out 3
    have G9:=lh g9
    have D3:=lh d3'
    clear hf ek hcs hc3 d3 hst hn g9 d3'
    go_wp2_with (go_at_call 29;refine hat.mono ?_;rintro e w2 ⟨rfl,b2⟩;refine Hid.out ?_)
    refine lh ?_
    have HB2:=lh (bgo HBV.out b2)
    have g9:=cell_on b2 G9.out
    have d9:=cell_on b2 D3.out
    clear hat b2
    go_wp2
    go_ret
    exact ⟨by rw [HR.out];rfl,HB2.out⟩
  by_cases k3:kd=3
  ·subst k3
   have hat:=ixAt_any (H3.out.on bV1.out) d.name
   cases ek:t.ixs.findIdx? (fun x=>decide (x.nm=d.name)) with
   | none =>
    have hf:fidx (fun x=>decide (x.nm=d.name)) t.ixs=-1:=by unfold fidx;rw [ek]
    rw [hf] at hat
    have HR:Hid (stateP s d=0):=lh (by
     rw [state_at hiL HT.out,HTT.out,stateI (by have:=HKD.out;omega)]
     unfold stOf
     have:t.ixs.find? (fun y=>decide (y.nm=d.name))=none:=List.find?_eq_none.2 fun a ha=>by simpa using idx_none ek a ha
     rw [this])
    clear hf ek
    go_wp2_with (go_at_call 29;refine hat.mono ?_;rintro e w2 ⟨rfl,b2⟩;refine Hid.out ?_)
    refine lh ?_
    have HB2:=lh (bgo HBV.out b2)
    clear hat b2
    go_wp2
    go_ret
    exact ⟨by rw [HR.out];rfl,HB2.out⟩
   | some k =>
    obtain ⟨hk,-⟩:=idx_some ek
    have hf:fidx (fun x=>decide (x.nm=d.name)) t.ixs=(k:Int):=by unfold fidx;rw [ek]
    rw [hf] at hat
    have HR:Hid (stateP s d=t.ixs[k].st):=lh (by
     rw [state_at hiL HT.out,HTT.out,stateI (by have:=HKD.out;omega)]
     unfold stOf
     rw [find_idx hk ek])
    obtain ⟨_,_,ee,_,_,_,hcs⟩:=H3.out.i
    obtain ⟨b3,o3,cs3,ha,_,hE3,_,hc3⟩:=hcs k hk
    cases ee
    cases hE3
    subst ha
    have d3:w1.cell? ⟨b3,o3+k * 5+4,none⟩=some (.int .i64 t.ixs[k].st):=hc3 4 _ rfl
    obtain ⟨st,hst⟩:∃ st,t.ixs[k].st=st:=⟨_,rfl⟩
    rw [hst] at d3 HR
    have d3':V1.cell? ⟨b3,o3+k * 5+4,none⟩=some (.int .i64 st):=cell_on bV1.out d3
    obtain ⟨n,hn⟩:∃ n,t.ixs.length=n:=⟨_,rfl⟩
    have k0:(0:Int)≤k:=by omega
    have k1:(k:Int) < n:=by omega
    have g9:V1.cell? ⟨Q,3,none⟩=some (.slice (some ⟨b3,o3,none⟩) n ic):=by rw [← hn];exact cell_blk JQ.out 3
    have G9:=lh g9
    have D3:=lh d3'
    clear hf ek hcs hc3 d3 hst hn g9 d3'
    go_wp2_with (go_at_call 29;refine hat.mono ?_;rintro e w2 ⟨rfl,b2⟩;refine Hid.out ?_)
    refine lh ?_
    have HB2:=lh (bgo HBV.out b2)
    have g9:=cell_on b2 G9.out
    have d9:=cell_on b2 D3.out
    clear hat b2
    go_wp2
    go_ret
    exact ⟨by rw [HR.out];rfl,HB2.out⟩
  have z4:(kd == 4)=false:=beq_eq_false_iff_ne.2 k4
  have z5:(kd == 5)=false:=beq_eq_false_iff_ne.2 k5
  have z2:(kd == 2)=false:=beq_eq_false_iff_ne.2 k2
  have z3:(kd == 3)=false:=beq_eq_false_iff_ne.2 k3
  have stK:stateT t d=stOf Fk.nm Fk.st t.fks d.name:=by have hq:=HKD.out;unfold stateT;rw [if_neg (by omega),if_neg (by omega),if_neg (by omega)]
  have STK:=lh stK
  clear stK
  have hat:=keyAt_any (H3.out.on bV1.out) d.name
  cases ek:t.fks.findIdx? (fun x=>decide (x.nm=d.name)) with
  | none =>
   have hf:fidx (fun x=>decide (x.nm=d.name)) t.fks=-1:=by unfold fidx;rw [ek]
   rw [hf] at hat
   have HR:Hid (stateP s d=0):=lh (by
    rw [state_at hiL HT.out,HTT.out,STK.out]
    unfold stOf
    have:t.fks.find? (fun y=>decide (y.nm=d.name))=none:=List.find?_eq_none.2 fun a ha=>by simpa using idx_none ek a ha
    rw [this])
   clear hf ek
   go_wp2_with (go_at_call 32;refine hat.mono ?_;rintro e w2 ⟨rfl,b2⟩;refine Hid.out ?_)
   refine lh ?_
   have HB2:=lh (bgo HBV.out b2)
   clear hat b2
   go_wp2
   go_ret
   exact ⟨by rw [HR.out];rfl,HB2.out⟩
  | some k =>
   obtain ⟨hk,-⟩:=idx_some ek
   have hf:fidx (fun x=>decide (x.nm=d.name)) t.fks=(k:Int):=by unfold fidx;rw [ek]
   rw [hf] at hat
   have HR:Hid (stateP s d=t.fks[k].st):=lh (by
    rw [state_at hiL HT.out,HTT.out,STK.out]
    unfold stOf
    rw [find_idx hk ek])
   obtain ⟨_,_,ee,_,_,_,hcs⟩:=H3.out.k
   obtain ⟨b3,o3,cs3,ha,_,hE3,_,hc3⟩:=hcs k hk
   cases ee
   cases hE3
   subst ha
   have d3:w1.cell? ⟨b3,o3+k * 5+4,none⟩=some (.int .i64 t.fks[k].st):=hc3 4 _ rfl
   obtain ⟨st,hst⟩:∃ st,t.fks[k].st=st:=⟨_,rfl⟩
   rw [hst] at d3 HR
   have d3':V1.cell? ⟨b3,o3+k * 5+4,none⟩=some (.int .i64 st):=cell_on bV1.out d3
   obtain ⟨n,hn⟩:∃ n,t.fks.length=n:=⟨_,rfl⟩
   have k0:(0:Int)≤k:=by omega
   have k1:(k:Int) < n:=by omega
   have g9:V1.cell? ⟨Q,4,none⟩=some (.slice (some ⟨b3,o3,none⟩) n kc):=by rw [← hn];exact cell_blk JQ.out 4
   have G9:=lh g9
   have D3:=lh d3'
   clear hf ek hcs hc3 d3 hst hn g9 d3'
   go_wp2_with (go_at_call 32;refine hat.mono ?_;rintro e w2 ⟨rfl,b2⟩;refine Hid.out ?_)
   refine lh ?_
   have HB2:=lh (bgo HBV.out b2)
   have g9:=cell_on b2 G9.out
   have d9:=cell_on b2 D3.out
   clear hat b2
   go_wp2
   go_ret
   exact ⟨by rw [HR.out];rfl,HB2.out⟩
end
end Go.Proofs.YtongmhfpoopebaaGreat
