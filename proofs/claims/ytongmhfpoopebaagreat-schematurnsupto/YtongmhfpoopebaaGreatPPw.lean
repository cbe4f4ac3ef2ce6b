import Derived.Test.YtongmhfpoopebaaGreatPCk
namespace Go.Proofs.YtongmhfpoopebaaGreat
open Go.RowKit Go.Maps
def v0:Vl:=⟨0,0,⟨#[]⟩⟩
def exC:List Col:=[⟨0,⟨#[97]⟩,1,0,v0⟩,⟨0,⟨#[98]⟩,2,0,v0⟩]
def exD:Dd:=⟨1,⟨#[116]⟩,⟨#[]⟩,⟨#[]⟩,⟨#[]⟩,false,0,v0,exC⟩
def awD2:Dd:=⟨2,⟨#[116]⟩,⟨#[105]⟩,⟨#[98]⟩,⟨#[]⟩,false,0,v0,[]⟩
def awD3:Dd:=⟨5,⟨#[116]⟩,⟨#[]⟩,⟨#[98]⟩,⟨#[]⟩,false,0,v0,[]⟩
def awS0:Sc:=⟨0,0,[]⟩
def awS1:Sc:=⟨1,3,[⟨1,⟨#[116]⟩,[⟨2,⟨#[97]⟩,1,3,v0⟩,⟨3,⟨#[98]⟩,2,3,v0⟩],[],[]⟩]⟩
def awS2:Sc:=⟨2,4,[⟨1,⟨#[116]⟩,[⟨2,⟨#[97]⟩,1,3,v0⟩,⟨3,⟨#[98]⟩,2,3,v0⟩],[⟨4,⟨#[105]⟩,3,false,1⟩],[]⟩]⟩
theorem aw1:turnS awS0 exD 3=.ok awS1:=by rfl
theorem aw2:turnS awS1 awD2 1=.ok awS2:=by kernel_rfl
theorem aw3:turnS awS2 awD3 2=.error 155:=by kernel_rfl
theorem col_nil (X:World):Lr colE 7 X [] (.slice none 0 0):=⟨none,0,rfl,fun _=>rfl,Nat.le_refl _,Nat.zero_le _,fun i hi=>absurd hi (by simp)⟩
theorem tb_nil (X:World):Lr tbE 5 X [] (.slice none 0 0):=⟨none,0,rfl,fun _=>rfl,Nat.le_refl _,Nat.zero_le _,fun i hi=>absurd hi (by simp)⟩
theorem ex_cols {X:World} {F:Nat} (h:X.heap[F]?=some (.cells #[.int .i64 0,.string ⟨#[97]⟩,.int .i64 1,.int .i64 0,.int .i64 0,.int .i64 0,.string ⟨#[]⟩,.int .i64 0,.string ⟨#[98]⟩,.int .i64 2,.int .i64 0,.int .i64 0,.int .i64 0,.string ⟨#[]⟩] 50 (0,0))):Lr colE 7 X exC (.slice (some ⟨F,0,none⟩) 2 2) :=
 ⟨some ⟨F,0,none⟩,2,rfl,(fun e=>by cases e),Nat.le_refl _,(by unfold maxLen;omega),fun i hi=>by
  have h0:i=0∨i=1:=by have:i<2:=hi;omega
  rcases h0 with rfl | rfl
  ·exact ⟨F,0,colL ⟨0,⟨#[97]⟩,1,0,v0⟩,rfl,blk_lt h,rfl,rfl,fun j u hu=>by
    have hj:j<7:=(List.getElem?_eq_some_iff.1 hu).1
    rw [show 0+0*7+j=j from by omega,cell_blk h j]
    match j,hj,hu with
    | 0,_,hu=>exact hu
    | 1,_,hu=>exact hu
    | 2,_,hu=>exact hu
    | 3,_,hu=>exact hu
    | 4,_,hu=>exact hu
    | 5,_,hu=>exact hu
    | 6,_,hu=>exact hu⟩
  ·exact ⟨F,0,colL ⟨0,⟨#[98]⟩,2,0,v0⟩,rfl,blk_lt h,rfl,rfl,fun j u hu=>by
    have hj:j<7:=(List.getElem?_eq_some_iff.1 hu).1
    rw [show 0+1*7+j=7+j from by omega,cell_blk h (7+j)]
    match j,hj,hu with
    | 0,_,hu=>exact hu
    | 1,_,hu=>exact hu
    | 2,_,hu=>exact hu
    | 3,_,hu=>exact hu
    | 4,_,hu=>exact hu
    | 5,_,hu=>exact hu
    | 6,_,hu=>exact hu⟩⟩
section
variable {w : World}
set_option maxHeartbeats 2000000 in
set_option maxRecDepth 100000 in
theorem example_any (w:World):Calls Tryz.prog 21 #[] w fun e w'=>∃ F,e=.returned (.agg #[.int .i64 1,.string ⟨#[116]⟩,.string ⟨#[]⟩,.string ⟨#[]⟩,.string ⟨#[]⟩,.bool false,.int .i64 0,.int .i64 0,.int .i64 0,.string ⟨#[]⟩,.slice (some ⟨F,0,none⟩) 2 2])∧Lr colE 7 w' exC (.slice (some ⟨F,0,none⟩) 2 2)∧Below w.heap.size w w':=by
 obtain ⟨W,hW⟩:∃ W,W=(w.alloc (.cells #[.int .i64 0,.string ⟨#[]⟩,.string ⟨#[]⟩,.string ⟨#[]⟩,.string ⟨#[]⟩,.bool false,.int .i64 0,.int .i64 0,.int .i64 0,.string ⟨#[]⟩,.slice none 0 0] 31)).alloc (.cells #[.int .i64 0,.string ⟨#[97]⟩,.int .i64 1,.int .i64 0,.int .i64 0,.int .i64 0,.string ⟨#[]⟩,.int .i64 0,.string ⟨#[98]⟩,.int .i64 2,.int .i64 0,.int .i64 0,.int .i64 0,.string ⟨#[]⟩] 50):=⟨_,rfl⟩
 have hbW:Below w.heap.size w W:=by rw [hW];exact ((Below.refl _ w).alloc (Nat.le_refl _) _).alloc (by simp) _
 have jY0:W.heap[w.heap.size]?=some (.cells #[.int .i64 0,.string ⟨#[]⟩,.string ⟨#[]⟩,.string ⟨#[]⟩,.string ⟨#[]⟩,.bool false,.int .i64 0,.int .i64 0,.int .i64 0,.string ⟨#[]⟩,.slice none 0 0] 31 (0,0)):=by
  have:=heap_alloc_new w (.cells #[.int .i64 0,.string ⟨#[]⟩,.string ⟨#[]⟩,.string ⟨#[]⟩,.string ⟨#[]⟩,.bool false,.int .i64 0,.int .i64 0,.int .i64 0,.string ⟨#[]⟩,.slice none 0 0] 31)
  rw [hW,Below.heap_alloc _ _ _ (by simp only [World.size_alloc];omega)]
  exact this
 have jY1:W.heap[w.heap.size+1]?=some (.cells #[.int .i64 0,.string ⟨#[97]⟩,.int .i64 1,.int .i64 0,.int .i64 0,.int .i64 0,.string ⟨#[]⟩,.int .i64 0,.string ⟨#[98]⟩,.int .i64 2,.int .i64 0,.int .i64 0,.int .i64 0,.string ⟨#[]⟩] 50 (0,0)):=by
  have:=heap_alloc_new (w.alloc (.cells #[.int .i64 0,.string ⟨#[]⟩,.string ⟨#[]⟩,.string ⟨#[]⟩,.string ⟨#[]⟩,.bool false,.int .i64 0,.int .i64 0,.int .i64 0,.string ⟨#[]⟩,.slice none 0 0] 31)) (.cells #[.int .i64 0,.string ⟨#[97]⟩,.int .i64 1,.int .i64 0,.int .i64 0,.int .i64 0,.string ⟨#[]⟩,.int .i64 0,.string ⟨#[98]⟩,.int .i64 2,.int .i64 0,.int .i64 0,.int .i64 0,.string ⟨#[]⟩] 50)
  simp only [World.size_alloc] at this
  rw [hW]
  exact this
 obtain ⟨W3,e3,j3,f3⟩:=sets_row jY0 #[.int .i64 1,.string ⟨#[116]⟩,.string ⟨#[]⟩,.string ⟨#[]⟩,.string ⟨#[]⟩,.bool false,.int .i64 0,.int .i64 0,.int .i64 0,.string ⟨#[]⟩,.slice (some ⟨w.heap.size+1,0,none⟩) 2 2] rfl
 have hst:(Instr.storeAt 31 (.pointer (some ⟨w.heap.size,0,none⟩)) (.agg #[.int .i64 1,.string ⟨#[116]⟩,.string ⟨#[]⟩,.string ⟨#[]⟩,.string ⟨#[]⟩,.bool false,.int .i64 0,.int .i64 0,.int .i64 0,.string ⟨#[]⟩,.slice (some ⟨w.heap.size+1,0,none⟩) 2 2])).run Tryz.prog ((w.alloc (.cells #[.int .i64 0,.string ⟨#[]⟩,.string ⟨#[]⟩,.string ⟨#[]⟩,.string ⟨#[]⟩,.bool false,.int .i64 0,.int .i64 0,.int .i64 0,.string ⟨#[]⟩,.slice none 0 0] 31)).alloc (.cells #[.int .i64 0,.string ⟨#[97]⟩,.int .i64 1,.int .i64 0,.int .i64 0,.int .i64 0,.string ⟨#[]⟩,.int .i64 0,.string ⟨#[98]⟩,.int .i64 2,.int .i64 0,.int .i64 0,.int .i64 0,.string ⟨#[]⟩] 50))=.ok () W3:=by
  rw [e3,←hW]
  exact store_row jY0 rfl size31 (by simp [Value.oneCell'])
 have J3:=lh j3
 have HF:Hid (Lr colE 7 W3 exC (.slice (some ⟨w.heap.size+1,0,none⟩) 2 2)):=lh (ex_cols ((f3.block _ (blk_lt jY1) (by omega)).trans jY1))
 have HB:Hid (Below w.heap.size w W3):=lh (hbW.trans (f3.toBelow (fun k hk q=>by omega) hbW.size))
 clear hW hbW jY0 jY1 e3 j3 f3
 go_enter Tryz.func21,Tryz.ntmps21
 go_wp2_with (refine wpl_store _ _ rfl (by simp [Act.eval]) (by simp [Act.eval]) hst ?_)
 refine bodyPost_ret (results_one rfl rfl (load_var J3.out Tryz.underlying31 rfl size31)) rfl ?_
 exact ⟨_,rfl,HF.out,HB.out⟩
theorem turn_ok {s s':Sc} {tv:Value} {d:Dd} {st:Int} {da:Option Addr} {dc:Nat} (hL:Lr tbE 5 w s.tabs tv) (hI:∀ t ∈ s.tabs,∀ i ∈ idsT t,I64 i) (hd:Lr colE 7 w d.cols (.slice da d.cols.length dc)) (hz:d.cols.length≤1000000) (he:turnS s d st=.ok s'):Calls Tryz.prog 15 #[scV s tv,.agg #[.int .i64 d.kind,.string d.table,.string d.name,.string d.column,.string d.parent,.bool d.uq,.int .i64 d.ty,.int .i64 d.df.k,.int .i64 d.df.n,.string d.df.s,.slice da d.cols.length dc],.int .i64 st] w fun e w'=>∃ G ad cap,e=.returned (.tuple #[.agg #[.int .i64 s'.ver,.int .i64 s'.last,.slice ad s'.tabs.length cap],.int .i64 0])∧G.map Prod.fst=s'.tabs∧Dr w' w.heap.size G (.slice ad s'.tabs.length cap)∧Below w.heap.size w w':=by
 have h:=turn_any (st:=st) (da:=da) (dc:=dc) hL hI hd hz
 rw [he] at h
 refine h.mono ?_
 rintro e w' ⟨G,tv,e1,hG,hD,hb⟩
 obtain ⟨ad,cap,hsh⟩:=own_shape hD.row
 have hl:G.length=s'.tabs.length:=by rw [←hG,List.length_map]
 rw [hl] at hsh
 subst hsh
 exact ⟨G,ad,cap,e1,hG,hD,hb⟩
theorem turn_err {s:Sc} {er:Int} {tv:Value} {d:Dd} {st:Int} {da:Option Addr} {dc:Nat} (hL:Lr tbE 5 w s.tabs tv) (hI:∀ t ∈ s.tabs,∀ i ∈ idsT t,I64 i) (hd:Lr colE 7 w d.cols (.slice da d.cols.length dc)) (hz:d.cols.length≤1000000) (he:turnS s d st=.error er):Calls Tryz.prog 15 #[scV s tv,.agg #[.int .i64 d.kind,.string d.table,.string d.name,.string d.column,.string d.parent,.bool d.uq,.int .i64 d.ty,.int .i64 d.df.k,.int .i64 d.df.n,.string d.df.s,.slice da d.cols.length dc],.int .i64 st] w fun e w'=>e=.returned (.tuple #[.agg #[.int .i64 0,.int .i64 0,.slice none 0 0],.int .i64 er])∧Below w.heap.size w w':=by
 have h:=turn_any (st:=st) (da:=da) (dc:=dc) hL hI hd hz
 rw [he] at h
 refine h.mono ?_
 rintro e w' ⟨e1,_,hb⟩
 exact ⟨e1,hb⟩
theorem i64_le {n:Int} (h0:0≤n) (h1:n≤100):I64 n:=by unfold I64;omega
theorem aw1_ids:∀ t ∈ awS1.tabs,∀ i ∈ idsT t,I64 i:=by
 intro t ht i hi
 simp only [awS1,List.mem_singleton] at ht
 subst ht
 simp [idsT] at hi
 rcases hi with rfl | rfl | rfl <;> exact i64_le (by decide) (by decide)
theorem aw2_ids:∀ t ∈ awS2.tabs,∀ i ∈ idsT t,I64 i:=by
 intro t ht i hi
 simp only [awS2,List.mem_singleton] at ht
 subst ht
 simp [idsT] at hi
 rcases hi with rfl | rfl | rfl | rfl <;> exact i64_le (by decide) (by decide)
set_option maxHeartbeats 4000000 in
set_option maxRecDepth 100000 in
theorem awake_any (w:World):Calls Tryz.prog 7 #[] w fun e w'=>e=.returned (.bool true)∧Below w.heap.size w w':=by
 have hex:=example_any w
 go_enter Tryz.func7,Tryz.ntmps7
 go_wp2_with (go_at_call 21;refine hex.mono ?_;rintro e w1 ⟨F,rfl,hF,b1⟩;refine Hid.out ?_)
 refine lh ?_
 have ht:Calls Tryz.prog 15 #[.agg #[.int .i64 0,.int .i64 0,.slice none 0 0],.agg #[.int .i64 1,.string ⟨#[116]⟩,.string ⟨#[]⟩,.string ⟨#[]⟩,.string ⟨#[]⟩,.bool false,.int .i64 0,.int .i64 0,.int .i64 0,.string ⟨#[]⟩,.slice (some ⟨F,0,none⟩) 2 2],.int .i64 3] w1 fun e w'=>∃ G ad cap,e=.returned (.tuple #[.agg #[.int .i64 1,.int .i64 3,.slice ad 1 cap],.int .i64 0])∧G.map Prod.fst=awS1.tabs∧Dr w' w1.heap.size G (.slice ad 1 cap)∧Below w1.heap.size w1 w':=turn_ok (s:=awS0) (s':=awS1) (d:=exD) (tb_nil w1) (by intro t h;cases h) hF (by decide) aw1
 have B1:=lh b1
 clear hex hF b1
 go_wp2_with (go_at_call 15;refine ht.mono ?_;rintro e w2 ⟨G,ad,cap,rfl,hG,hD,b2⟩;refine Hid.out ?_)
 refine lh ?_
 obtain ⟨R1,hR1⟩:∃ R,w2.heap.size=R:=⟨_,rfl⟩
 obtain ⟨u2,hu2⟩:∃ u,u=w2.alloc (.cells #[.int .i64 1,.int .i64 3,.slice ad 1 cap] 24):=⟨_,rfl⟩
 have j2:u2.heap[R1]?=some (.cells #[.int .i64 1,.int .i64 3,.slice ad 1 cap] 24 (0,0)):=by rw [hu2,←hR1];exact heap_alloc_new w2 _
 have b3:Below w2.heap.size w2 u2:=by rw [hu2];exact bnew _ _
 have HU2:=lh hu2
 have hB2:Below w.heap.size w u2:=bgo (bgo B1.out b2) b3
 have hL2:Lr tbE 5 u2 awS1.tabs (.slice ad 1 cap):=by
  have q:=(hD.below b3).reads
  rw [hG] at q
  exact q
 have B2:=lh hB2
 have HR1:=lh hR1
 have ht2:Calls Tryz.prog 15 #[.agg #[.int .i64 1,.int .i64 3,.slice ad 1 cap],.agg #[.int .i64 2,.string ⟨#[116]⟩,.string ⟨#[105]⟩,.string ⟨#[98]⟩,.string ⟨#[]⟩,.bool false,.int .i64 0,.int .i64 0,.int .i64 0,.string ⟨#[]⟩,.slice none 0 0],.int .i64 1] u2 fun e w'=>∃ G ad cap,e=.returned (.tuple #[.agg #[.int .i64 2,.int .i64 4,.slice ad 1 cap],.int .i64 0])∧G.map Prod.fst=awS2.tabs∧Dr w' u2.heap.size G (.slice ad 1 cap)∧Below u2.heap.size u2 w':=turn_ok (s:=awS1) (s':=awS2) (d:=awD2) hL2 aw1_ids (col_nil u2) (by decide) aw2
 have e0:u2.cell? ⟨R1,0,none⟩=some (.int .i64 1):=cell_blk j2 0
 have e1:u2.cell? ⟨R1,1,none⟩=some (.int .i64 3):=cell_blk j2 1
 have e2:u2.cell? ⟨R1,2,none⟩=some (.slice ad 1 cap):=cell_blk j2 2
 have J2:=lh j2
 clear ht hD hG b2 b3 hB2 hL2 j2 hR1 hu2
 go_upto_region 2 with fail
 rw [←HU2.out,HR1.out]
 go_wp2_with ((go_at_call 15;refine ht2.mono ?_;rintro e w3 ⟨G,ad2,cap2,rfl,hG,hD,b2⟩;refine Hid.out ?_))
 refine lh ?_
 obtain ⟨R2,hR2⟩:∃ R,w3.heap.size=R:=⟨_,rfl⟩
 obtain ⟨u3,hu3⟩:∃ u,u=w3.alloc (.cells #[.int .i64 2,.int .i64 4,.slice ad2 1 cap2] 24):=⟨_,rfl⟩
 have j3:u3.heap[R2]?=some (.cells #[.int .i64 2,.int .i64 4,.slice ad2 1 cap2] 24 (0,0)):=by rw [hu3,←hR2];exact heap_alloc_new w3 _
 have b3:Below w3.heap.size w3 u3:=by rw [hu3];exact bnew _ _
 have HU3:=lh hu3
 have hB3:Below w.heap.size w u3:=bgo (bgo B2.out b2) b3
 have hDu:=hD.below b3
 have hL3:Lr tbE 5 u3 awS2.tabs (.slice ad2 1 cap2):=by
  have q:=hDu.reads
  rw [hG] at q
  exact q
 have HL3:=lh hL3
 have J2':Hid (u3.heap[R1]?=some (.cells #[.int .i64 1,.int .i64 3,.slice ad 1 cap] 24 (0,0))):=lh (((bgo b2 b3).block R1 (blk_lt J2.out)).trans J2.out)
 have B3:=lh hB3
 have HR2:=lh hR2
 have ht3:Calls Tryz.prog 15 #[.agg #[.int .i64 2,.int .i64 4,.slice ad2 1 cap2],.agg #[.int .i64 5,.string ⟨#[116]⟩,.string ⟨#[]⟩,.string ⟨#[98]⟩,.string ⟨#[]⟩,.bool false,.int .i64 0,.int .i64 0,.int .i64 0,.string ⟨#[]⟩,.slice none 0 0],.int .i64 2] u3 fun e w'=>e=.returned (.tuple #[.agg #[.int .i64 0,.int .i64 0,.slice none 0 0],.int .i64 155])∧Below u3.heap.size u3 w':=turn_err (s:=awS2) (d:=awD3) hL3 aw2_ids (col_nil u3) (by decide) aw3
 clear e0 e1 e2
 have e0:u3.cell? ⟨R2,0,none⟩=some (.int .i64 2):=cell_blk j3 0
 have e1:u3.cell? ⟨R2,1,none⟩=some (.int .i64 4):=cell_blk j3 1
 have e2:u3.cell? ⟨R2,2,none⟩=some (.slice ad2 1 cap2):=cell_blk j3 2
 have J3:=lh j3
 clear ht2 hD hG b2 b3 hB3 hL3 j3 hR2 hDu hu3
 go_upto_region 3 with fail
 rw [←HU3.out,HR2.out]
 go_wp2_with ((go_at_call 15;refine ht3.mono ?_;rintro e w4 ⟨rfl,b2⟩;refine Hid.out ?_))
 refine lh ?_
 obtain ⟨R3,hR3⟩:∃ R,w4.heap.size=R:=⟨_,rfl⟩
 obtain ⟨u4,hu4⟩:∃ u,u=w4.alloc (.cells #[.int .i64 0,.int .i64 0,.slice none 0 0] 24):=⟨_,rfl⟩
 have j4:u4.heap[R3]?=some (.cells #[.int .i64 0,.int .i64 0,.slice none 0 0] 24 (0,0)):=by rw [hu4,←hR3];exact heap_alloc_new w4 _
 have b3:Below w4.heap.size w4 u4:=by rw [hu4];exact bnew _ _
 have HU4:=lh hu4
 have b23:=bgo b2 b3
 have HB:Hid (Below w.heap.size w u4):=lh (bgo B3.out b23)
 have k1:=(b23.block R1 (blk_lt J2'.out)).trans J2'.out
 have k2:=(b23.block R2 (blk_lt J3.out)).trans J3.out
 have c10:u4.cell? ⟨R1,0,none⟩=some (.int .i64 1):=cell_blk k1 0
 have c11:u4.cell? ⟨R1,1,none⟩=some (.int .i64 3):=cell_blk k1 1
 have c21:u4.cell? ⟨R2,1,none⟩=some (.int .i64 4):=cell_blk k2 1
 have c22:u4.cell? ⟨R2,2,none⟩=some (.slice ad2 1 cap2):=cell_blk k2 2
 obtain ⟨tad,tcap,e,_,_,_,hX⟩:=HL3.out.on tbE_held b23
 cases e
 obtain ⟨b,p,cs,rfl,_,⟨cv,iv,kv,rfl,hT⟩,_,hcell⟩:=hX 0 (by decide)
 obtain ⟨iad,icap,rfl,_⟩:=hT.i
 have c33:u4.cell? ⟨b,p+3,none⟩=some (.slice iad 1 icap):=hcell 3 _ rfl
 have HR3:=lh hR3
 clear ht3 b2 b3 b23 k1 k2 hX hcell hT j4 hR3 hu4 e0 e1 e2
 go_upto_region 4 with fail
 rw [←HU4.out]
 go_wp2
 go_ret
 exact ⟨rfl,HB.out⟩
end
end Go.Proofs.YtongmhfpoopebaaGreat
