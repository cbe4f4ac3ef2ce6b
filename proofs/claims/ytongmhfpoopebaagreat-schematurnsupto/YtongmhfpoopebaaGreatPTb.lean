import Derived.Test.YtongmhfpoopebaaGreatPBl
import Derived.Lib.ConvBytes
namespace Go.Proofs.YtongmhfpoopebaaGreat
open Go.RowKit
theorem infoByte:(Tryz.prog.info? 5).map (fun i=>(i.zero,i.size,i.bytes))=some (some (.int .u8 0),1,1):=by kernel_rfl
def zig (n:Int):Nat:=if n<0 then (-2*n - 1).toNat else (2*n).toNat
theorem zig_lt {n:Int} (h:I64 n):zig n<18446744073709551616:=by
 unfold I64 at h
 unfold zig
 split <;> omega
def grpN:Nat→Nat→List UInt8
 | 0,_=>[]
 | k+1,z=>if z<128 then [UInt8.ofNat z] else UInt8.ofNat (z % 128+128) :: grpN k (z / 128)
def grp (z:Nat):List UInt8:=grpN 10 z
theorem grpN_len:∀ (k z:Nat),(grpN k z).length≤k
 | 0,_=>Nat.le_refl _
 | k+1,z=>by
  unfold grpN
  split
  ·simp
  ·have:=grpN_len k (z / 128)
   simp only [List.length_cons]
   omega
theorem grp_len (z:Nat):(grp z).length≤10:=grpN_len 10 z
theorem toNat_of {z:Nat} (h:z<256):(UInt8.ofNat z).toNat=z:=by
 rw [UInt8.toNat_ofNat']
 exact Nat.mod_eq_of_lt h
theorem grpN_step (k z:Nat) (h:128≤z):grpN (k+1) z=UInt8.ofNat (z % 128+128) :: grpN k (z / 128):=by
 show (if z<128 then _ else _)=_
 rw [if_neg (by omega)]
theorem grpN_last (k z:Nat) (h:z<128):grpN (k+1) z=[UInt8.ofNat z]:=by
 show (if z<128 then _ else _)=_
 rw [if_pos h]
def num (n:Int):List UInt8:=grp (zig n)
theorem num_len (n:Int):(num n).length≤10:=grp_len _
theorem ba_ext {s t:ByteArray} (h:s.data.toList=t.data.toList):s=t:=by
 cases s
 cases t
 simp only [Array.toList_inj] at h
 rw [h]
def txt (l:List UInt8):ByteArray:=⟨l.toArray⟩
theorem txt_of (s:ByteArray):txt s.data.toList=s:=by cases s;rfl
theorem txt_size (l:List UInt8):(txt l).size=l.length:=rfl
theorem fold_pos {n:Int} (h:I64 n) (hn:0≤n):IntKind.u64.wrap (IntKind.u64.wrap n*2)=(zig n:Int):=by
 unfold I64 at h
 rw [IntKind.wrap_u64,IntKind.wrap_u64]
 unfold zig
 rw [if_neg (by omega)]
 omega
def U64 (z:Nat):Prop:=z<18446744073709551616
theorem byteCells_append (a b:List UInt8):Lib.byteCells (a ++ b)=Lib.byteCells a ++ Lib.byteCells b:=by simp [Lib.byteCells]
theorem news_one (w:World) (c:Value) (t:TypeId):∀ j u,[c][j]?=some u→(w.alloc (.cells #[c] t)).cell? ((⟨w.heap.size,0,none⟩:Addr).add j)=some u:=by
 intro j u hj
 match j,hj with
 | 0,hj=>simp at hj;subst hj;simp [Addr.add]
structure Wg (z:Nat) (d:List UInt8) (k y:Nat):Prop where
 one:1≤k
 lt:y<128 ^ k
 eq:grp z=d ++ grpN k y
theorem Wg.start {z:Nat} (h:U64 z):Wg z [] 10 z:=⟨by omega,by unfold U64 at h;omega,rfl⟩
theorem Wg.next {z k y:Nat} {d:List UInt8} (h:Wg z d k y) (hy:128≤y):∃ k',Wg z (d ++ [UInt8.ofNat (y % 128+128)]) k' (y / 128):=by
 obtain ⟨j,rfl⟩:∃ j,k=j+1:=⟨k - 1,by have:=h.one;omega⟩
 have hl:=h.lt
 refine ⟨j,?_,?_,?_⟩
 ·rcases Nat.eq_zero_or_pos j with rfl | q
  ·simp at hl;omega
  ·exact q
 ·rw [Nat.pow_succ] at hl
  exact Nat.div_lt_of_lt_mul (by rw [Nat.mul_comm];exact hl)
 ·rw [h.eq,grpN_step j y hy,List.append_assoc]
  rfl
theorem Wg.last {z k y:Nat} {d:List UInt8} (h:Wg z d k y) (hy:y<128):grp z=d ++ [UInt8.ofNat y]:=by
 obtain ⟨j,rfl⟩:∃ j,k=j+1:=⟨k - 1,by have:=h.one;omega⟩
 rw [h.eq,grpN_last j y hy]
theorem or_last (y:Nat) (h:y<128):(y:Int)=((UInt8.ofNat y).toNat:Int):=by rw [toNat_of (by omega)]
theorem conv_row {w:World} {B:Nat} {v:Value} {l:List UInt8} (h:w.ownsRow B 5 1 v l.length (Lib.byteCells l)):(convert 128 9 v).run Tryz.prog w=.ok (.string (txt l)) w:=by
 rcases h.2 with ⟨rfl,h0⟩ | ⟨g,cap,cur,rfl,_⟩
 ·have:l=[]:=List.eq_nil_of_length_eq_zero h0
  subst this
  exact run_convert_bytes_nil (P:=Tryz.prog) w 128 5 Tryz.underlying128 Tryz.underlying5 0 0 9 Tryz.underlying9
 ·exact run_convert_bytes_back (P:=Tryz.prog) w 128 9 5 ⟨g,0,none⟩ cap l Tryz.underlying128 Tryz.underlying5 Tryz.underlying9 (fun j hj=>h.cells (g:=g) rfl j _ (by simp [Lib.byteCells,hj]))
theorem neg_zig {n:Int} (h:I64 n) (hn:n<0):IntKind.u64.wrap (IntKind.u64.wrap (IntKind.u64.wrap (wrap64 (-wrap64 (n+1)))*2)+1)=(zig n:Int):=by
 unfold I64 at h
 have e1:wrap64 (n+1)=n+1:=by unfold wrap64;omega
 have e2:wrap64 (-(n+1))=-(n+1):=by unfold wrap64;omega
 rw [e1,e2,IntKind.wrap_u64,IntKind.wrap_u64,IntKind.wrap_u64]
 unfold zig
 rw [if_pos hn]
 omega
theorem row_push {w:World} {B:Nat} {v:Value} {l:List UInt8} (h:w.ownsRow B 5 1 v l.length (Lib.byteCells l)) (hB:B≤w.heap.size) (b:UInt8) (hz:l.length≤1000000):∃ v2 w2,(Builtin.append_ #[128,128] 128 #[v,.slice (some ⟨w.heap.size,0,none⟩) 1 1]).run Tryz.prog (w.alloc (.cells #[.int .u8 b.toNat] 5))=.ok v2 w2∧w2.ownsRow B 5 1 v2 (l ++ [b]).length (Lib.byteCells (l ++ [b]))∧Below B w w2:=by
 obtain ⟨i0,hi,hz0,hz1,hz2⟩:=info_parts infoByte
 have hb:Below w.heap.size w (w.alloc (.cells #[.int .u8 b.toNat] 5)):=Below.alloc (Below.refl _ _) (Nat.le_refl _) _
 have hrow:=own_below h hb
 have hsz:(w.alloc (.cells #[.int .u8 b.toNat] 5)).heap.size=w.heap.size+1:=by simp
 obtain ⟨v',w',hr,ho',hg,_,hat⟩:=run_append_own_at (P:=Tryz.prog) (w:=w.alloc (.cells #[.int .u8 b.toNat] 5)) B 128 128 5 i0 _ 1 1 Tryz.underlying128 hi hz0 hz1 hz2 rfl (by decide) v _ _ hrow ⟨w.heap.size,0,none⟩ 1 1 [.int .u8 b.toNat] rfl (news_one w _ 5) (by intro u hu;simp at hu;subst hu;rfl) (by unfold maxLen;omega) (by omega) (by omega)
 refine ⟨v',w',hr,?_,(hb.mono hB).grown hg (by rw [hsz];omega) (fun k hk=>(hrow.lt k hk).1)⟩
 rw [byteCells_append,List.length_append]
 simpa [Lib.byteCells] using ho'
theorem div_wrap {y z:Nat} (h:U64 z) (hy:y≤z):IntKind.u64.wrap ((y:Int) / 128)=(y:Int) / 128:=by
 unfold U64 at h
 rw [IntKind.wrap_u64]
 omega
theorem byte_more (y:Nat):(y:Int) % 128+128=((UInt8.ofNat (y % 128+128)).toNat:Int):=by
 rw [toNat_of (by omega)]
 omega
set_option maxHeartbeats 2000000 in
set_option maxRecDepth 100000 in
theorem num_ref (n:Int) (w:World) (h:I64 n):Calls Tryz.prog 48 #[.int .i64 n] w fun e w'=>e=.returned (.string (txt (num n)))∧Below w.heap.size w w':=by
 have HW:=lh (Wg.start (zig_lt h))
 have HZ:Hid (U64 (zig n)):=zig_lt h
 have HN:Hid (num n=grp (zig n)):=rfl
 have hpos:¬ n<0→IntKind.u64.wrap (IntKind.u64.wrap n*2)=(zig n:Int):=fun q=>fold_pos h (by omega)
 have hneg:n<0→IntKind.u64.wrap (IntKind.u64.wrap (IntKind.u64.wrap (wrap64 (-wrap64 (n+1)))*2)+1)=(zig n:Int):=fun q=>neg_zig h q
 clear h
 obtain ⟨z,hz⟩:∃ z,zig n=z:=⟨_,rfl⟩
 rw [hz] at HW HN HZ hpos hneg
 clear hz
 by_cases hn:n<0
 ·have h2:=hneg hn
  clear hneg hpos
  go_enter Tryz.func48,Tryz.ntmps48
  go_wp2
  go_loopw [3,4] (fun zv ov wr=>∃ k y d,Hid (Wg z d k y∧y≤z)∧zv=.int .u64 y∧wr.ownsRow w.heap.size 5 1 ov d.length (Lib.byteCells d)∧Below w.heap.size w wr) (fun zv _ _=>(intOf zv).toNat)
  case atStart=>exact ⟨10,z,[],lh ⟨HW.out,Nat.le_refl _⟩,rfl,World.ownsRow_nil _ _ _ _,Below.refl _ _⟩
  case round =>
   obtain ⟨k,y,d,HG,rfl,hrow,hb⟩:=hrel
   have hdl:d.length≤10:=by
    have h1:=congrArg List.length HG.out.1.eq
    have h2:=grp_len z
    rw [List.length_append] at h1
    omega
   by_cases hy:128≤y
   ·have e1:=byte_more y
    have hdv:=div_wrap HZ.out HG.out.2
    obtain ⟨b,hbb⟩:∃ b,UInt8.ofNat (y % 128+128)=b:=⟨_,rfl⟩
    rw [hbb] at e1
    have hbl:=b.toNat_lt
    obtain ⟨v2,w2,hrun,q1,q2⟩:=row_push hrow hb.size b (by omega)
    obtain ⟨adv,cpv,rfl⟩:=own_shape hrow
    obtain ⟨ad2,cap2,rfl⟩:=own_shape q1
    obtain ⟨D2,hD2⟩:∃ D2,(d ++ [b]).length=D2:=⟨_,rfl⟩
    rw [hD2] at hrun q1
    have HD:=lh hD2
    have HB:=lh hbb
    have H1:=lh q1
    have H2:=lh q2
    have HBb:=lh hb
    clear hD2
    clear hbb q1 q2 hb hrow hdl
    go_wp2_with (at_builtin;refine wpl_run2 _ _ rfl (by simp [Act.eval]) (by simp [Act.eval]) hrun ?_)
    go_roundw
    case rel =>
     obtain ⟨k',hk'⟩:=HG.out.1.next hy
     rw [HB.out] at hk'
     refine ⟨k',y / 128,_,lh ⟨hk',Nat.le_trans (Nat.div_le_self _ _) HG.out.2⟩,by go_num,?_,HBb.out.trans H2.out⟩
     rw [HD.out]
     exact H1.out
    case measure=>simp [intOf];omega
   ·have e1:=or_last y (by omega)
    have hlast:=HG.out.1.last (by omega:y<128)
    obtain ⟨b,hbb⟩:∃ b,UInt8.ofNat y=b:=⟨_,rfl⟩
    rw [hbb] at e1 hlast
    obtain ⟨v2,w2,hrun,q1,q2⟩:=row_push hrow hb.size b (by omega)
    have hcv:=conv_row q1
    obtain ⟨adv,cpv,rfl⟩:=own_shape hrow
    obtain ⟨ad2,cap2,rfl⟩:=own_shape q1
    obtain ⟨D2,hD2⟩:∃ D2,(d ++ [b]).length=D2:=⟨_,rfl⟩
    have H2:=lh q2
    have HBb:=lh hb
    have HL:=lh hlast
    rw [←e1] at hrun
    rw [hD2] at hrun hcv
    clear hD2
    have hy1:y<128:=by omega
    have hy2:(y:Int) % 256=y:=by omega
    clear hbb q1 q2 hb hrow hdl e1 hlast
    go_wp2_with (at_builtin;refine wpl_run2 _ _ rfl (by simp [Act.eval]) (by simp [Act.eval]) hrun ?_)
    go_ret
    refine ⟨?_,HBb.out.trans H2.out⟩
    rw [HN.out,HL.out]
    rfl
 ·have h2:=hpos hn
  clear hneg hpos
  go_enter Tryz.func48,Tryz.ntmps48
  go_wp2
  go_loopw [3,4] (fun zv ov wr=>∃ k y d,Hid (Wg z d k y∧y≤z)∧zv=.int .u64 y∧wr.ownsRow w.heap.size 5 1 ov d.length (Lib.byteCells d)∧Below w.heap.size w wr) (fun zv _ _=>(intOf zv).toNat)
  case atStart=>exact ⟨10,z,[],lh ⟨HW.out,Nat.le_refl _⟩,rfl,World.ownsRow_nil _ _ _ _,Below.refl _ _⟩
  case round =>
   obtain ⟨k,y,d,HG,rfl,hrow,hb⟩:=hrel
   have hdl:d.length≤10:=by
    have h1:=congrArg List.length HG.out.1.eq
    have h2:=grp_len z
    rw [List.length_append] at h1
    omega
   by_cases hy:128≤y
   ·have e1:=byte_more y
    have hdv:=div_wrap HZ.out HG.out.2
    obtain ⟨b,hbb⟩:∃ b,UInt8.ofNat (y % 128+128)=b:=⟨_,rfl⟩
    rw [hbb] at e1
    have hbl:=b.toNat_lt
    obtain ⟨v2,w2,hrun,q1,q2⟩:=row_push hrow hb.size b (by omega)
    obtain ⟨adv,cpv,rfl⟩:=own_shape hrow
    obtain ⟨ad2,cap2,rfl⟩:=own_shape q1
    obtain ⟨D2,hD2⟩:∃ D2,(d ++ [b]).length=D2:=⟨_,rfl⟩
    rw [hD2] at hrun q1
    have HD:=lh hD2
    have HB:=lh hbb
    have H1:=lh q1
    have H2:=lh q2
    have HBb:=lh hb
    clear hD2
    clear hbb q1 q2 hb hrow hdl
    go_wp2_with (at_builtin;refine wpl_run2 _ _ rfl (by simp [Act.eval]) (by simp [Act.eval]) hrun ?_)
    go_roundw
    case rel =>
     obtain ⟨k',hk'⟩:=HG.out.1.next hy
     rw [HB.out] at hk'
     refine ⟨k',y / 128,_,lh ⟨hk',Nat.le_trans (Nat.div_le_self _ _) HG.out.2⟩,by go_num,?_,HBb.out.trans H2.out⟩
     rw [HD.out]
     exact H1.out
    case measure=>simp [intOf];omega
   ·have e1:=or_last y (by omega)
    have hlast:=HG.out.1.last (by omega:y<128)
    obtain ⟨b,hbb⟩:∃ b,UInt8.ofNat y=b:=⟨_,rfl⟩
    rw [hbb] at e1 hlast
    obtain ⟨v2,w2,hrun,q1,q2⟩:=row_push hrow hb.size b (by omega)
    have hcv:=conv_row q1
    obtain ⟨adv,cpv,rfl⟩:=own_shape hrow
    obtain ⟨ad2,cap2,rfl⟩:=own_shape q1
    obtain ⟨D2,hD2⟩:∃ D2,(d ++ [b]).length=D2:=⟨_,rfl⟩
    have H2:=lh q2
    have HBb:=lh hb
    have HL:=lh hlast
    rw [←e1] at hrun
    rw [hD2] at hrun hcv
    clear hD2
    have hy1:y<128:=by omega
    have hy2:(y:Int) % 256=y:=by omega
    clear hbb q1 q2 hb hrow hdl e1 hlast
    go_wp2_with (at_builtin;refine wpl_run2 _ _ rfl (by simp [Act.eval]) (by simp [Act.eval]) hrun ?_)
    go_ret
    refine ⟨?_,HBb.out.trans H2.out⟩
    rw [HN.out,HL.out]
    rfl
def flagL (b:Bool):List UInt8:=num (if b then 1 else 0)
def textL (s:ByteArray):List UInt8:=num (s.size:Int) ++ s.data.toList
theorem txt_append (a b:List UInt8):txt a ++ txt b=txt (a ++ b):=by
 apply ba_ext
 simp [txt]
theorem sum_ok {a b:ByteArray} (ha:a.size≤4000000000) (hb:b.size≤4000000000):¬ 9223372036854775807<a.size+b.size:=by omega
theorem numsL_len (ns:List Int):(ns.flatMap num).length≤ns.length*10:=by
 induction ns with
 | nil=>simp
 | cons n r ih =>
  have:=num_len n
  simp only [List.flatMap_cons,List.length_append,List.length_cons]
  omega
def numsL (ns:List Int):List UInt8:=ns.flatMap num
theorem numsL_take (ns:List Int) (i:Nat) (h:i<ns.length):numsL (ns.take (i+1))=numsL (ns.take i) ++ num ns[i]:=by
 unfold numsL
 rw [List.take_succ_eq_append_getElem h,List.flatMap_append]
 simp only [List.flatMap_cons,List.flatMap_nil,List.append_nil]
def Ints (w:World) (F:Nat) (ns:List Int):Prop:=∃ cs ty,w.heap[F]?=some (.cells cs ty (0,0))∧∀ i (h:i<ns.length),cs[i]?=some (.int .i64 ns[i])
theorem Ints.on {w w':World} {F:Nat} {ns:List Int} (h:Ints w F ns) (hb:Below w.heap.size w w'):Ints w' F ns:=by
 obtain ⟨cs,ty,h1,h2⟩:=h
 exact ⟨cs,ty,(hb.block F (blk_lt h1)).trans h1,h2⟩
set_option maxHeartbeats 2000000 in
set_option maxRecDepth 100000 in
theorem nums_ref {F:Nat} {ns:List Int} (w:World) (k:Nat) (hk:ns.length=k) (hk2:k≤100) (h:Ints w F ns) (hi:∀ n ∈ ns,I64 n):Calls Tryz.prog 47 #[.slice (some ⟨F,0,none⟩) k k] w fun e w'=>e=.returned (.string (txt (numsL ns)))∧Below w.heap.size w w':=by
 have HK:=lh hk
 have HI:=lh hi
 have HX:=lh h
 clear hk hi h
 go_enter Tryz.func47,Tryz.ntmps47
 go_wp2
 go_loopw [3,4] (fun ov iv wr=>∃ (i:Nat) (str:ByteArray),i≤k∧iv=.int .i64 i∧ov=.string str∧Hid (str=txt (numsL (ns.take i)))∧Below w.heap.size w wr) (fun _ iv _=>k - (intOf iv).toNat)
 case atStart=>exact ⟨0,⟨#[]⟩,by omega,rfl,rfl,rfl,Below.refl _ _⟩
 case round =>
  obtain ⟨i,str,hik,rfl,rfl,HS,hb⟩:=hrel
  by_cases hlt:i<k
  ·have hltn:i<ns.length:=by rw [HK.out];exact hlt
   obtain ⟨cs,ty,h1,h2⟩:=HX.out.on hb
   obtain ⟨n,hn⟩:∃ n,ns[i]=n:=⟨_,rfl⟩
   have hin:I64 n:=by rw [←hn];exact HI.out _ (List.getElem_mem hltn)
   have cF:wr.cell? ⟨F,i,none⟩=some (.int .i64 n):=by rw [cell_blk h1,h2 i hltn,hn]
   have HE:Hid (numsL (ns.take (i+1))=numsL (ns.take i) ++ num n):=by
    show _=_
    rw [numsL_take ns i hltn,hn]
   have hcall:=num_ref n wr hin
   have HB:=lh hb
   clear h1 h2 hn hin hltn hb
   obtain ⟨str2,hs2⟩:∃ q,txt (num n)=q:=⟨_,rfl⟩
   rw [hs2] at hcall
   have hsum:=sum_ok (a:=str) (b:=str2) (by
    have:=numsL_len (ns.take i)
    rw [HS.out,txt_size]
    unfold numsL
    rw [List.length_take] at this
    omega) (by
    have:=num_len n
    rw [←hs2,txt_size]
    omega)
   go_wp2_with (go_at_call 48;refine hcall.mono ?_;rintro e w1 ⟨rfl,hb1⟩;refine Hid.out ?_)
   refine lh ?_
   have HB1:Hid (Below w.heap.size w w1):=HB.out.trans (hb1.mono HB.out.size)
   clear hb1 hcall
   go_wp2
   go_roundw
   case rel =>
    refine ⟨i+1,_,by omega,by go_num,rfl,?_,HB1.out⟩
    show _=_
    rw [HE.out,HS.out,←hs2,txt_append]
   case measure=>simp [intOf];omega
  ·have hiF:i=k:=by omega
   subst hiF
   go_wp2
   go_ret
   refine ⟨?_,hb⟩
   rw [HS.out,←HK.out,List.take_length]
   rfl
set_option maxHeartbeats 2000000 in
set_option maxRecDepth 100000 in
theorem flag_ref (b:Bool) (w:World):Calls Tryz.prog 51 #[.bool b] w fun e w'=>e=.returned (.string (txt (flagL b)))∧Below w.heap.size w w':=by
 have h1:=num_ref 1 w (by unfold I64;omega)
 have h0:=num_ref 0 w (by unfold I64;omega)
 cases b with
 | false =>
  go_enter Tryz.func51,Tryz.ntmps51
  go_wp2_with (go_at_call 48;refine h0.mono ?_;rintro e w1 ⟨rfl,hb1⟩;refine Hid.out ?_)
  refine lh ?_
  go_wp2
  go_ret
  exact ⟨rfl,hb1⟩
 | true =>
  go_enter Tryz.func51,Tryz.ntmps51
  go_wp2_with (go_at_call 48;refine h1.mono ?_;rintro e w1 ⟨rfl,hb1⟩;refine Hid.out ?_)
  refine lh ?_
  go_wp2
  go_ret
  exact ⟨rfl,hb1⟩
set_option maxHeartbeats 2000000 in
set_option maxRecDepth 100000 in
theorem text_ref (s:ByteArray) (w:World) (h:s.size≤1000000000):Calls Tryz.prog 49 #[.string s] w fun e w'=>e=.returned (.string (txt (textL s)))∧Below w.heap.size w w':=by
 have e0:s.data.toList.length=s.size:=by rw [Array.length_toList];rfl
 have HE:Hid (textL s=num (s.size:Int) ++ s.data.toList):=by
  show _=_
  unfold textL
  rfl
 clear e0
 have h1:=num_ref (s.size:Int) w (by unfold I64;omega)
 obtain ⟨str2,hs2⟩:∃ q,txt (num (s.size:Int))=q:=⟨_,rfl⟩
 rw [hs2] at h1
 have hsum:=sum_ok (a:=str2) (b:=s) (by
  have:=num_len (s.size:Int)
  rw [←hs2,txt_size]
  omega) (by omega)
 go_enter Tryz.func49,Tryz.ntmps49
 go_wp2_with (go_at_call 48;refine h1.mono ?_;rintro e w1 ⟨rfl,hb1⟩;refine Hid.out ?_)
 refine lh ?_
 go_wp2
 go_ret
 refine ⟨?_,hb1⟩
 rw [HE.out,←txt_append,hs2,txt_of]
 rfl
end Go.Proofs.YtongmhfpoopebaaGreat
namespace Go.Proofs.YtongmhfpoopebaaGreat
open Go.RowKit
section
variable {ρ : Operand → Value} {X : World} {d : Option Tmp} {ty : TypeId} {ps : String} {af : Array Edge} {g : Option (Nat × Bool)}
theorem op_cat {x y:Operand} {a b:ByteArray} (e:ρ x=.string a) (e2:ρ y=.string b) (h:¬ 9223372036854775807<a.size+b.size):(execOp ρ ⟨d,.binOp .add 9 x y 9,ty,ps,af,g⟩).run Tryz.prog X=.ok (.value (.string (a ++ b))) X:=by
 simp only [execOp,e,e2]
 go_simp
theorem op_ints2 {x y:Operand} {a b:Int} (e:ρ x=.int .i64 a) (e2:ρ y=.int .i64 b):(execOp ρ ⟨d,.buildSlice 65 2 #[(0,x),(1,y)],ty,ps,af,g⟩).run Tryz.prog X=.ok (.value (.slice (some ⟨X.heap.size,0,none⟩) 2 2)) (X.alloc (.cells #[.int .i64 a,.int .i64 b] 3)):=by
 simp only [execOp]
 simp [e,e2]
 go_simp
theorem op_ints3 {x y z:Operand} {a b c:Int} (e:ρ x=.int .i64 a) (e2:ρ y=.int .i64 b) (e3:ρ z=.int .i64 c):(execOp ρ ⟨d,.buildSlice 65 3 #[(0,x),(1,y),(2,z)],ty,ps,af,g⟩).run Tryz.prog X=.ok (.value (.slice (some ⟨X.heap.size,0,none⟩) 3 3)) (X.alloc (.cells #[.int .i64 a,.int .i64 b,.int .i64 c] 3)):=by
 simp only [execOp]
 simp [e,e2,e3]
 go_simp
end
structure VlIn (v:Vl):Prop where
 k:I64 v.k
 n:I64 v.n
structure ColIn (c:Col):Prop where
 id:I64 c.id
 kd:I64 c.kd
 st:I64 c.st
 df:VlIn c.df
structure IxIn (c:Ix):Prop where
 id:I64 c.id
 col:I64 c.col
 st:I64 c.st
structure FkIn (c:Fk):Prop where
 id:I64 c.id
 col:I64 c.col
 par:I64 c.par
 st:I64 c.st
structure TbIn (t:Tb):Prop where
 id:I64 t.id
 c:∀ x ∈ t.cols,ColIn x
 i:∀ x ∈ t.ixs,IxIn x
 k:∀ x ∈ t.fks,FkIn x
structure ScIn (s:Sc):Prop where
 ver:I64 s.ver
 last:I64 s.last
 t:∀ x ∈ s.tabs,TbIn x
def valL (v:Vl):List UInt8:=num v.k ++ num v.n ++ textL v.s
def col1L (c:Col):List UInt8:=num c.id ++ textL c.nm ++ numsL [c.kd,c.st] ++ valL c.df
def colsL (L:List Col):List UInt8:=num (L.length:Int) ++ L.flatMap col1L
def ix1L (x:Ix):List UInt8:=num x.id ++ textL x.nm ++ num x.col ++ flagL x.uq ++ num x.st
def fk1L (x:Fk):List UInt8:=num x.id ++ textL x.nm ++ numsL [x.col,x.par,x.st]
def tabIL (t:Tb):List UInt8:=num t.id ++ textL t.nm ++ colsL t.cols ++ num (t.ixs.length:Int) ++ t.ixs.flatMap ix1L
def tab1L (t:Tb):List UInt8:=tabIL t ++ num (t.fks.length:Int) ++ t.fks.flatMap fk1L
def schL (s:Sc):List UInt8:=numsL [s.ver,s.last] ++ num (s.tabs.length:Int) ++ s.tabs.flatMap tab1L
theorem fm_next {α:Type} (f:α→List UInt8) {L:List α} {i:Nat} (h:i<L.length):(L.take (i+1)).flatMap f=(L.take i).flatMap f ++ f L[i]:=by
 rw [List.take_succ_eq_append_getElem h,List.flatMap_append]
 simp only [List.flatMap_cons,List.flatMap_nil,List.append_nil]
theorem fmy_take {α:Type} (f:α→List UInt8) (L:List α) (i:Nat):((L.take i).flatMap f).length≤(L.flatMap f).length:=by
 have h:=congrArg (fun l=>(l.flatMap f).length) (List.take_append_drop i L)
 simp only [List.flatMap_append,List.length_append] at h
 omega
theorem textL_len (s:ByteArray):s.size≤(textL s).length∧(textL s).length≤10+s.size:=by
 unfold textL
 have:=num_len (s.size:Int)
 have e0:s.data.toList.length=s.size:=by rw [Array.length_toList];rfl
 rw [List.length_append,e0]
 omega
theorem flagL_len (b:Bool):(flagL b).length≤10:=num_len _
def TJ {α:Type} (w:World) (pre:List UInt8) (f:α→List UInt8) (L:List α) (wr:World) (ov iv:Value):Prop:=∃ i:Nat,i≤L.length∧iv=.int .i64 (i:Int)∧ov=.string (txt (pre ++ (L.take i).flatMap f))∧Below w.heap.size w wr
section
variable {w : World}
set_option maxHeartbeats 4000000 in
set_option maxRecDepth 100000 in
theorem value_ref (v:Vl) (w:World) (hI:VlIn v) (hz:(valL v).length≤1000000000):Calls Tryz.prog 88 #[vlV v] w fun e w'=>e=.returned (.string (txt (valL v)))∧Below w.heap.size w w':=by
 obtain ⟨V,hV⟩:∃ V,V=w.alloc (.cells #[.int .i64 v.k,.int .i64 v.n,.string v.s] 28):=⟨_,rfl⟩
 have hb:Below w.heap.size w V:=by rw [hV];exact bnew _ _
 obtain ⟨Y,hY⟩:∃ Y,w.heap.size=Y:=⟨_,rfl⟩
 have jY:V.heap[Y]?=some (.cells #[.int .i64 v.k,.int .i64 v.n,.string v.s] 28 (0,0)):=by rw [hV,←hY];exact heap_alloc_new w _
 have c0:V.cell? ⟨Y,0,none⟩=some (.int .i64 v.k):=cell_blk jY 0
 have c1:V.cell? ⟨Y,1,none⟩=some (.int .i64 v.n):=cell_blk jY 1
 have c2:V.cell? ⟨Y,2,none⟩=some (.string v.s):=cell_blk jY 2
 unfold valL at hz ⊢
 simp only [List.length_append] at hz
 have HT2:=lh (fun X=>num_ref v.k X hI.k)
 have HT5:=lh (fun X=>num_ref v.n X hI.n)
 have s6:=sum_ok (a:=txt (num v.k)) (b:=txt (num v.n)) (by rw [txt_size];omega) (by rw [txt_size];omega)
 have HT9:=lh (fun X=>text_ref v.s X (by have:=textL_len v.s;omega))
 have s10:=sum_ok (a:=txt (num v.k) ++ txt (num v.n)) (b:=txt (textL v.s)) (by simp only [txt_append,txt_size,List.length_append];omega) (by rw [txt_size];omega)
 have hend:txt (num v.k) ++ txt (num v.n) ++ txt (textL v.s)=txt (num v.k ++ num v.n ++ textL v.s):=by simp only [txt_append]
 have HEND:=lh hend
 have HV:=lh hV
 have HY:=lh hY
 have HB:=lh hb
 clear hV hY hb jY hz hend
 go_enter Tryz.func88,Tryz.ntmps88
 go_upto_region 1 with fail
 rw [←HV.out,HY.out]
 refine wp_region_fin (fun X9=>Below V.heap.size V X9) (fun X9 X'=>Below X9.heap.size X9 X') [
  fun v9 _=>v9=.pointer (some ⟨Y,0,none⟩),
  fun v9 _=>v9=.int .i64 v.k,
  fun v9 _=>v9=.string (txt (num v.k)),
  fun v9 _=>v9=.pointer (some ⟨Y,1,none⟩),
  fun v9 _=>v9=.int .i64 v.n,
  fun v9 _=>v9=.string (txt (num v.n)),
  fun v9 _=>v9=.string (txt (num v.k) ++ txt (num v.n)),
  fun v9 _=>v9=.pointer (some ⟨Y,2,none⟩),
  fun v9 _=>v9=.string v.s,
  fun v9 _=>v9=.string (txt (textL v.s)),
  fun v9 _=>v9=.string (txt (num v.k) ++ txt (num v.n) ++ txt (textL v.s))]
  (fun v9 X9=>v9=.string (txt (num v.k) ++ txt (num v.n) ++ txt (textL v.s))∧Below V.heap.size V X9) rfl (by kernel_rfl) (by kernel_rfl) (by kernel_rfl) (by kernel_rfl) ?st ?g0 ?os ?la ?en
 case st=>exact ⟨fun _ _ _ _ h=>h,fun _ _ _ _ h=>h,fun _ _ _ _ h=>h,fun _ _ _ _ h=>h,fun _ _ _ _ h=>h,fun _ _ _ _ h=>h,fun _ _ _ _ h=>h,fun _ _ _ _ h=>h,fun _ _ _ _ h=>h,fun _ _ _ _ h=>h,fun _ _ _ _ h=>h,trivial⟩
 case g0=>exact ⟨rfl,rfl,rfl,Nat.le_refl _,fun _ _=>rfl⟩
 case os =>
  refine ⟨?_,?_,?_,?_,?_,?_,?_,?_,?_,?_,?_,trivial⟩
  ·exact ⟨rfl,fun ρ X9 hg ho hc hf hr=>Runs.val _ (op_f28_0 (show ρ (.tmp 1)=.pointer (some ⟨Y,0,none⟩) from ho 1 rfl)) ⟨hg,Below.refl _ _,rfl⟩⟩
  ·exact ⟨rfl,fun ρ X9 hg ho hc hf hr=>Runs.val _ (op_load3 (show ρ (.tmp 3)=.pointer (some ⟨Y,0,none⟩) from hr 0 3 rfl rfl) (cell_on hg c0)) ⟨hg,Below.refl _ _,rfl⟩⟩
  ·refine ⟨rfl,fun ρ X9 hg ho hc hf hr=>?_⟩
   refine Runs.goes 48 #[.int .i64 v.k] (op_call1 hf (by go_simp) (show ρ (.tmp 4)=.int .i64 v.k from hr 1 4 rfl rfl)) ((HT2.out X9).mono ?_)
   rintro e7 w7 ⟨rfl,b7⟩
   exact ⟨_,rfl,hg.trans (b7.mono hg.size),b7,rfl⟩
  ·exact ⟨rfl,fun ρ X9 hg ho hc hf hr=>Runs.val _ (op_f28_1 (show ρ (.tmp 1)=.pointer (some ⟨Y,0,none⟩) from ho 1 rfl)) ⟨hg,Below.refl _ _,rfl⟩⟩
  ·exact ⟨rfl,fun ρ X9 hg ho hc hf hr=>Runs.val _ (op_load2 (show ρ (.tmp 6)=.pointer (some ⟨Y,1,none⟩) from hr 3 6 rfl rfl) (cell_on hg c1)) ⟨hg,Below.refl _ _,rfl⟩⟩
  ·refine ⟨rfl,fun ρ X9 hg ho hc hf hr=>?_⟩
   refine Runs.goes 48 #[.int .i64 v.n] (op_call1 hf (by go_simp) (show ρ (.tmp 7)=.int .i64 v.n from hr 4 7 rfl rfl)) ((HT5.out X9).mono ?_)
   rintro e7 w7 ⟨rfl,b7⟩
   exact ⟨_,rfl,hg.trans (b7.mono hg.size),b7,rfl⟩
  ·exact ⟨rfl,fun ρ X9 hg ho hc hf hr=>Runs.val _ (op_cat (show ρ (.tmp 5)=.string (txt (num v.k)) from hr 2 5 rfl rfl) (show ρ (.tmp 8)=.string (txt (num v.n)) from hr 5 8 rfl rfl) s6) ⟨hg,Below.refl _ _,rfl⟩⟩
  ·exact ⟨rfl,fun ρ X9 hg ho hc hf hr=>Runs.val _ (op_f28_2 (show ρ (.tmp 1)=.pointer (some ⟨Y,0,none⟩) from ho 1 rfl)) ⟨hg,Below.refl _ _,rfl⟩⟩
  ·exact ⟨rfl,fun ρ X9 hg ho hc hf hr=>Runs.val _ (op_load9 (show ρ (.tmp 10)=.pointer (some ⟨Y,2,none⟩) from hr 7 10 rfl rfl) (cell_on hg c2)) ⟨hg,Below.refl _ _,rfl⟩⟩
  ·refine ⟨rfl,fun ρ X9 hg ho hc hf hr=>?_⟩
   refine Runs.goes 49 #[.string v.s] (op_call1 hf (by go_simp) (show ρ (.tmp 11)=.string v.s from hr 8 11 rfl rfl)) ((HT9.out X9).mono ?_)
   rintro e7 w7 ⟨rfl,b7⟩
   exact ⟨_,rfl,hg.trans (b7.mono hg.size),b7,rfl⟩
  ·exact ⟨rfl,fun ρ X9 hg ho hc hf hr=>Runs.val _ (op_cat (show ρ (.tmp 9)=.string (txt (num v.k) ++ txt (num v.n)) from hr 6 9 rfl rfl) (show ρ (.tmp 12)=.string (txt (textL v.s)) from hr 9 12 rfl rfl) s10) ⟨hg,Below.refl _ _,rfl⟩⟩
 case la =>
  refine ⟨rfl,fun ρ X9 hg ho hc hf hr=>?_⟩
  exact Runs.val _ (op_assign (show ρ (.tmp 13)=.string (txt (num v.k) ++ txt (num v.n) ++ txt (textL v.s)) from hr 10 13 (by decide) rfl)) ⟨rfl,hg⟩
 case en =>
  intro a9 X9 Xb v9 hF hs9 hd9 ho9 hv9 hr9
  obtain ⟨x9,hx,hxt⟩:=act_put hs9 hd9 ho9
  have e2:x9 2=.string (txt (num v.k) ++ txt (num v.n) ++ txt (textL v.s)):=(hxt 2).symm.trans ((hv9 2 rfl).trans hF.1)
  change a9=putAll _ x9 [3,4,5,6,7,8,9,10,11,12,13,2] at hx
  simp only [putAll,Act.put,List.setIfInBounds_toArray,List.set_cons_zero,List.set_cons_succ,e2] at hx
  have HG:=lh hF.2
  clear hF hs9 hd9 ho9 hv9 hr9 hxt e2
  subst hx
  generalize x9 3=z3,x9 4=z4,x9 5=z5,x9 6=z6,x9 7=z7,x9 8=z8,x9 9=z9,x9 10=z10,x9 11=z11,x9 12=z12,x9 13=z13
  rw [HEND.out]
  go_wp2
  go_ret
  exact ⟨rfl,HB.out.trans (HG.out.mono HB.out.size)⟩
set_option maxHeartbeats 4000000 in
set_option maxRecDepth 100000 in
theorem cols_ref {L:List Col} {v:Value} (hl:Lr colE 7 w L v) (hts:∀ r ∈ L,ColIn r) (hz:(colsL L).length≤1000000000):Calls Tryz.prog 50 #[v] w fun e w'=>e=.returned (.string (txt (colsL L)))∧Below w.heap.size w w':=by
 have HL:=lh hl
 obtain ⟨ad,cap,rfl,_,_,hcap,_⟩:=hl
 obtain ⟨n,hn⟩:∃ n,L.length=n:=⟨_,rfl⟩
 have hmx:(n:Int)≤9223372036854775807:=by unfold maxLen at hcap;omega
 have hnum:=num_ref (n:Int) w (by unfold I64;omega)
 have HN:=lh hn
 have HZ:=lh hz
 have HTS:=lh hts
 have hfull:colsL L=num (n:Int) ++ L.flatMap col1L:=by unfold colsL;rw [hn]
 rw [hn]
 obtain ⟨pre,hpre⟩:∃ pre,num (n:Int)=pre:=⟨_,rfl⟩
 rw [hpre] at hnum hfull
 have HFU:=lh hfull
 clear hn hz hcap hfull hpre hts
 go_enter Tryz.func50,Tryz.ntmps50
 go_wp2_with (go_at_call 48;refine hnum.mono ?_;rintro e w1 ⟨rfl,hb1⟩;refine Hid.out ?_)
 refine lh ?_
 have H0:Hid (TJ w pre col1L L w1 (.string (txt pre)) (.int .i64 0)):=lh ⟨0,Nat.zero_le _,rfl,by rw [List.take_zero];simp,hb1⟩
 clear hb1 hnum
 go_wp2
 go_loopw [3,4] (fun ov iv wr=>TJ w pre col1L L wr ov iv) (fun _ iv _=>n - (intOf iv).toNat)
 case atStart=>exact H0.out
 case round =>
  clear H0
  obtain ⟨i,hi,rfl,rfl,hb⟩:=hrel
  obtain ⟨V,rfl⟩:∃ V,V=wr:=⟨_,rfl⟩
  have hin:i≤n:=by rw [←HN.out];exact hi
  by_cases hlt:i<n
  ·have hiL:i<L.length:=by rw [HN.out];exact hlt
   have k0:(0:Int)≤i:=by omega
   have k1:(i:Int)<n:=by omega
   obtain ⟨_,_,e1,_,_,_,hcs⟩:=HL.out.on colE_held hb
   obtain ⟨b,o,cs,ha,hbl,hE,_,hcell⟩:=hcs i hiL
   have hE':cs=colL L[i]:=hE
   subst hE'
   simp only [Value.slice.injEq] at e1
   obtain ⟨rfl,_,rfl⟩:=e1
   subst ha
   have c0:=hcell 0 _ rfl
   have c1:=hcell 1 _ rfl
   have c2:=hcell 2 _ rfl
   have c3:=hcell 3 _ rfl
   have hnx:=fm_next col1L hiL
   have hln:(pre ++ (L.take (i+1)).flatMap col1L).length≤1000000000:=by
    have h1:=HZ.out
    rw [HFU.out,List.length_append] at h1
    have h2:=fmy_take col1L L (i+1)
    rw [List.length_append]
    omega
   have hti:=HTS.out _ (List.getElem_mem hiL)
   obtain ⟨x,hx⟩:∃ x,L[i]=x:=⟨_,rfl⟩
   rw [hx] at c0 c1 c2 c3 hnx hti hcell
   simp only [Nat.add_zero] at c0
   have HLD:Hid (∀ X,Below V.heap.size V X→(Instr.loadAt 28 (.pointer (some ⟨b,o+i*7+4,none⟩))).run Tryz.prog X=.ok (vlV x.df) X):=fun X hX=>run_loadAt_mid (P:=Tryz.prog) X b (o+i*7+4) 28 (vlL x.df) _ (fun j u hu=>by
    have hj:j<3:=(List.getElem?_eq_some_iff.1 hu).1
    have:=cell_on hX (hcell (4+j) u (by
     match j,hj,hu with
     | 0,_,hu=>exact hu
     | 1,_,hu=>exact hu
     | 2,_,hu=>exact hu))
    rw [Nat.add_assoc]
    exact this) Tryz.underlying28 rfl size28
   obtain ⟨acc,hacc⟩:∃ acc,pre ++ (L.take i).flatMap col1L=acc:=⟨_,rfl⟩
   have hna:pre ++ (L.take (i+1)).flatMap col1L=acc ++ col1L x:=by rw [hnx,←List.append_assoc,hacc]
   rw [hna] at hln
   rw [hacc]
   have HNA:=lh hna
   have HB:=lh hb
   unfold col1L at hln
   simp only [List.length_append] at hln
   have HT6:=lh (fun X=>num_ref x.id X hti.id)
   have s7:=sum_ok (a:=txt acc) (b:=txt (num x.id)) (by rw [txt_size];omega) (by rw [txt_size];omega)
   have HT13:=lh (fun X=>text_ref x.nm X (by have:=textL_len x.nm;omega))
   have s14:=sum_ok (a:=txt acc ++ txt (num x.id)) (b:=txt (textL x.nm)) (by simp only [txt_append,txt_size,List.length_append];omega) (by rw [txt_size];omega)
   have HT26:=lh (fun X F (hF:Ints X F [x.kd,x.st])=>nums_ref X 2 rfl (by omega) hF (fun z hz=>by
    simp at hz
    rcases hz with rfl | rfl
    ·exact hti.kd
    ·exact hti.st))
   have s27:=sum_ok (a:=txt acc ++ txt (num x.id) ++ txt (textL x.nm)) (b:=txt (numsL [x.kd,x.st])) (by simp only [txt_append,txt_size,List.length_append];omega) (by rw [txt_size];omega)
   have HT33:=lh (fun X=>value_ref x.df X hti.df (by omega))
   have s34:=sum_ok (a:=txt acc ++ txt (num x.id) ++ txt (textL x.nm) ++ txt (numsL [x.kd,x.st])) (b:=txt (valL x.df)) (by simp only [txt_append,txt_size,List.length_append];omega) (by rw [txt_size];omega)
   have hend:txt acc ++ txt (num x.id) ++ txt (textL x.nm) ++ txt (numsL [x.kd,x.st]) ++ txt (valL x.df)=txt (acc ++ num x.id ++ textL x.nm ++ numsL [x.kd,x.st] ++ valL x.df):=by simp only [txt_append]
   have HEND:=lh hend
   have hfin:acc ++ num x.id ++ textL x.nm ++ numsL [x.kd,x.st] ++ valL x.df=acc ++ col1L x:=by unfold col1L;simp only [List.append_assoc]
   have HFIN:=lh hfin
   clear hcs hcell hE hb hx hnx hna hln hacc hend hti hfin
   go_upto_region 5 with fail
   refine wp_region_fin (fun X9=>Below V.heap.size V X9) (fun X9 X'=>Below X9.heap.size X9 X') [
    fun v9 _=>v9=.string (txt acc),
    fun v9 _=>v9=.slice (some ⟨b,o,none⟩) n cap,
    fun v9 _=>v9=.int .i64 (i:Int),
    fun v9 _=>v9=.pointer (some ⟨b,o+i*7,none⟩),
    fun v9 _=>v9=.pointer (some ⟨b,o+i*7,none⟩),
    fun v9 _=>v9=.int .i64 x.id,
    fun v9 _=>v9=.string (txt (num x.id)),
    fun v9 _=>v9=.string (txt acc ++ txt (num x.id)),
    fun v9 _=>v9=.slice (some ⟨b,o,none⟩) n cap,
    fun v9 _=>v9=.int .i64 (i:Int),
    fun v9 _=>v9=.pointer (some ⟨b,o+i*7,none⟩),
    fun v9 _=>v9=.pointer (some ⟨b,o+i*7+1,none⟩),
    fun v9 _=>v9=.string x.nm,
    fun v9 _=>v9=.string (txt (textL x.nm)),
    fun v9 _=>v9=.string (txt acc ++ txt (num x.id) ++ txt (textL x.nm)),
    fun v9 _=>v9=.slice (some ⟨b,o,none⟩) n cap,
    fun v9 _=>v9=.int .i64 (i:Int),
    fun v9 _=>v9=.pointer (some ⟨b,o+i*7,none⟩),
    fun v9 _=>v9=.pointer (some ⟨b,o+i*7+2,none⟩),
    fun v9 _=>v9=.int .i64 x.kd,
    fun v9 _=>v9=.slice (some ⟨b,o,none⟩) n cap,
    fun v9 _=>v9=.int .i64 (i:Int),
    fun v9 _=>v9=.pointer (some ⟨b,o+i*7,none⟩),
    fun v9 _=>v9=.pointer (some ⟨b,o+i*7+3,none⟩),
    fun v9 _=>v9=.int .i64 x.st,
    fun v9 X9=>∃ F,v9=.slice (some ⟨F,0,none⟩) 2 2∧Ints X9 F [x.kd,x.st],
    fun v9 _=>v9=.string (txt (numsL [x.kd,x.st])),
    fun v9 _=>v9=.string (txt acc ++ txt (num x.id) ++ txt (textL x.nm) ++ txt (numsL [x.kd,x.st])),
    fun v9 _=>v9=.slice (some ⟨b,o,none⟩) n cap,
    fun v9 _=>v9=.int .i64 (i:Int),
    fun v9 _=>v9=.pointer (some ⟨b,o+i*7,none⟩),
    fun v9 _=>v9=.pointer (some ⟨b,o+i*7+4,none⟩),
    fun v9 _=>v9=vlV x.df,
    fun v9 _=>v9=.string (txt (valL x.df)),
    fun v9 _=>v9=.string (txt acc ++ txt (num x.id) ++ txt (textL x.nm) ++ txt (numsL [x.kd,x.st]) ++ txt (valL x.df))]
    (fun v9 X9=>v9=.string (txt acc ++ txt (num x.id) ++ txt (textL x.nm) ++ txt (numsL [x.kd,x.st]) ++ txt (valL x.df))∧Below V.heap.size V X9) rfl (by kernel_rfl) (by kernel_rfl) (by kernel_rfl) (by kernel_rfl) ?st ?g0 ?os ?la ?en
   case st=>exact ⟨fun _ _ _ _ h=>h,fun _ _ _ _ h=>h,fun _ _ _ _ h=>h,fun _ _ _ _ h=>h,fun _ _ _ _ h=>h,fun _ _ _ _ h=>h,fun _ _ _ _ h=>h,fun _ _ _ _ h=>h,fun _ _ _ _ h=>h,fun _ _ _ _ h=>h,fun _ _ _ _ h=>h,fun _ _ _ _ h=>h,fun _ _ _ _ h=>h,fun _ _ _ _ h=>h,fun _ _ _ _ h=>h,fun _ _ _ _ h=>h,fun _ _ _ _ h=>h,fun _ _ _ _ h=>h,fun _ _ _ _ h=>h,fun _ _ _ _ h=>h,fun _ _ _ _ h=>h,fun _ _ _ _ h=>h,fun _ _ _ _ h=>h,fun _ _ _ _ h=>h,fun _ _ _ _ h=>h,(fun _ _ _ hb h=>by obtain ⟨F,e9,h9⟩:=h;exact ⟨F,e9,h9.on hb⟩),fun _ _ _ _ h=>h,fun _ _ _ _ h=>h,fun _ _ _ _ h=>h,fun _ _ _ _ h=>h,fun _ _ _ _ h=>h,fun _ _ _ _ h=>h,fun _ _ _ _ h=>h,fun _ _ _ _ h=>h,fun _ _ _ _ h=>h,trivial⟩
   case g0=>exact ⟨rfl,rfl,rfl,Nat.le_refl _,fun _ _=>rfl⟩
   case os =>
    refine ⟨?_,?_,?_,?_,?_,?_,?_,?_,?_,?_,?_,?_,?_,?_,?_,?_,?_,?_,?_,?_,?_,?_,?_,?_,?_,?_,?_,?_,?_,?_,?_,?_,?_,?_,?_,trivial⟩
    ·exact ⟨rfl,fun ρ X9 hg ho hc hf hr=>Runs.val _ (op_move (show ρ (.tmp 3)=.string (txt acc) from ho 3 rfl)) ⟨hg,Below.refl _ _,rfl⟩⟩
    ·exact ⟨rfl,fun ρ X9 hg ho hc hf hr=>Runs.val _ (op_move (show ρ (.tmp 0)=.slice (some ⟨b,o,none⟩) n cap from ho 0 rfl)) ⟨hg,Below.refl _ _,rfl⟩⟩
    ·exact ⟨rfl,fun ρ X9 hg ho hc hf hr=>Runs.val _ (op_move (show ρ (.tmp 4)=.int .i64 (i:Int) from ho 4 rfl)) ⟨hg,Below.refl _ _,rfl⟩⟩
    ·exact ⟨rfl,fun ρ X9 hg ho hc hf hr=>Runs.val _ (op_i29 (show ρ (.tmp 15)=.slice (some ⟨b,o,none⟩) n cap from hr 1 15 rfl rfl) (show ρ (.tmp 16)=.int .i64 (i:Int) from hr 2 16 rfl rfl) hlt) ⟨hg,Below.refl _ _,rfl⟩⟩
    ·exact ⟨rfl,fun ρ X9 hg ho hc hf hr=>Runs.val _ (op_f50_0 (show ρ (.tmp 17)=.pointer (some ⟨b,o+i*7,none⟩) from hr 3 17 rfl rfl)) ⟨hg,Below.refl _ _,rfl⟩⟩
    ·exact ⟨rfl,fun ρ X9 hg ho hc hf hr=>Runs.val _ (op_load3 (show ρ (.tmp 18)=.pointer (some ⟨b,o+i*7,none⟩) from hr 4 18 rfl rfl) (cell_on hg c0)) ⟨hg,Below.refl _ _,rfl⟩⟩
    ·refine ⟨rfl,fun ρ X9 hg ho hc hf hr=>?_⟩
     refine Runs.goes 48 #[.int .i64 x.id] (op_call1 hf (by go_simp) (show ρ (.tmp 19)=.int .i64 x.id from hr 5 19 rfl rfl)) ((HT6.out X9).mono ?_)
     rintro e7 w7 ⟨rfl,b7⟩
     exact ⟨_,rfl,hg.trans (b7.mono hg.size),b7,rfl⟩
    ·exact ⟨rfl,fun ρ X9 hg ho hc hf hr=>Runs.val _ (op_cat (show ρ (.tmp 14)=.string (txt acc) from hr 0 14 rfl rfl) (show ρ (.tmp 20)=.string (txt (num x.id)) from hr 6 20 rfl rfl) s7) ⟨hg,Below.refl _ _,rfl⟩⟩
    ·exact ⟨rfl,fun ρ X9 hg ho hc hf hr=>Runs.val _ (op_move (show ρ (.tmp 0)=.slice (some ⟨b,o,none⟩) n cap from ho 0 rfl)) ⟨hg,Below.refl _ _,rfl⟩⟩
    ·exact ⟨rfl,fun ρ X9 hg ho hc hf hr=>Runs.val _ (op_move (show ρ (.tmp 4)=.int .i64 (i:Int) from ho 4 rfl)) ⟨hg,Below.refl _ _,rfl⟩⟩
    ·exact ⟨rfl,fun ρ X9 hg ho hc hf hr=>Runs.val _ (op_i29 (show ρ (.tmp 22)=.slice (some ⟨b,o,none⟩) n cap from hr 8 22 rfl rfl) (show ρ (.tmp 23)=.int .i64 (i:Int) from hr 9 23 rfl rfl) hlt) ⟨hg,Below.refl _ _,rfl⟩⟩
    ·exact ⟨rfl,fun ρ X9 hg ho hc hf hr=>Runs.val _ (op_f50_1 (show ρ (.tmp 24)=.pointer (some ⟨b,o+i*7,none⟩) from hr 10 24 rfl rfl)) ⟨hg,Below.refl _ _,rfl⟩⟩
    ·exact ⟨rfl,fun ρ X9 hg ho hc hf hr=>Runs.val _ (op_load9 (show ρ (.tmp 25)=.pointer (some ⟨b,o+i*7+1,none⟩) from hr 11 25 rfl rfl) (cell_on hg c1)) ⟨hg,Below.refl _ _,rfl⟩⟩
    ·refine ⟨rfl,fun ρ X9 hg ho hc hf hr=>?_⟩
     refine Runs.goes 49 #[.string x.nm] (op_call1 hf (by go_simp) (show ρ (.tmp 26)=.string x.nm from hr 12 26 rfl rfl)) ((HT13.out X9).mono ?_)
     rintro e7 w7 ⟨rfl,b7⟩
     exact ⟨_,rfl,hg.trans (b7.mono hg.size),b7,rfl⟩
    ·exact ⟨rfl,fun ρ X9 hg ho hc hf hr=>Runs.val _ (op_cat (show ρ (.tmp 21)=.string (txt acc ++ txt (num x.id)) from hr 7 21 rfl rfl) (show ρ (.tmp 27)=.string (txt (textL x.nm)) from hr 13 27 rfl rfl) s14) ⟨hg,Below.refl _ _,rfl⟩⟩
    ·exact ⟨rfl,fun ρ X9 hg ho hc hf hr=>Runs.val _ (op_move (show ρ (.tmp 0)=.slice (some ⟨b,o,none⟩) n cap from ho 0 rfl)) ⟨hg,Below.refl _ _,rfl⟩⟩
    ·exact ⟨rfl,fun ρ X9 hg ho hc hf hr=>Runs.val _ (op_move (show ρ (.tmp 4)=.int .i64 (i:Int) from ho 4 rfl)) ⟨hg,Below.refl _ _,rfl⟩⟩
    ·exact ⟨rfl,fun ρ X9 hg ho hc hf hr=>Runs.val _ (op_i29 (show ρ (.tmp 29)=.slice (some ⟨b,o,none⟩) n cap from hr 15 29 rfl rfl) (show ρ (.tmp 30)=.int .i64 (i:Int) from hr 16 30 rfl rfl) hlt) ⟨hg,Below.refl _ _,rfl⟩⟩
    ·exact ⟨rfl,fun ρ X9 hg ho hc hf hr=>Runs.val _ (op_f50_2 (show ρ (.tmp 31)=.pointer (some ⟨b,o+i*7,none⟩) from hr 17 31 rfl rfl)) ⟨hg,Below.refl _ _,rfl⟩⟩
    ·exact ⟨rfl,fun ρ X9 hg ho hc hf hr=>Runs.val _ (op_load3 (show ρ (.tmp 32)=.pointer (some ⟨b,o+i*7+2,none⟩) from hr 18 32 rfl rfl) (cell_on hg c2)) ⟨hg,Below.refl _ _,rfl⟩⟩
    ·exact ⟨rfl,fun ρ X9 hg ho hc hf hr=>Runs.val _ (op_move (show ρ (.tmp 0)=.slice (some ⟨b,o,none⟩) n cap from ho 0 rfl)) ⟨hg,Below.refl _ _,rfl⟩⟩
    ·exact ⟨rfl,fun ρ X9 hg ho hc hf hr=>Runs.val _ (op_move (show ρ (.tmp 4)=.int .i64 (i:Int) from ho 4 rfl)) ⟨hg,Below.refl _ _,rfl⟩⟩
    ·exact ⟨rfl,fun ρ X9 hg ho hc hf hr=>Runs.val _ (op_i29 (show ρ (.tmp 34)=.slice (some ⟨b,o,none⟩) n cap from hr 20 34 rfl rfl) (show ρ (.tmp 35)=.int .i64 (i:Int) from hr 21 35 rfl rfl) hlt) ⟨hg,Below.refl _ _,rfl⟩⟩
    ·exact ⟨rfl,fun ρ X9 hg ho hc hf hr=>Runs.val _ (op_f50_3 (show ρ (.tmp 36)=.pointer (some ⟨b,o+i*7,none⟩) from hr 22 36 rfl rfl)) ⟨hg,Below.refl _ _,rfl⟩⟩
    ·exact ⟨rfl,fun ρ X9 hg ho hc hf hr=>Runs.val _ (op_load3 (show ρ (.tmp 37)=.pointer (some ⟨b,o+i*7+3,none⟩) from hr 23 37 rfl rfl) (cell_on hg c3)) ⟨hg,Below.refl _ _,rfl⟩⟩
    ·refine ⟨rfl,fun ρ X9 hg ho hc hf hr=>?_⟩
     have b7:Below X9.heap.size X9 (X9.alloc (.cells #[.int .i64 x.kd,.int .i64 x.st] 3)):=(Below.refl _ X9).alloc (Nat.le_refl _) _
     refine Runs.val _ (op_ints2 (show ρ (.tmp 33)=.int .i64 x.kd from hr 19 33 rfl rfl) (show ρ (.tmp 38)=.int .i64 x.st from hr 24 38 rfl rfl)) ⟨hg.trans (b7.mono hg.size),b7,_,rfl,_,_,heap_alloc_new X9 _,fun i hi=>?_⟩
     match i,hi with
     | 0,_=>rfl
     | 1,_=>rfl
    ·refine ⟨rfl,fun ρ X9 hg ho hc hf hr=>?_⟩
     obtain ⟨F,e9,h9⟩:∃ F,ρ (.tmp 39)=.slice (some ⟨F,0,none⟩) 2 2∧Ints X9 F [x.kd,x.st]:=hr 25 39 rfl rfl
     refine Runs.goes 47 #[.slice (some ⟨F,0,none⟩) 2 2] (op_call1 hf (by go_simp) e9) ((HT26.out X9 F h9).mono ?_)
     rintro e7 w7 ⟨rfl,b7⟩
     exact ⟨_,rfl,hg.trans (b7.mono hg.size),b7,rfl⟩
    ·exact ⟨rfl,fun ρ X9 hg ho hc hf hr=>Runs.val _ (op_cat (show ρ (.tmp 28)=.string (txt acc ++ txt (num x.id) ++ txt (textL x.nm)) from hr 14 28 rfl rfl) (show ρ (.tmp 40)=.string (txt (numsL [x.kd,x.st])) from hr 26 40 rfl rfl) s27) ⟨hg,Below.refl _ _,rfl⟩⟩
    ·exact ⟨rfl,fun ρ X9 hg ho hc hf hr=>Runs.val _ (op_move (show ρ (.tmp 0)=.slice (some ⟨b,o,none⟩) n cap from ho 0 rfl)) ⟨hg,Below.refl _ _,rfl⟩⟩
    ·exact ⟨rfl,fun ρ X9 hg ho hc hf hr=>Runs.val _ (op_move (show ρ (.tmp 4)=.int .i64 (i:Int) from ho 4 rfl)) ⟨hg,Below.refl _ _,rfl⟩⟩
    ·exact ⟨rfl,fun ρ X9 hg ho hc hf hr=>Runs.val _ (op_i29 (show ρ (.tmp 42)=.slice (some ⟨b,o,none⟩) n cap from hr 28 42 rfl rfl) (show ρ (.tmp 43)=.int .i64 (i:Int) from hr 29 43 rfl rfl) hlt) ⟨hg,Below.refl _ _,rfl⟩⟩
    ·exact ⟨rfl,fun ρ X9 hg ho hc hf hr=>Runs.val _ (op_f50_4 (show ρ (.tmp 44)=.pointer (some ⟨b,o+i*7,none⟩) from hr 30 44 rfl rfl)) ⟨hg,Below.refl _ _,rfl⟩⟩
    ·exact ⟨rfl,fun ρ X9 hg ho hc hf hr=>Runs.val _ (op_loadAt (show ρ (.tmp 45)=.pointer (some ⟨b,o+i*7+4,none⟩) from hr 31 45 rfl rfl) (HLD.out X9 hg)) ⟨hg,Below.refl _ _,rfl⟩⟩
    ·refine ⟨rfl,fun ρ X9 hg ho hc hf hr=>?_⟩
     refine Runs.goes 88 #[vlV x.df] (op_call1 hf (by go_simp) (show ρ (.tmp 46)=vlV x.df from hr 32 46 rfl rfl)) ((HT33.out X9).mono ?_)
     rintro e7 w7 ⟨rfl,b7⟩
     exact ⟨_,rfl,hg.trans (b7.mono hg.size),b7,rfl⟩
    ·exact ⟨rfl,fun ρ X9 hg ho hc hf hr=>Runs.val _ (op_cat (show ρ (.tmp 41)=.string (txt acc ++ txt (num x.id) ++ txt (textL x.nm) ++ txt (numsL [x.kd,x.st])) from hr 27 41 rfl rfl) (show ρ (.tmp 47)=.string (txt (valL x.df)) from hr 33 47 rfl rfl) s34) ⟨hg,Below.refl _ _,rfl⟩⟩
   case la =>
    refine ⟨rfl,fun ρ X9 hg ho hc hf hr=>?_⟩
    exact Runs.val _ (op_assign (show ρ (.tmp 48)=.string (txt acc ++ txt (num x.id) ++ txt (textL x.nm) ++ txt (numsL [x.kd,x.st]) ++ txt (valL x.df)) from hr 34 48 (by decide) rfl)) ⟨rfl,hg⟩
   case en =>
    intro a9 X9 Xb v9 hF hs9 hd9 ho9 hv9 hr9
    obtain ⟨x9,hx,hxt⟩:=act_put hs9 hd9 ho9
    have e3:x9 3=.string (txt acc ++ txt (num x.id) ++ txt (textL x.nm) ++ txt (numsL [x.kd,x.st]) ++ txt (valL x.df)):=(hxt 3).symm.trans ((hv9 3 rfl).trans hF.1)
    change a9=putAll _ x9 [14,15,16,17,18,19,20,21,22,23,24,25,26,27,28,29,30,31,32,33,34,35,36,37,38,39,40,41,42,43,44,45,46,47,48,3] at hx
    simp only [putAll,Act.put,List.setIfInBounds_toArray,List.set_cons_zero,List.set_cons_succ,e3] at hx
    have HG:=lh hF.2
    clear hF hs9 hd9 ho9 hv9 hr9 hxt e3
    subst hx
    generalize x9 14=z14,x9 15=z15,x9 16=z16,x9 17=z17,x9 18=z18,x9 19=z19,x9 20=z20,x9 21=z21,x9 22=z22,x9 23=z23,x9 24=z24,x9 25=z25,x9 26=z26,x9 27=z27,x9 28=z28,x9 29=z29,x9 30=z30,x9 31=z31,x9 32=z32,x9 33=z33,x9 34=z34,x9 35=z35,x9 36=z36,x9 37=z37,x9 38=z38,x9 39=z39,x9 40=z40,x9 41=z41,x9 42=z42,x9 43=z43,x9 44=z44,x9 45=z45,x9 46=z46,x9 47=z47,x9 48=z48
    rw [HEND.out]
    rw [HFIN.out]
    go_wp2
    go_roundw
    case rel=>exact ⟨i+1,hiL,by go_num,by rw [HNA.out],HB.out.trans (HG.out.mono HB.out.size)⟩
    case measure=>simp [intOf];omega
  ·have k1:¬ ((i:Int)<n):=by omega
   have ei:(L.take i)=L:=List.take_of_length_le (by rw [HN.out];omega)
   rw [ei,←HFU.out]
   have HB:=lh hb
   clear hb ei
   go_wp2
   go_ret
   exact ⟨rfl,HB.out⟩
end
end Go.Proofs.YtongmhfpoopebaaGreat
