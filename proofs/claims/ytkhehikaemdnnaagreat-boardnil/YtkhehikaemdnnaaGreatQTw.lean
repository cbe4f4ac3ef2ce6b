import Derived.Test.YtkhehikaemdnnaaGreatQBl
import Derived.Lib.ConvBytes
import Derived.Test.YtkhehikaemdnnaaGreatQLu
import Derived.Test.YtkhehikaemdnnaaGreatQLw
namespace Go.Proofs.YtkhehikaemdnnaaGreat
set_option maxRecDepth 100000
set_option maxHeartbeats 2000000
open Go.RowKit
theorem infoByte:(Tryz.prog.info? 5).map (fun i=>(i.zero,i.size,i.bytes))=some (some (.int .u8 0),1,1):=by kernel_rfl
def zig(n:Int):Nat:=if n<0 then (-2*n - 1).toNat else (2*n).toNat
theorem zig_lt{n:Int}(h:I64 n):zig n<18446744073709551616:=by
 unfold I64 at h;unfold zig
 split <;> omega
def grpN:Nat->Nat->List UInt8
 | 0,_=>[]
 | k+1,z=>if z<128 then [UInt8.ofNat z] else UInt8.ofNat (z % 128+128) :: grpN k (z / 128)
def grp(z:Nat):List UInt8:=grpN 10 z
theorem grpN_len:∀ (k z:Nat),(grpN k z).length<=k
 | 0,_=>Nat.le_refl _
 | k+1,z=>by
  unfold grpN
  split
  ·simp
  ·have:=grpN_len k (z / 128);simp only [List.length_cons];omega
theorem grp_len(z:Nat):(grp z).length<=10:=grpN_len 10 z
theorem toNat_of{z:Nat}(h:z<256):(UInt8.ofNat z).toNat=z:=by
 rw [UInt8.toNat_ofNat'];exact Nat.mod_eq_of_lt h
theorem grpN_step(k z:Nat)(h:128<=z):grpN (k+1) z=UInt8.ofNat (z % 128+128) :: grpN k (z / 128):=by
 show(if z<128 then _ else _)=_
 rw [if_neg (by omega)]
theorem grpN_last(k z:Nat)(h:z<128):grpN (k+1) z=[UInt8.ofNat z]:=by
 show(if z<128 then _ else _)=_
 rw [if_pos h]
def num(n:Int):List UInt8:=grp (zig n)
theorem num_len(n:Int):(num n).length<=10:=grp_len _
theorem ba_ext{s t:ByteArray}(h:s.data.toList=t.data.toList):s=t:=by
 cases s;cases t;simp only [Array.toList_inj]at h;rw [h]
def txt(l:List UInt8):ByteArray:=⟨l.toArray⟩
theorem txt_size(l:List UInt8):(txt l).size=l.length:=rfl
theorem fold_pos{n:Int}(h:I64 n)(hn:0<=n):IntKind.u64.wrap (IntKind.u64.wrap n*2)=(zig n:Int):=by
 unfold I64 at h;rw [IntKind.wrap_u64,IntKind.wrap_u64];unfold zig;rw [if_neg (by omega)];omega
def U64(z:Nat):Prop:=z<18446744073709551616
theorem byteCells_append(a b:List UInt8):Lib.byteCells (a ++ b)=Lib.byteCells a ++ Lib.byteCells b:=by simp [Lib.byteCells]
theorem news_one(w:World)(c:Value)(t:TypeId):∀ j u,[c][j]?=some u->(w.alloc (.cells #[c] t)).cell? ((⟨w.heap.size,0,none⟩:Addr).add j)=some u:=by
 intro j u hj
 match j,hj with
 | 0,hj=>simp at hj;subst hj;simp [Addr.add]
structure Wg (z:Nat) (d:List UInt8) (k y:Nat):Prop where
 one:1<=k
 lt:y<128 ^ k
 eq:grp z=d ++ grpN k y
theorem Wg.start{z:Nat}(h:U64 z):Wg z [] 10 z:=⟨by omega,by unfold U64 at h;omega,rfl⟩
theorem Wg.next{z k y:Nat}{d:List UInt8}(h:Wg z d k y)(hy:128<=y):∃ k',Wg z (d ++ [UInt8.ofNat (y % 128+128)]) k' (y / 128):=by
 obtain⟨j,rfl⟩:∃ j,k=j+1:=⟨k - 1,by have:=h.one;omega⟩
 have hl:=h.lt;refine⟨j,?_,?_,?_⟩
 ·rcases Nat.eq_zero_or_pos j with rfl | q
  ·simp at hl;omega
  ·exact q
 ·rw [Nat.pow_succ]at hl;exact Nat.div_lt_of_lt_mul (by rw [Nat.mul_comm];exact hl)
 ·rw [h.eq,grpN_step j y hy,List.append_assoc];rfl
theorem Wg.last{z k y:Nat}{d:List UInt8}(h:Wg z d k y)(hy:y<128):grp z=d ++ [UInt8.ofNat y]:=by
 obtain⟨j,rfl⟩:∃ j,k=j+1:=⟨k - 1,by have:=h.one;omega⟩
 rw [h.eq,grpN_last j y hy]
theorem or_last(y:Nat)(h:y<128):(y:Int)=((UInt8.ofNat y).toNat:Int):=by rw [toNat_of (by omega)]
theorem conv_row{w:World}{B:Nat}{v:Value}{l:List UInt8}(h:w.ownsRow B 5 1 v l.length (Lib.byteCells l)):(convert 146 9 v).run Tryz.prog w=.ok (.string (txt l)) w:=by
 rcases h.2 with⟨rfl,h0⟩ | ⟨g,cap,cur,rfl,_⟩
 ·have:l=[]:=List.eq_nil_of_length_eq_zero h0;subst this;exact run_convert_bytes_nil (P:=Tryz.prog) w 146 5 Tryz.underlying146 Tryz.underlying5 0 0 9 Tryz.underlying9
 ·exact run_convert_bytes_back (P:=Tryz.prog) w 146 9 5 ⟨g,0,none⟩ cap l Tryz.underlying146 Tryz.underlying5 Tryz.underlying9 (fun j hj=>h.cells (g:=g) rfl j _ (by simp [Lib.byteCells,hj]))
theorem neg_zig{n:Int}(h:I64 n)(hn:n<0):IntKind.u64.wrap (IntKind.u64.wrap (IntKind.u64.wrap (wrap64 (-wrap64 (n+1)))*2)+1)=(zig n:Int):=by
 unfold I64 at h;have e1:wrap64 (n+1)=n+1:=by unfold wrap64;omega
 have e2:wrap64 (-(n+1))=-(n+1):=by unfold wrap64;omega
 rw [e1,e2,IntKind.wrap_u64,IntKind.wrap_u64,IntKind.wrap_u64];unfold zig;rw [if_pos hn];omega
theorem row_push{w:World}{B:Nat}{v:Value}{l:List UInt8}(h:w.ownsRow B 5 1 v l.length (Lib.byteCells l))(hB:B<=w.heap.size)(b:UInt8)(hz:l.length<=1000000):∃ v2 w2,(Builtin.append_ #[146,146] 146 #[v,.slice (some ⟨w.heap.size,0,none⟩) 1 1]).run Tryz.prog (w.alloc (.cells #[.int .u8 b.toNat] 5))=.ok v2 w2/\w2.ownsRow B 5 1 v2 (l ++ [b]).length (Lib.byteCells (l ++ [b]))/\Below B w w2:=by
 obtain⟨i0,hi,hz0,hz1,hz2⟩:=info_parts infoByte;have hb:Below w.heap.size w (w.alloc (.cells #[.int .u8 b.toNat] 5)):=Below.alloc (Below.refl _ _) (Nat.le_refl _) _;have hrow:=own_below h hb;have hsz:(w.alloc (.cells #[.int .u8 b.toNat] 5)).heap.size=w.heap.size+1:=by simp
 obtain⟨v',w',hr,ho',hg,_,hat⟩:=run_append_own_at (P:=Tryz.prog) (w:=w.alloc (.cells #[.int .u8 b.toNat] 5)) B 146 146 5 i0 _ 1 1 Tryz.underlying146 hi hz0 hz1 hz2 rfl (by decide) v _ _ hrow ⟨w.heap.size,0,none⟩ 1 1 [.int .u8 b.toNat] rfl (news_one w _ 5) (by intro u hu;simp at hu;subst hu;rfl) (by unfold maxLen;omega) (by omega) (by omega);refine⟨v',w',hr,?_,(hb.mono hB).grown hg (by rw [hsz];omega) (fun k hk=>(hrow.lt k hk).1)⟩;rw [byteCells_append,List.length_append];simpa [Lib.byteCells]using ho'
theorem div_wrap{y z:Nat}(h:U64 z)(hy:y<=z):IntKind.u64.wrap ((y:Int) / 128)=(y:Int) / 128:=by
 unfold U64 at h;rw [IntKind.wrap_u64];omega
theorem byte_more(y:Nat):(y:Int) % 128+128=((UInt8.ofNat (y % 128+128)).toNat:Int):=by
 rw [toNat_of (by omega)];omega
theorem num_ref(n:Int)(w:World)(h:I64 n):Calls Tryz.prog 56 #[.int .i64 n] w fun e w'=>e=.returned (.string (txt (num n)))/\Below w.heap.size w w':=by
 have HW:=lh (Wg.start (zig_lt h));have HZ:Hid (U64 (zig n)):=zig_lt h;have HN:Hid (num n=grp (zig n)):=rfl;have hpos:¬ n<0->IntKind.u64.wrap (IntKind.u64.wrap n*2)=(zig n:Int):=fun q=>fold_pos h (by omega);have hneg:n<0->IntKind.u64.wrap (IntKind.u64.wrap (IntKind.u64.wrap (wrap64 (-wrap64 (n+1)))*2)+1)=(zig n:Int):=fun q=>neg_zig h q;clear h;obtain⟨z,hz⟩:∃ z,zig n=z:=⟨_,rfl⟩
 rw [hz]at HW HN HZ hpos hneg;clear hz;by_cases hn:n<0
 ·have h2:=hneg hn;clear hneg hpos;go_enter Tryz.func56,Tryz.ntmps56;go_wp2;go_loopw [3,4] (fun zv ov wr=>∃ k y d,Hid (Wg z d k y/\y<=z)/\zv=.int .u64 y/\wr.ownsRow w.heap.size 5 1 ov d.length (Lib.byteCells d)/\Below w.heap.size w wr) (fun zv _ _=>(intOf zv).toNat)
  case atStart=>exact⟨10,z,[],lh ⟨HW.out,Nat.le_refl _⟩,rfl,World.ownsRow_nil _ _ _ _,Below.refl _ _⟩
  case round =>
   obtain⟨k,y,d,HG,rfl,hrow,hb⟩:=hrel;have hdl:d.length<=10:=by
    have h1:=congrArg List.length HG.out.1.eq;have h2:=grp_len z;rw [List.length_append]at h1;omega
   by_cases hy:128<=y
   ·have e1:=byte_more y;have hdv:=div_wrap HZ.out HG.out.2;obtain⟨b,hbb⟩:∃ b,UInt8.ofNat (y % 128+128)=b:=⟨_,rfl⟩
    rw [hbb]at e1;have hbl:=b.toNat_lt;obtain⟨v2,w2,hrun,q1,q2⟩:=row_push hrow hb.size b (by omega);obtain⟨adv,cpv,rfl⟩:=own_shape hrow;obtain⟨ad2,cap2,rfl⟩:=own_shape q1;obtain⟨D2,hD2⟩:∃ D2,(d ++ [b]).length=D2:=⟨_,rfl⟩
    rw [hD2]at hrun q1;have HD:=lh hD2;have HB:=lh hbb;have H1:=lh q1;have H2:=lh q2;have HBb:=lh hb;clear hD2;clear hbb q1 q2 hb hrow hdl;go_wp2_with (at_builtin;refine wpl_run2 _ _ rfl (by simp [Act.eval]) (by simp [Act.eval]) hrun ?_)
    go_roundw
    case rel =>
     obtain⟨k',hk'⟩:=HG.out.1.next hy;rw [HB.out]at hk';refine⟨k',y / 128,_,lh ⟨hk',Nat.le_trans (Nat.div_le_self _ _) HG.out.2⟩,by go_num,?_,HBb.out.trans H2.out⟩;rw [HD.out];exact H1.out
    case measure=>simp [intOf];omega
   ·have e1:=or_last y (by omega);have hlast:=HG.out.1.last (by omega:y<128);obtain⟨b,hbb⟩:∃ b,UInt8.ofNat y=b:=⟨_,rfl⟩
    rw [hbb]at e1 hlast;obtain⟨v2,w2,hrun,q1,q2⟩:=row_push hrow hb.size b (by omega);have hcv:=conv_row q1;obtain⟨adv,cpv,rfl⟩:=own_shape hrow;obtain⟨ad2,cap2,rfl⟩:=own_shape q1;obtain⟨D2,hD2⟩:∃ D2,(d ++ [b]).length=D2:=⟨_,rfl⟩
    have H2:=lh q2;have HBb:=lh hb;have HL:=lh hlast;rw [<-e1]at hrun;rw [hD2]at hrun hcv;clear hD2;have hy1:y<128:=by omega
    have hy2:(y:Int) % 256=y:=by omega
    clear hbb q1 q2 hb hrow hdl e1 hlast;go_wp2_with (at_builtin;refine wpl_run2 _ _ rfl (by simp [Act.eval]) (by simp [Act.eval]) hrun ?_)
    go_ret;refine⟨?_,HBb.out.trans H2.out⟩;rw [HN.out,HL.out];rfl
 ·have h2:=hpos hn;clear hneg hpos;go_enter Tryz.func56,Tryz.ntmps56;go_wp2;go_loopw [3,4] (fun zv ov wr=>∃ k y d,Hid (Wg z d k y/\y<=z)/\zv=.int .u64 y/\wr.ownsRow w.heap.size 5 1 ov d.length (Lib.byteCells d)/\Below w.heap.size w wr) (fun zv _ _=>(intOf zv).toNat)
  case atStart=>exact⟨10,z,[],lh ⟨HW.out,Nat.le_refl _⟩,rfl,World.ownsRow_nil _ _ _ _,Below.refl _ _⟩
  case round =>
   obtain⟨k,y,d,HG,rfl,hrow,hb⟩:=hrel;have hdl:d.length<=10:=by
    have h1:=congrArg List.length HG.out.1.eq;have h2:=grp_len z;rw [List.length_append]at h1;omega
   by_cases hy:128<=y
   ·have e1:=byte_more y;have hdv:=div_wrap HZ.out HG.out.2;obtain⟨b,hbb⟩:∃ b,UInt8.ofNat (y % 128+128)=b:=⟨_,rfl⟩
    rw [hbb]at e1;have hbl:=b.toNat_lt;obtain⟨v2,w2,hrun,q1,q2⟩:=row_push hrow hb.size b (by omega);obtain⟨adv,cpv,rfl⟩:=own_shape hrow;obtain⟨ad2,cap2,rfl⟩:=own_shape q1;obtain⟨D2,hD2⟩:∃ D2,(d ++ [b]).length=D2:=⟨_,rfl⟩
    rw [hD2]at hrun q1;have HD:=lh hD2;have HB:=lh hbb;have H1:=lh q1;have H2:=lh q2;have HBb:=lh hb;clear hD2;clear hbb q1 q2 hb hrow hdl;go_wp2_with (at_builtin;refine wpl_run2 _ _ rfl (by simp [Act.eval]) (by simp [Act.eval]) hrun ?_)
    go_roundw
    case rel =>
     obtain⟨k',hk'⟩:=HG.out.1.next hy;rw [HB.out]at hk';refine⟨k',y / 128,_,lh ⟨hk',Nat.le_trans (Nat.div_le_self _ _) HG.out.2⟩,by go_num,?_,HBb.out.trans H2.out⟩;rw [HD.out];exact H1.out
    case measure=>simp [intOf];omega
   ·have e1:=or_last y (by omega);have hlast:=HG.out.1.last (by omega:y<128);obtain⟨b,hbb⟩:∃ b,UInt8.ofNat y=b:=⟨_,rfl⟩
    rw [hbb]at e1 hlast;obtain⟨v2,w2,hrun,q1,q2⟩:=row_push hrow hb.size b (by omega);have hcv:=conv_row q1;obtain⟨adv,cpv,rfl⟩:=own_shape hrow;obtain⟨ad2,cap2,rfl⟩:=own_shape q1;obtain⟨D2,hD2⟩:∃ D2,(d ++ [b]).length=D2:=⟨_,rfl⟩
    have H2:=lh q2;have HBb:=lh hb;have HL:=lh hlast;rw [<-e1]at hrun;rw [hD2]at hrun hcv;clear hD2;have hy1:y<128:=by omega
    have hy2:(y:Int) % 256=y:=by omega
    clear hbb q1 q2 hb hrow hdl e1 hlast;go_wp2_with (at_builtin;refine wpl_run2 _ _ rfl (by simp [Act.eval]) (by simp [Act.eval]) hrun ?_)
    go_ret;refine⟨?_,HBb.out.trans H2.out⟩;rw [HN.out,HL.out];rfl
theorem txt_append(a b:List UInt8):txt a ++ txt b=txt (a ++ b):=by
 apply ba_ext;simp [txt]
theorem sum_ok{a b:ByteArray}(ha:a.size<=4000000000)(hb:b.size<=4000000000):¬ 9223372036854775807<a.size+b.size:=by omega
theorem numsL_len(ns:List Int):(ns.flatMap num).length<=ns.length*10:=by
 induction ns with
 | nil=>simp
 | cons n r ih =>
  have:=num_len n;simp only [List.flatMap_cons,List.length_append,List.length_cons];omega
def numsL(ns:List Int):List UInt8:=ns.flatMap num
theorem numsL_take(ns:List Int)(i:Nat)(h:i<ns.length):numsL (ns.take (i+1))=numsL (ns.take i) ++ num ns[i]:=by
 unfold numsL;rw [List.take_succ_eq_append_getElem h,List.flatMap_append];simp only [List.flatMap_cons,List.flatMap_nil,List.append_nil]
def Ints(w:World)(F:Nat)(ns:List Int):Prop:=∃ cs ty,w.heap[F]?=some (.cells cs ty (0,0))/\∀ i (h:i<ns.length),cs[i]?=some (.int .i64 ns[i])
theorem Ints.on{w w':World}{F:Nat}{ns:List Int}(h:Ints w F ns)(hb:Below w.heap.size w w'):Ints w' F ns:=by
 obtain⟨cs,ty,h1,h2⟩:=h;exact⟨cs,ty,(hb.block F (blk_lt h1)).trans h1,h2⟩
theorem nums_ref{F:Nat}{ns:List Int}(w:World)(k:Nat)(hk:ns.length=k)(hk2:k<=100)(h:Ints w F ns)(hi:∀ n ∈ ns,I64 n):Calls Tryz.prog 57 #[.slice (some ⟨F,0,none⟩) k k] w fun e w'=>e=.returned (.string (txt (numsL ns)))/\Below w.heap.size w w':=by
 have HK:=lh hk;have HI:=lh hi;have HX:=lh h;clear hk hi h;go_enter Tryz.func57,Tryz.ntmps57;go_wp2;go_loopw [3,4] (fun ov iv wr=>∃ (i:Nat) (str:ByteArray),i<=k/\iv=.int .i64 i/\ov=.string str/\Hid (str=txt (numsL (ns.take i)))/\Below w.heap.size w wr) (fun _ iv _=>k - (intOf iv).toNat)
 case atStart=>exact⟨0,⟨#[]⟩,by omega,rfl,rfl,rfl,Below.refl _ _⟩
 case round =>
  obtain⟨i,str,hik,rfl,rfl,HS,hb⟩:=hrel;by_cases hlt:i<k
  ·have hltn:i<ns.length:=by rw [HK.out];exact hlt
   obtain⟨cs,ty,h1,h2⟩:=HX.out.on hb;obtain⟨n,hn⟩:∃ n,ns[i]=n:=⟨_,rfl⟩
   have hin:I64 n:=by rw [<-hn];exact HI.out _ (List.getElem_mem hltn)
   have cF:wr.cell? ⟨F,i,none⟩=some (.int .i64 n):=by rw [cell_blk h1,h2 i hltn,hn]
   have HE:Hid (numsL (ns.take (i+1))=numsL (ns.take i) ++ num n):=by
    show _=_
    rw [numsL_take ns i hltn,hn]
   have hcall:=num_ref n wr hin;have HB:=lh hb;clear h1 h2 hn hin hltn hb;obtain⟨str2,hs2⟩:∃ q,txt (num n)=q:=⟨_,rfl⟩
   rw [hs2]at hcall;have hsum:=sum_ok (a:=str) (b:=str2) (by
    have:=numsL_len (ns.take i);rw [HS.out,txt_size];unfold numsL;rw [List.length_take]at this;omega) (by
    have:=num_len n;rw [<-hs2,txt_size];omega)
   go_wp2_with (go_at_call 56;refine hcall.mono ?_;rintro e w1 ⟨rfl,hb1⟩;refine Hid.out ?_)
   refine lh ?_;have HB1:Hid (Below w.heap.size w w1):=HB.out.trans (hb1.mono HB.out.size);clear hb1 hcall;go_wp2;go_roundw
   case rel =>
    refine⟨i+1,_,by omega,by go_num,rfl,?_,HB1.out⟩;show _=_
    rw [HE.out,HS.out,<-hs2,txt_append]
   case measure=>simp [intOf];omega
  ·have hiF:i=k:=by omega
   subst hiF;go_wp2;go_ret;refine⟨?_,hb⟩;rw [HS.out,<-HK.out,List.take_length];rfl
end Go.Proofs.YtkhehikaemdnnaaGreat
namespace Go.Proofs.YtkhehikaemdnnaaGreat
set_option maxRecDepth 100000
set_option maxHeartbeats 4000000
open Go.RowKit
section
variable{ρ:Operand->Value}{X:World}{d:Option Tmp}{ty:TypeId}{ps:String}{af:Array Edge}{g:Option (Nat × Bool)}
theorem op_f30_1{x:Operand}{B o:Nat}(e:ρ x=.pointer (some ⟨B,o,none⟩)):(execOp ρ ⟨d,.fieldAddr 30 x 1,ty,ps,af,g⟩).run Tryz.prog X=.ok (.value (.pointer (some ⟨B,o+1,none⟩))) X:=by
 simp only [execOp,e]
 go_simp
theorem op_len28{x:Operand}{a:Option Addr}{n m:Nat}(e:ρ x=.slice a n m):(execOp ρ ⟨d,.call { callee:=.builtin .len,args:=#[x],argTypes:=#[28] },ty,ps,af,g⟩).run Tryz.prog X=.ok (.value (.int .i64 (n:Int))) X:=by
 simp only [execOp,resolve,invoke,builtin,Sem.run_bind,Sem.run_pure,Result.andThen_ok,List.map_toArray,List.map_cons,List.map_nil,e]
 go_simp
theorem op_eql3{x y:Operand}{n m:Int}{b:Bool}(e:ρ x=.int .i64 n)(e2:ρ y=.int .i64 m)(h:decide (n=m)=b):(execOp ρ ⟨d,.binOp .eql 3 x y 3,ty,ps,af,g⟩).run Tryz.prog X=.ok (.value (.bool b)) X:=by
 subst h;simp only [execOp,e,e2]
 go_simp
 by_cases q:n=m <;> simp [q]
theorem op_eql9{x y:Operand}{n m:ByteArray}{b:Bool}(e:ρ x=.string n)(e2:ρ y=.string m)(h:decide (n=m)=b):(execOp ρ ⟨d,.binOp .eql 9 x y 9,ty,ps,af,g⟩).run Tryz.prog X=.ok (.value (.bool b)) X:=by
 subst h;simp only [execOp,e,e2];rw [<-same_eq]
 go_simp
theorem op_call0{f:FuncId}{at':Array TypeId}(hf:∀ f,ρ (.func f)=.func (.func f) #[] #[])(hc:Sem.run Tryz.prog (callFunc f #[]) X=.ok (.enter f #[]) X):(execOp ρ ⟨d,.call { callee:=.value (.func f),args:=#[],argTypes:=at' },ty,ps,af,g⟩).run Tryz.prog X=.ok (.enter f #[]) X:=by
 simp only [execOp];simp [resolve,hf,Deferred.ofValue,invoke,hc]
theorem op_len31{x:Operand}{a:Option Addr}{n m:Nat}(e:ρ x=.slice a n m):(execOp ρ ⟨d,.call { callee:=.builtin .len,args:=#[x],argTypes:=#[31] },ty,ps,af,g⟩).run Tryz.prog X=.ok (.value (.int .i64 (n:Int))) X:=by
 simp only [execOp,resolve,invoke,builtin,Sem.run_bind,Sem.run_pure,Result.andThen_ok,List.map_toArray,List.map_cons,List.map_nil,e]
 go_simp
end
section
variable {ρ : Operand -> Value} {X : World} {d : Option Tmp} {ty : TypeId} {ps : String} {af : Array Edge} {g : Option (Nat × Bool)}
theorem op_f34_0{x:Operand}{B o:Nat}(e:ρ x=.pointer (some ⟨B,o,none⟩)):(execOp ρ ⟨d,.fieldAddr 34 x 0,ty,ps,af,g⟩).run Tryz.prog X=.ok (.value (.pointer (some ⟨B,o,none⟩))) X:=by
 simp only [execOp,e]
 go_simp
theorem op_f34_1{x:Operand}{B o:Nat}(e:ρ x=.pointer (some ⟨B,o,none⟩)):(execOp ρ ⟨d,.fieldAddr 34 x 1,ty,ps,af,g⟩).run Tryz.prog X=.ok (.value (.pointer (some ⟨B,o+3,none⟩))) X:=by
 simp only [execOp,e]
 go_simp
theorem op_cat0{x y:Operand}{a b:ByteArray}(e:ρ x=.string a)(e2:ρ y=.string b)(h:¬ 9223372036854775807<a.size+b.size):(execOp ρ ⟨d,.binOp .add 9 x y 9,ty,ps,af,g⟩).run Tryz.prog X=.ok (.value (.string (a ++ b))) X:=by
 simp only [execOp,e,e2]
 go_simp
theorem op_ints20{x y:Operand}{a b:Int}(e:ρ x=.int .i64 a)(e2:ρ y=.int .i64 b):(execOp ρ ⟨d,.buildSlice 85 2 #[(0,x),(1,y)],ty,ps,af,g⟩).run Tryz.prog X=.ok (.value (.slice (some ⟨X.heap.size,0,none⟩) 2 2)) (X.alloc (.cells #[.int .i64 a,.int .i64 b] 3)):=by
 simp only [execOp];simp [e,e2]
 go_simp
end
def sc0:List UInt8:=numsL [0,0] ++ num 0
def planN:ByteArray:=txt sc0 ++ txt (num 0) ++ txt (num 0)
theorem sc0_ref(w:World):Calls Tryz.prog 55 #[.agg #[.int .i64 0,.int .i64 0,.slice none 0 0]] w fun e w'=>e=.returned (.string (txt sc0))/\Below w.heap.size w w':=by
 obtain⟨V,hV⟩:∃ V,V=w.alloc (.cells #[.int .i64 0,.int .i64 0,.slice none 0 0] 30):=⟨_,rfl⟩
 have hb:Below w.heap.size w V:=by rw [hV];exact bnew _ _
 obtain⟨Y,hY⟩:∃ Y,w.heap.size=Y:=⟨_,rfl⟩
 have jY:V.heap[Y]?=some (.cells #[.int .i64 0,.int .i64 0,.slice none 0 0] 30 (0,0)):=by rw [hV,<-hY];exact heap_alloc_new w _
 have c0:V.cell? ⟨Y,0,none⟩=some (.int .i64 0):=cell_blk jY 0;have c1:V.cell? ⟨Y,1,none⟩=some (.int .i64 0):=cell_blk jY 1;have c2:V.cell? ⟨Y,2,none⟩=some (.slice none 0 0):=cell_blk jY 2;have HT5:=lh (fun X F (hF:Ints X F [0,0])=>nums_ref X 2 rfl (by omega) hF (fun z hz=>by
  simp at hz;subst hz;unfold I64;omega))
 have HT9:=lh (fun X=>num_ref 0 X (by unfold I64;omega));have hsz:(txt (numsL [0,0])).size<=1000:=by decide
 have hnz:(txt (num 0)).size<=1000:=by decide
 have s10:=sum_ok (a:=txt (numsL [0,0])) (b:=txt (num 0)) (by omega) (by omega);have hend:txt (numsL [0,0]) ++ txt (num 0)=txt sc0:=by unfold sc0;simp only [txt_append]
 have HEND:=lh hend;have HV:=lh hV;have HY:=lh hY;have HB:=lh hb;have HC2:=lh c2;clear hV hY hb jY hend hsz hnz;go_enter Tryz.func55,Tryz.ntmps55;go_upto_region 1 with fail
 rw [<-HV.out,HY.out];refine wp_region_fin (fun X9=>Below V.heap.size V X9) (fun X9 X'=>Below X9.heap.size X9 X') [
  fun v9 _=>v9=.pointer (some ⟨Y,0,none⟩),fun v9 _=>v9=.int .i64 0,fun v9 _=>v9=.pointer (some ⟨Y,1,none⟩),fun v9 _=>v9=.int .i64 0,fun v9 X9=>∃ F,v9=.slice (some ⟨F,0,none⟩) 2 2/\Ints X9 F [0,0],fun v9 _=>v9=.string (txt (numsL [0,0])),fun v9 _=>v9=.pointer (some ⟨Y,2,none⟩),fun v9 _=>v9=.slice none 0 0,fun v9 _=>v9=.int .i64 0,fun v9 _=>v9=.string (txt (num 0)),fun v9 _=>v9=.string (txt (numsL [0,0]) ++ txt (num 0))]
  (fun v9 X9=>v9=.string (txt (numsL [0,0]) ++ txt (num 0))/\Below V.heap.size V X9) rfl (by kernel_rfl) (by kernel_rfl) (by kernel_rfl) (by kernel_rfl) ?st ?g0 ?os ?la ?en
 case st=>
  iterate 4 refine⟨fun _ _ _ _ h=>h,?_⟩
  refine⟨(fun _ _ _ hb h=>by obtain⟨F,e9,h9⟩:=h;exact⟨F,e9,h9.on hb⟩),?_⟩
  iterate 6 refine⟨fun _ _ _ _ h=>h,?_⟩
  exact trivial
 case g0=>exact⟨rfl,rfl,rfl,Nat.le_refl _,fun _ _=>rfl⟩
 case os =>
  refine⟨?_,?_,?_,?_,?_,?_,?_,?_,?_,?_,?_,trivial⟩
  ·exact⟨rfl,fun ρ _ hg ho _ _ _=>Runs.val _ (op_f30_0 (show ρ (.tmp 1)=.pointer (some ⟨Y,0,none⟩)from ho 1 rfl)) ⟨hg,Below.refl _ _,rfl⟩⟩
  ·exact⟨rfl,fun ρ _ hg _ _ _ hr=>Runs.val _ (op_load3 (show ρ (.tmp 10)=.pointer (some ⟨Y,0,none⟩)from hr 0 10 rfl rfl) (cell_on hg c0)) ⟨hg,Below.refl _ _,rfl⟩⟩
  ·exact⟨rfl,fun ρ _ hg ho _ _ _=>Runs.val _ (op_f30_1 (show ρ (.tmp 1)=.pointer (some ⟨Y,0,none⟩)from ho 1 rfl)) ⟨hg,Below.refl _ _,rfl⟩⟩
  ·exact⟨rfl,fun ρ _ hg _ _ _ hr=>Runs.val _ (op_load3 (show ρ (.tmp 12)=.pointer (some ⟨Y,1,none⟩)from hr 2 12 rfl rfl) (cell_on hg c1)) ⟨hg,Below.refl _ _,rfl⟩⟩
  ·refine⟨rfl,fun ρ X9 hg ho hc hf hr=>?_⟩;have b7:Below X9.heap.size X9 (X9.alloc (.cells #[.int .i64 0,.int .i64 0] 3)):=(Below.refl _ X9).alloc (Nat.le_refl _) _;refine Runs.val _ (op_ints20 (show ρ (.tmp 11)=.int .i64 0 from hr 1 11 rfl rfl) (show ρ (.tmp 13)=.int .i64 0 from hr 3 13 rfl rfl)) ⟨hg.trans (b7.mono hg.size),b7,_,rfl,_,_,heap_alloc_new X9 _,fun i hi=>?_⟩
   match i,hi with
   | 0,_=>rfl
   | 1,_=>rfl
  ·refine⟨rfl,fun ρ X9 hg ho hc hf hr=>?_⟩;obtain⟨F,e9,h9⟩:∃ F,ρ (.tmp 14)=.slice (some ⟨F,0,none⟩) 2 2/\Ints X9 F [0,0]:=hr 4 14 rfl rfl;refine Runs.goes 57 #[.slice (some ⟨F,0,none⟩) 2 2] (op_call1 hf (by go_simp) e9) ((HT5.out X9 F h9).mono ?_);rintro e7 w7 ⟨rfl,b7⟩;exact⟨_,rfl,hg.trans (b7.mono hg.size),b7,rfl⟩
  ·exact⟨rfl,fun ρ _ hg ho _ _ _=>Runs.val _ (op_f30_2 (show ρ (.tmp 1)=.pointer (some ⟨Y,0,none⟩)from ho 1 rfl)) ⟨hg,Below.refl _ _,rfl⟩⟩
  ·exact⟨rfl,fun ρ _ hg _ _ _ hr=>Runs.val _ (op_load28 (show ρ (.tmp 16)=.pointer (some ⟨Y,2,none⟩)from hr 6 16 rfl rfl) (cell_on hg c2)) ⟨hg,Below.refl _ _,rfl⟩⟩
  ·exact⟨rfl,fun ρ _ hg _ _ _ hr=>Runs.val _ (op_len28 (show ρ (.tmp 17)=.slice none 0 0 from hr 7 17 rfl rfl)) ⟨hg,Below.refl _ _,rfl⟩⟩
  ·refine⟨rfl,fun ρ X9 hg ho hc hf hr=>?_⟩;refine Runs.goes 56 #[.int .i64 0] (op_call1 hf (by go_simp) (show ρ (.tmp 18)=.int .i64 0 from hr 8 18 rfl rfl)) ((HT9.out X9).mono ?_);rintro e7 w7 ⟨rfl,b7⟩;exact⟨_,rfl,hg.trans (b7.mono hg.size),b7,rfl⟩
  ·exact⟨rfl,fun ρ _ hg _ _ _ hr=>Runs.val _ (op_cat0 (show ρ (.tmp 15)=.string (txt (numsL [0,0]))from hr 5 15 rfl rfl) (show ρ (.tmp 19)=.string (txt (num 0))from hr 9 19 rfl rfl) s10) ⟨hg,Below.refl _ _,rfl⟩⟩
 case la =>
  refine⟨rfl,fun ρ X9 hg ho hc hf hr=>?_⟩;exact Runs.val _ (op_assign (show ρ (.tmp 20)=.string (txt (numsL [0,0]) ++ txt (num 0))from hr 10 20 (by decide) rfl)) ⟨rfl,hg⟩
 case en =>
  intro a9 X9 Xb v9 hF hs9 hd9 ho9 hv9 hr9;obtain⟨x9,hx,hxt⟩:=act_put hs9 hd9 ho9;have e3:x9 3=.string (txt (numsL [0,0]) ++ txt (num 0)):=(hxt 3).symm.trans ((hv9 3 rfl).trans hF.1);change a9=putAll _ x9 [10,11,12,13,14,15,16,17,18,19,20,3]at hx;simp only [putAll,Act.put,List.setIfInBounds_toArray,List.set_cons_zero,List.set_cons_succ,e3]at hx;have HG:=lh hF.2;clear hF hs9 hd9 ho9 hv9 hr9 hxt e3;subst hx;generalize x9 10=z10,x9 11=z11,x9 12=z12,x9 13=z13,x9 14=z14,x9 15=z15,x9 16=z16,x9 17=z17,x9 18=z18,x9 19=z19,x9 20=z20;rw [HEND.out];have k2:X9.cell? ⟨Y,2,none⟩=some (.slice none 0 0):=cell_on HG.out HC2.out;have HB1:=lh (bgo HB.out HG.out);clear HEND HT5 HT9 s10 c0 c1 c2;go_wp2;go_loopw [3,4] (fun ov iv wr=>ov=.string (txt sc0)/\iv=.int .i64 0/\wr=X9) (fun _ _ _=>0)
  case atStart=>exact⟨rfl,rfl,rfl⟩
  case round =>
   obtain⟨rfl,rfl,rfl⟩:=hrel;go_wp2;go_ret;exact⟨rfl,HB1.out⟩
section
variable {w : World}
theorem plan_nil:Calls Tryz.prog 25 #[.agg #[.int .i64 0,.int .i64 0,.slice none 0 0,.slice none 0 0,.slice none 0 0]] w fun e w'=>e=.returned (.string planN)/\Below w.heap.size w w':=by
 obtain⟨V,hV⟩:∃ V,V=w.alloc (.cells #[.int .i64 0,.int .i64 0,.slice none 0 0,.slice none 0 0,.slice none 0 0] 34):=⟨_,rfl⟩
 obtain⟨Y,hY⟩:∃ Y,w.heap.size=Y:=⟨_,rfl⟩
 have hb:Below w.heap.size w V:=by rw [hV];exact bnew _ _
 have jY:V.heap[Y]?=some (.cells #[.int .i64 0,.int .i64 0,.slice none 0 0,.slice none 0 0,.slice none 0 0] 34 (0,0)):=by rw [hV,<-hY];exact heap_alloc_new w _
 have HJ:=lh jY;have c3:V.cell? ⟨Y,3,none⟩=some (.slice none 0 0):=cell_blk jY 3;have HT0:=lh (fun X=>num_ref 0 X (by unfold I64;omega));have hsz:(txt sc0).size<=1000:=by decide
 have hnz:(txt (num 0)).size<=1000:=by decide
 obtain⟨r1,hr1⟩:∃ r1,txt sc0=r1:=⟨_,rfl⟩
 obtain⟨r2,hr2⟩:∃ r2,txt (num 0)=r2:=⟨_,rfl⟩
 have HS:=lh (fun X=>sc0_ref X);unfold planN;rw [hr1]at hsz HS ⊢;rw [hr2]at hnz HT0 ⊢;have s1:=sum_ok (a:=r1) (b:=r2) (by omega) (by omega);have s2:=sum_ok (a:=r1 ++ r2) (b:=r2) (by rw [ByteArray.size_append];omega) (by omega);have HV:=lh hV;have HY:=lh hY;have HB:=lh hb;have HC3:=lh c3;clear hV hY hb jY hr1 hr2 hsz hnz c3;go_enter Tryz.func25,Tryz.ntmps25;go_upto_region 1 with fail
 rw [<-HV.out,HY.out];refine wp_region_fin (fun X9=>Below V.heap.size V X9) (fun X9 X'=>Below X9.heap.size X9 X') [
  fun v9 _=>v9=.pointer (some ⟨Y,0,none⟩),fun v9 _=>v9=.agg #[.int .i64 0,.int .i64 0,.slice none 0 0],fun v9 _=>v9=.string r1,fun v9 _=>v9=.pointer (some ⟨Y,3,none⟩),fun v9 _=>v9=.slice none 0 0,fun v9 _=>v9=.int .i64 0,fun v9 _=>v9=.string r2,fun v9 _=>v9=.string (r1 ++ r2)]
  (fun v9 X9=>v9=.string (r1 ++ r2)/\Below V.heap.size V X9) rfl (by kernel_rfl) (by kernel_rfl) (by kernel_rfl) (by kernel_rfl) ?st ?g0 ?os ?la ?en
 case st=>
  iterate 8 refine⟨fun _ _ _ _ h=>h,?_⟩
  exact trivial
 case g0=>exact⟨rfl,rfl,rfl,Nat.le_refl _,fun _ _=>rfl⟩
 case os =>
  refine⟨?_,?_,?_,?_,?_,?_,?_,?_,trivial⟩
  ·exact⟨rfl,fun ρ _ hg ho _ _ _=>Runs.val _ (op_f34_0 (show ρ (.tmp 1)=.pointer (some ⟨Y,0,none⟩)from ho 1 rfl)) ⟨hg,Below.refl _ _,rfl⟩⟩
  ·exact⟨rfl,fun ρ X9 hg _ _ _ hr=>Runs.val _ (op_loadAt (show ρ (.tmp 7)=.pointer (some ⟨Y,0,none⟩)from hr 0 7 rfl rfl) (run_loadAt_mid X9 Y 0 30 [.int .i64 0,.int .i64 0,.slice none 0 0] _ (range_on hg (range_part (range_blk HJ.out) 0 3)) Tryz.underlying30 rfl size30)) ⟨hg,Below.refl _ _,rfl⟩⟩
  ·refine⟨rfl,fun ρ X9 hg ho hc hf hr=>?_⟩;refine Runs.goes 55 #[.agg #[.int .i64 0,.int .i64 0,.slice none 0 0]] (op_call1 hf (by go_simp) (show ρ (.tmp 8)=.agg #[.int .i64 0,.int .i64 0,.slice none 0 0]from hr 1 8 rfl rfl)) ((HS.out X9).mono ?_);rintro e7 w7 ⟨rfl,b7⟩;exact⟨_,rfl,hg.trans (b7.mono hg.size),b7,rfl⟩
  ·exact⟨rfl,fun ρ _ hg ho _ _ _=>Runs.val _ (op_f34_1 (show ρ (.tmp 1)=.pointer (some ⟨Y,0,none⟩)from ho 1 rfl)) ⟨hg,Below.refl _ _,rfl⟩⟩
  ·exact⟨rfl,fun ρ _ hg _ _ _ hr=>Runs.val _ (op_load31 (show ρ (.tmp 10)=.pointer (some ⟨Y,3,none⟩)from hr 3 10 rfl rfl) (cell_on hg HC3.out)) ⟨hg,Below.refl _ _,rfl⟩⟩
  ·exact⟨rfl,fun ρ _ hg _ _ _ hr=>Runs.val _ (op_len31 (show ρ (.tmp 11)=.slice none 0 0 from hr 4 11 rfl rfl)) ⟨hg,Below.refl _ _,rfl⟩⟩
  ·refine⟨rfl,fun ρ X9 hg ho hc hf hr=>?_⟩;refine Runs.goes 56 #[.int .i64 0] (op_call1 hf (by go_simp) (show ρ (.tmp 12)=.int .i64 0 from hr 5 12 rfl rfl)) ((HT0.out X9).mono ?_);rintro e7 w7 ⟨rfl,b7⟩;exact⟨_,rfl,hg.trans (b7.mono hg.size),b7,rfl⟩
  ·exact⟨rfl,fun ρ _ hg _ _ _ hr=>Runs.val _ (op_cat0 (show ρ (.tmp 9)=.string r1 from hr 2 9 rfl rfl) (show ρ (.tmp 13)=.string r2 from hr 6 13 rfl rfl) s1) ⟨hg,Below.refl _ _,rfl⟩⟩
 case la =>
  refine⟨rfl,fun ρ X9 hg ho hc hf hr=>?_⟩;exact Runs.val _ (op_assign (show ρ (.tmp 14)=.string (r1 ++ r2)from hr 7 14 (by decide) rfl)) ⟨rfl,hg⟩
 case en =>
  intro a9 X9 Xb v9 hF hs9 hd9 ho9 hv9 hr9;obtain⟨x9,hx,hxt⟩:=act_put hs9 hd9 ho9;have e3:x9 3=.string (r1 ++ r2):=(hxt 3).symm.trans ((hv9 3 rfl).trans hF.1);change a9=putAll _ x9 [7,8,9,10,11,12,13,14,3]at hx;simp only [putAll,Act.put,List.setIfInBounds_toArray,List.set_cons_zero,List.set_cons_succ,e3]at hx;have HG:=lh hF.2;clear hF hs9 hd9 ho9 hv9 hr9 hxt e3;subst hx;generalize x9 7=z7,x9 8=z8,x9 9=z9,x9 10=z10,x9 11=z11,x9 12=z12,x9 13=z13,x9 14=z14;have k3:X9.cell? ⟨Y,3,none⟩=some (.slice none 0 0):=cell_on HG.out HC3.out;have k4:X9.cell? ⟨Y,4,none⟩=some (.slice none 0 0):=cell_on HG.out (cell_blk HJ.out 4);obtain⟨rr,hrr⟩:∃ rr,r1 ++ r2=rr:=⟨_,rfl⟩
  rw [hrr]at s2 ⊢;have HRR:=lh hrr;clear hrr s1;go_wp2;go_loopw [3,4] (fun ov iv wr=>ov=.string rr/\iv=.int .i64 0/\wr=X9) (fun _ _ _=>0)
  case atStart=>exact⟨rfl,rfl,rfl⟩
  case round =>
   obtain⟨rfl,rfl,rfl⟩:=hrel;have hn:=HT0.out wr;go_wp2_with (go_at_call 56;refine hn.mono ?_;rintro e w1 ⟨rfl,b1⟩;have B1:=lh b1;have k41:=cell_on b1 k4;clear b1 hn)
   go_loopw [3,5] (fun ov iv wr=>ov=.string (rr ++ r2)/\iv=.int .i64 0/\wr=w1) (fun _ _ _=>0)
   case atStart=>exact⟨rfl,rfl,rfl⟩
   case round =>
    obtain⟨rfl,rfl,rfl⟩:=hrel;go_wp2;go_ret;exact⟨by have:=HRR.out;subst this;rfl,bgo HB.out (bgo HG.out B1.out)⟩
end
end Go.Proofs.YtkhehikaemdnnaaGreat
namespace Go.Proofs.YtkhehikaemdnnaaGreat
set_option maxRecDepth 100000
set_option maxHeartbeats 8000000
open Go.RowKit
section
variable {w : World}
theorem own_big{c:Cm}{r:Rest}{cv:Value}(hl:Lr colE 7 w c.ddl.cols cv)(hz:c.ddl.cols.length*72<=140737488355328)(h1:∃ a n m,r.rv=.slice a n m)(h2:∃ a n m,r.wv=.slice a n m):Calls Tryz.prog 12 #[.agg (cmA c r cv)] w (OwnAns w c r):=by
 obtain⟨ca,cc,rfl,hl0⟩:=hl;have hl:Lr colE 7 w c.ddl.cols (.slice ca c.ddl.cols.length cc):=⟨ca,cc,rfl,hl0⟩
 obtain⟨W,hW⟩:∃ W,W=(w.alloc (.cells (cmA c r (.slice ca c.ddl.cols.length cc)) 48)).alloc (.cells zCm 48):=⟨_,rfl⟩
 have hb:=bw2 hW;obtain⟨Y1,hY1⟩:∃ Q,w.heap.size=Q:=⟨_,rfl⟩
 obtain⟨Y2,hY2⟩:∃ Q,Y1+1=Q:=⟨_,rfl⟩
 have j1:W.heap[Y1]?=some (.cells (cmA c r (.slice ca c.ddl.cols.length cc)) 48 (0,0)):=nw21 hW hY1;have j2:W.heap[Y2]?=some (.cells zCm 48 (0,0)):=nw22 hW hY1 hY2;have hg:w.heap.size<=W.heap.size:=hb.size;have bE:=bnew W (.cells #[] 56);have hlE:=(hl.on colE_held hb).on colE_held bE;have hs:=Lr.src colL_len (L:=c.ddl.cols) hlE;obtain⟨ad',cap',V2,h3,h4,h5,h6⟩:=run_col (w:=W.alloc (.cells #[] 56)) (v:=.slice (some ⟨W.heap.size,0,none⟩) 0 0) (base:=W.heap.size) (n:=0) (xs:=[]) (m:=c.ddl.cols.length) (c:=cc) (news:=c.ddl.cols.flatMap colL) (emptyRow W _ 56 7 (Nat.le_refl _)) bE.size hs (oneC _) (by omega);rw [Nat.zero_add]at h3 h4 h6;rw [List.nil_append]at h4;have hsome:∃ g,ad'=some ⟨g,0,none⟩/\W.heap.size<=g/\g<V2.heap.size:=by
  rcases h4.2 with⟨q,q0⟩ | ⟨g,cap,cur,q,q1,q2,_⟩
  ·rcases h6 with e | e
   ·rw [q]at e;cases e
   ·rw [q]at e;cases e
  ·cases q;exact⟨g,rfl,q1,blk_lt q2⟩
 obtain⟨g,rfl,hgl,hgv⟩:=hsome;have f2:Fr W V2 (fun k=>k=W.heap.size):=Fr.grown (Fr.ofBelow _ bE) h5 (fun k hk=>.inl (Option.some.inj hk).symm);have b2:Below W.heap.size W V2:=f2.low (Nat.le_refl _);have j12:=(b2.block Y1 (blk_lt j1)).trans j1;have j22:=(b2.block Y2 (blk_lt j2)).trans j2;have z25:V2.frozen? ⟨Y1,25,none⟩=false:=frozen_blk j12 _;have c25:V2.cell? ⟨Y1,25,none⟩=some (.slice ca c.ddl.cols.length cc):=cell_blk j12 25;have hst3:(Instr.storeAt 43 (.pointer (some ⟨Y1,25,none⟩)) (.slice (some ⟨g,0,none⟩) c.ddl.cols.length cap')).run Tryz.prog V2=.ok () (V2.setCell ⟨Y1,25,none⟩ (.slice (some ⟨g,0,none⟩) c.ddl.cols.length cap')):=by
  clear hl hl0 hW hb hY1 hY2 j1 j2 bE hlE hs h3 h4 h5 h6 f2 b2 j12 j22
  go_simp
 obtain⟨V3,hV3⟩:∃ V3,V3=V2.setCell ⟨Y1,25,none⟩ (.slice (some ⟨g,0,none⟩) c.ddl.cols.length cap'):=⟨_,rfl⟩
 have j13:V3.heap[Y1]?=some (.cells (cmA c r (.slice (some ⟨g,0,none⟩) c.ddl.cols.length cap')) 48 (0,0)):=by rw [hV3];exact set_blk (i:=25) j12 _
 have f3:Fr V2 V3 (fun k=>k=Y1):=by rw [hV3];exact(Fr.refl V2 (fun k=>k=Y1)).set (a:=⟨Y1,25,none⟩) (.inl rfl) _
 rw [<-hV3]at hst3;have hne:Y2≠Y1:=by omega
 have j23:=(f3.block Y2 (blk_lt j22) hne).trans j22;have hld:=load_row j13 Tryz.underlying48 rfl size48;obtain⟨V4,hst4,j24,f4⟩:=st_row j23 (us:=cmA c r (.slice (some ⟨g,0,none⟩) c.ddl.cols.length cap')) rfl size48 (by obtain⟨_,_,_,e1⟩:=h1;obtain⟨_,_,_,e2⟩:=h2;simp [Value.oneCell',e1,e2]);have hY1W:=blk_lt j1;have hY2W:=blk_lt j2;have h44:V4.ownsRow W.heap.size 56 7 (.slice (some ⟨g,0,none⟩) c.ddl.cols.length cap') c.ddl.cols.length (c.ddl.cols.flatMap colL):=own_offB (own_offB h4 f3 (fun k q=>by have q':k=Y1:=q;omega)) f4 (fun k q=>by have q':k=Y2:=q;omega);have hbF:Below w.heap.size w V4:=(((bgo hb b2)).trans (f3.toBelow (fun k hk q=>by have q':k=Y1:=q;omega) (bgo hb b2).size)).trans (f4.toBelow (fun k hk q=>by have q':k=Y2:=q;omega) (Nat.le_trans (bgo hb b2).size f3.size));have c250:W.cell? ⟨Y1,25,none⟩=some (.slice ca c.ddl.cols.length cc):=cell_blk j1 25;have c25e:(W.alloc (.cells #[] 56)).cell? ⟨Y1,25,none⟩=some (.slice ca c.ddl.cols.length cc):=cell_on bE c250;obtain⟨cs,hcs⟩:∃ cs,cmA c r (.slice ca c.ddl.cols.length cc)=cs:=⟨_,rfl⟩
 have hsz2:V2.heap.size<=V4.heap.size:=Nat.le_trans f3.size f4.size;have HW:=lh hW;have HY1:=lh hY1;have HY2:=lh hY2;have HS3:=lh hst3;have HS4:=lh hst4;have HLD:=lh hld;have H3:=lh h3;have HE:=lh (And.intro (Nat.le_trans hg hgl) (And.intro (Nat.lt_of_lt_of_le hgv hsz2) (And.intro (Lr.own colL_len h44) (And.intro hbF j24))));rw [hcs]at HW ⊢;clear hl hl0 hW hb hY1 hY2 j1 j2 hg bE hlE hs h4 h5 h6 hgl hgv f2 b2 j12 j22 z25 c25 hst3 hV3 j13 f3 hne j23 hld hst4 j24 f4 hY1W hY2W h44 hbF c250 hcs hsz2 h3 h1 h2 hz;go_enter Tryz.func12,Tryz.ntmps12;go_upto_region 1 with fail
 rw [<-HW.out,HY1.out,HY2.out];go_wp2_with (first|(at_builtin;refine wpl_run2 _ _ rfl (by first | rfl|(simp [Act.eval];done)) (by first | rfl|(simp [Act.eval];done)) H3.out ?_)|(refine wpl_store _ _ rfl (by first | rfl|(simp [Act.eval];done)) (by first | rfl|(simp [Act.eval];done)) HS3.out ?_)|(refine wpl_load _ rfl (by first | rfl|(simp [Act.eval];done)) HLD.out ?_)|(refine wpl_store _ _ rfl (by first | rfl|(simp [Act.eval];done)) (by first | rfl|(simp [Act.eval];done)) HS4.out ?_))
 refine bodyPost_ret (results_one rfl rfl (load_var HE.out.2.2.2.2 Tryz.underlying48 rfl size48)) rfl ?_;exact⟨g,_,rfl,HE.out.1,HE.out.2.1,HE.out.2.2.1,HE.out.2.2.2.1⟩
end
end Go.Proofs.YtkhehikaemdnnaaGreat
