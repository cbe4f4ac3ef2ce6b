import Derived.Test.YtkhehikaemdnnaaGreatQBb
import Derived.Test.YtkhehikaemdnnaaGreatQPp
namespace Go.Proofs.YtkhehikaemdnnaaGreat
set_option maxRecDepth 100000
set_option maxHeartbeats 1000000
open Go.RowKit
def Pt{α:Type}(E:World->α->List Value->Prop)(X:World)(B o:Nat)(x:α):Prop:=∃ cs,E X x cs/\∀ j u,cs[j]?=some u->X.cell? ⟨B,o+j,none⟩=some u
abbrev Goes(f:FuncId):Prop:=∀ (X:World) (a:Array Value),Sem.run Tryz.prog (callFunc f a) X=.ok (.enter f a) X
def Asks{α:Type}(E:World->α->List Value->Prop)(w:World)(L:List α)(f:FuncId)(cs:Array Value)(p:α->Bool):Prop:=∀ X,Below w.heap.size w X->∀ B o,∀ x ∈ L,B<X.heap.size->Pt E X B o x->Calls Tryz.prog f (#[.pointer (some ⟨B,o,none⟩)] ++ cs) X fun e w'=>e=.returned (.bool (p x))/\Below X.heap.size X w'
section
variable {w : World}
theorem findT_any{L:List Tb}{v:Value}{f:FuncId}{cs:Array Value}{p:Tb->Bool}(hL:Lr tbE 5 w L v)(hcf:Goes f)(hf:Asks tbE w L f cs p):
  Calls Tryz.prog 107 #[v,.func (.func f) #[] cs] w fun e w'=>e=.returned (.int .i64 (fidx p L))/\Below w.heap.size w w':=by
 obtain⟨ad,cap,rfl,_,z1,z2,hX⟩:=hL;have hmx:(L.length:Int)<=9223372036854775807:=by unfold maxLen at z2;omega
 have HX:=lh hX;have HF:=lh hf;clear hX z1 z2 hf;go_enter Tryz.func107,Tryz.ntmps107;go_wp2;go_loopw [8] (fun iv wr=>∃ i:Nat,i<=L.length/\iv=.int .i64 (i:Int)/\(∀ j (hj:j<L.length),j<i->p L[j]=false)/\Below w.heap.size w wr) (fun iv _=>L.length - (intOf iv).toNat)
 case atStart=>exact⟨0,Nat.zero_le _,rfl,fun j _ hj=>by omega,Below.refl _ _⟩
 case round =>
  obtain⟨i,hi,rfl,hno,hb⟩:=hrel;obtain⟨V,rfl⟩:∃ V,V=wr:=⟨_,rfl⟩
  have HN:=lh hno;have HB:=lh hb;by_cases hlt:i<L.length
  ·obtain⟨b,o,cs',rfl,hbl,hE,_,hcell⟩:=HX.out i hlt;have hc:=HF.out V hb b (o+i*5) L[i] (List.getElem_mem hlt) (Nat.lt_of_lt_of_le hbl hb.size) ⟨cs',tbE_held _ _ _ _ hb hE,fun j u hu=>cell_on hb (by have:=hcell j u hu;exact this)⟩;have k0:(0:Int)<=i:=by omega
   have k1:(i:Int)<L.length:=by omega
   have HAT:=lh (fun hp=>fidx_at hlt hp hno);clear hb hno hcell;cases hp:p L[i]with
   | true =>
    rw [hp]at hc;have HP:=lh hp;clear hp;go_wp2_with fail
    refine hc.mono ?_;rintro e w1 ⟨rfl,b1⟩;have HB1:=lh b1;clear b1 hc;go_wp2;go_ret;exact⟨by rw [HAT.out HP.out];rfl,bgo HB.out HB1.out⟩
   | false =>
    rw [hp]at hc;have HP:=lh hp;clear hp;go_wp2_with fail
    refine hc.mono ?_;rintro e w1 ⟨rfl,b1⟩;have HB1:=lh b1;clear b1 hc;go_wp2;go_roundw
    case rel =>
     refine⟨i+1,hlt,by go_num,fun j hj hji=>?_,bgo HB.out HB1.out⟩;rcases Nat.lt_or_ge j i with q | q
     ·exact HN.out j hj q
     ·obtain rfl:j=i:=by omega
      exact HP.out
    case measure=>simp [intOf];omega
  ·have hge:¬ (i:Int)<L.length:=by omega
   have HE:Hid (fidx p L=-1):=fidx_none fun j hj=>HN.out j hj (by omega);clear hno hb;go_wp2;go_ret;exact⟨by rw [HE.out];rfl,HB.out⟩
theorem findC_any{L:List Col}{v:Value}{f:FuncId}{cs:Array Value}{p:Col->Bool}(hL:Lr colE 7 w L v)(hcf:Goes f)(hf:Asks colE w L f cs p):
  Calls Tryz.prog 143 #[v,.func (.func f) #[] cs] w fun e w'=>e=.returned (.int .i64 (fidx p L))/\Below w.heap.size w w':=by
 obtain⟨ad,cap,rfl,_,z1,z2,hX⟩:=hL;have hmx:(L.length:Int)<=9223372036854775807:=by unfold maxLen at z2;omega
 have HX:=lh hX;have HF:=lh hf;clear hX z1 z2 hf;go_enter Tryz.func143,Tryz.ntmps143;go_wp2;go_loopw [8] (fun iv wr=>∃ i:Nat,i<=L.length/\iv=.int .i64 (i:Int)/\(∀ j (hj:j<L.length),j<i->p L[j]=false)/\Below w.heap.size w wr) (fun iv _=>L.length - (intOf iv).toNat)
 case atStart=>exact⟨0,Nat.zero_le _,rfl,fun j _ hj=>by omega,Below.refl _ _⟩
 case round =>
  obtain⟨i,hi,rfl,hno,hb⟩:=hrel;obtain⟨V,rfl⟩:∃ V,V=wr:=⟨_,rfl⟩
  have HN:=lh hno;have HB:=lh hb;by_cases hlt:i<L.length
  ·obtain⟨b,o,cs',rfl,hbl,hE,_,hcell⟩:=HX.out i hlt;have hc:=HF.out V hb b (o+i*7) L[i] (List.getElem_mem hlt) (Nat.lt_of_lt_of_le hbl hb.size) ⟨cs',colE_held _ _ _ _ hb hE,fun j u hu=>cell_on hb (by have:=hcell j u hu;exact this)⟩;have k0:(0:Int)<=i:=by omega
   have k1:(i:Int)<L.length:=by omega
   have HAT:=lh (fun hp=>fidx_at hlt hp hno);clear hb hno hcell;cases hp:p L[i]with
   | true =>
    rw [hp]at hc;have HP:=lh hp;clear hp;go_wp2_with fail
    refine hc.mono ?_;rintro e w1 ⟨rfl,b1⟩;have HB1:=lh b1;clear b1 hc;go_wp2;go_ret;exact⟨by rw [HAT.out HP.out];rfl,bgo HB.out HB1.out⟩
   | false =>
    rw [hp]at hc;have HP:=lh hp;clear hp;go_wp2_with fail
    refine hc.mono ?_;rintro e w1 ⟨rfl,b1⟩;have HB1:=lh b1;clear b1 hc;go_wp2;go_roundw
    case rel =>
     refine⟨i+1,hlt,by go_num,fun j hj hji=>?_,bgo HB.out HB1.out⟩;rcases Nat.lt_or_ge j i with q | q
     ·exact HN.out j hj q
     ·obtain rfl:j=i:=by omega
      exact HP.out
    case measure=>simp [intOf];omega
  ·have hge:¬ (i:Int)<L.length:=by omega
   have HE:Hid (fidx p L=-1):=fidx_none fun j hj=>HN.out j hj (by omega);clear hno hb;go_wp2;go_ret;exact⟨by rw [HE.out];rfl,HB.out⟩
theorem findI_any{L:List Ix}{v:Value}{f:FuncId}{cs:Array Value}{p:Ix->Bool}(hL:Lr ixE 5 w L v)(hcf:Goes f)(hf:Asks ixE w L f cs p):
  Calls Tryz.prog 153 #[v,.func (.func f) #[] cs] w fun e w'=>e=.returned (.int .i64 (fidx p L))/\Below w.heap.size w w':=by
 obtain⟨ad,cap,rfl,_,z1,z2,hX⟩:=hL;have hmx:(L.length:Int)<=9223372036854775807:=by unfold maxLen at z2;omega
 have HX:=lh hX;have HF:=lh hf;clear hX z1 z2 hf;go_enter Tryz.func153,Tryz.ntmps153;go_wp2;go_loopw [8] (fun iv wr=>∃ i:Nat,i<=L.length/\iv=.int .i64 (i:Int)/\(∀ j (hj:j<L.length),j<i->p L[j]=false)/\Below w.heap.size w wr) (fun iv _=>L.length - (intOf iv).toNat)
 case atStart=>exact⟨0,Nat.zero_le _,rfl,fun j _ hj=>by omega,Below.refl _ _⟩
 case round =>
  obtain⟨i,hi,rfl,hno,hb⟩:=hrel;obtain⟨V,rfl⟩:∃ V,V=wr:=⟨_,rfl⟩
  have HN:=lh hno;have HB:=lh hb;by_cases hlt:i<L.length
  ·obtain⟨b,o,cs',rfl,hbl,hE,_,hcell⟩:=HX.out i hlt;have hc:=HF.out V hb b (o+i*5) L[i] (List.getElem_mem hlt) (Nat.lt_of_lt_of_le hbl hb.size) ⟨cs',ixE_held _ _ _ _ hb hE,fun j u hu=>cell_on hb (by have:=hcell j u hu;exact this)⟩;have k0:(0:Int)<=i:=by omega
   have k1:(i:Int)<L.length:=by omega
   have HAT:=lh (fun hp=>fidx_at hlt hp hno);clear hb hno hcell;cases hp:p L[i]with
   | true =>
    rw [hp]at hc;have HP:=lh hp;clear hp;go_wp2_with fail
    refine hc.mono ?_;rintro e w1 ⟨rfl,b1⟩;have HB1:=lh b1;clear b1 hc;go_wp2;go_ret;exact⟨by rw [HAT.out HP.out];rfl,bgo HB.out HB1.out⟩
   | false =>
    rw [hp]at hc;have HP:=lh hp;clear hp;go_wp2_with fail
    refine hc.mono ?_;rintro e w1 ⟨rfl,b1⟩;have HB1:=lh b1;clear b1 hc;go_wp2;go_roundw
    case rel =>
     refine⟨i+1,hlt,by go_num,fun j hj hji=>?_,bgo HB.out HB1.out⟩;rcases Nat.lt_or_ge j i with q | q
     ·exact HN.out j hj q
     ·obtain rfl:j=i:=by omega
      exact HP.out
    case measure=>simp [intOf];omega
  ·have hge:¬ (i:Int)<L.length:=by omega
   have HE:Hid (fidx p L=-1):=fidx_none fun j hj=>HN.out j hj (by omega);clear hno hb;go_wp2;go_ret;exact⟨by rw [HE.out];rfl,HB.out⟩
theorem findK_any{L:List Fk}{v:Value}{f:FuncId}{cs:Array Value}{p:Fk->Bool}(hL:Lr fkE 5 w L v)(hcf:Goes f)(hf:Asks fkE w L f cs p):
  Calls Tryz.prog 156 #[v,.func (.func f) #[] cs] w fun e w'=>e=.returned (.int .i64 (fidx p L))/\Below w.heap.size w w':=by
 obtain⟨ad,cap,rfl,_,z1,z2,hX⟩:=hL;have hmx:(L.length:Int)<=9223372036854775807:=by unfold maxLen at z2;omega
 have HX:=lh hX;have HF:=lh hf;clear hX z1 z2 hf;go_enter Tryz.func156,Tryz.ntmps156;go_wp2;go_loopw [8] (fun iv wr=>∃ i:Nat,i<=L.length/\iv=.int .i64 (i:Int)/\(∀ j (hj:j<L.length),j<i->p L[j]=false)/\Below w.heap.size w wr) (fun iv _=>L.length - (intOf iv).toNat)
 case atStart=>exact⟨0,Nat.zero_le _,rfl,fun j _ hj=>by omega,Below.refl _ _⟩
 case round =>
  obtain⟨i,hi,rfl,hno,hb⟩:=hrel;obtain⟨V,rfl⟩:∃ V,V=wr:=⟨_,rfl⟩
  have HN:=lh hno;have HB:=lh hb;by_cases hlt:i<L.length
  ·obtain⟨b,o,cs',rfl,hbl,hE,_,hcell⟩:=HX.out i hlt;have hc:=HF.out V hb b (o+i*5) L[i] (List.getElem_mem hlt) (Nat.lt_of_lt_of_le hbl hb.size) ⟨cs',fkE_held _ _ _ _ hb hE,fun j u hu=>cell_on hb (by have:=hcell j u hu;exact this)⟩;have k0:(0:Int)<=i:=by omega
   have k1:(i:Int)<L.length:=by omega
   have HAT:=lh (fun hp=>fidx_at hlt hp hno);clear hb hno hcell;cases hp:p L[i]with
   | true =>
    rw [hp]at hc;have HP:=lh hp;clear hp;go_wp2_with fail
    refine hc.mono ?_;rintro e w1 ⟨rfl,b1⟩;have HB1:=lh b1;clear b1 hc;go_wp2;go_ret;exact⟨by rw [HAT.out HP.out];rfl,bgo HB.out HB1.out⟩
   | false =>
    rw [hp]at hc;have HP:=lh hp;clear hp;go_wp2_with fail
    refine hc.mono ?_;rintro e w1 ⟨rfl,b1⟩;have HB1:=lh b1;clear b1 hc;go_wp2;go_roundw
    case rel =>
     refine⟨i+1,hlt,by go_num,fun j hj hji=>?_,bgo HB.out HB1.out⟩;rcases Nat.lt_or_ge j i with q | q
     ·exact HN.out j hj q
     ·obtain rfl:j=i:=by omega
      exact HP.out
    case measure=>simp [intOf];omega
  ·have hge:¬ (i:Int)<L.length:=by omega
   have HE:Hid (fidx p L=-1):=fidx_none fun j hj=>HN.out j hj (by omega);clear hno hb;go_wp2;go_ret;exact⟨by rw [HE.out];rfl,HB.out⟩
theorem findN_any{L:List Int}{v:Value}{f:FuncId}{cs:Array Value}{p:Int->Bool}(hL:Lr inE 1 w L v)(hcf:Goes f)(hf:Asks inE w L f cs p):
  Calls Tryz.prog 103 #[v,.func (.func f) #[] cs] w fun e w'=>e=.returned (.int .i64 (fidx p L))/\Below w.heap.size w w':=by
 obtain⟨ad,cap,rfl,_,z1,z2,hX⟩:=hL;have hmx:(L.length:Int)<=9223372036854775807:=by unfold maxLen at z2;omega
 have HX:=lh hX;have HF:=lh hf;clear hX z1 z2 hf;go_enter Tryz.func103,Tryz.ntmps103;go_wp2;go_loopw [8] (fun iv wr=>∃ i:Nat,i<=L.length/\iv=.int .i64 (i:Int)/\(∀ j (hj:j<L.length),j<i->p L[j]=false)/\Below w.heap.size w wr) (fun iv _=>L.length - (intOf iv).toNat)
 case atStart=>exact⟨0,Nat.zero_le _,rfl,fun j _ hj=>by omega,Below.refl _ _⟩
 case round =>
  obtain⟨i,hi,rfl,hno,hb⟩:=hrel;obtain⟨V,rfl⟩:∃ V,V=wr:=⟨_,rfl⟩
  have HN:=lh hno;have HB:=lh hb;by_cases hlt:i<L.length
  ·obtain⟨b,o,cs',rfl,hbl,hE,_,hcell⟩:=HX.out i hlt;have hc:=HF.out V hb b (o+i) L[i] (List.getElem_mem hlt) (Nat.lt_of_lt_of_le hbl hb.size) ⟨cs',inE_held _ _ _ _ hb hE,fun j u hu=>cell_on hb (by have:=hcell j u hu;rw [Nat.mul_one]at this;exact this)⟩;have k0:(0:Int)<=i:=by omega
   have k1:(i:Int)<L.length:=by omega
   have HAT:=lh (fun hp=>fidx_at hlt hp hno);clear hb hno hcell;cases hp:p L[i]with
   | true =>
    rw [hp]at hc;have HP:=lh hp;clear hp;go_wp2_with fail
    refine hc.mono ?_;rintro e w1 ⟨rfl,b1⟩;have HB1:=lh b1;clear b1 hc;go_wp2;go_ret;exact⟨by rw [HAT.out HP.out];rfl,bgo HB.out HB1.out⟩
   | false =>
    rw [hp]at hc;have HP:=lh hp;clear hp;go_wp2_with fail
    refine hc.mono ?_;rintro e w1 ⟨rfl,b1⟩;have HB1:=lh b1;clear b1 hc;go_wp2;go_roundw
    case rel =>
     refine⟨i+1,hlt,by go_num,fun j hj hji=>?_,bgo HB.out HB1.out⟩;rcases Nat.lt_or_ge j i with q | q
     ·exact HN.out j hj q
     ·obtain rfl:j=i:=by omega
      exact HP.out
    case measure=>simp [intOf];omega
  ·have hge:¬ (i:Int)<L.length:=by omega
   have HE:Hid (fidx p L=-1):=fidx_none fun j hj=>HN.out j hj (by omega);clear hno hb;go_wp2;go_ret;exact⟨by rw [HE.out];rfl,HB.out⟩
theorem findS_any{L:List ByteArray}{v:Value}{f:FuncId}{cs:Array Value}{p:ByteArray->Bool}(hL:Lr stE 1 w L v)(hcf:Goes f)(hf:Asks stE w L f cs p):
  Calls Tryz.prog 161 #[v,.func (.func f) #[] cs] w fun e w'=>e=.returned (.int .i64 (fidx p L))/\Below w.heap.size w w':=by
 obtain⟨ad,cap,rfl,_,z1,z2,hX⟩:=hL;have hmx:(L.length:Int)<=9223372036854775807:=by unfold maxLen at z2;omega
 have HX:=lh hX;have HF:=lh hf;clear hX z1 z2 hf;go_enter Tryz.func161,Tryz.ntmps161;go_wp2;go_loopw [8] (fun iv wr=>∃ i:Nat,i<=L.length/\iv=.int .i64 (i:Int)/\(∀ j (hj:j<L.length),j<i->p L[j]=false)/\Below w.heap.size w wr) (fun iv _=>L.length - (intOf iv).toNat)
 case atStart=>exact⟨0,Nat.zero_le _,rfl,fun j _ hj=>by omega,Below.refl _ _⟩
 case round =>
  obtain⟨i,hi,rfl,hno,hb⟩:=hrel;obtain⟨V,rfl⟩:∃ V,V=wr:=⟨_,rfl⟩
  have HN:=lh hno;have HB:=lh hb;by_cases hlt:i<L.length
  ·obtain⟨b,o,cs',rfl,hbl,hE,_,hcell⟩:=HX.out i hlt;have hc:=HF.out V hb b (o+i) L[i] (List.getElem_mem hlt) (Nat.lt_of_lt_of_le hbl hb.size) ⟨cs',stE_held _ _ _ _ hb hE,fun j u hu=>cell_on hb (by have:=hcell j u hu;rw [Nat.mul_one]at this;exact this)⟩;have k0:(0:Int)<=i:=by omega
   have k1:(i:Int)<L.length:=by omega
   have HAT:=lh (fun hp=>fidx_at hlt hp hno);clear hb hno hcell;cases hp:p L[i]with
   | true =>
    rw [hp]at hc;have HP:=lh hp;clear hp;go_wp2_with fail
    refine hc.mono ?_;rintro e w1 ⟨rfl,b1⟩;have HB1:=lh b1;clear b1 hc;go_wp2;go_ret;exact⟨by rw [HAT.out HP.out];rfl,bgo HB.out HB1.out⟩
   | false =>
    rw [hp]at hc;have HP:=lh hp;clear hp;go_wp2_with fail
    refine hc.mono ?_;rintro e w1 ⟨rfl,b1⟩;have HB1:=lh b1;clear b1 hc;go_wp2;go_roundw
    case rel =>
     refine⟨i+1,hlt,by go_num,fun j hj hji=>?_,bgo HB.out HB1.out⟩;rcases Nat.lt_or_ge j i with q | q
     ·exact HN.out j hj q
     ·obtain rfl:j=i:=by omega
      exact HP.out
    case measure=>simp [intOf];omega
  ·have hge:¬ (i:Int)<L.length:=by omega
   have HE:Hid (fidx p L=-1):=fidx_none fun j hj=>HN.out j hj (by omega);clear hno hb;go_wp2;go_ret;exact⟨by rw [HE.out];rfl,HB.out⟩
end
end Go.Proofs.YtkhehikaemdnnaaGreat
namespace Go.Proofs.YtkhehikaemdnnaaGreat
set_option maxRecDepth 100000
set_option maxHeartbeats 2000000
open Go.RowKit
section
variable {w : World}
theorem let_any(c:UInt8):Calls Tryz.prog 141 #[.int .u8 c.toNat] w fun e w'=>e=.returned (.bool (letB c))/\w'=w:=by
 by_cases h1:97<=c.toNat
 ·have k1:(97:Int)<=c.toNat:=by omega
  by_cases h2:c.toNat<=122
  ·have k2:(c.toNat:Int)<=122:=by omega
   go_enter Tryz.func141,Tryz.ntmps141;go_wp2;go_ret;exact⟨by simp [letB,h1,h2],rfl⟩
  ·have k2:¬ (c.toNat:Int)<=122:=by omega
   go_enter Tryz.func141,Tryz.ntmps141;go_wp2;go_ret;exact⟨by simp [letB,h1,h2],rfl⟩
 ·have k1:¬ (97:Int)<=c.toNat:=by omega
  go_enter Tryz.func141,Tryz.ntmps141;go_wp2;go_ret;exact⟨by simp [letB,h1],rfl⟩
theorem dig_any(c:UInt8):Calls Tryz.prog 142 #[.int .u8 c.toNat] w fun e w'=>e=.returned (.bool (digB c))/\w'=w:=by
 by_cases h1:48<=c.toNat
 ·have k1:(48:Int)<=c.toNat:=by omega
  by_cases h2:c.toNat<=57
  ·have k2:(c.toNat:Int)<=57:=by omega
   go_enter Tryz.func142,Tryz.ntmps142;go_wp2;go_ret;exact⟨by simp [digB,h1,h2],rfl⟩
  ·have k2:¬ (c.toNat:Int)<=57:=by omega
   go_enter Tryz.func142,Tryz.ntmps142;go_wp2;go_ret;exact⟨by simp [digB,h1,h2],rfl⟩
 ·have k1:¬ (48:Int)<=c.toNat:=by omega
  go_enter Tryz.func142,Tryz.ntmps142;go_wp2;go_ret;exact⟨by simp [digB,h1],rfl⟩
theorem kind_any(k:Int):Calls Tryz.prog 145 #[.int .i64 k] w fun e w'=>e=.returned (.bool (kindB k))/\w'=w:=by
 by_cases h1:k=1
 ·subst h1;go_enter Tryz.func145,Tryz.ntmps145;go_wp2;go_ret;exact⟨rfl,rfl⟩
 ·by_cases h2:k=2
  ·subst h2;go_enter Tryz.func145,Tryz.ntmps145;go_wp2;go_ret;exact⟨rfl,rfl⟩
  ·go_enter Tryz.func145,Tryz.ntmps145;go_wp2;go_ret;exact⟨by simp [kindB,h1,h2],rfl⟩
theorem empty_iff(s:ByteArray):s.toList.isEmpty=decide (s.size=0):=by
 rw [ByteArray.toList_eq];have hl:=nameB_len s;cases e:s.data.toList with
 | nil=>rw [e]at hl;simp at hl;simp [<-hl]
 | cons c r =>
  rw [e,List.length_cons]at hl;have:¬ s.size=0:=by omega
  simp [this]
theorem name_any(s:ByteArray):Calls Tryz.prog 100 #[.string s] w fun e w'=>e=.returned (.bool (nameB s))/\w'=w:=by
 have he:=empty_iff s;by_cases h0:s.size=0
 ·rw [decide_eq_true h0]at he;have HE:=lh (nameB_no (.inl h0));clear h0;go_enter Tryz.func100,Tryz.ntmps100;go_wp2;go_ret;exact⟨by rw [HE.out];rfl,rfl⟩
 ·rw [decide_eq_false h0]at he;by_cases h1:16<s.size
  ·have k1:(16:Int)<s.size:=by omega
   have HE:=lh (nameB_no (.inr h1));go_enter Tryz.func100,Tryz.ntmps100;go_wp2;go_ret;exact⟨by rw [HE.out];rfl,rfl⟩
  ·have k1:¬ (16:Int)<s.size:=by omega
   have p0:0<s.size:=by omega
   have p1:(0:Int)<s.size:=by omega
   have HI:=lh (nameB_iff p0 (by omega));have hcall:=let_any (w:=w) s[0];cases hl:letB s[0]with
   | false =>
    rw [hl]at hcall;have HE:Hid (nameB s=false):=by
     cases q:nameB s with
     | false=>exact lh rfl
     | true=>rw [(HI.out.1 q).1]at hl;cases hl
    clear hl;go_enter Tryz.func100,Tryz.ntmps100;go_wp2_with fail
    refine hcall.mono ?_;rintro e w1 ⟨rfl,rfl⟩;go_wp2;go_ret;exact⟨by rw [HE.out];rfl,rfl⟩
   | true =>
    rw [hl]at hcall;have HL:=lh hl;clear hl;go_enter Tryz.func100,Tryz.ntmps100;go_wp2_with fail
    refine hcall.mono ?_;rintro e w1 ⟨rfl,rfl⟩;clear hcall;go_wp2;go_loopw [19] (fun iv wr=>∃ i:Nat,i<=s.size/\iv=.int .i64 (i:Int)/\(∀ j (hj:j<s.size),j<i->chB s[j]=true)/\wr=w1) (fun iv _=>s.size - (intOf iv).toNat)
    case atStart=>exact⟨0,Nat.zero_le _,rfl,fun j _ hj=>by omega,rfl⟩
    case round =>
     obtain⟨i,hi,rfl,hno,rfl⟩:=hrel;have HN:=lh hno;clear hno;by_cases hlt:i<s.size
     ·have k2:(0:Int)<=i:=by omega
      have k3:(i:Int)<s.size:=by omega
      have hc1:=let_any (w:=wr) s[i];have hc2:=dig_any (w:=wr) s[i];have HNO:Hid (chB s[i]=false->nameB s=false):=fun q=>by
       cases z:nameB s with
       | false=>rfl
       | true=>rw [(HI.out.1 z).2 i hlt]at q;cases q
      have HYES:Hid (chB s[i]=true->∀ j (hj:j<s.size),j<i+1->chB s[j]=true):=fun q j hj hji=>by
       rcases Nat.lt_or_ge j i with z | z
       ·exact HN.out j hj z
       ·obtain rfl:j=i:=by omega
        exact q
      obtain⟨b,hb⟩:∃ b,s[i]=b:=⟨_,rfl⟩
      rw [hb]at hc1 hc2 HNO HYES;cases q1:letB b with
      | true =>
       rw [q1]at hc1;have HY:=lh (HYES.out (by simp [chB,q1]));clear q1 hc2 HNO HYES;go_wp2_with fail
       refine hc1.mono ?_;rintro e w2 ⟨rfl,rfl⟩;clear hc1;go_wp2;go_roundw
       case rel=>exact⟨i+1,hlt,by go_num,HY.out,by trivial⟩
       case measure=>simp [intOf];omega
      | false =>
       rw [q1]at hc1;cases q2:digB b with
       | true =>
        rw [q2]at hc2;have HY:=lh (HYES.out (by simp [chB,q2]));clear q1 q2 HNO HYES;go_wp2_with fail
        refine hc1.mono ?_;rintro e w2 ⟨rfl,rfl⟩;clear hc1;go_wp2_with fail
        refine hc2.mono ?_;rintro e w3 ⟨rfl,rfl⟩;clear hc2;go_wp2;go_roundw
        case rel=>exact⟨i+1,hlt,by go_num,HY.out,by trivial⟩
        case measure=>simp [intOf];omega
       | false =>
        rw [q2]at hc2;by_cases q3:b.toNat=95
        ·have HY:=lh (HYES.out (by simp [chB,q3]));have k4:(b.toNat:Int)=95:=by omega
         rw [k4]at hc1 hc2;clear q1 q2 q3 HNO HYES;go_wp2_with fail
         refine hc1.mono ?_;rintro e w2 ⟨rfl,rfl⟩;clear hc1;go_wp2_with fail
         refine hc2.mono ?_;rintro e w3 ⟨rfl,rfl⟩;clear hc2;go_wp2;go_roundw
         case rel=>exact⟨i+1,hlt,by go_num,HY.out,by trivial⟩
         case measure=>simp [intOf];omega
        ·have k4:¬ (b.toNat:Int)=95:=by omega
         have HY:=lh (HNO.out (by simp [chB,q1,q2,q3]));clear q1 q2 q3 HNO HYES;go_wp2_with fail
         refine hc1.mono ?_;rintro e w2 ⟨rfl,rfl⟩;clear hc1;go_wp2_with fail
         refine hc2.mono ?_;rintro e w3 ⟨rfl,rfl⟩;clear hc2;go_wp2;go_ret;exact⟨by rw [HY.out];rfl,rfl⟩
     ·have k3:¬ (i:Int)<s.size:=by omega
      have HY:Hid (nameB s=true):=HI.out.2 ⟨HL.out,fun j hj=>HN.out j hj (by omega)⟩;go_wp2;go_ret;exact⟨by rw [HY.out];rfl,rfl⟩
theorem fit_any(v:Vl)(k:Int):Calls Tryz.prog 146 #[vlV v,.int .i64 k] w fun e w'=>e=.returned (.bool (fitB v k))/\Below w.heap.size w w':=by
 obtain⟨W,hW⟩:∃ W,W=w.alloc (.cells #[.int .i64 v.k,.int .i64 v.n,.string v.s] 42):=⟨_,rfl⟩
 have hb:=bw1 hW;obtain⟨Y,hY⟩:∃ Y,w.heap.size=Y:=⟨_,rfl⟩
 have jY:W.heap[Y]?=some (.cells #[.int .i64 v.k,.int .i64 v.n,.string v.s] 42 (0,0)):=by rw [hW,<-hY];exact heap_alloc_new w _
 have c0:W.cell? ⟨Y,0,none⟩=some (.int .i64 v.k):=cell_blk jY 0;have c1:W.cell? ⟨Y,1,none⟩=some (.int .i64 v.n):=cell_blk jY 1;have c2:W.cell? ⟨Y,2,none⟩=some (.string v.s):=cell_blk jY 2;have hcall:=check_any v.k v.n v.s W;obtain⟨r,hr⟩:∃ r,rightB v.k v.n v.s=r:=⟨_,rfl⟩
 have HF:Hid (fitB v k=(r && (decide (v.k=0)|| decide (v.k=k)))):=by rw [<-hr];exact lh rfl
 rw [hr]at hcall;have HW:=lh hW;have HY:=lh hY;have HB:=lh hb;have HC:=lh c0;clear hW hY hb jY hr;cases r with
 | false =>
  go_enter Tryz.func146,Tryz.ntmps146;go_upto_region 1 with fail
  rw [<-HW.out,HY.out];go_wp2_with fail
  refine hcall.mono ?_;rintro e w1 ⟨rfl,b1⟩;clear hcall;go_wp2;go_ret;exact⟨by rw [HF.out];rfl,bgo HB.out b1⟩
 | true =>
  go_enter Tryz.func146,Tryz.ntmps146;go_upto_region 1 with fail
  rw [<-HW.out,HY.out];go_wp2_with fail
  refine hcall.mono ?_;rintro e w1 ⟨rfl,b1⟩;have d0:=cell_on b1 HC.out;have HB1:=lh b1;clear hcall b1 c0 c1 c2;obtain⟨q,hq⟩:∃ q,v.k=q:=⟨_,rfl⟩
  rw [hq]at d0 HF;by_cases h1:q=0
  ·subst h1;go_wp2;go_ret;exact⟨by rw [HF.out];rfl,bgo HB.out HB1.out⟩
  ·by_cases h2:q=k
   ·subst h2;go_wp2;go_ret;exact⟨by rw [HF.out];simp [h1],bgo HB.out HB1.out⟩
   ·go_wp2;go_ret;exact⟨by rw [HF.out];simp [h1,h2],bgo HB.out HB1.out⟩
end
end Go.Proofs.YtkhehikaemdnnaaGreat
namespace Go.Proofs.YtkhehikaemdnnaaGreat
set_option maxRecDepth 100000
set_option maxHeartbeats 2000000
open Go.RowKit
section
variable {w : World}
theorem pt_lt{a:Addr}{v:Value}(c0:w.cell? a=some v):a.block<w.heap.size:=by
 refine Classical.byContradiction fun z=>?_;unfold World.cell? at c0;rw [Array.getElem?_eq_none (by simpa using z)]at c0;cases c0
theorem field156_0(a b c:Value)(X:World):(Instr.field 222 (.agg #[a,b,c]) 0).run Tryz.prog X=.ok a X:=by kernel_rfl
theorem field156_1(a b c:Value)(X:World):(Instr.field 222 (.agg #[a,b,c]) 1).run Tryz.prog X=.ok b X:=by kernel_rfl
theorem field156_2(a b c:Value)(X:World):(Instr.field 222 (.agg #[a,b,c]) 2).run Tryz.prog X=.ok c X:=by kernel_rfl
theorem bdrew{X:World}(h:Below w.heap.size w X):Below w.heap.size w X.drew:=⟨h.os,h.tape,h.output,h.size,h.block⟩
theorem bdrewN{X:World}(h:Below w.heap.size w X)(n:Nat):Below w.heap.size w (X.drewN n):=⟨h.os,h.tape,h.output,h.size,h.block⟩
theorem goes137:Goes 137:=fun X a=>by go_simp
theorem goes104:Goes 104:=fun X a=>by go_simp
theorem goes108:Goes 108:=fun X a=>by go_simp
theorem goes144:Goes 144:=fun X a=>by go_simp
theorem goes154:Goes 154:=fun X a=>by go_simp
theorem goes157:Goes 157:=fun X a=>by go_simp
theorem goes159:Goes 159:=fun X a=>by go_simp
theorem goes160:Goes 160:=fun X a=>by go_simp
theorem goes170:Goes 170:=fun X a=>by go_simp
theorem goes171:Goes 171:=fun X a=>by go_simp
theorem goes173:Goes 173:=fun X a=>by go_simp
theorem goes174:Goes 174:=fun X a=>by go_simp
theorem goes175:Goes 175:=fun X a=>by go_simp
theorem goes177:Goes 177:=fun X a=>by go_simp
theorem goes179:Goes 179:=fun X a=>by go_simp
theorem goes180:Goes 180:=fun X a=>by go_simp
theorem goes119:Goes 119:=fun X a=>by go_simp
theorem goes123:Goes 123:=fun X a=>by go_simp
theorem goes127:Goes 127:=fun X a=>by go_simp
theorem goes130:Goes 130:=fun X a=>by go_simp
theorem goes133:Goes 133:=fun X a=>by go_simp
theorem ofC_any{x:Col}{B q:Nat}(h:Pt colE w B q x):Calls Tryz.prog 118 #[.pointer (some ⟨B,q,none⟩)] w fun e w'=>e=.returned (.agg #[.int .i64 x.id,.string x.nm,.pointer (some ⟨B,q+3,none⟩)])/\Below w.heap.size w w':=by
 obtain⟨cs,hE,hc⟩:=h;cases hE;have c0:w.cell? ⟨B,q,none⟩=some (.int .i64 x.id):=hc 0 _ rfl;have c1:w.cell? ⟨B,q+1,none⟩=some (.string x.nm):=hc 1 _ rfl;have hbl:=pt_lt c0;have hne:¬ B=w.heap.size:=by simp only at hbl;omega
 clear hc;go_enter Tryz.func118,Tryz.ntmps118;go_wp2;go_region
 go_wp2;have hj:=heap_alloc_new w (.cells #[.int .i64 x.id,.string x.nm,.pointer (some ⟨B,q+3,none⟩)] 222);refine bodyPost_ret (results_one rfl rfl (load_var (w:=(w.alloc _).drew) hj Tryz.underlying222 rfl size222)) rfl ?_;exact⟨rfl,bdrew (bnew _ _)⟩
theorem ofI_any{x:Ix}{B q:Nat}(h:Pt ixE w B q x):Calls Tryz.prog 122 #[.pointer (some ⟨B,q,none⟩)] w fun e w'=>e=.returned (.agg #[.int .i64 x.id,.string x.nm,.pointer (some ⟨B,q+4,none⟩)])/\Below w.heap.size w w':=by
 obtain⟨cs,hE,hc⟩:=h;cases hE;have c0:w.cell? ⟨B,q,none⟩=some (.int .i64 x.id):=hc 0 _ rfl;have c1:w.cell? ⟨B,q+1,none⟩=some (.string x.nm):=hc 1 _ rfl;have hbl:=pt_lt c0;have hne:¬ B=w.heap.size:=by simp only at hbl;omega
 clear hc;go_enter Tryz.func122,Tryz.ntmps122;go_wp2;go_region
 go_wp2;have hj:=heap_alloc_new w (.cells #[.int .i64 x.id,.string x.nm,.pointer (some ⟨B,q+4,none⟩)] 222);refine bodyPost_ret (results_one rfl rfl (load_var (w:=(w.alloc _).drew) hj Tryz.underlying222 rfl size222)) rfl ?_;exact⟨rfl,bdrew (bnew _ _)⟩
theorem ofK_any{x:Fk}{B q:Nat}(h:Pt fkE w B q x):Calls Tryz.prog 126 #[.pointer (some ⟨B,q,none⟩)] w fun e w'=>e=.returned (.agg #[.int .i64 x.id,.string x.nm,.pointer (some ⟨B,q+4,none⟩)])/\Below w.heap.size w w':=by
 obtain⟨cs,hE,hc⟩:=h;cases hE;have c0:w.cell? ⟨B,q,none⟩=some (.int .i64 x.id):=hc 0 _ rfl;have c1:w.cell? ⟨B,q+1,none⟩=some (.string x.nm):=hc 1 _ rfl;have hbl:=pt_lt c0;have hne:¬ B=w.heap.size:=by simp only at hbl;omega
 clear hc;go_enter Tryz.func126,Tryz.ntmps126;go_wp2;go_region
 go_wp2;have hj:=heap_alloc_new w (.cells #[.int .i64 x.id,.string x.nm,.pointer (some ⟨B,q+4,none⟩)] 222);refine bodyPost_ret (results_one rfl rfl (load_var (w:=(w.alloc _).drew) hj Tryz.underlying222 rfl size222)) rfl ?_;exact⟨rfl,bdrew (bnew _ _)⟩
theorem namedC_f{x:Col}{B q:Nat}{P Q:Nat}{nm:ByteArray}(h:Pt colE w B q x)(cp:w.cell? ⟨P,0,none⟩=some (.func (.func 118) #[] #[]))(cq:w.cell? ⟨Q,0,none⟩=some (.string nm)):
  Calls Tryz.prog 175 #[.pointer (some ⟨B,q,none⟩),.pointer (some ⟨P,0,none⟩),.pointer (some ⟨Q,0,none⟩)] w fun e w'=>e=.returned (.bool (decide (x.nm=nm)))/\Below w.heap.size w w':=by
 have HO:Hid (∀ X:World,Below w.heap.size w X->Calls Tryz.prog 118 #[.pointer (some ⟨B,q,none⟩)] X fun e w'=>∃ u,e=.returned (.agg #[.int .i64 x.id,.string x.nm,u])/\Below X.heap.size X w'):=fun X hX=>by
  obtain⟨cs,hE,hc⟩:=h;refine(ofC_any (w:=X) ⟨cs,colE_held _ _ _ _ hX hE,fun j u hu=>cell_on hX (hc j u hu)⟩).mono ?_;rintro e w' ⟨rfl,b⟩;exact⟨_,rfl,b⟩
 have hs:=same_eq x.nm nm;obtain⟨r,hr⟩:∃ r,decide (x.nm=nm)=r:=⟨_,rfl⟩
 rw [hr]at hs ⊢;have HQ:=lh cq;have hfd:=field156_1;clear hr h;go_enter Tryz.func175,Tryz.ntmps175;go_wp2
 go_region_with (go_at_call 118;refine(HO.out _ (by first | exact bdrew (Below.refl _ _)| exact bdrew (bdrew (Below.refl _ _))| exact bdrewN (Below.refl _ _) _)).mono ?_;rintro e w1 ⟨u,rfl,b1⟩;have cq1:=cell_on (V:=w) (X:=w1) ⟨b1.os,b1.tape,b1.output,b1.size,b1.block⟩ HQ.out)
 all_goals
  go_wp2;go_ret;exact⟨rfl,⟨b1.os,b1.tape,b1.output,b1.size,b1.block⟩⟩
theorem namedI_f{x:Ix}{B q:Nat}{P Q:Nat}{nm:ByteArray}(h:Pt ixE w B q x)(cp:w.cell? ⟨P,0,none⟩=some (.func (.func 122) #[] #[]))(cq:w.cell? ⟨Q,0,none⟩=some (.string nm)):
  Calls Tryz.prog 177 #[.pointer (some ⟨B,q,none⟩),.pointer (some ⟨P,0,none⟩),.pointer (some ⟨Q,0,none⟩)] w fun e w'=>e=.returned (.bool (decide (x.nm=nm)))/\Below w.heap.size w w':=by
 have HO:Hid (∀ X:World,Below w.heap.size w X->Calls Tryz.prog 122 #[.pointer (some ⟨B,q,none⟩)] X fun e w'=>∃ u,e=.returned (.agg #[.int .i64 x.id,.string x.nm,u])/\Below X.heap.size X w'):=fun X hX=>by
  obtain⟨cs,hE,hc⟩:=h;refine(ofI_any (w:=X) ⟨cs,ixE_held _ _ _ _ hX hE,fun j u hu=>cell_on hX (hc j u hu)⟩).mono ?_;rintro e w' ⟨rfl,b⟩;exact⟨_,rfl,b⟩
 have hs:=same_eq x.nm nm;obtain⟨r,hr⟩:∃ r,decide (x.nm=nm)=r:=⟨_,rfl⟩
 rw [hr]at hs ⊢;have HQ:=lh cq;have hfd:=field156_1;clear hr h;go_enter Tryz.func177,Tryz.ntmps177;go_wp2
 go_region_with (go_at_call 122;refine(HO.out _ (by first | exact bdrew (Below.refl _ _)| exact bdrew (bdrew (Below.refl _ _))| exact bdrewN (Below.refl _ _) _)).mono ?_;rintro e w1 ⟨u,rfl,b1⟩;have cq1:=cell_on (V:=w) (X:=w1) ⟨b1.os,b1.tape,b1.output,b1.size,b1.block⟩ HQ.out)
 all_goals
  go_wp2;go_ret;exact⟨rfl,⟨b1.os,b1.tape,b1.output,b1.size,b1.block⟩⟩
theorem namedK_f{x:Fk}{B q:Nat}{P Q:Nat}{nm:ByteArray}(h:Pt fkE w B q x)(cp:w.cell? ⟨P,0,none⟩=some (.func (.func 126) #[] #[]))(cq:w.cell? ⟨Q,0,none⟩=some (.string nm)):
  Calls Tryz.prog 180 #[.pointer (some ⟨B,q,none⟩),.pointer (some ⟨P,0,none⟩),.pointer (some ⟨Q,0,none⟩)] w fun e w'=>e=.returned (.bool (decide (x.nm=nm)))/\Below w.heap.size w w':=by
 have HO:Hid (∀ X:World,Below w.heap.size w X->Calls Tryz.prog 126 #[.pointer (some ⟨B,q,none⟩)] X fun e w'=>∃ u,e=.returned (.agg #[.int .i64 x.id,.string x.nm,u])/\Below X.heap.size X w'):=fun X hX=>by
  obtain⟨cs,hE,hc⟩:=h;refine(ofK_any (w:=X) ⟨cs,fkE_held _ _ _ _ hX hE,fun j u hu=>cell_on hX (hc j u hu)⟩).mono ?_;rintro e w' ⟨rfl,b⟩;exact⟨_,rfl,b⟩
 have hs:=same_eq x.nm nm;obtain⟨r,hr⟩:∃ r,decide (x.nm=nm)=r:=⟨_,rfl⟩
 rw [hr]at hs ⊢;have HQ:=lh cq;have hfd:=field156_1;clear hr h;go_enter Tryz.func180,Tryz.ntmps180;go_wp2
 go_region_with (go_at_call 126;refine(HO.out _ (by first | exact bdrew (Below.refl _ _)| exact bdrew (bdrew (Below.refl _ _))| exact bdrewN (Below.refl _ _) _)).mono ?_;rintro e w1 ⟨u,rfl,b1⟩;have cq1:=cell_on (V:=w) (X:=w1) ⟨b1.os,b1.tape,b1.output,b1.size,b1.block⟩ HQ.out)
 all_goals
  go_wp2;go_ret;exact⟨rfl,⟨b1.os,b1.tape,b1.output,b1.size,b1.block⟩⟩
end
end Go.Proofs.YtkhehikaemdnnaaGreat
namespace Go.Proofs.YtkhehikaemdnnaaGreat
set_option maxRecDepth 100000
set_option maxHeartbeats 2000000
open Go.RowKit
section
variable {w : World}
theorem Pt.on{α:Type}{E:World->α->List Value->Prop}{X:World}{B o:Nat}{x:α}(hE:Held E)(h:Pt E w B o x)(hb:Below w.heap.size w X):Pt E X B o x:=by
 obtain⟨cs,h1,h2⟩:=h;exact⟨cs,hE _ _ _ _ hb h1,fun j u hu=>cell_on hb (h2 j u hu)⟩
theorem namedC_any{L:List Col}{v:Value}(nm:ByteArray)(hL:Lr colE 7 w L v):Calls Tryz.prog 163 #[v,.string nm,.func (.func 118) #[] #[]] w fun e w'=>e=.returned (.int .i64 (fidx (fun x=>decide (x.nm=nm)) L))/\Below w.heap.size w w':=by
 obtain⟨W,hW⟩:∃ W,W=(w.alloc (.cells #[.string nm] 9)).alloc (.cells #[.func (.func 118) #[] #[]] 172):=⟨_,rfl⟩
 have hbW:=bw2 hW;obtain⟨Y0,hY0⟩:∃ Y0,w.heap.size=Y0:=⟨_,rfl⟩
 obtain⟨Y1,hY1⟩:∃ Y1,Y0+1=Y1:=⟨_,rfl⟩
 have jY0:W.heap[Y0]?=some (.cells #[.string nm] 9 (0,0)):=nw21 hW hY0;have jY1:W.heap[Y1]?=some (.cells #[.func (.func 118) #[] #[]] 172 (0,0)):=nw22 hW hY0 hY1;have hcall:=findC_any (w:=W) (f:=175) (cs:=#[.pointer (some ⟨Y1,0,none⟩),.pointer (some ⟨Y0,0,none⟩)]) (p:=fun x=>decide (x.nm=nm)) (hL.on colE_held hbW) goes175 (fun X hX B q x _ _ hp=>namedC_f hp (cell_on hX (cell_blk jY1 0)) (cell_on hX (cell_blk jY0 0)));obtain⟨ad,cap,rfl,_⟩:=hL;have HW:=lh hW;have HBW:=lh hbW;have HY0:=lh hY0;have HY1:=lh hY1;clear hW hbW hY0 hY1;clear jY0 jY1;go_enter Tryz.func163,Tryz.ntmps163;go_upto_region 1 with fail
 rw [<-HW.out,HY0.out,HY1.out];go_wp2_with fail
 refine hcall.mono ?_;rintro e w1 ⟨rfl,b1⟩;go_wp2;go_ret;exact⟨rfl,bgo HBW.out b1⟩
theorem namedI_any{L:List Ix}{v:Value}(nm:ByteArray)(hL:Lr ixE 5 w L v):Calls Tryz.prog 165 #[v,.string nm,.func (.func 122) #[] #[]] w fun e w'=>e=.returned (.int .i64 (fidx (fun x=>decide (x.nm=nm)) L))/\Below w.heap.size w w':=by
 obtain⟨W,hW⟩:∃ W,W=(w.alloc (.cells #[.string nm] 9)).alloc (.cells #[.func (.func 122) #[] #[]] 178):=⟨_,rfl⟩
 have hbW:=bw2 hW;obtain⟨Y0,hY0⟩:∃ Y0,w.heap.size=Y0:=⟨_,rfl⟩
 obtain⟨Y1,hY1⟩:∃ Y1,Y0+1=Y1:=⟨_,rfl⟩
 have jY0:W.heap[Y0]?=some (.cells #[.string nm] 9 (0,0)):=nw21 hW hY0;have jY1:W.heap[Y1]?=some (.cells #[.func (.func 122) #[] #[]] 178 (0,0)):=nw22 hW hY0 hY1;have hcall:=findI_any (w:=W) (f:=177) (cs:=#[.pointer (some ⟨Y1,0,none⟩),.pointer (some ⟨Y0,0,none⟩)]) (p:=fun x=>decide (x.nm=nm)) (hL.on ixE_held hbW) goes177 (fun X hX B q x _ _ hp=>namedI_f hp (cell_on hX (cell_blk jY1 0)) (cell_on hX (cell_blk jY0 0)));obtain⟨ad,cap,rfl,_⟩:=hL;have HW:=lh hW;have HBW:=lh hbW;have HY0:=lh hY0;have HY1:=lh hY1;clear hW hbW hY0 hY1;clear jY0 jY1;go_enter Tryz.func165,Tryz.ntmps165;go_upto_region 1 with fail
 rw [<-HW.out,HY0.out,HY1.out];go_wp2_with fail
 refine hcall.mono ?_;rintro e w1 ⟨rfl,b1⟩;go_wp2;go_ret;exact⟨rfl,bgo HBW.out b1⟩
theorem namedK_any{L:List Fk}{v:Value}(nm:ByteArray)(hL:Lr fkE 5 w L v):Calls Tryz.prog 168 #[v,.string nm,.func (.func 126) #[] #[]] w fun e w'=>e=.returned (.int .i64 (fidx (fun x=>decide (x.nm=nm)) L))/\Below w.heap.size w w':=by
 obtain⟨W,hW⟩:∃ W,W=(w.alloc (.cells #[.string nm] 9)).alloc (.cells #[.func (.func 126) #[] #[]] 184):=⟨_,rfl⟩
 have hbW:=bw2 hW;obtain⟨Y0,hY0⟩:∃ Y0,w.heap.size=Y0:=⟨_,rfl⟩
 obtain⟨Y1,hY1⟩:∃ Y1,Y0+1=Y1:=⟨_,rfl⟩
 have jY0:W.heap[Y0]?=some (.cells #[.string nm] 9 (0,0)):=nw21 hW hY0;have jY1:W.heap[Y1]?=some (.cells #[.func (.func 126) #[] #[]] 184 (0,0)):=nw22 hW hY0 hY1;have hcall:=findK_any (w:=W) (f:=180) (cs:=#[.pointer (some ⟨Y1,0,none⟩),.pointer (some ⟨Y0,0,none⟩)]) (p:=fun x=>decide (x.nm=nm)) (hL.on fkE_held hbW) goes180 (fun X hX B q x _ _ hp=>namedK_f hp (cell_on hX (cell_blk jY1 0)) (cell_on hX (cell_blk jY0 0)));obtain⟨ad,cap,rfl,_⟩:=hL;have HW:=lh hW;have HBW:=lh hbW;have HY0:=lh hY0;have HY1:=lh hY1;clear hW hbW hY0 hY1;clear jY0 jY1;go_enter Tryz.func168,Tryz.ntmps168;go_upto_region 1 with fail
 rw [<-HW.out,HY0.out,HY1.out];go_wp2_with fail
 refine hcall.mono ?_;rintro e w1 ⟨rfl,b1⟩;go_wp2;go_ret;exact⟨rfl,bgo HBW.out b1⟩
theorem tn_f{x:Tb}{B q Z:Nat}{z:ByteArray}(h:Pt tbE w B q x)(cz:w.cell? ⟨Z,0,none⟩=some (.string z)):Calls Tryz.prog 137 #[.pointer (some ⟨B,q,none⟩),.pointer (some ⟨Z,0,none⟩)] w fun e w'=>e=.returned (.bool (decide (x.nm=z)))/\Below w.heap.size w w':=by
 obtain⟨cs,hE,hc⟩:=h;obtain⟨cv,iv,kv,rfl,_⟩:=hE;have c0:w.cell? ⟨B,q+1,none⟩=some (.string x.nm):=hc 1 _ rfl;clear hc;obtain⟨y,hy⟩:∃ y,x.nm=y:=⟨_,rfl⟩
 rw [hy]at c0 ⊢;have hs:=same_eq y z;obtain⟨r,hr⟩:∃ r,decide (y=z)=r:=⟨_,rfl⟩
 rw [hr]at hs ⊢;clear hr hy
 
 go_enter Tryz.func137,Tryz.ntmps137;go_wp2
 go_quiet (fail)
 go_wp2;go_ret;exact⟨rfl,bdrewN (Below.refl _ _) _⟩
theorem co_f{x:Col}{B q Z:Nat}{z:Int}(h:Pt colE w B q x)(cz:w.cell? ⟨Z,0,none⟩=some (.int .i64 z)):Calls Tryz.prog 173 #[.pointer (some ⟨B,q,none⟩),.pointer (some ⟨Z,0,none⟩)] w fun e w'=>e=.returned (.bool (decide (x.id=z)))/\Below w.heap.size w w':=by
 obtain⟨cs,hE,hc⟩:=h;cases hE;have c0:w.cell? ⟨B,q,none⟩=some (.int .i64 x.id):=hc 0 _ rfl;clear hc;obtain⟨y,hy⟩:∃ y,x.id=y:=⟨_,rfl⟩
 rw [hy]at c0 ⊢;obtain⟨r,hr⟩:∃ r,decide (y=z)=r:=⟨_,rfl⟩
 rw [hr];clear hy;by_cases hq:y=z
 ·have hr2:r=true:=by rw [<-hr];exact decide_eq_true hq
  subst hr2;clear hr;subst hq;go_enter Tryz.func173,Tryz.ntmps173;go_wp2
  go_quiet (fail)
  go_wp2;go_ret;exact⟨by simp,bdrewN (Below.refl _ _) _⟩
 ·have hr2:r=false:=by rw [<-hr];exact decide_eq_false hq
  subst hr2;clear hr;go_enter Tryz.func173,Tryz.ntmps173;go_wp2
  go_quiet (fail)
  go_wp2;go_ret;exact⟨by simp [hq],bdrewN (Below.refl _ _) _⟩
theorem to_f{x:Tb}{B q Z:Nat}{z:Int}(h:Pt tbE w B q x)(cz:w.cell? ⟨Z,0,none⟩=some (.int .i64 z)):Calls Tryz.prog 174 #[.pointer (some ⟨B,q,none⟩),.pointer (some ⟨Z,0,none⟩)] w fun e w'=>e=.returned (.bool (decide (x.id=z)))/\Below w.heap.size w w':=by
 obtain⟨cs,hE,hc⟩:=h;obtain⟨cv,iv,kv,rfl,_⟩:=hE;have c0:w.cell? ⟨B,q,none⟩=some (.int .i64 x.id):=hc 0 _ rfl;clear hc;obtain⟨y,hy⟩:∃ y,x.id=y:=⟨_,rfl⟩
 rw [hy]at c0 ⊢;obtain⟨r,hr⟩:∃ r,decide (y=z)=r:=⟨_,rfl⟩
 rw [hr];clear hy;by_cases hq:y=z
 ·have hr2:r=true:=by rw [<-hr];exact decide_eq_true hq
  subst hr2;clear hr;subst hq;go_enter Tryz.func174,Tryz.ntmps174;go_wp2
  go_quiet (fail)
  go_wp2;go_ret;exact⟨by simp,bdrewN (Below.refl _ _) _⟩
 ·have hr2:r=false:=by rw [<-hr];exact decide_eq_false hq
  subst hr2;clear hr;go_enter Tryz.func174,Tryz.ntmps174;go_wp2
  go_quiet (fail)
  go_wp2;go_ret;exact⟨by simp [hq],bdrewN (Below.refl _ _) _⟩
theorem rx_f{x:Ix}{B q Z:Nat}{z:Int}(h:Pt ixE w B q x)(cz:w.cell? ⟨Z,0,none⟩=some (.int .i64 z)):Calls Tryz.prog 170 #[.pointer (some ⟨B,q,none⟩),.pointer (some ⟨Z,0,none⟩)] w fun e w'=>e=.returned (.bool (decide (x.col=z)))/\Below w.heap.size w w':=by
 obtain⟨cs,hE,hc⟩:=h;cases hE;have c0:w.cell? ⟨B,q+2,none⟩=some (.int .i64 x.col):=hc 2 _ rfl;clear hc;obtain⟨y,hy⟩:∃ y,x.col=y:=⟨_,rfl⟩
 rw [hy]at c0 ⊢;obtain⟨r,hr⟩:∃ r,decide (y=z)=r:=⟨_,rfl⟩
 rw [hr];clear hy;by_cases hq:y=z
 ·have hr2:r=true:=by rw [<-hr];exact decide_eq_true hq
  subst hr2;clear hr;subst hq;go_enter Tryz.func170,Tryz.ntmps170;go_wp2
  go_quiet (fail)
  go_wp2;go_ret;exact⟨by simp,bdrewN (Below.refl _ _) _⟩
 ·have hr2:r=false:=by rw [<-hr];exact decide_eq_false hq
  subst hr2;clear hr;go_enter Tryz.func170,Tryz.ntmps170;go_wp2
  go_quiet (fail)
  go_wp2;go_ret;exact⟨by simp [hq],bdrewN (Below.refl _ _) _⟩
theorem rk_f{x:Fk}{B q Z:Nat}{z:Int}(h:Pt fkE w B q x)(cz:w.cell? ⟨Z,0,none⟩=some (.int .i64 z)):Calls Tryz.prog 171 #[.pointer (some ⟨B,q,none⟩),.pointer (some ⟨Z,0,none⟩)] w fun e w'=>e=.returned (.bool (decide (x.col=z)))/\Below w.heap.size w w':=by
 obtain⟨cs,hE,hc⟩:=h;cases hE;have c0:w.cell? ⟨B,q+2,none⟩=some (.int .i64 x.col):=hc 2 _ rfl;clear hc;obtain⟨y,hy⟩:∃ y,x.col=y:=⟨_,rfl⟩
 rw [hy]at c0 ⊢;obtain⟨r,hr⟩:∃ r,decide (y=z)=r:=⟨_,rfl⟩
 rw [hr];clear hy;by_cases hq:y=z
 ·have hr2:r=true:=by rw [<-hr];exact decide_eq_true hq
  subst hr2;clear hr;subst hq;go_enter Tryz.func171,Tryz.ntmps171;go_wp2
  go_quiet (fail)
  go_wp2;go_ret;exact⟨by simp,bdrewN (Below.refl _ _) _⟩
 ·have hr2:r=false:=by rw [<-hr];exact decide_eq_false hq
  subst hr2;clear hr;go_enter Tryz.func171,Tryz.ntmps171;go_wp2
  go_quiet (fail)
  go_wp2;go_ret;exact⟨by simp [hq],bdrewN (Below.refl _ _) _⟩
theorem tabN_any{L:List Tb}{v:Value}(z:ByteArray)(hL:Lr tbE 5 w L v):Calls Tryz.prog 97 #[v,.string z] w fun e w'=>e=.returned (.int .i64 (fidx (fun x=>decide (x.nm=z)) L))/\Below w.heap.size w w':=by
 obtain⟨W,hW⟩:∃ W,W=w.alloc (.cells #[.string z] 9):=⟨_,rfl⟩
 have hbW:=bw1 hW;obtain⟨Y0,hY0⟩:∃ Y0,w.heap.size=Y0:=⟨_,rfl⟩
 have jY0:W.heap[Y0]?=some (.cells #[.string z] 9 (0,0)):=nw11 hW hY0;have hcall:=findT_any (w:=W) (f:=137) (cs:=#[.pointer (some ⟨Y0,0,none⟩)]) (p:=fun x=>decide (x.nm=z)) (hL.on tbE_held hbW) goes137 (fun X hX B q x _ _ hp=>tn_f hp (cell_on hX (cell_blk jY0 0)));obtain⟨ad,cap,rfl,_⟩:=hL;have HW:=lh hW;have HBW:=lh hbW;have HY0:=lh hY0;clear hW hbW hY0;clear jY0;go_enter Tryz.func97,Tryz.ntmps97;go_upto_region 1 with fail
 rw [<-HW.out,HY0.out];go_wp2_with fail
 refine hcall.mono ?_;rintro e w1 ⟨rfl,b1⟩;go_wp2;go_ret;exact⟨rfl,bgo HBW.out b1⟩
theorem tabO_any{L:List Tb}{v:Value}(z:Int)(hL:Lr tbE 5 w L v):Calls Tryz.prog 158 #[v,.int .i64 z] w fun e w'=>e=.returned (.int .i64 (fidx (fun x=>decide (x.id=z)) L))/\Below w.heap.size w w':=by
 obtain⟨W,hW⟩:∃ W,W=w.alloc (.cells #[.int .i64 z] 3):=⟨_,rfl⟩
 have hbW:=bw1 hW;obtain⟨Y0,hY0⟩:∃ Y0,w.heap.size=Y0:=⟨_,rfl⟩
 have jY0:W.heap[Y0]?=some (.cells #[.int .i64 z] 3 (0,0)):=nw11 hW hY0;have hcall:=findT_any (w:=W) (f:=174) (cs:=#[.pointer (some ⟨Y0,0,none⟩)]) (p:=fun x=>decide (x.id=z)) (hL.on tbE_held hbW) goes174 (fun X hX B q x _ _ hp=>to_f hp (cell_on hX (cell_blk jY0 0)));obtain⟨ad,cap,rfl,_⟩:=hL;have HW:=lh hW;have HBW:=lh hbW;have HY0:=lh hY0;clear hW hbW hY0;clear jY0;go_enter Tryz.func158,Tryz.ntmps158;go_upto_region 1 with fail
 rw [<-HW.out,HY0.out];go_wp2_with fail
 refine hcall.mono ?_;rintro e w1 ⟨rfl,b1⟩;go_wp2;go_ret;exact⟨rfl,bgo HBW.out b1⟩
theorem colOf_any{t:Tb}{cv iv kv:Value}(z:Int)(hL:Lr colE 7 w t.cols cv)(hi:∃ a n m,iv=.slice a n m)(hk:∃ a n m,kv=.slice a n m):Calls Tryz.prog 155 #[tbV t cv iv kv,.int .i64 z] w fun e w'=>e=.returned (.int .i64 (colOf t z))/\Below w.heap.size w w':=by
 obtain⟨ia,inn,im,rfl⟩:=hi;obtain⟨ka,kn,km,rfl⟩:=hk;obtain⟨ad,cap,rfl,hr⟩:=hL;have hL:Lr colE 7 w t.cols (.slice ad t.cols.length cap):=⟨ad,cap,rfl,hr⟩
 obtain⟨W,hW⟩:∃ W,W=(w.alloc (.cells #[.int .i64 t.id,.string t.nm,.slice ad t.cols.length cap,.slice ia inn im,.slice ka kn km] 64)).alloc (.cells #[.int .i64 z] 3):=⟨_,rfl⟩
 have hbW:=bw2 hW;obtain⟨Y0,hY0⟩:∃ Y0,w.heap.size=Y0:=⟨_,rfl⟩
 obtain⟨Y1,hY1⟩:∃ Y1,Y0+1=Y1:=⟨_,rfl⟩
 have jY0:W.heap[Y0]?=some (.cells #[.int .i64 t.id,.string t.nm,.slice ad t.cols.length cap,.slice ia inn im,.slice ka kn km] 64 (0,0)):=nw21 hW hY0;have jY1:W.heap[Y1]?=some (.cells #[.int .i64 z] 3 (0,0)):=nw22 hW hY0 hY1;have hcall:=findC_any (w:=W) (f:=173) (cs:=#[.pointer (some ⟨Y1,0,none⟩)]) (p:=fun x=>decide (x.id=z)) (hL.on colE_held hbW) goes173 (fun X hX B q x _ _ hp=>co_f hp (cell_on hX (cell_blk jY1 0)));have c2:W.cell? ⟨Y0,2,none⟩=some (.slice ad t.cols.length cap):=cell_blk jY0 2;have HW:=lh hW;have HBW:=lh hbW;have HY0:=lh hY0;have HY1:=lh hY1;clear hW hbW hY0 hY1;clear jY0 jY1 hL hr;go_enter Tryz.func155,Tryz.ntmps155;go_upto_region 1 with fail
 rw [<-HW.out,HY0.out,HY1.out];go_wp2_with fail
 refine hcall.mono ?_;rintro e w1 ⟨rfl,b1⟩;go_wp2;go_ret;exact⟨rfl,bgo HBW.out b1⟩
theorem pub_f{x:Col}{B q Z:Nat}{z:ByteArray}(h:Pt colE w B q x)(cz:w.cell? ⟨Z,0,none⟩=some (.string z)):Calls Tryz.prog 179 #[.pointer (some ⟨B,q,none⟩),.pointer (some ⟨Z,0,none⟩)] w fun e w'=>e=.returned (.bool (decide (x.nm=z) && decide (x.st=3)))/\Below w.heap.size w w':=by
 obtain⟨cs,hE,hc⟩:=h;cases hE;have c0:w.cell? ⟨B,q+1,none⟩=some (.string x.nm):=hc 1 _ rfl;have c3:w.cell? ⟨B,q+3,none⟩=some (.int .i64 x.st):=hc 3 _ rfl;clear hc;have hs:=same_eq x.nm z;obtain⟨r,hr⟩:∃ r,decide (x.nm=z)=r:=⟨_,rfl⟩
 rw [hr]at hs ⊢;clear hr;cases r with
 | false =>
  go_enter Tryz.func179,Tryz.ntmps179;go_wp2
  go_quiet (fail)
  go_wp2;go_ret;exact⟨rfl,bdrewN (Below.refl _ _) _⟩
 | true =>
  obtain⟨y,hy⟩:∃ y,x.st=y:=⟨_,rfl⟩
  rw [hy]at c3 ⊢;clear hy;by_cases hq:y=3
  ·subst hq;go_enter Tryz.func179,Tryz.ntmps179;go_wp2
   go_quiet (fail)
   go_wp2;go_ret;exact⟨rfl,bdrewN (Below.refl _ _) _⟩
  ·go_enter Tryz.func179,Tryz.ntmps179;go_wp2
   go_quiet (fail)
   go_wp2;go_ret;exact⟨by simp [hq],bdrewN (Below.refl _ _) _⟩
end
end Go.Proofs.YtkhehikaemdnnaaGreat
