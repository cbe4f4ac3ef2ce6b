import Derived.Test.YtkhehikaemdnnaaGreatRows
import Derived.WalkKit
import Derived.WalkSpells
import Derived.WalkLawsBesides
import Derived.OwnWalk
import Derived.BigCall
import Derived.BigRegion
import Derived.Deep.QuietTactic
import Derived.BigQuiet
import Derived.Deep.OwnRows
import Derived.Deep.RegionWith
import Derived.Deep.RegionLaw
import Derived.Deep.RegionHeld3
import Derived.Laws.OwnMore
import Derived.Laws.CopyRow
import Derived.Laws.CopyOwn
import Derived.Maps.AppendAt
import Derived.Lib.Hide
namespace Go.Proofs.YtkhehikaemdnnaaGreat
theorem lh{p : Prop}(h : p): RowKit.Hid p := Lib.hid h
open Go.RowKit
structure Fr (w w':World) (S:Nat->Prop):Prop where
 os:w'.os=w.os
 tape:w'.tape=w.tape
 output:w'.output=w.output
 size:w.heap.size<=w'.heap.size
 block:∀ k,k<w.heap.size->¬ S k->w'.heap[k]?=w.heap[k]?
theorem Fr.refl(w:World)(S:Nat->Prop):Fr w w S:=⟨rfl,rfl,rfl,Nat.le_refl _,fun _ _ _=>rfl⟩
theorem Fr.trans{w w1 w2:World}{S:Nat->Prop}(h:Fr w w1 S)(k:Fr w1 w2 S):Fr w w2 S :=
 ⟨k.os.trans h.os,k.tape.trans h.tape,k.output.trans h.output,Nat.le_trans h.size k.size,fun j hj hr=>(k.block j (Nat.lt_of_lt_of_le hj h.size) hr).trans (h.block j hj hr)⟩
theorem Fr.step{w w1 w2:World}{S T:Nat->Prop}(h:Fr w w1 S)(k:Fr w1 w2 T)(hT:∀ j,T j->S j\/w.heap.size<=j):Fr w w2 S :=
 ⟨k.os.trans h.os,k.tape.trans h.tape,k.output.trans h.output,Nat.le_trans h.size k.size,fun j hj hr=>(k.block j (Nat.lt_of_lt_of_le hj h.size) (fun q=>by rcases hT j q with q | q;exact hr q;omega)).trans (h.block j hj hr)⟩
theorem Fr.mono{w w':World}{S T:Nat->Prop}(h:Fr w w' S)(hT:∀ j,S j->T j):Fr w w' T :=
 ⟨h.os,h.tape,h.output,h.size,fun j hj hr=>h.block j hj (fun q=>hr (hT j q))⟩
theorem Fr.alloc{w w1:World}{S:Nat->Prop}(h:Fr w w1 S)(o:Obj):Fr w (w1.alloc o) S :=
 ⟨h.os,h.tape,h.output,Nat.le_trans h.size (by simp),fun j hj hr=>(Below.heap_alloc w1 o j (Nat.lt_of_lt_of_le hj h.size)).trans (h.block j hj hr)⟩
theorem Fr.set{w w1:World}{S:Nat->Prop}(h:Fr w w1 S){a:Addr}(ha:S a.block\/w.heap.size<=a.block)(u:Value):Fr w (w1.setCell a u) S :=
 ⟨h.os,h.tape,h.output,Nat.le_trans h.size (by simp [World.setCell]),fun j hj hr=>(Below.heap_setCell w1 a u j (by rintro rfl;rcases ha with ha | ha;exact hr ha;omega)).trans (h.block j hj hr)⟩
theorem Fr.drewN{w w1:World}{S:Nat->Prop}(h:Fr w w1 S)(k:Nat):Fr w (w1.drewN k) S:=⟨h.os,h.tape,h.output,h.size,h.block⟩
theorem Fr.grown{w w1 w2:World}{S:Nat->Prop}{row:Option Nat}(h:Fr w w1 S)(k:w1.grownBy w2 row)(hr:∀ k,row=some k->S k\/w.heap.size<=k):Fr w w2 S :=
 ⟨k.os.trans h.os,k.tape.trans h.tape,k.output.trans h.output,Nat.le_trans h.size k.size,fun j hj hrj=>(k.block j (Nat.lt_of_lt_of_le hj h.size) (fun e=>by rcases hr j e.symm with q | q;exact hrj q;omega)).trans (h.block j hj hrj)⟩
theorem Fr.below{w w1 w2:World}{S:Nat->Prop}(h:Fr w w1 S)(k:Below w1.heap.size w1 w2):Fr w w2 S :=
 ⟨k.os.trans h.os,k.tape.trans h.tape,k.output.trans h.output,Nat.le_trans h.size k.size,fun j hj hrj=>(k.block j (Nat.lt_of_lt_of_le hj h.size)).trans (h.block j hj hrj)⟩
theorem Fr.toBelow{w w':World}{S:Nat->Prop}{B:Nat}(h:Fr w w' S)(hS:∀ k,k<B->¬ S k)(hB:B<=w.heap.size):Below B w w' :=
 ⟨h.os,h.tape,h.output,h.size,fun k hk=>h.block k (by omega) (hS k hk)⟩
theorem Fr.ofBelow{w w':World}(S:Nat->Prop)(h:Below w.heap.size w w'):Fr w w' S:=⟨h.os,h.tape,h.output,h.size,fun k hk _=>h.block k hk⟩
theorem Fr.fresh{w w':World}{S:Nat->Prop}(h:Fr w w' S)(hS:∀ k,S k->w.heap.size<=k):Below w.heap.size w w' :=
 ⟨h.os,h.tape,h.output,h.size,fun k hk=>h.block k hk (fun q=>by have:=hS k q;omega)⟩
theorem cell_blk{w:World}{b:Nat}{cs:Array Value}{t:TypeId}{fr:Nat × Nat}(h:w.heap[b]?=some (.cells cs t fr))(i:Nat):w.cell? ⟨b,i,none⟩=cs[i]?:=by simp [World.cell?,h]
theorem frozen_blk{w:World}{b:Nat}{cs:Array Value}{t:TypeId}(h:w.heap[b]?=some (.cells cs t (0,0)))(i:Nat):w.frozen? ⟨b,i,none⟩=false:=by simp [World.frozen?,h]
theorem set_blk{w:World}{b i:Nat}{cs:Array Value}{t:TypeId}{fr:Nat × Nat}(h:w.heap[b]?=some (.cells cs t fr))(v:Value):(w.setCell ⟨b,i,none⟩ v).heap[b]?=some (.cells (cs.setIfInBounds i v) t fr):=by
 have hlt:=(Array.getElem?_eq_some_iff.1 h).1;simp [World.setCell,Array.getElem?_modify,h]
theorem set_other{w:World}{a:Addr}{k:Nat}(v:Value)(h:k≠a.block):(w.setCell a v).heap[k]?=w.heap[k]?:=Below.heap_setCell w a v k h
theorem blk_lt{w:World}{b:Nat}{o:Obj}(h:w.heap[b]?=some o):b<w.heap.size:=(Array.getElem?_eq_some_iff.1 h).1
theorem own_like{w w':World}{base:Nat}{e:TypeId}{size:Nat}{v:Value}{n:Nat}{xs:List Value}(h:w.ownsRow base e size v n xs)(hb:∀ k,v.ownBlock=some k->w'.heap[k]?=w.heap[k]?):w'.ownsRow base e size v n xs:=by
 refine⟨h.1,?_⟩;rcases h.2 with hn | ⟨g,cap,cur,rfl,hb0,hgg,rest⟩
 ·exact .inl hn
 ·exact .inr ⟨g,cap,cur,rfl,hb0,(hb g rfl).trans hgg,rest⟩
theorem own_mono{w:World}{B1 B2:Nat}{v:Value}{e:TypeId}{c m:Nat}{xs:List Value}(h:w.ownsRow B2 e c v m xs)(hB:B1<=B2):w.ownsRow B1 e c v m xs:=by
 rcases h with⟨h1,h2 | ⟨g,cap,cur,hv,hg,hr⟩⟩
 ·exact⟨h1,.inl h2⟩
 ·exact⟨h1,.inr ⟨g,cap,cur,hv,Nat.le_trans hB hg,hr⟩⟩
theorem own_below{B:Nat}{e:TypeId}{k:Nat}{v:Value}{n:Nat}{xs:List Value}{w w':World}(h:w.ownsRow B e k v n xs)(hb:Below w.heap.size w w'):w'.ownsRow B e k v n xs :=
 own_like h (fun j hj=>hb.block j (h.lt j hj).2)
theorem row_keep{w w':World}{B:Nat}{S:Nat->Prop}{v:Value}{e:TypeId}{c m:Nat}{xs:List Value}(h:w.ownsRow B e c v m xs)(hf:Fr w w' S)(hs:∀ j,v.ownBlock=some j->¬ S j):w'.ownsRow B e c v m xs :=
 own_like h (fun j hj=>hf.block j (h.lt j hj).2 (hs j hj))
theorem own_shape{w:World}{B:Nat}{v:Value}{e:TypeId}{c m:Nat}{xs:List Value}(h:w.ownsRow B e c v m xs):∃ ad cap,v=.slice ad m cap:=by
 rcases h.2 with⟨hv,h0⟩ | ⟨g,cap,cur,hv,_⟩
 ·exact⟨none,0,by rw [hv,h0]⟩
 ·exact⟨_,cap,hv⟩
theorem add_at(g o k:Nat):(⟨g,o,none⟩:Addr).add k=⟨g,o+k,none⟩:=by unfold Addr.add;split <;> simp_all
end Go.Proofs.YtkhehikaemdnnaaGreat
namespace Go.Proofs.YtkhehikaemdnnaaGreat
set_option maxHeartbeats 1000000
open Go.RowKit
def rightB(k n:Int)(s:ByteArray):Bool:=if k == 0 then (n == 0) && s.toList.isEmpty else if k == 1 then s.toList.isEmpty else (k == 2) && (n == 0) && decide ((s.size:Int)<=64)
theorem rightB_eq(k n:Int)(s:ByteArray):rightB k n s=bif k == 0 then (n == 0) && s.toList.isEmpty else bif k == 1 then s.toList.isEmpty else (k == 2) && (n == 0) && decide ((s.size:Int)<=64):=by
 unfold rightB;cases k == 0 <;> cases k == 1 <;> rfl
theorem check_any(k n:Int)(s:ByteArray)(w:World):
  Calls Tryz.prog 172 #[.agg #[.int .i64 k,.int .i64 n,.string s]] w fun e w'=>e=.returned (.int .i64 (if rightB k n s then 0 else 10))/\Below w.heap.size w w':=by
 have hb:∀ o,Below w.heap.size w (w.alloc o):=fun o=>(Below.refl _ _).alloc (Nat.le_refl _) o;cases h0:(k == 0) <;> cases h1:(k == 1) <;> cases h2:(k == 2) <;> cases h3:(n == 0) <;> cases h4:s.toList.isEmpty <;> cases h5:decide ((s.size:Int)<=64)
 all_goals first
  | (exfalso;simp only [beq_iff_eq,beq_eq_false_iff_ne,ne_eq]at h0 h1 h2;omega)
  | skip
 all_goals
  have hr:=rightB_eq k n s;rw [h0,h1,h2,h3,h4,h5]at hr;rw [hr];clear hr;go_enter Tryz.func172,Tryz.ntmps172;go_wp2;go_ret;exact⟨rfl,hb _⟩
end Go.Proofs.YtkhehikaemdnnaaGreat
namespace Go.Proofs.YtkhehikaemdnnaaGreat
structure Vl where
 k:Int
 n:Int
 s:ByteArray
structure Col where
 id:Int
 nm:ByteArray
 kd:Int
 st:Int
 df:Vl
structure Ix where
 id:Int
 nm:ByteArray
 col:Int
 uq:Bool
 st:Int
structure Fk where
 id:Int
 nm:ByteArray
 col:Int
 par:Int
 st:Int
structure Tb where
 id:Int
 nm:ByteArray
 cols:List Col
 ixs:List Ix
 fks:List Fk
structure Sc where
 ver:Int
 last:Int
 tabs:List Tb
structure Dd where
 kind:Int
 table:ByteArray
 name:ByteArray
 column:ByteArray
 parent:ByteArray
 uq:Bool
 ty:Int
 df:Vl
 cols:List Col
abbrev dqA(d:Dd)(v:Value):Array Value:=#[.int .i64 d.kind,.string d.table,.string d.name,.string d.column,.string d.parent,.bool d.uq,.int .i64 d.ty,.int .i64 d.df.k,.int .i64 d.df.n,.string d.df.s,v]
def fidx{α:Type}(p:α->Bool)(L:List α):Int:=match L.findIdx? p with
 | some i=>(i:Int)
 | none=>-1
theorem fidx_at{α:Type}{p:α->Bool}{L:List α}{i:Nat}(h:i<L.length)(hp:p L[i]=true)(hb:∀ j (hj:j<L.length),j<i->p L[j]=false):fidx p L=(i:Int):=by
 unfold fidx;have:L.findIdx? p=some i:=List.findIdx?_eq_some_iff_getElem.2 ⟨h,hp,fun j hj=>by
  rw [hb j (by omega) hj];simp⟩
 rw [this]
theorem fidx_none{α:Type}{p:α->Bool}{L:List α}(hb:∀ j (hj:j<L.length),p L[j]=false):fidx p L=-1:=by
 unfold fidx;have:L.findIdx? p=none:=List.findIdx?_eq_none_iff.2 fun x hx=>by
  obtain⟨i,hi,e⟩:=List.getElem_of_mem hx;rw [<-e];exact hb i hi
 rw [this]
theorem fidx_cases{α:Type}(p:α->Bool)(L:List α):(fidx p L=-1/\∀ x ∈ L,p x=false)\/∃ (i:Nat) (h:i<L.length),fidx p L=(i:Int)/\p L[i]=true/\∀ j (hj:j<L.length),j<i->p L[j]=false:=by
 unfold fidx;cases h:L.findIdx? p with
 | none=>exact .inl ⟨rfl,fun x hx=>by simpa using List.findIdx?_eq_none_iff.1 h x hx⟩
 | some i =>
  obtain⟨hi,hp,hb⟩:=List.findIdx?_eq_some_iff_getElem.1 h;exact .inr ⟨i,hi,rfl,hp,fun j hj hji=>by simpa using hb j hji⟩
theorem fidx_any{α:Type}(p:α->Bool)(L:List α):decide (0<=fidx p L)=L.any p:=by
 rcases fidx_cases p L with⟨e,h⟩ | ⟨i,hi,e,hp,_⟩
 ·rw [e];have:L.any p=false:=by
   rw [List.any_eq_false];intro x hx;simp [h x hx]
  rw [this];rfl
 ·rw [e];have:L.any p=true:=List.any_eq_true.2 ⟨_,List.getElem_mem hi,hp⟩;rw [this];exact decide_eq_true (by omega)
def letB(c:UInt8):Bool:=decide (97<=c.toNat) && decide (c.toNat<=122)
def digB(c:UInt8):Bool:=decide (48<=c.toNat) && decide (c.toNat<=57)
def chB(c:UInt8):Bool:=letB c || digB c || decide (c.toNat=95)
def nameL(l:List UInt8):Bool:=match l with
 | []=>false
 | c :: r=>decide (r.length<16) && letB c && r.all chB
def nameB(s:ByteArray):Bool:=nameL s.data.toList
theorem nameB_len(s:ByteArray):s.data.toList.length=s.size:=Array.length_toList
theorem nameB_no{s:ByteArray}(h:s.size=0\/16<s.size):nameB s=false:=by
 unfold nameB nameL;have hl:=nameB_len s;cases e:s.data.toList with
 | nil=>rfl
 | cons c r =>
  rw [e,List.length_cons]at hl;have:¬ r.length<16:=by omega
  simp [this]
theorem nameL_iff{l:List UInt8}{n:Nat}{f:(i:Nat)->i<n->UInt8}(hl:l.length=n)(hg:∀ i (h:i<n),f i h=l[i]'(by omega))(h0:0<n)(h1:n<=16):nameL l=true ↔ letB (f 0 h0)=true/\∀ i (h:i<n),chB (f i h)=true:=by
 unfold nameL;rw [hg 0 h0]
 match l,hl,hg with
 | [],hl,_=>simp at hl;omega
 | c :: r,hl,hg =>
  rw [List.length_cons]at hl;have h16:r.length<16:=by omega
  simp only [h16,decide_true,Bool.true_and,Bool.and_eq_true,List.all_eq_true,List.getElem_cons_zero]
  constructor
  ·rintro ⟨a,b⟩;refine⟨a,fun i h=>?_⟩;rw [hg i h];cases i with
   | zero =>
    show chB c=true
    unfold chB;rw [a];rfl
   | succ i=>exact b _ (by rw [List.getElem_cons_succ];exact List.getElem_mem _)
  ·rintro ⟨a,b⟩;refine⟨a,fun x hx=>?_⟩;obtain⟨i,hi,ex⟩:=List.getElem_of_mem hx;have:=b (i+1) (by omega);rw [hg (i+1) (by omega)]at this;rw [List.getElem_cons_succ]at this;rw [<-ex];exact this
theorem nameB_iff{s:ByteArray}(h0:0<s.size)(h1:s.size<=16):nameB s=true ↔ letB s[0]=true/\∀ i (h:i<s.size),chB s[i]=true :=
 nameL_iff (f:=fun i h=>s[i]) (nameB_len s) (fun i h=>by rw [Array.getElem_toList];rfl) h0 h1
def kindB(k:Int):Bool:=decide (k=1)|| decide (k=2)
def fitB(v:Vl)(k:Int):Bool:=rightB v.k v.n v.s && (decide (v.k=0)|| decide (v.k=k))
def stB(s:Int):Bool:=decide (1<=s) && decide (s<=3)
def partsB{α:Type}(nm:α->ByteArray)(st:α->Int)(l:List α):Bool:=l.all (fun x=>nameB (nm x) && stB (st x)) && decide (l.map nm).Nodup
def cntB(t:Tb):Bool:=decide (1<=t.cols.length) && decide (t.cols.length<=8) && decide (t.ixs.length<=8) && decide (t.fks.length<=8)
def keyB(t:Tb):Bool:=match t.cols with
 | []=>false
 | c :: _=>decide (c.st=3)
def elB(t:Tb):Bool:=t.cols.all (fun c=>kindB c.kd && fitB c.df c.kd) && keyB t && partsB Col.nm Col.st t.cols && partsB Ix.nm Ix.st t.ixs && partsB Fk.nm Fk.st t.fks
def tabB(t:Tb):Bool:=cntB t && nameB t.nm && elB t
def idsT(t:Tb):List Int:=t.id :: (t.cols.map Col.id ++ t.ixs.map Ix.id ++ t.fks.map Fk.id)
def idsS(l:List Tb):List Int:=l.flatMap idsT
def colOf(t:Tb)(i:Int):Int:=fidx (fun c=>decide (c.id=i)) t.cols
def tabOf(l:List Tb)(i:Int):Int:=fidx (fun t=>decide (t.id=i)) l
def keyKd(t:Tb):Option Int:=t.cols.head?.map Col.kd
def fkB(l:List Tb)(t:Tb)(k:Fk):Bool:=match t.cols.find? (fun c=>decide (c.id=k.col)),l.find? (fun t=>decide (t.id=k.par))with
 | some c,some p=>decide (keyKd p=some c.kd)
 | _,_=>false
def linkB(l:List Tb)(t:Tb):Bool:=t.ixs.all (fun x=>t.cols.any (fun c=>decide (c.id=x.col))) && t.fks.all (fkB l t)
def farB(n:Int):Bool:=decide (0<=n) && decide (n<=1125899906842624)
def rightS(s:Sc):Bool:=farB s.ver && farB s.last && decide (s.tabs.length<=6) && s.tabs.all tabB && (idsS s.tabs).all (fun i=>decide (1<=i) && decide (i<=s.last)) && decide (idsS s.tabs).Nodup && decide (s.tabs.map Tb.nm).Nodup && s.tabs.all (linkB s.tabs)
def setAt{α:Type}(st:Int)(i:Nat)(f:α->α)(l:List α):List α:=l.take i ++ (if st=0 then [] else ((l.drop i).take 1).map f) ++ l.drop (i+1)
def addL{α:Type}(nm:α->ByteArray)(stt:α->Int)(put:Int->α->α)(l:List α)(name:ByteArray)(st:Int)(new:Except Int α):Except Int (List α × Bool) :=
 match l.findIdx? (fun x=>decide (nm x=name))with
 | some i=>if (l[i]?.map stt)=some 3 then .error 152 else .ok (setAt st i (put st) l,false)
 | none=>if nameB name=false then .error 100 else if l.length=8 then .error 156 else match new with
  | .error e=>.error e
  | .ok x=>if st=0 then .error 1 else .ok (l ++ [put st x],true)
def putC(st:Int)(c:Col):Col:={ c with st:=st }
def putI(st:Int)(c:Ix):Ix:={ c with st:=st }
def putK(st:Int)(c:Fk):Fk:={ c with st:=st }
def newC(s:Sc)(d:Dd):Except Int Col:=if kindB d.ty && fitB d.df d.ty then .ok ⟨s.last+1,d.column,d.ty,0,d.df⟩ else .error 154
def pubC(t:Tb)(name:ByteArray):Option Col:=t.cols.find? (fun c=>decide (c.nm=name) && decide (c.st=3))
def newI(s:Sc)(t:Tb)(d:Dd):Except Int Ix:=match pubC t d.column with
 | none=>.error 151
 | some c=>.ok ⟨s.last+1,d.name,c.id,d.uq,0⟩
def newK(s:Sc)(t:Tb)(d:Dd):Except Int Fk:=match pubC t d.column with
 | none=>.error 151
 | some c=>match s.tabs.find? (fun t=>decide (t.nm=d.parent))with
  | none=>.error 150
  | some p=>if keyKd p=some c.kd then .ok ⟨s.last+1,d.name,c.id,p.id,0⟩ else .error 154
def usedB(t:Tb)(i:Nat)(c:Col):Bool:=decide (i=0)|| t.ixs.any (fun x=>decide (x.col=c.id))|| t.fks.any (fun x=>decide (x.col=c.id))
def dropL{α:Type}(nm:α->ByteArray)(put:Int->α->α)(l:List α)(name:ByteArray)(st:Int)(no:Int)(used:Nat->α->Bool):Except Int (List α) :=
 match l.findIdx? (fun x=>decide (nm x=name))with
 | none=>.error no
 | some i=>if (l[i]?.map (used i))=some true then .error 155 else .ok (setAt st i (put st) l)
def withC(s:Sc)(i:Nat)(t:Tb)(l:List Col)(b:Bool):Sc:=⟨s.ver+1,if b then s.last+1 else s.last,s.tabs.set i { t with cols:=l }⟩
def withI(s:Sc)(i:Nat)(t:Tb)(l:List Ix)(b:Bool):Sc:=⟨s.ver+1,if b then s.last+1 else s.last,s.tabs.set i { t with ixs:=l }⟩
def withK(s:Sc)(i:Nat)(t:Tb)(l:List Fk)(b:Bool):Sc:=⟨s.ver+1,if b then s.last+1 else s.last,s.tabs.set i { t with fks:=l }⟩
def freshC(k:Int):List Col->List Col
 | []=>[]
 | c :: r=>⟨k,c.nm,c.kd,3,⟨0,0,⟨#[]⟩⟩⟩ :: freshC (k+1) r
def createS(s:Sc)(d:Dd)(st:Int):Except Int Sc :=
 if nameB d.table=false\/d.cols.all (fun c=>nameB c.nm)=false then .error 100
 else if s.tabs.any (fun t=>decide (t.nm=d.table))=true\/¬ (d.cols.map Col.nm).Nodup then .error 152
 else if s.tabs.length=6\/d.cols.length<1\/8<d.cols.length then .error 156
 else if d.cols.all (fun c=>kindB c.kd)=false then .error 154
 else if st≠3 then .error 1
 else .ok ⟨s.ver+1,s.last+1+d.cols.length,s.tabs ++ [⟨s.last+1,d.table,freshC (s.last+2) d.cols,[],[]⟩]⟩
def changeT(s:Sc)(d:Dd)(st:Int)(i:Nat)(t:Tb):Except Int Sc :=
 if d.kind=4 then match addL Col.nm Col.st putC t.cols d.column st (newC s d)with
  | .error e=>.error e
  | .ok (l,b)=>.ok (withC s i t l b)
 else if d.kind=2 then match addL Ix.nm Ix.st putI t.ixs d.name st (newI s t d)with
  | .error e=>.error e
  | .ok (l,b)=>.ok (withI s i t l b)
 else if d.kind=6 then match addL Fk.nm Fk.st putK t.fks d.name st (newK s t d)with
  | .error e=>.error e
  | .ok (l,b)=>.ok (withK s i t l b)
 else if d.kind=5 then match dropL Col.nm putC t.cols d.column st 151 (usedB t)with
  | .error e=>.error e
  | .ok l=>.ok (withC s i t l false)
 else if d.kind=3 then match dropL Ix.nm putI t.ixs d.name st 153 (fun _ _=>false)with
  | .error e=>.error e
  | .ok l=>.ok (withI s i t l false)
 else match dropL Fk.nm putK t.fks d.name st 153 (fun _ _=>false)with
  | .error e=>.error e
  | .ok l=>.ok (withK s i t l false)
def changeS(s:Sc)(d:Dd)(st:Int):Except Int Sc :=
 if d.kind<1\/7<d.kind then .error 1
 else if d.kind=1 then createS s d st
 else match s.tabs.findIdx? (fun t=>decide (t.nm=d.table))with
  | none=>.error 150
  | some i=>match s.tabs[i]? with
   | none=>.error 150
   | some t=>changeT s d st i t
def turnS(s:Sc)(d:Dd)(st:Int):Except Int Sc:=if rightS s=false\/st<0\/3<st then .error 100 else changeS s d st
end Go.Proofs.YtkhehikaemdnnaaGreat
