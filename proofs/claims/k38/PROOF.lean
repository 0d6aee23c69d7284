import PyProof.Rows.All
import Wide.All
import OpenK.AllK
import Wide.FinOn
import Lean
import PyProof.EqAt
import PyProof.EqKinds
import PyProof.TupleCall
import PyProof.StrBlockL
import PyProof.EnumMake
import PyProof.CollectIter
import PyProof.JoinWalk
import PyProof.StrOps
import PyProof.StrLawsIdx
import PyProof.StrLawsIn
import PyProof.ListRange
import PyProof.Rows.Range3
import PyProof.Rows.SumAny
import KE.KIntText
import KE.LcSums
import PyProof.LongRange
import PyProof.StrOps2
import PyProof.FitsBits
import PyProof.NeKinds
import PyProof.Rows.ZipGen
import PyProof.Draws
import PyProof.Rows.SeqMore
import PyProof.Rows.SortRev
import PyProof.Rows.SortWalk
import PyProof.Rows.CallKwBuiltin
import PyProof.Rows.MinMaxN
import PyProof.ConsumeWalk
import PyProof.Rows.SortRuns
import KE.KLam
import KE.KSortKey
import KE.KRevIter
import PyProof.Rows.SetFrom
import PyProof.CollectWalk
import PyProof.DictWalks
import PyProof.TupleKey
import KE.KSortTup
import PySem.Challenge.RW_heddle_k38_seams
set_option Elab.async false
set_option linter.all false
set_option maxRecDepth 100000
namespace Zz
def Ak8:=@Nat.le_refl
def Ak9:=@List.getElem?_eq_getElem
def AkA:=@List.length_map
def AkB:=@List.size_toArray
def AkC:=@List.length_range
def AkD:=@Nat.zero_le
def AkE:=@List.length_append
def AkF:=@Nat.ne_of_lt
def AkG:=@List.getElem?_map
def AkH:=@List.getD_eq_getElem?_getD
def AkI:=@List.getElem_mem
def AkJ:=@Int.toNat_natCast
def AkK:=@Nat.lt_of_lt_of_le
def AkL:=@Bool.false_ne_true
def AkM:=@List.mem_cons_self
def AkN:=@List.mem_cons_of_mem
def AkO:=@List.length_take
def AkP:=@List.map_append
def AkQ:=@List.mem_of_getElem?
def AkR:=@List.length_cons
def AkS:=@Nat.le_trans
def AkT:=@List.map_cons
def AkU:=@List.mem_append_right
def AkV:=@List.mem_cons
def AkW:=@List.getElem_of_mem
def AkX:=@List.pairwise_map
def AkY:=@List.lookup_cons
def AkZ:=@List.take_of_length_le
def Ala:=@List.not_mem_nil
def Alb:=@List.append_nil
def Alc:=@Int.emod_lt_of_pos
def Ald:=@Int.emod_nonneg
def Ale:=@List.flatten_cons
def Alf:=@Nat.lt_irrefl
def Alh:=@List.length_drop
def Ali:=@Bool.false_eq_true
def Alj:=@List.take_append_drop
def Alk:=@List.getElem?_append_right
def Alm:=@List.getElem?_append_left
def Aln:=@List.range_succ
def Alo:=@List.mem_filter
def Alp:=@Nat.ne_of_gt
def Alq:=@Nat.le_succ
def Alr:=@List.getElem?_range
def Als:=@List.map_take
def Alu:=@Nat.sub_self
def Alv:=@List.append_assoc
def Alw:=@List.map_map
def Alx:=@Nat.zero_add
def Aly:=@List.getElem?_eq_none
def Alz:=@Nat.min_eq_left
def Al0:=@Nat.add_sub_cancel_left
def Al1:=@Int.zero_add
def Al2:=@List.sum_cons
def Al3:=@List.ext_getElem
def Al4:=@List.getElem_map
def Al5:=@List.mem_append
def Al6:=@Nat.lt_or_ge
def Al7:=@List.take_length
def Al8:=@Nat.le_of_lt
def Al9:=@List.take_sublist
def AlA:=@Nat.succ_mul
def AlB:=@List.nil_append
def AlC:=@Nat.lt_succ_self
def AlD:=@List.take_add_one
def AlE:=@Int.natCast_mul
def AlF:=@List.filter_append
def AlG:=@List.mem_map
def AlH:=@List.mem_of_mem_take
def AlI:=@Nat.mod_lt
def AlJ:=@Bool.eq_iff_iff
def AlK:=@List.replicate_succ
def AlL:=@Nat.lt_trichotomy
def AlM:=@List.map_congr_left
def AlN:=@List.perm_ext_iff_of_nodup
def AlO:=@List.map_drop
def AlP:=@List.getElem?_set_ne
def AlQ:=@List.length_replicate
def AlR:=@List.length_set
def AlS:=@Nat.le_of_eq
def AlT:=@Nat.lt_succ_of_lt
def AlU:=@Nat.mul_add
def AlV:=@Int.natCast_add
def AlW:=@List.getElem_range
def AlX:=@List.nodup_range
def AlY:=@List.filter_cons
def AlZ:=@Int.mul_one
def Ama:=@List.map_nil
def Amb:=@Bool.and_eq_true
def Amc:=@Int.le_refl
def Amd:=@Nat.mul_one
def Ame:=@List.getElem?_of_mem
def Amf:=@List.mem_of_mem_drop
def Amg:=@Nat.succ_pos
def Amh:=@List.filterMap_cons
def Ami:=@Nat.mul_comm
def Amj:=@List.forIn_cons
def Amk:=@List.all_eq_true
def Aml:=@Nat.min_self
def Amm:=@Int.natCast_one
def Amn:=@List.flatMap_append
def Amo:=@List.take_zero
def Amp:=@List.mem_range
def Amq:=@List.ext_getElem?
def Amr:=@Nat.le_of_lt_succ
def Ams:=@List.mem_append_left
def Amt:=@List.getElem?_set_self
def Amu:=@List.getElem?_take_of_lt
def Amv:=@Nat.le_of_not_lt
def Amw:=@List.cons_append
def Amx:=@List.pairwise_iff_getElem
def Amy:=@List.length_filter_le
def Amz:=@List.count_append
def Am0:=@List.mem_erase_of_ne
def Am1:=@List.length_erase_of_mem
def Am2:=@List.length_pos_of_mem
def Am3:=@List.nodup_append
def Am4:=@List.filter_cons_of_pos
def Am5:=@List.filter_cons_of_neg
def Am6:=@List.perm_middle
def Am7:=@List.getElem?_drop
def Am8:=@List.count_le_length
def Am9:=@List.take_succ_eq_append_getElem
def AmA:=@List.eraseIdx_eq_take_drop_succ
end Zz
open Zz
namespace L2
open PySem PySem.Spec PyProof.Rows
abbrev Key:=Sum Int Str
def AeY:Key→Value→Bool
 | .inl k,v=>Value.isInt k v
 | .inr x,v=>Value.isStrOf x v
def Ais (w:World):Key→Int
 | .inl k=>hashInt k
 | .inr x=>hashStr w x
theorem Dj:∀{k:Key} {v:Value},AeY k v=true→(∃ i t,k=Sum.inl i∧v=Value.int i t)∨(∃ x t,k=Sum.inr x∧v=Value.str x t)
 | .inl i,v,h=>by
  obtain⟨t,e⟩:=Value.isInt_shape (k:=i) (v:=v) h
  exact .inl ⟨i,t,rfl,e⟩
 | .inr x,v,h=>by
  obtain⟨t,e⟩:=Value.isStrOf_shape (x:=x) (v:=v) h
  exact .inr ⟨x,t,rfl,e⟩
theorem Af2(a b:Int):decide ((Sum.inl a:Key)=Sum.inl b)=(a == b):=by
 by_cases e:a=b
 ·subst e;simp
 ·have h:¬(Sum.inl a:Key)=Sum.inl b:=fun q=>e (Sum.inl.inj q)
  rw[decide_eq_false h]
  exact(beq_eq_false_iff_ne.mpr e).symm
theorem Af3(a b:Str):decide ((Sum.inr a:Key)=Sum.inr b)=decide (a=b):=by
 by_cases e:a=b
 ·subst e;simp
 ·have h:¬(Sum.inr a:Key)=Sum.inr b:=fun q=>e (Sum.inr.inj q)
  rw[decide_eq_false h,decide_eq_false e]
theorem Af4(a:Int)(b:Str):decide ((Sum.inl a:Key)=Sum.inr b)=false:=decide_eq_false (fun q=>nomatch q)
theorem Af5(a:Str)(b:Int):decide ((Sum.inr a:Key)=Sum.inl b)=false:=decide_eq_false (fun q=>nomatch q)
def BW (prog:Program)(w:World):PySem.KeyKind prog w Key where
 is:=AeY
 hash:=Ais w
 inj:=fun v a b ha hb=>by
  rcases Dj ha with ⟨i,t,rfl,rfl⟩ | ⟨x,t,rfl,rfl⟩
  ·rcases Dj hb with ⟨j,u,rfl,e⟩ | ⟨y,u,rfl,e⟩
   ·injection e with e1 _;rw[e1]
   ·exact nomatch e
  ·rcases Dj hb with ⟨j,u,rfl,e⟩ | ⟨y,u,rfl,e⟩
   ·exact nomatch e
   ·injection e with e1 _;rw[e1]
 byValue:=fun k v h=>by
  rcases Dj h with ⟨i,t,rfl,rfl⟩ | ⟨x,t,rfl,rfl⟩ <;> rfl
 pyHash:=fun hv h=>by
  rcases Dj hv with ⟨i,t,rfl,rfl⟩ | ⟨x,t,rfl,rfl⟩
  ·exact wpAny_pyHash_int h
  ·exact wpAny_pyHash_str h
 eqBool:=fun hu hv h=>by
  rcases Dj hu with ⟨i,t,rfl,rfl⟩ | ⟨x,t,rfl,rfl⟩
  ·rcases Dj hv with ⟨j,u,rfl,rfl⟩ | ⟨y,u,rfl,rfl⟩
   ·rw[Af2] at h;exact wpAny_eqBool_int h
   ·rw[Af4] at h;exact SeqAt.EqAt.int_str i t y u _ _ _ _ h
  ·rcases Dj hv with ⟨j,u,rfl,rfl⟩ | ⟨y,u,rfl,rfl⟩
   ·rw[Af5] at h;exact SeqAt.EqAt.str_int x t j u _ _ _ _ h
   ·rw[Af3] at h;exact wpAny_eqBool_str h
 «strs»:=fun k x t v h=>by
  rcases Dj h with ⟨i,u,rfl,e⟩ | ⟨y,u,rfl,e⟩
  ·exact nomatch e
  ·injection e with e1 _
   subst e1
   cases v <;> rfl
open PySem PySem.Spec PyProof.Rows
inductive V where
 | non | bl (b:Bool) | int (i:Int) | str (x:Str) | byt (b:Array UInt8) | flt (b:UInt64) | ref (a:Addr) | ty (n:String)
 deriving DecidableEq
def RelV:V→Value→Prop
 | .non,u=>u=Value.none
 | .bl b,u=>u=Value.bool b
 | .int i,u=>∃ t,u=Value.int i t
 | .str x,u=>∃ t,u=Value.str x t
 | .byt b,u=>∃ t,u=Value.bytes b t
 | .flt b,u=>∃ t,u=Value.float b t
 | .ref a,u=>u=Value.ref a
 | .ty n,u=>u=Value.type n
abbrev Vals:List V→List Value→Prop:=Paired RelV
theorem Vals.length{xs:List V}{us:List Value}(r:Vals xs us):xs.length=us.length:=Paired.length r
theorem Vals.get:∀{xs:List V} {us:List Value} {i:Nat} {x:V},Vals xs us→xs[i]?=some x→∃ u,us[i]?=some u∧RelV x u
 | _,_,_,_,.nil,e=>by simp at e
 | _,_,0,_,.cons r _,e=>by simp at e;subst e;exact⟨_,rfl,r⟩
 | _,_,i+1,x,.cons _ t,e=>by
  obtain⟨u,h1,h2⟩:=Vals.get (i:=i) (x:=x) t (by simpa using e)
  exact⟨u,by simpa using h1,h2⟩
theorem Vals.set{x:V}{u:Value}(r:RelV x u):∀{xs:List V} {us:List Value} (i:Nat),Vals xs us→Vals (xs.set i x) (us.set i u)
 | _,_,_,.nil=>.nil
 | _,_,0,.cons _ t=>.cons r t
 | _,_,i+1,.cons q t=>.cons q (Vals.set r i t)
theorem Vals.append:∀{xs ys:List V} {us ws:List Value},Vals xs us→Vals ys ws→Vals (xs++ys) (us++ws)
 | _,_,_,_,.nil,s=>s
 | _,_,_,_,.cons r t,s=>.cons r (Vals.append t s)
theorem Vals.take:∀{xs:List V} {us:List Value} (n:Nat),Vals xs us→Vals (xs.take n) (us.take n)
 | _,_,0,_=>.nil
 | _,_,_+1,.nil=>.nil
 | _,_,n+1,.cons r t=>.cons r (Vals.take n t)
theorem Vals.drop:∀{xs:List V} {us:List Value} (n:Nat),Vals xs us→Vals (xs.drop n) (us.drop n)
 | _,_,0,r=>r
 | _,_,_+1,.nil=>.nil
 | _,_,n+1,.cons _ t=>Vals.drop n t
def Af6:Option V→Option Value→Prop
 | some v,some u=>RelV v u
 | none,none=>True
 | _,_=>False
def KV {κ:Type}:List (κ × V)→List (κ × Value)→Prop:=Paired fun(p:κ × V) (q:κ × Value)=>p.1=q.1∧RelV p.2 q.2
def kV:Key→V
 | .inl i=>.int i
 | .inr x=>.str x
inductive HO where
 | lst (xs:List V)
 | tup (xs:List V)
 | dK (kvs:List (Key × V)) | dT (kvs:List (List Key × V))
 | set (S:Int→Bool) (n:Nat)
 | ins (C dx:Addr) (fs:List (Str × V))
 | own (x:Addr)
 | xd (fs:List (Str × V))
 | met (f x:Addr)
 | rng (lo hi:Int)
 | frz (o:Obj) (u:HO)
 | tbl (ps:Array Value)
 | ext (φ:Heap→Prop)
abbrev Hp:=Addr→Option HO
def upd (H:Hp)(a:Addr)(o:HO):Hp:=fun b=>if b=a then some o else H b
theorem Ad{H:Hp}{a:Addr}{o:HO}:upd H a o a=some o:=by unfold upd;rw[if_pos rfl]
theorem Ar{H:Hp}{a b:Addr}{o:HO}(h:b≠a):upd H a o b=H b:=by unfold upd;rw[if_neg h]
theorem AaD{H:Hp}{a:Addr}{o u:HO}:upd (upd H a o) a u=upd H a u:=by
 funext b;unfold upd;split <;> rfl
theorem Cy{H:Hp}{a b:Addr}{o:HO}(h:H a=some o)(h':H b=none):a≠b:=by
 intro e;subst e;rw[h] at h';cases h'
section
variable (P:Program) (w:World)
def Fi (H:Hp)(h:Heap)(a:Addr):HO→Prop
 | .lst xs=>xs.length≤sizeLine∧∃(its:List Value) (n:Nat),Vals xs its∧h.get? a=some { cls:=.type "list", data:=.seq its.toArray n }
 | .tup xs=>xs.length≤sizeLine∧∃ its:List Value,Vals xs its∧IsTup h a its.toArray
 | .dK kvs=>kvs.length≤sizeLine∧(a == sysModules)=false∧∃ vs,KV kvs vs∧h.DictOf (BW P w) a vs
 | .dT kvs=>kvs.length≤sizeLine∧(a == sysModules)=false∧∃ xs:List (List Key × Addr × Value),
   Paired (fun(p:List Key × V) (q:List Key × Addr × Value)=>p.1=q.1∧H q.2.1=some (.tup (p.1.map kV))∧RelV p.2 q.2.2) kvs xs ∧
   ∃ o es ep,h.get? a=some o∧o.ExactDict∧o.data=.dict es ep∧es.toList=xs.map (entryOfKey (tupleKind (BW P w)))∧(xs.map (·.1)).Nodup
 | .set S n=>h.SetOf (intKind P w) a S n
 | .ins C dx fs=>H dx=some (.own a)∧fs.length≤1000∧dx≠a∧h.get? a=some (PySem.W.instObj C dx) ∧
   ∃ mA,h.Ns1 dx mA∧(∀ f,Af6 (fs.lookup f) (mA f))∧PySem.Within mA (fs.map (·.1))
 | .own _=>∃ o,h.get? a=some o
 | .xd fs=>∃ mA,h.Ns1 a mA∧∀ f,Af6 (fs.lookup f) (mA f)
 | .rng lo hi=>∃ t u v,h.get? a=some { cls:=.type "range", data:=.fields #[.int lo t,.int hi u,.int 1 v] }
 | .frz o u=>h.get? a=some o∧Fi H h a u
 | .tbl ps=>h.get? a=some { cls:=.none,data:=.fields ps }
 | .met f x=>h.get? a=some (PySem.W.methodObj (.ref f) (.ref x))
 | .ext φ=>φ h∧(∃ o,h.get? a=some o)∧∀ h1 h2:Heap,φ h1→(∀ o,h1.get? a=some o→h2.get? a=some o)→φ h2
def HOk (H:Hp)(h:Heap):Prop:=∀ a o,H a=some o→Fi P w H h a o
end
section
variable {P:Program}{w:World}{H H':Hp}{h h':Heap}{a:Addr}{o:HO}
theorem Fi.lt(x:Fi P w H h a o):a<h.objs.size:=by
 cases o with
 | lst xs=>obtain⟨_,_,_,_,e⟩:=x;exact Heap.lt_size e
 | tup xs=>obtain⟨_,_,_,p⟩:=x;exact p.lt
 | dK kvs=>obtain⟨_,_,_,_,o,_,_,e,_⟩:=x;exact Heap.lt_size e
 | dT kvs=>obtain⟨_,_,_,_,o,_,_,e,_⟩:=x;exact Heap.lt_size e
 | set S n=>obtain⟨o,_,_,_,e,_⟩:=x;exact Heap.lt_size e
 | ins C dx fs=>obtain⟨_,_,_,e,_⟩:=x;exact Heap.lt_size e
 | own y=>obtain⟨_,e⟩:=x;exact Heap.lt_size e
 | xd fs=>obtain⟨_,⟨_,_,_,e,_⟩,_⟩:=x;exact Heap.lt_size e
 | rng lo hi=>obtain⟨_,_,_,e⟩:=x;exact Heap.lt_size e
 | frz ob u=>obtain⟨e,_⟩:=x;exact Heap.lt_size e
 | tbl ps=>exact Heap.lt_size (show h.get? a=some _ from x)
 | met f y=>exact Heap.lt_size (show h.get? a=some _ from x)
 | ext φ=>obtain⟨_,⟨_,e⟩,_⟩:=x;exact Heap.lt_size e
theorem Paired.AgS{α β:Type}{F G:α→β→Prop}:∀{l₁:List α} {l₂:List β},Paired F l₁ l₂→(∀ a b,F a b→G a b)→Paired G l₁ l₂
 | _,_,.nil,_=>.nil
 | _,_,.cons r t,f=>.cons (f _ _ r) (Paired.AgS t f)
theorem Fi.stay(x:Fi P w H h a o)(k:∀ b u,(b=a∨H b=some (.own a))→h.get? b=some u→h'.get? b=some u)
  (ho:∀ b,H b=some (.own a)→H' b=some (.own a)) (ht:∀ b xs,H b=some (.tup xs)→H' b=some (.tup xs)):Fi P w H' h' a o:=by
 induction o with
 | lst xs=>obtain⟨z,its,n,r,e⟩:=x;exact⟨z,its,n,r,k _ _ (.inl rfl) e⟩
 | tup xs=>obtain⟨z,its,r,ob,e,c⟩:=x;exact⟨z,its,r,ob,k _ _ (.inl rfl) e,c⟩
 | dK kvs=>obtain⟨z,y,vs,r,ob,es,ep,e,c⟩:=x;exact⟨z,y,vs,r,ob,es,ep,k _ _ (.inl rfl) e,c⟩
 | dT kvs =>
  obtain⟨z,y,xs,r,ob,es,ep,e,c⟩:=x
  exact⟨z,y,xs,Paired.AgS r fun p q z=>⟨z.1,ht _ _ z.2.1,z.2.2⟩,ob,es,ep,k _ _ (.inl rfl) e,c⟩
 | set S n=>obtain⟨ob,es,ep,t,e,c⟩:=x;exact⟨ob,es,ep,t,k _ _ (.inl rfl) e,c⟩
 | ins C dx fs =>
  obtain⟨d,z,ne,e,mA,⟨od,es,ep,e2,c⟩,r⟩:=x
  exact⟨ho _ d,z,ne,k _ _ (.inl rfl) e,mA,⟨od,es,ep,k _ _ (.inr d) e2,c⟩,r⟩
 | own y=>obtain⟨ob,e⟩:=x;exact⟨ob,k _ _ (.inl rfl) e⟩
 | xd fs=>obtain⟨mA,⟨od,es,ep,e,c⟩,r⟩:=x;exact⟨mA,⟨od,es,ep,k _ _ (.inl rfl) e,c⟩,r⟩
 | rng lo hi=>obtain⟨t,u,v,e⟩:=x;exact⟨t,u,v,k _ _ (.inl rfl) e⟩
 | frz ob u ih=>obtain⟨e,q⟩:=x;exact⟨k _ _ (.inl rfl) e,ih q⟩
 | tbl ps =>
  have e:h.get? a=some { cls:=.none,data:=.fields ps }:=x
  show h'.get? a=some { cls:=.none,data:=.fields ps }
  exact k a _ (.inl rfl) e
 | met f y =>
  have e:h.get? a=some (PySem.W.methodObj (.ref f) (.ref y)):=x
  show h'.get? a=some (PySem.W.methodObj (.ref f) (.ref y))
  exact k a _ (.inl rfl) e
 | ext φ=>obtain⟨p,⟨o,e⟩,st⟩:=x;exact⟨st _ _ p fun o q=>k _ _ (.inl rfl) q,⟨o,k _ _ (.inl rfl) e⟩,st⟩
theorem HOk.lt(x:HOk P w H h)(e:H a=some o):a<h.objs.size:=(x a o e).lt
theorem HOk.fresh(x:HOk P w H h)(e:h.objs.size≤a):H a=none:=by
 cases q:H a with
 | none=>rfl
 | some u=>exact absurd (AkK (x.lt q) e) (Alf _)
theorem HOk.kept(x:HOk P w H h)(k:∀ b u,h.get? b=some u→h'.get? b=some u):HOk P w H h':=fun a o e =>
 (x a o e).stay (fun b u _ q=>k b u q) (fun _ q=>q) fun _ _ q=>q
theorem HOk.laid(x:HOk P w H h)(k:∀ b u,h.get? b=some u→h'.get? b=some u)(hp:h.objs.size≤a)(new:Fi P w (upd H a o) h' a o):HOk P w (upd H a o) h':=fun b u e=>by
 have hn:=x.fresh hp
 by_cases hb:b=a
 ·subst hb;rw[Ad] at e;cases e;exact new
 ·rw[Ar hb] at e
  exact(x b u e).stay (fun c v _ q=>k c v q) (fun c q=>by rw[Ar (Cy q hn)];exact q) fun c xs q=>by rw[Ar (Cy q hn)];exact q
end
def Rd (H:Hp)(a:Addr)(u:HO):Prop:=H a=some u∨∃ o,H a=some (.frz o u)
theorem Rd.ok{P:Program}{w:World}{H:Hp}{h:Heap}{a:Addr}{u:HO}(r:Rd H a u)(x:HOk P w H h):Fi P w H h a u:=by
 rcases r with r | ⟨o,r⟩
 ·exact x a u r
 ·obtain⟨_,q⟩:=x a _ r
  exact q
def Mut:Option HO→Prop
 | some (.lst _)=>True
 | some (.dK _)=>True
 | some (.dT _)=>True
 | some (.set _ _)=>True
 | some (.ins _ _ _)=>True
 | some (.ext _)=>True
 | _=>False
section
variable {P:Program}{w:World}{H:Hp}{h h':Heap}{x e:Addr}{o':HO}
theorem HOk.write(ok:HOk P w H h)(mu:Mut (H x))(he:e=x∨H e=some (.own x))(k:∀ b u,b≠e→h.get? b=some u→h'.get? b=some u)(heo:∃ u,h'.get? e=some u)
  (new:Fi P w (upd H x o') h' x o'):HOk P w (upd H x o') h':=fun b u q=>by
 have AgT:∀ c y,H c=some (.own y)→c≠x:=fun c y r z=>by subst z;rw[r] at mu;exact mu
 have Ait:∀ c xs,H c=some (.tup xs)→c≠x:=fun c xs r z=>by subst z;rw[r] at mu;exact mu
 by_cases hb:b=x
 ·subst hb;rw[Ad] at q;cases q;exact new
 ·rw[Ar hb] at q
  by_cases hbe:b=e
  ·have q':H b=some (.own x):=by
    rcases he with z | z
    ·exact absurd (hbe.trans z) hb
    ·rw[hbe];exact z
   rw[q] at q';cases q'
   obtain⟨v,hv⟩:=heo
   exact⟨v,by rw[hbe];exact hv⟩
  ·refine(ok b u q).stay (fun c v hc r=>k c v ?_ r) (fun c r=>by rw[Ar (AgT c b r)];exact r) fun c xs r=>by rw[Ar (Ait c xs r)];exact r
   rcases hc with rfl | hc
   ·exact hbe
   ·rintro rfl
    rcases he with z | z
    ·exact AgT c b hc z
    ·rw[hc] at z;cases z;exact hb rfl
end
structure Un (fs ex:List Addr) (H H':Hp) (h h':Heap):Prop where
 keep:∀ b o,h.get? b=some o→H b=none→b∉fs→b∉ex→h'.get? b=some o
 slot:∀ b o,h.get? b=some o→H b=none→b∈fs→b∉ex→∃ sl,h'.get? b=some { o with slots:=sl }
 free:∀ b o,h.get? b=some o→H b=none→b∉ex→H' b=none
 there:∀ b o,h.get? b=some o→b∉ex→∃ o',h'.get? b=some o'
 tups:∀ b xs,H b=some (.tup xs)→H' b=some (.tup xs)
 Pr:∀ b o u,H b=some (.frz o u)→H' b=some (.frz o u)
 QM:∀ b ps,H b=some (.tbl ps)→∃ more,H' b=some (.tbl (ps++more))
section
variable {fs fs' ex ex':List Addr}{H H1 H2:Hp}{h h1 h2 h':Heap}{a x e:Addr}{o:HO}
theorem Un.any(u:Un fs ex H H1 h h1){b:Addr}{ob:Obj}(q:h.get? b=some ob)(n:H b=none)(hx:b∉ex):∃ sl,h1.get? b=some { ob with slots:=sl }:=by
 by_cases hb:b∈fs
 ·exact u.slot b ob q n hb hx
 ·exact⟨ob.slots,u.keep b ob q n hb hx⟩
theorem Un.kept(k:∀ b u,h.get? b=some u→h'.get? b=some u):Un fs ex H H h h' :=
 ⟨fun b ob q _ _ _=>k b ob q,fun b ob q _ _ _=>⟨ob.slots,k b ob q⟩,fun _ _ _ n _=>n,fun b ob q _=>⟨ob,k b ob q⟩,fun _ _ q=>q,fun _ _ _ q=>q,fun _ ps q=>⟨#[],by rw[q];simp⟩⟩
theorem Un.refl:Un fs ex H H h h:=Un.kept fun _ _ q=>q
theorem Un.laid(k:∀ b u,h.get? b=some u→h'.get? b=some u)(hp:h.objs.size≤a)(hn:H a=none):Un fs ex H (upd H a o) h h' where
 keep:=fun b u q _ _ _=>k b u q
 slot:=fun b u q _ _ _=>⟨u.slots,k b u q⟩
 free:=fun b u q n _=>by rw[Ar (AkF (AkK (Heap.lt_size q) hp))];exact n
 there:=fun b u q _=>⟨u,k b u q⟩
 tups:=fun b xs q=>by rw[Ar (Cy q hn)];exact q
 Pr:=fun b u xs q=>by rw[Ar (Cy q hn)];exact q
 QM:=fun b ps q=>⟨#[],by rw[Ar (Cy q hn),q];simp⟩
theorem Un.write(mu:Mut (H x))(he:e=x∨H e=some (.own x))(k:∀ b u,b≠e→h.get? b=some u→h'.get? b=some u)(heo:∃ u,h'.get? e=some u):Un fs ex H (upd H x o) h h':=by
 have hx:∀ b,H b=none→b≠x:=fun b n z=>by subst z;rw[n] at mu;exact mu
 have hb:∀ b,H b=none→b≠e:=fun b n z=>by
  subst z
  rcases he with r | r
  ·exact hx b n r
  ·rw[n] at r;cases r
 have hm:∀ b u,H b=some u→¬Mut (some u)→b≠x:=fun b u q nm z=>by subst z;rw[q] at mu;exact nm mu
 refine⟨fun b u q n _ _=>k b u (hb b n) q,fun b u q n _ _=>⟨u.slots,k b u (hb b n) q⟩,fun b u q n _=>by rw[Ar (hx b n)];exact n,fun b u q _=>?_,
  fun b xs q=>by rw[Ar (hm b _ q fun z=>z)];exact q,fun b u xs q=>by rw[Ar (hm b _ q fun z=>z)];exact q,fun b ps q=>⟨#[],by rw[Ar (hm b _ q fun z=>z),q];simp⟩⟩
 by_cases hbe:b=e
 ·subst hbe;exact heo
 ·exact⟨u,k b u hbe q⟩
end
def trk (h:Heap)(H:Hp):List Addr:=(List.range h.objs.size).filter fun a=>(H a).isSome
def Pu (h:Heap)(H:Hp):Heap:=PySem.W.hideAll h (trk h H)
theorem We(h:Heap)(H:Hp):(Pu h H).objs.size=h.objs.size:=PySem.W.hideAll_size _ _
theorem Yt{h:Heap}{H:Hp}{b:Addr}{o:Obj}(e:h.get? b=some o)(n:H b=none):(Pu h H).get? b=some o :=
 PySem.W.hideAll_get _ e fun hm=>by
  have q:(H b).isSome=true:=(List.mem_filter.mp hm).2
  rw[n] at q;simp at q
theorem AaE{h:Heap}{H:Hp}{b:Addr}{o:Obj}(e:(Pu h H).get? b=some o):h.get? b=some o∧H b=none:=by
 have e':h.get? b=some o:=PySem.W.of_hideAll (trk h H) e
 refine⟨e',?_⟩
 cases q:H b with
 | none=>rfl
 | some x =>
  have hm:b∈trk h H:=List.mem_filter.mpr ⟨List.mem_range.mpr (Heap.lt_size e'),by simp[q]⟩
  have z:(Pu h H).get? b=none:=PySem.W.hideAll_none (trk h H) hm
  rw[z] at e;cases e
def AdP (g h:Heap)(L:Addr):List (Addr × Obj):=(List.range h.objs.size).filterMap fun a=>if a=L∨(g.get? a).isSome=true then none else (h.get? a).map fun o=>(a,o)
def rest(g h:Heap)(L d:Addr):List (Addr × Obj):=(AdP g h L).filter fun p=>decide (p.1≠d)
open PySem PySem.Spec PyProof.Rows
structure Mod (K:PySem.W.Frag) (mg:Str→Option Value) (base:Heap):Prop where
 kin:K.In base
 glob:base.Ns mainGlobals mg
 blt:∃ mb,base.Ns builtinsNs mb∧∀ x:Str,x ≠ "__name__" → mb x=bootBuiltins x
 nolimit:base.NoLimit
structure Cx where
 prog:Program
 w:World
 K:PySem.W.Frag
 mg:Str→Option Value
 base:Heap
 A:Around
 N:List Str
 s₀:Shared
 H₀:Hp
 env:Env
 outer:List Env
 stack:List Env
 ex:List Addr
 fn:Str→Bool
 calm:Bool
 pn:List (Addr × Obj)
 xe:Value→Shared→Prop
def frs (l:List Env):List Addr:=l.filterMap (·.frame)
abbrev Cx.fs (X:Cx):List Addr:=frs X.outer
def Vis (sc:Scope)(x:Str):Prop:=sc.names.lookup x=some .local∨sc.names.lookup x=some .cell∨sc.names.lookup x=some .free
def Loc (sc:Scope)(x:Str):Prop:=sc.names.lookup x=some .local∨sc.names.lookup x=some .cell
def Look(env:Env)(h:Heap)(m:Str→Option Value)(x:Str)(u:Value):Prop :=
 (env.kindOf x=some .local∧m x=some u)∨((env.kindOf x=some .cell∨env.kindOf x=some .free)∧∃ c,env.cells.lookup x=some c∧h.IsCell c (some u))
structure Cx.Ok (X:Cx):Prop where
 mod:Mod X.K X.mg X.base
 kind:X.env.scope.kind=.function
 glob:X.env.globals=mainGlobals
 blt:X.env.builtins=builtinsNs
 above:X.s₀.heap.objs.size≤X.env.locals
 inj:∀ x y c,X.env.cells.lookup x=some c→X.env.cells.lookup y=some c→x=y
 has:∀ x,(X.env.kindOf x=some .cell∨X.env.kindOf x=some .free)→∃ c,X.env.cells.lookup x=some c
 cab:∀ x c,X.fn x=true→X.env.cells.lookup x=some c→X.s₀.heap.objs.size≤c
 hd:X.calm=true→X.A.handled=none
 frames:X.A.frames=some X.stack
 stk:X.stack=X.outer∨(X.stack=X.env::X.outer∧X.env.frame=some X.env.locals)
 exf:∀ b∈X.ex,b≠X.env.locals∧∀ x c,X.env.cells.lookup x=some c→c≠b
 bs:∀ b o,X.base.get? b=some o→X.s₀.heap.get? b=some o∧X.H₀ b=none
 bsz:X.base.objs.size≤X.s₀.heap.objs.size
 Abx:∀ b o,X.base.get? b=some o→b∉X.ex
 Aby:∀ b∈X.ex,b∉X.fs
 Ul:X.s₀.heap.FunFrames X.base X.outer
 frf:∀ b∈X.fs,X.H₀ b=none
structure Inv (X:Cx) (pins:List (Addr × Obj)) (σ:List (Option V)) (H:Hp) (s:Shared):Prop where
 ok:X.Ok
 os:s.os=X.s₀.os
 bare:AllBare s.gens
 base:Un X.fs X.ex X.H₀ H X.s₀.heap s.heap
 loc:∃ m,s.heap.Ns X.env.locals m∧∀(i:Nat) (x:Str) (v:V),X.N[i]?=some x→σ[i]?=some (some v)→Vis X.env.scope x→∃ u,RelV v u∧Look X.env s.heap m x u
 cell:∀ x c,X.env.cells.lookup x=some c→∃ v,s.heap.IsCell c v
 free:H X.env.locals=none
 Ku:∀ x c,X.env.cells.lookup x=some c→H c=none
 pin:∀ p∈X.pn++pins,s.heap.get? p.1=some p.2∧H p.1=none∧p.1≠X.env.locals∧p.1∉X.fs∧∀ v,p.2.data≠.cell v
 hok:HOk X.prog X.w H s.heap
 len:σ.length=X.N.length
section
variable {X:Cx}{pins:List (Addr × Obj)}{σ:List (Option V)}{H H':Hp}{s:Shared}{h':Heap}
theorem Cx.Ok.Aiu(ok:X.Ok){b:Addr}{o:Obj}(e:X.base.get? b=some o):b∉X.fs:=fun hb=>by
 have:=(ok.Ul.mem hb).1
 rw[e] at this;cases this
theorem Inv.bs(I:Inv X pins σ H s):∀ b o,X.base.get? b=some o→s.heap.get? b=some o∧H b=none:=fun b o e =>
 ⟨I.base.keep b o (I.ok.bs b o e).1 (I.ok.bs b o e).2 (I.ok.Aiu e) (I.ok.Abx b o e),I.base.free b o (I.ok.bs b o e).1 (I.ok.bs b o e).2 (I.ok.Abx b o e)⟩
theorem Inv.bk(I:Inv X pins σ H s):∀ b o,X.base.get? b=some o→s.heap.get? b=some o:=fun b o e=>(I.bs b o e).1
theorem Inv.mod(I:Inv X pins σ H s):Mod X.K X.mg X.base:=I.ok.mod
theorem Inv.kIn(I:Inv X pins σ H s):X.K.In s.heap:=I.ok.mod.kin.keeps I.bk
theorem Inv.nolimit(I:Inv X pins σ H s):s.heap.NoLimit:=I.ok.mod.nolimit.keeps I.bk
theorem Inv.lt(I:Inv X pins σ H s):X.env.locals<s.heap.objs.size:=let ⟨_,hn,_⟩:=I.loc;hn.lt
theorem Inv.sz(I:Inv X pins σ H s):X.s₀.heap.objs.size≤s.heap.objs.size:=AkS I.ok.above (Al8 I.lt)
theorem Inv.Af7(I:Inv X pins σ H s){a:Addr}(h:s.heap.objs.size≤a):a∉X.fs:=fun hb=>by
 obtain⟨_,o,ho,_⟩:=I.ok.Ul.mem hb
 exact absurd (AkK (Heap.lt_size ho) (AkS I.sz h)) (Alf _)
theorem Inv.cne(I:Inv X pins σ H s):∀ x c,X.env.cells.lookup x=some c→c≠X.env.locals:=fun x c e z=>by
 obtain⟨v,o,ho,hd⟩:=I.cell x c e
 obtain⟨m,⟨o',es,ep,ho',hd',_⟩,_⟩:=I.loc
 rw[z,ho'] at ho;cases ho;rw[hd'] at hd;cases hd
theorem Inv.Ul(I:Inv X pins σ H s):s.heap.FunFrames X.base X.outer:=by
 have all:∀(l:List Env),(∀ b∈frs l,b∈X.fs)→X.s₀.heap.FunFrames X.base l→s.heap.FunFrames X.base l:=by
  intro l
  induction l with
  | nil=>intro _ _;trivial
  | cons env r ih =>
   intro hs hl
   obtain⟨hk,⟨L,o,hf,hn,ho,hd⟩,hr⟩:=hl
   have hL:L∈X.fs:=hs L (by unfold frs;rw[Amh,hf];exact AkM)
   obtain⟨sl,e⟩:=I.base.slot L o ho (I.ok.frf L hL) hL fun z=>I.ok.Aby L z hL
   exact⟨hk,⟨L,_,hf,hn,e,hd⟩,ih (fun b hb=>hs b (by unfold frs;rw[Amh,hf];exact AkN _ hb)) hr⟩
 exact all X.outer (fun _ hb=>hb) I.ok.Ul
theorem Inv.stack(I:Inv X pins σ H s):s.heap.FunFrames X.base X.stack:=by
 rcases I.ok.stk with e | ⟨e,hf⟩
 ·rw[e];exact I.Ul
 ·rw[e]
  obtain⟨m,hn,_⟩:=I.loc
  refine .cons (by rw[I.ok.kind];decide) hf hn ?_ I.Ul
  exact Heap.get?_none_of_le (AkS I.ok.bsz I.ok.above)
theorem Inv.ZQ(I:Inv X pins σ H s):∀ b∈frs X.stack,b∈X.env.locals::X.fs:=fun b hb=>by
 rcases I.ok.stk with e | ⟨e,hf⟩
 ·rw[e] at hb;exact AkN _ hb
 ·rw[e] at hb
  unfold frs at hb
  rw[Amh,hf] at hb
  exact hb
theorem Inv.W2(I:Inv X pins σ H s):∀ b∈frs X.stack,H b=none:=fun b hb=>by
 rcases List.mem_cons.mp (I.ZQ b hb) with e | hb
 ·rw[e];exact I.free
 ·obtain⟨_,o,ho,_⟩:=I.ok.Ul.mem hb
  exact I.base.free b o ho (I.ok.frf b hb) fun z=>I.ok.Aby b z hb
theorem Inv.step{g':Array GenState}{t':Nat}{d':Drawn}{ch:List Addr}(I:Inv X pins σ H s)
  (hch:∀ b∈ch,(b∈X.ex∨X.s₀.heap.objs.size≤b)∧b≠X.env.locals∧(∀ x c,X.env.cells.lookup x=some c→c≠b)∧∀ p∈X.pn++pins,p.1≠b)
  (keep:∀ b o,b≠X.env.locals→b∉X.fs→b∉ch→s.heap.get? b=some o→H b=none→h'.get? b=some o)
  (slot:∀ b o,b≠X.env.locals→b∈X.fs→b∉ch→s.heap.get? b=some o→H b=none→∃ sl,h'.get? b=some { o with slots:=sl }) (free:∀ b o,b∉ch→s.heap.get? b=some o→H b=none→H' b=none)
  (there:∀ b o,b∉ch→s.heap.get? b=some o→∃ o',h'.get? b=some o')
  (tups:∀ b xs,H b=some (.tup xs)→H' b=some (.tup xs)) (Pr:∀ b o u,H b=some (.frz o u)→H' b=some (.frz o u)) (QM:∀ b ps,H b=some (.tbl ps)→∃ more,H' b=some (.tbl (ps++more)))
  (ns:∀ m,s.heap.Ns X.env.locals m→h'.Ns X.env.locals m) (hok:HOk X.prog X.w H' h') (hg:AllBare g') :
  Inv X pins σ H' { s with heap:=h',gens:=g',drawn:=d',toks:=t' }:=by
 have neL:∀ b o,X.s₀.heap.get? b=some o→b≠X.env.locals:=fun b o e=>AkF (AkK (Heap.lt_size e) I.ok.above)
 have neC:∀ b o,X.s₀.heap.get? b=some o→b∉X.ex→b∉ch:=fun b o e hx hb=>by
  rcases(hch b hb).1 with z | z
  ·exact hx z
  ·exact absurd (AkK (Heap.lt_size e) z) (Alf _)
 have cellK:∀ x c,X.env.cells.lookup x=some c→∀ v,s.heap.IsCell c v→h'.IsCell c v:=fun x c e v ⟨o,ho,hd⟩=>by
  have nch:c∉ch:=fun z=>(hch c z).2.2.1 x c e rfl
  by_cases hc:c∈X.fs
  ·obtain⟨sl,q⟩:=slot c o (I.cne x c e) hc nch ho (I.Ku x c e)
   exact⟨_,q,hd⟩
  ·exact⟨o,keep c o (I.cne x c e) hc nch ho (I.Ku x c e),hd⟩
 refine⟨I.ok,I.os,hg,⟨fun b o e n hb hx=>?_,fun b o e n hb hx=>?_,fun b o e n hx=>?_,fun b o e hx=>?_,fun b xs e=>tups b xs (I.base.tups b xs e),fun b o xs e=>Pr b o xs (I.base.Pr b o xs e),fun b ps e=>?_⟩,?_,fun x c e=>?_,?_,fun x c e=>?_,fun p hp=>?_,hok,I.len⟩
 ·exact keep b o (neL b o e) hb (neC b o e hx) (I.base.keep b o e n hb hx) (I.base.free b o e n hx)
 ·obtain⟨sl,e1⟩:=I.base.slot b o e n hb hx
  obtain⟨sl',e2⟩:=slot b _ (neL b o e) hb (neC b o e hx) e1 (I.base.free b o e n hx)
  exact⟨sl',e2⟩
 ·obtain⟨o',e1⟩:=I.base.there b o e hx
  exact free b o' (neC b o e hx) e1 (I.base.free b o e n hx)
 ·obtain⟨o',e1⟩:=I.base.there b o e hx
  exact there b o' (neC b o e hx) e1
 ·obtain⟨m1,e1⟩:=I.base.QM b ps e
  obtain⟨m2,e2⟩:=QM b _ e1
  exact⟨m1++m2,by rw[e2,Array.append_assoc]⟩
 ·obtain⟨m,hn,hl⟩:=I.loc
  refine⟨m,ns m hn,fun i x v e1 e2 e3=>?_⟩
  obtain⟨u,r,l⟩:=hl i x v e1 e2 e3
  refine⟨u,r,?_⟩
  rcases l with l | ⟨k,c,e,z⟩
  ·exact .inl l
  ·exact .inr ⟨k,c,e,cellK x c e _ z⟩
 ·obtain⟨v,z⟩:=I.cell x c e
  exact⟨v,cellK x c e v z⟩
 ·obtain⟨m,⟨o,_,_,ho,_⟩,_⟩:=I.loc
  exact free _ o (fun z=>(hch _ z).2.1 rfl) ho I.free
 ·obtain⟨v,o,ho,hd⟩:=I.cell x c e
  exact free c o (fun z=>(hch c z).2.2.1 x c e rfl) ho (I.Ku x c e)
 ·obtain⟨e,n,ne,nf,d⟩:=I.pin p hp
  have nch:p.1∉ch:=fun z=>(hch p.1 z).2.2.2 p hp rfl
  exact⟨keep p.1 p.2 ne nf nch e n,free p.1 p.2 nch e n,ne,nf,d⟩
theorem Inv.un{t':Nat}(I:Inv X pins σ H s)(u:Un X.fs [] H H' s.heap h')(hok:HOk X.prog X.w H' h'):Inv X pins σ H' { s with heap:=h',toks:=t' }:=by
 obtain⟨m,⟨o,es,ep,ho,r⟩,_⟩:=id I.loc
 obtain⟨sl,hL⟩:=u.any ho I.free (by simp)
 exact I.step (g':=s.gens) (d':=s.drawn) (ch:=[]) (fun _ z=>nomatch z) (fun b o _ hb _ e n=>u.keep b o e n hb (by simp)) (fun b o _ hb _ e n=>u.slot b o e n hb (by simp)) (fun b o _ e n=>u.free b o e n (by simp)) (fun b o _ e=>u.there b o e (by simp)) u.tups u.Pr u.QM (fun m' hm=>by
  obtain⟨o',es',ep',ho',r'⟩:=hm
  rw[ho] at ho';cases ho'
  exact⟨_,es',ep',hL,r'⟩) hok I.bare
theorem Inv.call{g':Array GenState}{t':Nat}{d':Drawn}{ch:List Addr}(I:Inv X pins σ H s)(u:Un (frs X.stack) ch H H' s.heap h')(hok:HOk X.prog X.w H' h')(hg:AllBare g')
  (hch:∀ b∈ch,(b∈X.ex∨X.s₀.heap.objs.size≤b)∧b≠X.env.locals∧(∀ x c,X.env.cells.lookup x=some c→c≠b)∧∀ p∈X.pn++pins,p.1≠b) :
  Inv X pins σ H' { s with heap:=h',gens:=g',drawn:=d',toks:=t' }:=by
 obtain⟨m,⟨o,es,ep,ho,r⟩,_⟩:=id I.loc
 obtain⟨sl,hL⟩:=u.any ho I.free fun z=>(hch _ z).2.1 rfl
 exact I.step (ch:=ch) hch (fun b o hL hb hc e n=>u.keep b o e n (fun z=>(List.mem_cons.mp (I.ZQ b z)).elim hL hb) hc) (fun b o _ _ hc e n=>u.any e n hc) (fun b o hc e n=>u.free b o e n hc) (fun b o hc e=>u.there b o e hc) u.tups u.Pr u.QM (fun m' hm=>by
  obtain⟨o',es',ep',ho',r'⟩:=hm
  rw[ho] at ho';cases ho'
  exact⟨_,es',ep',hL,r'⟩) hok hg
theorem Inv.turned{t':Nat}{it:Addr}(I:Inv X pins σ H s)(k:∀ b o,b≠it→s.heap.get? b=some o→h'.get? b=some o)(hn:H it=none)(hL:it≠X.env.locals)
  (h1:it∈X.ex∨X.s₀.heap.objs.size≤it) (h2:∀ x c,X.env.cells.lookup x=some c→c≠it) (h3:∀ p∈X.pn++pins,p.1≠it):Inv X pins σ H { s with heap:=h',toks:=t' }:=by
 have nit:∀ b u,H b=some u→b≠it:=fun b u e z=>by rw[z,hn] at e;cases e
 refine I.step (g':=s.gens) (d':=s.drawn) (ch:=[it]) (fun b hb=>?_) (fun b o _ _ hc e _=>k b o (fun z=>hc (by simp[z])) e) (fun b o _ _ hc e _=>⟨o.slots,k b o (fun z=>hc (by simp[z])) e⟩) (fun _ _ _ _ n=>n)
  (fun b o hc e=>⟨o,k b o (fun z=>hc (by simp[z])) e⟩) (fun _ _ e=>e) (fun _ _ _ e=>e) (fun b ps e=>⟨#[],by rw[e];simp⟩) (fun m hm=>?_) (fun b u e=>?_) I.bare
 ·have e:b=it:=by simpa using hb
  subst e
  exact⟨h1,hL,h2,h3⟩
 ·obtain⟨o,es,ep,ho,r⟩:=hm
  exact⟨o,es,ep,k _ o (Ne.symm hL) ho,r⟩
 ·refine(I.hok b u e).stay (fun c v hc q=>k c v ?_ q) (fun _ q=>q) fun _ _ q=>q
  rcases hc with z | z
  ·rw[z];exact nit b u e
  ·exact nit c _ z
theorem Inv.tok(I:Inv X pins σ H s)(t:Nat):Inv X pins σ H { s with toks:=t }:=I.un (h':=s.heap) (t':=t) Un.refl I.hok
theorem Inv.kept{t':Nat}(I:Inv X pins σ H s)(k:∀ b u,s.heap.get? b=some u→h'.get? b=some u):Inv X pins σ H { s with heap:=h',toks:=t' }:=I.un (Un.kept k) (I.hok.kept k)
theorem Inv.laid{a:Addr}{o:HO}{t':Nat}(I:Inv X pins σ H s)(k:∀ b u,s.heap.get? b=some u→h'.get? b=some u)(hp:s.heap.objs.size≤a)(new:Fi X.prog X.w (upd H a o) h' a o) :
  Inv X pins σ (upd H a o) { s with heap:=h',toks:=t' }:=I.un (Un.laid k hp (I.hok.fresh hp)) (I.hok.laid k hp new)
theorem Inv.write{x e:Addr}{o:HO}{t':Nat}(I:Inv X pins σ H s)(mu:Mut (H x))(he:e=x∨H e=some (.own x))(k:∀ b u,b≠e→s.heap.get? b=some u→h'.get? b=some u)(heo:∃ u,h'.get? e=some u)
  (new:Fi X.prog X.w (upd H x o) h' x o):Inv X pins σ (upd H x o) { s with heap:=h',toks:=t' }:=I.un (Un.write mu he k heo) (I.hok.write mu he k heo new)
theorem Inv.HD{AeZ:List (Addr × Obj)}(I:Inv X pins σ H s)(h:∀ p∈AeZ,s.heap.get? p.1=some p.2∧H p.1=none∧p.1≠X.env.locals∧p.1∉X.fs∧∀ v,p.2.data≠.cell v):Inv X AeZ σ H s :=
 ⟨I.ok,I.os,I.bare,I.base,I.loc,I.cell,I.free,I.Ku,fun p hp=>(List.mem_append.mp hp).elim (fun z=>I.pin p (Ams _ z)) (h p),I.hok,I.len⟩
theorem Yu{N:List Str}(hN:N.Nodup){i j:Nat}{x:Str}(a:N[i]?=some x)(b:N[j]?=some x):i=j:=by
 obtain⟨h1,e1⟩:=List.getElem?_eq_some_iff.mp a
 obtain⟨h2,e2⟩:=List.getElem?_eq_some_iff.mp b
 exact(List.getElem_inj hN).mp (e1.trans e2.symm)
theorem Wf{M:Model}{A:Around}{E:Value→Shared→Prop}{i:Nat}{x:Str}{v:V}{u:Value}{Q:Unit→Shared→Prop}(I:Inv X pins σ H s)(hN:X.N.Nodup)(hi:X.N[i]?=some x)(hx:Loc X.env.scope x)(r:RelV v u)
  (h:∀ s',Inv X pins (σ.set i (some v)) H s'→(∃ a,Heap.SameBut a s.heap s'.heap∧(a=X.env.locals∨X.env.cells.lookup x=some a))→Q () s') (hf:X.fn x=true∨X.env.scope.names.lookup x=some .local:=by first | exact .inl rfl | exact .inr rfl | assumption):wpAny M A (storeName X.env x u) Q E s:=by
 obtain⟨m,hn,hl⟩:=id I.loc
 have hcls:(X.env.scope.kind == .class || (X.env.scope.kind == .module && X.env.locals != X.env.globals))=false:=by rw[I.ok.kind];rfl
 have hiσ:i<σ.length:=by rw[I.len];exact(List.getElem?_eq_some_iff.mp hi).1
 have cne:=I.cne
 have tracked:∀{a:Addr} {h':Heap},(∃ o,s.heap.get? a=some o∧H a=none)→Heap.SameBut a s.heap h'→HOk X.prog X.w H h':=fun {a h'} ha hs b ob e=>by
  obtain⟨_,_,hfree⟩:=ha
  refine(I.hok b ob e).stay (fun c w' hc q=>(hs.2 c ?_).trans q) (fun _ q=>q) fun _ _ q=>q
  rintro rfl
  rcases hc with rfl | hc
  ·rw[hfree] at e;cases e
  ·rw[hfree] at hc;cases hc
 rcases hx with hk | hk
 ·refine wpAny_storeName_local hk hn (fun h' hn' hs=>?_) hcls
  obtain⟨oL,_,_,hoL,_⟩:=id hn
  refine h _ ⟨I.ok,I.os,I.bare,⟨fun b o e n hb hx=>?_,fun b o e n hb hx=>?_,I.base.free,fun b o e hx=>?_,I.base.tups,I.base.Pr,I.base.QM⟩,⟨_,hn',fun j y v' e1 e2 e3=>?_⟩,fun y c e=>?_,I.free,I.Ku,fun p hp=>?_,tracked ⟨oL,hoL,I.free⟩ hs,by simpa using I.len⟩ ⟨_,hs,.inl rfl⟩
  ·exact(hs.2 b (AkF (AkK (Heap.lt_size e) I.ok.above))).trans (I.base.keep b o e n hb hx)
  ·obtain⟨sl,e1⟩:=I.base.slot b o e n hb hx
   exact⟨sl,(hs.2 b (AkF (AkK (Heap.lt_size e) I.ok.above))).trans e1⟩
  ·obtain⟨o',e1⟩:=I.base.there b o e hx
   exact⟨o',(hs.2 b (AkF (AkK (Heap.lt_size e) I.ok.above))).trans e1⟩
  ·by_cases hj:j=i
   ·subst hj
    rw[hi] at e1;cases e1
    rw[Amt hiσ] at e2
    cases e2
    exact⟨u,r,.inl ⟨hk,by simp⟩⟩
   ·rw[AlP (Ne.symm hj)] at e2
    obtain⟨u',r',q⟩:=hl j y v' e1 e2 e3
    refine⟨u',r',?_⟩
    rcases q with ⟨k,e⟩ | ⟨k,c,e,z⟩
    ·refine .inl ⟨k,?_⟩
     have:y≠x:=fun e=>hj (Yu hN e1 (e▸hi))
     simp[this,e]
    ·exact .inr ⟨k,c,e,z.sameBut hs (cne y c e)⟩
  ·obtain⟨w',z⟩:=I.cell y c e
   exact⟨w',z.sameBut hs (cne y c e)⟩
  ·obtain⟨e,n,ne,nf,d⟩:=I.pin p hp
   exact⟨(hs.2 p.1 ne).trans e,n,ne,nf,d⟩
 ·have hfn:X.fn x=true:=by
   rcases hf with z | z
   ·exact z
   ·rw[z] at hk;cases hk
  obtain⟨c,hc⟩:=I.ok.has x (.inl hk)
  obtain⟨w',z⟩:=I.cell x c hc
  refine wpAny_storeName_cell I.ok.kind hk hc z (fun h' hc' hs=>?_)
  obtain⟨oc,hoc,Aiv⟩:=id z
  refine h { s with heap:=h' } ⟨I.ok,I.os,I.bare,⟨fun b o e n hb hx=>?_,fun b o e n hb hx=>?_,I.base.free,fun b o e hx=>?_,I.base.tups,I.base.Pr,I.base.QM⟩,⟨m,hn.sameBut hs (Ne.symm (cne x c hc)),fun j y v' e1 e2 e3=>?_⟩,fun y c' e=>?_,I.free,I.Ku,fun p hp=>?_,tracked ⟨oc,hoc,I.Ku x c hc⟩ hs,by simpa using I.len⟩ ⟨c,hs,.inr hc⟩
  ·exact(hs.2 b (AkF (AkK (Heap.lt_size e) (I.ok.cab x c hfn hc)))).trans (I.base.keep b o e n hb hx)
  ·obtain⟨sl,e1⟩:=I.base.slot b o e n hb hx
   exact⟨sl,(hs.2 b (AkF (AkK (Heap.lt_size e) (I.ok.cab x c hfn hc)))).trans e1⟩
  ·obtain⟨o',e1⟩:=I.base.there b o e hx
   exact⟨o',(hs.2 b (AkF (AkK (Heap.lt_size e) (I.ok.cab x c hfn hc)))).trans e1⟩
  ·by_cases hj:j=i
   ·subst hj
    rw[hi] at e1;cases e1
    rw[Amt hiσ] at e2
    cases e2
    exact⟨u,r,.inr ⟨.inl hk,c,hc,hc'⟩⟩
   ·rw[AlP (Ne.symm hj)] at e2
    obtain⟨u',r',q⟩:=hl j y v' e1 e2 e3
    refine⟨u',r',?_⟩
    rcases q with q | ⟨k,c',e,z'⟩
    ·exact .inl q
    ·refine .inr ⟨k,c',e,z'.sameBut hs ?_⟩
     rintro rfl
     exact hj (Yu hN e1 (I.ok.inj _ _ _ e hc▸hi))
  ·by_cases hcc:c'=c
   ·subst hcc;exact⟨_,hc'⟩
   ·obtain⟨w2,z2⟩:=I.cell y c' e
    exact⟨w2,z2.sameBut hs hcc⟩
  ·obtain⟨e,n,ne,nf,d⟩:=I.pin p hp
   refine⟨(hs.2 p.1 ?_).trans e,n,ne,nf,d⟩
   intro q
   rw[q,hoc] at e
   have q':oc=p.2:=Option.some.inj e
   exact d w' (by rw[← q'];exact Aiv)
theorem Yv{M:Model}{A:Around}{E:Value→Shared→Prop}{i:Nat}{x:Str}{v:V}{u:Value}{Q:Unit→Shared→Prop}(I:Inv X pins σ H s)(hN:X.N.Nodup)(hi:X.N[i]?=some x)(hx:Loc X.env.scope x)(r:RelV v u)
  (h:∀ s',Inv X pins (σ.set i (some v)) H s'→Q () s') (hf:X.fn x=true∨X.env.scope.names.lookup x=some .local:=by first | exact .inl rfl | exact .inr rfl | assumption):wpAny M A (storeName X.env x u) Q E s :=
 Wf I hN hi hx r (fun s' I' _=>h s' I') hf
theorem Inv.call'{s':Shared}{ch:List Addr}(I:Inv X pins σ H s)(ho:s'.os=s.os)(u:Un (frs X.stack) ch H H' s.heap s'.heap)(hok:HOk X.prog X.w H' s'.heap)(hg:AllBare s'.gens)
  (hch:∀ b∈ch,(b∈X.ex∨X.s₀.heap.objs.size≤b)∧b≠X.env.locals∧(∀ x c,X.env.cells.lookup x=some c→c≠b)∧∀ p∈X.pn++pins,p.1≠b):Inv X pins σ H' s':=by
 obtain⟨h',g',d',t',o'⟩:=s'
 have e:o'=s.os:=ho
 subst e
 exact I.call (g':=g') (t':=t') (d':=d') u hok hg hch
end
abbrev XK:=Value→Option Addr→Hp→Prop
abbrev St:=List (Option V)
abbrev VK:=V→Hp→Prop
abbrev TE:=St→Hp→VK→Prop
abbrev TT:=St→Hp→(Bool→Hp→Prop)→Prop
abbrev TA:=St→Hp→(List V→Hp→Prop)→Prop
structure Ends where
 nx:St→Hp→Prop
 rt:VK
 bk:St→Hp→Prop:=fun _ _=>False
 ct:St→Hp→Prop:=fun _ _=>False
abbrev TS:=Ends→St→Hp→Prop
def EP (X:Cx)(pins:List (Addr × Obj))(σ:St)(Q:VK)(u:Value)(s':Shared):Prop:=∃ v H',Inv X pins σ H' s'∧RelV v u∧Q v H'
def TP (X:Cx)(pins:List (Addr × Obj))(σ:St)(Q:Bool→Hp→Prop)(b:Bool)(s':Shared):Prop:=∃ H',Inv X pins σ H' s'∧Q b H'
def AP (X:Cx)(pins:List (Addr × Obj))(σ:St)(Q:List V→Hp→Prop)(us:List Value)(s':Shared):Prop:=∃ vs H',Inv X pins σ H' s'∧Vals vs us∧Q vs H'
def SP (X:Cx)(pins:List (Addr × Obj))(D:Ends)(f:Flow)(s':Shared):Prop :=
 match f with
 | .next=>∃ σ' H',Inv X pins σ' H' s'∧D.nx σ' H'
 | .brk=>∃ σ' H',Inv X pins σ' H' s'∧D.bk σ' H'
 | .cont=>∃ σ' H',Inv X pins σ' H' s'∧D.ct σ' H'
 | .ret u=>∃ v σ' H',Inv X pins σ' H' s'∧RelV v u∧D.rt v H'
def PE (X:Cx)(e:Expr)(t:TE):Prop :=
 ∀(pins:List (Addr × Obj)) (s:Shared) (σ:St) (H:Hp) (Q:VK),Inv X pins σ H s→t σ H Q→wpAny (model X.prog X.w) X.A (eval e X.env) (EP X pins σ Q) X.xe s
def PT (X:Cx)(e:Expr)(t:TT):Prop :=
 ∀(pins:List (Addr × Obj)) (s:Shared) (σ:St) (H:Hp) (Q:Bool→Hp→Prop),Inv X pins σ H s→t σ H Q→wpAny (model X.prog X.w) X.A (isTrue e X.env (eval e X.env)) (TP X pins σ Q) X.xe s
def PW (X:Cx)(e:Expr)(t:TT):Prop :=
 ∀(whole:Sem Value) (pins:List (Addr × Obj)) (s:Shared) (σ:St) (H:Hp) (Q:Bool→Hp→Prop),Inv X pins σ H s→t σ H Q→wpAny (model X.prog X.w) X.A (isTrue e X.env whole) (TP X pins σ Q) X.xe s
theorem PW.pt{X:Cx}{e:Expr}{t:TT}(h:PW X e t):PT X e t:=h _
def PA (X:Cx)(es:List Expr)(t:TA):Prop :=
 ∀(pos:Pos) (pins:List (Addr × Obj)) (s:Shared) (σ:St) (H:Hp) (Q:List V→Hp→Prop),Inv X pins σ H s→t σ H Q→wpAny (model X.prog X.w) X.A (spliced (backTo pos (starEach es X.env))) (AP X pins σ Q) X.xe s
def PS (X:Cx)(st:Stmt)(t:TS):Prop :=
 ∀(pins:List (Addr × Obj)) (s:Shared) (σ:St) (H:Hp) (D:Ends),Inv X pins σ H s→t D σ H→wpAny (model X.prog X.w) X.A (exec st X.env) (SP X pins D) X.xe s
def PSs (X:Cx)(st:List Stmt)(t:TS):Prop :=
 ∀(pins:List (Addr × Obj)) (s:Shared) (σ:St) (H:Hp) (D:Ends),Inv X pins σ H s→t D σ H→wpAny (model X.prog X.w) X.A (execs st X.env) (SP X pins D) X.xe s
theorem thn{α:Type}{t:Sem α}{Q Q':α→Shared→Prop}{M:Model}{A:Around}{E:Value→Shared→Prop}{s:Shared}(h:wpAny M A t Q E s)(hQ:∀ a s,Q a s→Q' a s):wpAny M A t Q' E s:=wpAny_mono h hQ fun _ _ x=>x
open PySem PySem.Spec PyProof.Rows
section
variable {X:Cx}
def AgU (i:Nat):TE:=fun σ H Q=>∃ v,σ[i]?=some (some v)∧Q v H
def tC (v:V):TE:=fun _ H Q=>Q v H
theorem ZR{i:Nat}{x:Str}{pos:Pos}(hN:X.N[i]?=some x)(hv:Vis X.env.scope x)(hd:(x == ("__debug__" : Str))=false:=by decide) (hcd:(x == ("__classdict__" : Str))=false:=by decide):PE X (.Name x pos) (AgU i):=by
 intro pins s σ H Q I h
 obtain⟨v,e,h⟩:=h
 obtain⟨m,hn,hl⟩:=I.loc
 obtain⟨u,r,l⟩:=hl i x v hN e hv
 have fin:EP X pins σ Q u s:=⟨v,H,I,r,h⟩
 rcases l with ⟨hk,hm⟩ | ⟨hk,c,hc,hcell⟩
 ·exact wpAny_Name (wpAny_loadName_local I.ok.kind hk hn hm fin) hd
 ·rcases hk with hk | hk
  ·exact wpAny_Name (wpAny_loadName_cell I.ok.kind hk hc hcell fin) hd
  ·exact wpAny_Name (wpAny_loadName_free I.ok.kind hk hc hcell fin hcd) hd
theorem Af{i j pos}:PE X (.Constant (.int i) j pos) (tC (.int i)):=fun _ _ _ H _ I h=>wpAny_Constant_int ⟨.int i,H,I.tok _,⟨_,rfl⟩,h⟩
theorem QQ{b j pos}:PE X (.Constant (.bool b) j pos) (tC (.bl b)):=fun _ _ _ H _ I h=>Constant_bool ⟨.bl b,H,I,rfl,h⟩
theorem Fe{x j pos}:PE X (.Constant (.str x) j pos) (tC (.str x)):=fun _ _ _ H _ I h=>Calls.Constant_str ⟨.str x,H,I.tok _,⟨_,rfl⟩,h⟩
def Gl (X:Cx)(x:Str):Prop:=X.env.kindOf x=some .globalImplicit
theorem AaF{E:Value→Shared→Prop}{pins:List (Addr × Obj)}{s:Shared}{σ:St}{H:Hp}{x:Str}{u:Value}{pos:Pos}{Q:Value→Shared→Prop}(I:Inv X pins σ H s)(hg:Gl X x)(hm:X.mg x=some u)(h:Q u s)
  (hd:(x == ("__debug__" : Str))=false:=by decide):wpAny (model X.prog X.w) X.A (eval (.Name x pos) X.env) Q E s :=
 Calls.Name_function_global I.ok.kind hg (Calls.loadGlobal_global (by rw[I.ok.glob];exact I.mod.glob.keeps I.bk) hm h) hd
theorem HY{E:Value→Shared→Prop}{pins:List (Addr × Obj)}{s:Shared}{σ:St}{H:Hp}{x:Str}{u:Value}{pos:Pos}{Q:Value→Shared→Prop}(I:Inv X pins σ H s)(hg:Gl X x)(hm:X.mg x=none)(hv:bootBuiltins x=some u)(h:Q u s)
  (hn:x ≠ "__name__" := by decide) (hd:(x == ("__debug__" : Str))=false:=by decide):wpAny (model X.prog X.w) X.A (eval (.Name x pos) X.env) Q E s:=by
 obtain⟨mb,h1,h2⟩:=I.mod.blt
 exact Calls.Name_function_global I.ok.kind hg (Calls.loadGlobal_builtin (by rw[I.ok.glob];exact I.mod.glob.keeps I.bk) hm (by rw[I.ok.blt];exact h1.keeps I.bk) ((h2 x hn).trans hv) h) hd
theorem Ut{x:Str}{v:V}{u:Value}{pos:Pos}(hg:Gl X x)(hm:X.mg x=some u)(r:RelV v u)(hd:(x == ("__debug__" : Str))=false:=by decide):PE X (.Name x pos) (tC v) :=
 fun _ _ _ H _ I h=>AaF I hg hm ⟨v,H,I,r,h⟩ hd
theorem QR{x:Str}{v:V}{u:Value}{pos:Pos}(hg:Gl X x)(hm:X.mg x=none)(hv:bootBuiltins x=some u)(r:RelV v u)(hn:x ≠ "__name__" := by decide) (hd:(x == ("__debug__" : Str))=false:=by decide):PE X (.Name x pos) (tC v) :=
 fun _ _ _ H _ I h=>HY I hg hm hv ⟨v,H,I,r,h⟩ hn hd
def t2I (ta tb:TE)(k:Int→Int→Hp→Prop):St→Hp→Prop:=fun σ H=>ta σ H fun x H1=>tb σ H1 fun y H2=>∃ i j,x=.int i∧y=.int j∧k i j H2
def AjR (ta tb:TE):TE:=fun σ H Q=>t2I ta tb (fun i j H2=>Q (.int (i+j)) H2) σ H
def AjS (ta tb:TE):TE:=fun σ H Q=>t2I ta tb (fun i j H2=>Q (.int (i-j)) H2) σ H
def AjT (ta tb:TE):TE:=fun σ H Q=>t2I ta tb (fun i j H2=>(-(2 ^ 64)<i∧i<2 ^ 64)∧Q (.int (i*j)) H2) σ H
variable {a b:Expr}{ta tb:TE}{pos:Pos}
def PC (X:Cx)(op:CmpOp)(a b:Expr)(t:TE):Prop :=
 ∀(pins:List (Addr × Obj)) (s:Shared) (σ:St) (H:Hp) (Q:VK),Inv X pins σ H s→t σ H Q →
  wpAny (model X.prog X.w) X.A (eval a X.env) (fun v s₁=>wpAny (model X.prog X.w) X.A (eval b X.env) (fun u s₂=>wpAny (model X.prog X.w) X.A (compareOp op v u) (EP X pins σ Q) X.xe s₂) X.xe s₁) X.xe s
def Abz (p:Int→Int→Bool)(ta tb:TE):TE:=fun σ H Q=>t2I ta tb (fun i j H2=>Q (.bl (p i j)) H2) σ H
abbrev tLt:TE→TE→TE:=Abz fun i j=>decide (i<j)
abbrev tLe:TE→TE→TE:=Abz fun i j=>decide (i≤j)
abbrev tGt:TE→TE→TE:=Abz fun i j=>decide (j<i)
abbrev tGe:TE→TE→TE:=Abz fun i j=>decide (j≤i)
abbrev AjU:TE→TE→TE:=Abz fun i j=>decide (i=j)
abbrev AjV:TE→TE→TE:=Abz fun i j=>!decide (i=j)
def AjW (ta:TE):TE:=fun σ H Q=>ta σ H fun x H1=>Q (.bl (decide (x=.non))) H1
def Aj4 (ta:TE):TE:=fun σ H Q=>ta σ H fun x H1=>Q (.bl (!decide (x=.non))) H1
def tB (t:TE):TT:=fun σ H Q=>t σ H fun x H1=>∃ c,x=.bl c∧Q c H1
theorem MK{e:Expr}{t:TE}(h:PE X e t)(he:∀ whole,isTrue e X.env whole=(do let v ← whole;standAt e.pos;holding [v] (truthy v)):=by intro _;rfl):PT X e (tB t):=by
 intro pins s σ H Q I hw
 refine isTrue_plain (thn (h pins s σ H _ I hw) fun v s1 ⟨x,H1,I1,r1,q1⟩=>?_) (he _)
 obtain⟨d,rfl,q⟩:=q1
 cases r1
 exact wpAny_truthy_bool ⟨H1,I1,q⟩
variable {tA tB':TT}{rest:List Expr}
def Aiw (t u:TT):TT:=fun σ H Q=>t σ H fun c H1=>if c=true then u σ H1 Q else Q false H1
def tOr (t u:TT):TT:=fun σ H Q=>t σ H fun c H1=>if c=true then Q true H1 else u σ H1 Q
def Aix (t:TT):TT:=fun σ H Q=>t σ H fun c H1=>Q (!c) H1
theorem pw_and1(ha:PT X a tA):PW X (.BoolOp .And [a] pos) tA:=by
 intro wh pins s σ H Q I h
 refine isTrue_and (thn (ha pins s σ H Q I h) fun c s1 e=>?_)
 cases c with
 | true=>exact isTrue_and_nil e
 | false=>exact e
theorem pw_or1(ha:PT X a tA):PW X (.BoolOp .Or [a] pos) tA:=by
 intro wh pins s σ H Q I h
 refine isTrue_or (thn (ha pins s σ H Q I h) fun c s1 e=>?_)
 cases c with
 | false=>exact isTrue_or_nil e
 | true=>exact e
theorem pw_and(ha:PT X a tA)(hb:PW X (.BoolOp .And (b::rest) pos) tB'):PW X (.BoolOp .And (a::b::rest) pos) (Aiw tA tB'):=by
 intro wh pins s σ H Q I h
 refine isTrue_and (thn (ha pins s σ H _ I h) fun c s1 ⟨H1,I1,q1⟩=>?_)
 cases c with
 | true=>exact hb wh pins s1 σ H1 Q I1 q1
 | false=>exact⟨H1,I1,q1⟩
theorem pw_or(ha:PT X a tA)(hb:PW X (.BoolOp .Or (b::rest) pos) tB'):PW X (.BoolOp .Or (a::b::rest) pos) (tOr tA tB'):=by
 intro wh pins s σ H Q I h
 refine isTrue_or (thn (ha pins s σ H _ I h) fun c s1 ⟨H1,I1,q1⟩=>?_)
 cases c with
 | true=>exact⟨H1,I1,q1⟩
 | false=>exact hb wh pins s1 σ H1 Q I1 q1
theorem Qo(ha:PT X a tA):PT X (.UnaryOp .Not a pos) (Aix tA):=by
 intro pins s σ H Q I h
 exact isTrue_not (ha pins s σ H (fun c H1=>Q (!c) H1) I h)
def AgV (ta tb:TE):TE:=fun σ H Q=>ta σ H fun x H1=>∃ c,x=.bl c∧if c=true then tb σ H1 Q else Q (.bl false) H1
def AjX (ta tb:TE):TE:=fun σ H Q=>ta σ H fun x H1=>∃ c,x=.bl c∧if c=true then Q (.bl true) H1 else tb σ H1 Q
def AgW (ta:TE):TE:=fun σ H Q=>ta σ H fun x H1=>∃ c,x=.bl c∧Q (.bl (!c)) H1
theorem Acf{op}{t:TE}(h:PE X a t):PE X (.BoolOp op [a] pos) t:=fun pins s σ H Q I hw=>BoolOp_one (h pins s σ H Q I hw)
theorem Acg(ha:PE X a ta)(hb:PE X (.BoolOp .And (b::rest) pos) tb):PE X (.BoolOp .And (a::b::rest) pos) (AgV ta tb):=by
 intro pins s σ H Q I h
 refine BoolOp_and (thn (ha pins s σ H _ I h) fun v s1 ⟨x,H1,I1,r1,q1⟩=>?_)
 obtain⟨c,rfl,q1⟩:=q1
 cases r1
 refine wpAny_truthy_bool ?_
 cases c with
 | true=>exact hb pins s1 σ H1 Q I1 q1
 | false=>exact⟨.bl false,H1,I1,rfl,q1⟩
theorem Af8(ha:PE X a ta):PE X (.UnaryOp .Not a pos) (AgW ta):=by
 intro pins s σ H Q I h
 refine UnaryOp_ (thn (ha pins s σ H _ I h) fun v s1 ⟨x,H1,I1,r1,q1⟩=>?_)
 obtain⟨c,rfl,q1⟩:=q1
 cases r1
 exact not_of (wpAny_truthy_bool ⟨.bl (!c),H1,I1,rfl,q1⟩)
def tIf (t:TT)(ta tb:TE):TE:=fun σ H Q=>t σ H fun c H1=>if c=true then ta σ H1 Q else tb σ H1 Q
theorem Ach{c:Expr}(hc:PT X c tA)(ha:PE X a ta)(hb:PE X b tb):PE X (.IfExp c a b pos) (tIf tA ta tb):=by
 intro pins s σ H Q I h
 refine wpAny_IfExp (thn (hc pins s σ H _ I h) fun d s1 ⟨H1,I1,q1⟩=>?_)
 cases d with
 | true=>exact ha pins s1 σ H1 Q I1 q1
 | false=>exact hb pins s1 σ H1 Q I1 q1
end
open PySem PySem.Spec PyProof.Rows
def SqL (K:PySem.W.Frag)(H:Hp)(a:Addr)(xs:List V):Prop :=
 Rd H a (.lst xs) ∨
  ∃(o:Obj) (its:Array Value) (n:Nat),K.lookup a=some o∧o.cls=.type "list" ∧ o.dict=none∧o.data=.seq its n∧its.size≤sizeLine∧Vals xs its.toList
def SqT (K:PySem.W.Frag)(H:Hp)(a:Addr)(xs:List V):Prop :=
 Rd H a (.tup xs) ∨
  ∃(o:Obj) (its:Array Value) (n:Nat),K.lookup a=some o∧o.cls=.type "tuple" ∧ o.data=.seq its n∧its.size≤sizeLine∧Vals xs its.toList
def Aiy:Value→Option V
 | .none=>some .non
 | .bool b=>some (.bl b)
 | .int i _=>some (.int i)
 | .str x _=>some (.str x)
 | .bytes b _=>some (.byt b)
 | .float b _=>some (.flt b)
 | .ref a=>some (.ref a)
 | .type n=>some (.ty n)
 | _=>none
theorem RelV.abs{x:V}{u:Value}(r:RelV x u):Aiy u=some x:=by
 cases x with
 | non=>cases r;rfl
 | bl _=>cases r;rfl
 | int _=>obtain⟨t,rfl⟩:=r;rfl
 | str _=>obtain⟨t,rfl⟩:=r;rfl
 | byt _=>obtain⟨t,rfl⟩:=r;rfl
 | flt _=>obtain⟨t,rfl⟩:=r;rfl
 | ref _=>cases r;rfl
 | ty _=>cases r;rfl
theorem RelV.inj{x y:V}{u:Value}(r:RelV x u)(q:RelV y u):x=y:=Option.some.inj (r.abs.symm.trans q.abs)
theorem Vals.inj:∀{xs ys:List V} {us:List Value},Vals xs us→Vals ys us→xs=ys
 | _,_,_,.nil,.nil=>rfl
 | _,_,_,.cons r t,.cons r' t'=>by rw[r.inj r',Vals.inj t t']
section
variable {X:Cx}{pins:List (Addr × Obj)}{σ:St}{H:Hp}{s:Shared}{a:Addr}{xs ys:List V}
theorem SqL.of{K:PySem.W.Frag}(h:H a=some (.lst xs)):SqL K H a xs:=.inl (.inl h)
theorem SqT.of{K:PySem.W.Frag}(h:H a=some (.tup xs)):SqT K H a xs:=.inl (.inl h)
theorem Inv.list(I:Inv X pins σ H s)(h:SqL X.K H a xs):∃ its:List Value,Vals xs its∧PlainL s.heap a its.toArray∧xs.length≤sizeLine:=by
 rcases h with h | ⟨o,its,n,hk,hc,hd,hs,hz,r⟩
 ·obtain⟨z,its,n,r,e⟩:=h.ok I.hok
  exact⟨its,r,⟨_,n,e,rfl,rfl,rfl⟩,z⟩
 ·refine⟨its.toList,r,⟨o,n,I.kIn a o hk,hc,hd,by simpa using hs⟩,?_⟩
  have e:=r.length
  simp only [Array.length_toList] at e
  omega
theorem Inv.tuple(I:Inv X pins σ H s)(h:SqT X.K H a xs):∃ its:List Value,Vals xs its∧IsTup s.heap a its.toArray∧xs.length≤sizeLine:=by
 rcases h with h | ⟨o,its,n,hk,hc,hs,hz,r⟩
 ·obtain⟨z,its,r,p⟩:=h.ok I.hok
  exact⟨its,r,p,z⟩
 ·refine⟨its.toList,r,⟨o,I.kIn a o hk,hc,n,by simpa using hs⟩,?_⟩
  have e:=r.length
  simp only [Array.length_toList] at e
  omega
theorem Inv.Ia(I:Inv X pins σ H s)(h:SqL X.K H a xs)(h':SqL X.K H a ys):xs=ys:=by
 obtain⟨its,r,⟨o,n,e,_,_,d⟩,_⟩:=I.list h
 obtain⟨its',r',⟨o',n',e',_,_,d'⟩,_⟩:=I.list h'
 rw[e] at e';cases e'
 rw[d] at d'
 injection d' with d1 _
 have:its=its':=by simpa using congrArg Array.toList d1
 subst this
 exact r.inj r'
theorem Inv.S7(I:Inv X pins σ H s)(h:SqT X.K H a xs)(h':SqT X.K H a ys):xs=ys:=by
 obtain⟨its,r,⟨o,e,_,n,d⟩,_⟩:=I.tuple h
 obtain⟨its',r',⟨o',e',_,n',d'⟩,_⟩:=I.tuple h'
 rw[e] at e';cases e'
 rw[d] at d'
 injection d' with d1 _
 have:its=its':=by simpa using congrArg Array.toList d1
 subst this
 exact r.inj r'
end
abbrev Cx.wish (X:Cx) (E:Value→Shared→Prop):Cx:={ X with xe:=E }
abbrev Cx.nox (X:Cx):Cx:=X.wish fun _ _=>False
theorem Cx.Ok.wish{X:Cx}(ok:X.Ok)(E:Value→Shared→Prop):(X.wish E).Ok :=
 ⟨ok.mod,ok.kind,ok.glob,ok.blt,ok.above,ok.inj,ok.has,ok.cab,ok.hd,ok.frames,ok.stk,ok.exf,ok.bs,ok.bsz,ok.Abx,ok.Aby,ok.Ul,ok.frf⟩
theorem Cx.Ok.MN{X:Cx}{E:Value→Shared→Prop}(ok:(X.wish E).Ok):X.Ok :=
 ⟨ok.mod,ok.kind,ok.glob,ok.blt,ok.above,ok.inj,ok.has,ok.cab,ok.hd,ok.frames,ok.stk,ok.exf,ok.bs,ok.bsz,ok.Abx,ok.Aby,ok.Ul,ok.frf⟩
section
variable {X:Cx}{pins:List (Addr × Obj)}{σ:St}{H:Hp}{s:Shared}{E:Value→Shared→Prop}
theorem Inv.wish(I:Inv X pins σ H s)(E:Value→Shared→Prop):Inv (X.wish E) pins σ H s:=⟨I.ok.wish E,I.os,I.bare,I.base,I.loc,I.cell,I.free,I.Ku,I.pin,I.hok,I.len⟩
theorem Inv.MN(I:Inv (X.wish E) pins σ H s):Inv X pins σ H s:=⟨I.ok.MN,I.os,I.bare,I.base,I.loc,I.cell,I.free,I.Ku,I.pin,I.hok,I.len⟩
theorem SP.MN{D:Ends}{f:Flow}{s':Shared}(h:SP (X.wish E) pins D f s'):SP X pins D f s':=by
 cases f with
 | next=>obtain⟨σ',H',I,q⟩:=h;exact⟨σ',H',I.MN,q⟩
 | brk=>obtain⟨σ',H',I,q⟩:=h;exact⟨σ',H',I.MN,q⟩
 | cont=>obtain⟨σ',H',I,q⟩:=h;exact⟨σ',H',I.MN,q⟩
 | ret u=>obtain⟨v,σ',H',I,r,q⟩:=h;exact⟨v,σ',H',I.MN,r,q⟩
theorem PSs.nox{st:List Stmt}{t:TS}(h:PSs X.nox st t):PSs X st t:=fun pins s σ H D I hw =>
 wpAny_mono (h pins s σ H D (I.wish _) hw) (fun _ _ q=>q.MN) fun _ _ z=>False.elim z
end
section
variable {X:Cx}{st:Stmt}{rest:List Stmt}{t u:TS}{e:Expr}{te:TE}{pos:Pos}
def AgX:TS:=fun D σ H=>D.nx σ H
def AgY (t u:TS):TS:=fun D σ H=>t { D with nx:=u D } σ H
theorem Cv:PSs X [] AgX:=fun _ _ σ H _ I h=>wpAny_execs_nil ⟨σ,H,I,h⟩
theorem Ab(h1:PS X st t)(h2:PSs X rest u):PSs X (st::rest) (AgY t u):=by
 intro pins s σ H D I h
 refine wpAny_execs_cons (thn (h1 pins s σ H { D with nx:=u D } I h) fun f s1 q=>?_)
 cases f with
 | next =>
  obtain⟨σ',H',I',q⟩:=q
  exact h2 pins s1 σ' H' D I' q
 | ret v=>exact q
 | brk=>exact q
 | cont=>exact q
theorem Ag(h1:PS X st t):PSs X [st] t:=by
 intro pins s σ H D I h
 refine wpAny_execs_cons (thn (h1 pins s σ H D I h) fun f s1 q=>?_)
 cases f with
 | next=>exact wpAny_execs_nil q
 | ret v=>exact q
 | brk=>exact q
 | cont=>exact q
def Aiz:TS:=fun D σ H=>D.bk σ H
def Aj5:TS:=fun D σ H=>D.ct σ H
theorem Inv.quiet{pins:List (Addr × Obj)}{σ:St}{H:Hp}{s:Shared}(I:Inv X pins σ H s):interactive X.env=false:=by simp[interactive,I.ok.kind]
def AgZ (te:TE):TS:=fun D σ H=>te σ H fun _ H1=>D.nx σ H1
theorem Gi(he:PE X e te)(hs:swapsWith e none pos.line X.env=pure false:=by rfl):PS X (.Expr e pos) (AgZ te):=by
 intro pins s σ H D I h
 exact wpAny_Expr_any (thn (he pins s σ H _ I h) fun v s1 ⟨x,H1,I1,r1,q1⟩=>⟨σ,H1,I1,q1⟩) I.quiet hs
def Ai0 (te:TE):TS:=fun D σ H=>te σ H D.rt
theorem Cg(he:PE X e te):PS X (.Return (some e) pos) (Ai0 te):=by
 intro pins s σ H D I h
 exact wpAny_Return_some (thn (he pins s σ H _ I h) fun v s1 ⟨x,H1,I1,r1,q1⟩=>⟨x,σ,H1,I1,r1,q1⟩)
def Aj6:TS:=fun D _ H=>D.rt .non H
def Ai1 (c:TT)(t u:TS):TS:=fun D σ H=>c σ H fun b H1=>if b=true then t D σ H1 else u D σ H1
theorem Fd{c:Expr}{a b:List Stmt}{tc:TT}(hc:PT X c tc)(ha:PSs X a t)(hb:PSs X b u):PS X (.If c a b pos) (Ai1 tc t u):=by
 intro pins s σ H D I h
 refine wpAny_If (thn (hc pins s σ H _ I h) fun d s1 ⟨H1,I1,q1⟩=>?_)
 cases d with
 | true=>exact ha pins s1 σ H1 D I1 q1
 | false=>exact hb pins s1 σ H1 D I1 q1
def Af9:TS:=fun _ _ _=>False
theorem Kv:PS X st Af9:=fun _ _ _ _ _ _ h=>h.elim
end
abbrev TG:=V→St→Hp→(St→Hp→Prop)→Prop
abbrev TGs:=List V→St→Hp→(St→Hp→Prop)→Prop
def PG (X:Cx)(target:Expr)(t:TG):Prop :=
 ∀(pins:List (Addr × Obj)) (s:Shared) (σ:St) (H:Hp) (v:V) (u:Value) (Q:St→Hp→Prop),Inv X pins σ H s→RelV v u→t v σ H Q →
  wpAny (model X.prog X.w) X.A (assign target X.env u) (fun _ s'=>∃ σ' H',Inv X pins σ' H' s'∧Q σ' H') X.xe s
def PGs (X:Cx)(ts:List Expr)(t:TGs):Prop :=
 ∀(pins:List (Addr × Obj)) (s:Shared) (σ:St) (H:Hp) (vs:List V) (us:List Value) (Q:St→Hp→Prop),Inv X pins σ H s→Vals vs us→t vs σ H Q →
  wpAny (model X.prog X.w) X.A (assignInOrder ((assignEach ts X.env).map (·.2)) us) (fun _ s'=>∃ σ' H',Inv X pins σ' H' s'∧Q σ' H') X.xe s
abbrev AdQ:=V→V→V→Hp→(Hp→Prop)→Prop
def Aha (X:Cx)(t:AdQ):Prop :=
 ∀(pins:List (Addr × Obj)) (s:Shared) (σ:St) (H:Hp) (o i v:V) (ov iv u:Value) (Q:Hp→Prop),Inv X pins σ H s→RelV o ov→RelV i iv→RelV v u→t o i v H Q →
  wpAny (model X.prog X.w) X.A (setItem ov iv u) (fun _ s'=>∃ H',Inv X pins σ H' s'∧Q H') X.xe s
abbrev TIp:=V→V→Hp→VK→Prop
def PIp (X:Cx)(op:Operator)(t:TIp):Prop :=
 ∀(pins:List (Addr × Obj)) (s:Shared) (σ:St) (H:Hp) (x y:V) (v u:Value) (Q:VK),Inv X pins σ H s→RelV x v→RelV y u→t x y H Q →
  wpAny (model X.prog X.w) X.A (inplaceOp op v u) (EP X pins σ Q) X.xe s
section
variable {X:Cx}{pos:Pos}
def Yw (i:Nat):TG:=fun v σ H Q=>Q (σ.set i (some v)) H
theorem Bd{i:Nat}{x:Str}(hN:X.N.Nodup)(hi:X.N[i]?=some x)(hx:Loc X.env.scope x)(hf:X.fn x=true∨X.env.scope.names.lookup x=some .local:=by first | exact .inl rfl | exact .inr rfl | assumption):PG X (.Name x pos) (Yw i):=by
 intro pins s σ H v u Q I r h
 exact wpAny_assign_Name (Yv I hN hi hx r (fun s' I'=>⟨_,H,I',h⟩) hf)
def Ai2:TGs:=fun vs σ H Q=>vs=[]∧Q σ H
def Ahb (t:TG)(u:TGs):TGs:=fun vs σ H Q=>∃ v r,vs=v::r∧t v σ H fun σ' H'=>u r σ' H' Q
theorem AaG:PGs X [] Ai2:=by
 intro pins s σ H vs us Q I r h
 obtain⟨e,h⟩:=h
 subst e
 cases r
 exact assignInOrder_nil ⟨σ,H,I,h⟩
theorem QS{e:Expr}{es:List Expr}{t:TG}{u:TGs}(h1:PG X e t)(h2:PGs X es u)
  (hs:(assignEach (e::es) X.env).map (·.2)=assign e X.env::(assignEach es X.env).map (·.2):=by rfl):PGs X (e::es) (Ahb t u):=by
 intro pins s σ H vs us Q I r h
 obtain⟨v,vr,e1,h⟩:=h
 subst e1
 cases r with
 | cons r rr =>
  rw[hs]
  refine assignInOrder_cons (thn (h1 pins s σ H _ _ _ I r h) fun _ s1 ⟨σ1,H1,I1,q1⟩=>?_)
  exact h2 pins s1 σ1 H1 _ _ Q I1 rr q1
def Ai3 (K:PySem.W.Frag)(n:Nat)(t:TGs):TG:=fun v σ H Q=>∃ a xs,v=.ref a∧SqT K H a xs∧xs.length=n∧t xs σ H Q
theorem Aci{es:List Expr}{k:Nat}{t:TGs}{n:Nat}(hc:X.calm=true)(h:PGs X es t)
  (hn:(assignEach es X.env).length=n:=by rfl) (hst:(assignEach es X.env).findIdx? (·.1)=none:=by rfl):PG X (.Tuple es k pos) (Ai3 X.K n t):=by
 intro pins s σ H v u Q I r hw
 obtain⟨a,xs,e1,hq,hl,hw⟩:=hw
 subst e1
 cases r
 obtain⟨its,rv,ht,hz⟩:=I.tuple hq
 refine assign_Tuple_tuple (I.ok.hd hc) ht (by simp[hn,← hl,rv.length]) hst fun h' hx=>?_
 have I1:Inv X pins σ H { s with heap:=h' }:=I.kept (t':=s.toks) fun b o e=>hx b o (AkF (Heap.lt_size e)) e
 exact h pins _ σ H xs _ Q I1 (by simpa using rv) hw
def Ai4 (to ti:TE)(t:AdQ):TG:=fun v σ H Q=>to σ H fun o H1=>ti σ H1 fun i H2=>t o i v H2 fun H3=>Q σ H3
theorem S8{o i:Expr}{to ti:TE}{t:AdQ}(ho:PE X o to)(hi:PE X i ti)(hs:Aha X t)
  (ha:∀ v,assign (.Subscript o i pos) X.env v=(do
   let ov ← holding [v] (eval o X.env)
   let iv ← holding [v,ov] (eval i X.env)
   standAt pos
   holding [v,ov,iv] (setItem ov iv v)
   release [v,ov,iv] []):=by intro _;rfl):PG X (.Subscript o i pos) (Ai4 to ti t):=by
 intro pins s σ H v u Q I r h
 rw[ha]
 refine wpAny_bind (wpAny_holding (thn (ho pins s σ H _ I h) fun ov s1 ⟨x,H1,I1,r1,q1⟩=>?_))
 refine wpAny_bind (wpAny_holding (thn (hi pins s1 σ H1 _ I1 q1) fun iv s2 ⟨y,H2,I2,r2,q2⟩=>?_))
 refine wpAny_bind (wpAny_standAt (wpAny_bind (wpAny_holding (thn (hs pins s2 σ H2 x y v ov iv u _ I2 r1 r2 r q2) fun _ s3 ⟨H3,I3,q3⟩=>?_))))
 exact wpAny_release ⟨σ,H3,I3,q3⟩
def AdR (te:TE)(g:TG):TS:=fun D σ H=>te σ H fun x H1=>g x σ H1 D.nx
theorem S9{tg e:Expr}{te:TE}{g:TG}(he:PE X e te)(hg:PG X tg g)(hs:swapsWithSole [tg] e pos.line X.env=pure false:=by rfl)(hw:swappedStores [tg] e X.env=pure none:=by rfl)
  (h1:(assignEach [tg] X.env).map (·.2)=[assign tg X.env]:=by rfl):PS X (.Assign [tg] e pos) (AdR te g):=by
 intro pins s σ H D I h
 refine wpAny_Assign_stores (thn (he pins s σ H _ I h) fun v s1 ⟨x,H1,I1,r1,q1⟩=>?_) hs hw
 rw[h1]
 exact thn (hg pins s1 σ H1 x v _ I1 r1 q1) fun _ s2 q=>q
theorem Aj{i:Nat}{x:Str}{e:Expr}{te:TE}{pos':Pos}(hN:X.N.Nodup)(hi:X.N[i]?=some x)(hx:Loc X.env.scope x)(he:PE X e te)(hs:swapsWith e (some (.Name x pos')) pos.line X.env=pure false:=by rfl)(hf:X.fn x=true∨X.env.scope.names.lookup x=some .local:=by first | exact .inl rfl | exact .inr rfl | assumption) :
  PS X (.Assign [.Name x pos'] e pos) (AdR te (Yw i)):=by
 intro pins s σ H D I h
 refine wpAny_Assign_Name (thn (he pins s σ H _ I h) fun v s1 ⟨y,H1,I1,r1,q1⟩=>?_) hs
 exact Yv I1 hN hi hx r1 (fun s2 I2=>⟨_,H1,I2,q1⟩) hf
def AjY (i j:Nat)(ta:TA):TS:=fun D σ H=>ta σ H fun vs H1=>∃ v w,vs=[v,w]∧D.nx ((σ.set i (some v)).set j (some w)) H1
def AjZ (i:Nat)(te:TE)(ti:TIp):TS:=fun D σ H=>∃ x,σ[i]?=some (some x)∧te σ H fun y H1=>ti x y H1 fun z H2=>D.nx (σ.set i (some z)) H2
def Aj7 (to ti te:TE)(Ai5:V→V→Hp→VK→Prop)(tip:TIp)(Ai6:AdQ):TS:=fun D σ H=>to σ H fun o H1=>ti σ H1 fun i H2=>Ai5 o i H2 fun x H3=>te σ H3 fun y H4=>tip x y H4 fun z H5=>Ai6 o i z H5 fun H6=>D.nx σ H6
def Aka (X:Cx)(t:V→V→Hp→VK→Prop):Prop :=
 ∀(pins:List (Addr × Obj)) (s:Shared) (σ:St) (H:Hp) (o i:V) (ov iv:Value) (Q:VK),Inv X pins σ H s→RelV o ov→RelV i iv→t o i H Q →
  wpAny (model X.prog X.w) X.A (getItem ov iv) (EP X pins σ Q) X.xe s
def ipI (f:Int→Int→Int):TIp:=fun x y H Q=>∃ i j,x=.int i∧y=.int j∧Q (.int (f i j)) H
end
section
variable {X:Cx}{pos:Pos}
def Ai7 (c:TT)(tb:TS):TS:=fun D σ H=>∃ W:Nat→St→Hp→Prop,(∃ m,W m σ H)∧∀ m σ H,W m σ H →
 c σ H fun b H1=>if b=true then ∃ N:St→Hp→Prop,(∀ σ' H',N σ' H'→∃ m',m'<m∧W m' σ' H')∧tb { D with nx:=N,ct:=N,bk:=D.nx } σ H1 else D.nx σ H1
end
structure It where
 go:Nat→Hp→Prop
 yld:Nat→Hp→V→Hp→Prop
 stop:Nat→Hp→Prop
def Qp (X:Cx)(pins:List (Addr × Obj))(H:Hp)(b:Addr):Prop :=
 H b=none∧b≠X.env.locals∧b∉X.fs∧(b∈X.ex∨X.s₀.heap.objs.size≤b)∧(∀ x c,X.env.cells.lookup x=some c→c≠b)∧∀ p∈X.pn++pins,p.1≠b
theorem Inv.Acj{X:Cx}{pins:List (Addr × Obj)}{σ:St}{H H':Hp}{s:Shared}{b:Addr}(I:Inv X pins σ H s)(hb:s.heap.objs.size≤b)(hn:H' b=none):Qp X pins H' b:=by
 refine⟨hn,Alp (AkK I.lt hb),I.Af7 hb,.inr (AkS I.sz hb),fun x c e z=>?_,fun p hp z=>?_⟩
 ·obtain⟨v,q⟩:=I.cell x c e
  exact absurd (AkK q.lt (by rw[z];exact hb)) (Alf _)
 ·exact absurd (AkK (Heap.lt_size (I.pin p hp).1) (by rw[z];exact hb)) (Alf _)
structure Turn (P:Program) (w:World) (K:PySem.W.Frag) (tg:Expr) (J:It) (fp:List Addr) (it:Addr) (tn:Nat→Heap→Prop):Prop where
 mem:it∈fp
 obj:∀ i h,tn i h→∀ b∈fp,∃ o,h.get? b=some o∧∀ v,o.data≠.cell v
 keep:∀ i h h',tn i h→(∀ b∈fp,∀ o,h.get? b=some o→h'.get? b=some o)→tn i h'
 item:∀(X:Cx),X.prog=P→X.w=w→X.K=K→X.calm=true→∀(i:Nat) (pins:List (Addr × Obj)) (s:Shared) (σ:St) (H:Hp) (E:Value→Shared→Prop),Inv X pins σ H s→(∀ b∈fp,Qp X pins H b)→tn i s.heap→J.go i H →
  wpAny (model P w) X.A (pyNext (.ref it)) (fun r s1=>∃ u,r=some u ∧
   wpAny (model P w) X.A (letOwnedTupleGo tg (.ref it) u) (fun _ s2=>∃ x H',Inv X pins σ H' s2∧RelV x u∧J.yld i H x H'∧tn (i+1) s2.heap∧∀ b∈fp,H' b=none) E s1) E s
 done:∀(X:Cx),X.prog=P→X.w=w→X.K=K→X.calm=true→∀(i:Nat) (pins:List (Addr × Obj)) (s:Shared) (σ:St) (H:Hp) (E:Value→Shared→Prop),Inv X pins σ H s→(∀ b∈fp,Qp X pins H b)→tn i s.heap→J.stop i H →
  wpAny (model P w) X.A (pyNext (.ref it)) (fun r s1=>r=none∧Inv X pins σ H s1) E s
 self:∀(A:Around) (i:Nat) (s:Shared) (Q:Value→Shared→Prop) (E:Value→Shared→Prop),tn i s.heap→Q (.ref it) s→wpAny (model P w) A (pyIter (.ref it)) Q E s
abbrev TI:=St→Hp→(It→Hp→Prop)→Prop
def PIE (X:Cx)(pins:List (Addr × Obj))(σ:St)(tg:Expr)(R:It→Hp→Prop)(itv:Value)(s2:Shared):Prop :=
 ∃(it:Addr) (fp:List Addr) (tn:Nat→Heap→Prop) (J:It) (H':Hp),itv=.ref it∧Inv X pins σ H' s2∧Turn X.prog X.w X.K tg J fp it tn∧tn 0 s2.heap∧(∀ b∈fp,Qp X pins H' b)∧R J H'
def PI (X:Cx)(tg iter:Expr)(wi:TI):Prop :=
 ∀(pins:List (Addr × Obj)) (s:Shared) (σ:St) (H:Hp) (R:It→Hp→Prop),Inv X pins σ H s→wi σ H R →
  wpAny (model X.prog X.w) X.A (eval iter X.env) (fun v s1=>wpAny (model X.prog X.w) X.A (pyIter v) (PIE X pins σ tg R) X.xe s1) X.xe s
theorem AaH{M:Model}{A:Around}{E:Value→Shared→Prop}{s:Shared}{tg:Expr}{it:Addr}{u:Value}{o:Obj}{n:String}{vs:Array Value}{Q:Unit→Shared→Prop}(ho:s.heap.get? it=some o)(hc:o.cls=.type n)(hd:o.data=.fields vs)
    (hn:["enumerate", "zip", "dict_itemiterator", "dict_reverseitemiterator", "odict_iterator", "itertools.zip_longest", "itertools.pairwise"].contains n=false) (hQ:Q () s):wpAny M A (letOwnedTupleGo tg (.ref it) u) Q E s:=by
  unfold letOwnedTupleGo
  cases tg <;> first
    | exact wpAny_pure hQ
    | (cases u <;> first
        | exact wpAny_pure hQ
        | (refine wpAny_bind (wpAny_load ho ?_)
           rw[hc,hd]
           show wpAny M A (if (["enumerate", "zip", "dict_itemiterator", "dict_reverseitemiterator", "odict_iterator", "itertools.zip_longest", "itertools.pairwise"].contains n && vs[0]? == some (rawInt _))=true then _ else _) Q E s
           rw[if_neg (by intro h;rw[hn,Bool.false_and] at h;cases h)]
           exact wpAny_pure hQ))
def Itl (K:PySem.W.Frag)(a:Addr):It :=
 ⟨fun i H=>∃ xs x,SqL K H a xs∧xs[i]?=some x,fun i H x H'=>H'=H∧∀ xs,SqL K H a xs→xs[i]?=some x,fun i H=>∃ xs,SqL K H a xs∧xs.length≤i⟩
def Itt (K:PySem.W.Frag)(a:Addr):It :=
 ⟨fun i H=>∃ xs x,SqT K H a xs∧xs[i]?=some x,fun i H x H'=>H'=H∧∀ xs,SqT K H a xs→xs[i]?=some x,fun i H=>∃ xs,SqT K H a xs∧xs.length≤i⟩
def Itr (lo:Int)(n:Nat):It:=⟨fun i _=>i<n,fun i H x H'=>H'=H∧x=.int (lo+i),fun i _=>n≤i⟩
theorem Ab0{P:Program}{w:World}{K:PySem.W.Frag}{tg:Expr}(a it:Addr):Turn P w K tg (Itl K a) [it] it (fun i h=>h.IsListIter it a i) where
 mem:=by simp
 obj:=fun i h st b hb=>by
  have e:b=it:=by simpa using hb
  subst e
  obtain⟨o,e,c,d⟩:=st
  exact⟨o,e,fun v z=>by rw[d] at z;cases z⟩
 keep:=fun i h h' st k=>st.at fun o e=>k it (by simp) o e
 item:=by
  intro X hP hw hK hc i pins s σ H E I hf st hg
  subst hP hw hK
  obtain⟨xs,x,hq,hx⟩:=hg
  obtain⟨its,rv,p,hz⟩:=I.list hq
  obtain⟨u,hu,ru⟩:=rv.get hx
  obtain⟨f0,f1,f2,f3,f4,f5⟩:=hf it (by simp)
  refine wpAny_pyNext_list_item st p.isList (x:=u) (by simpa using hu) fun h' st' sb=>?_
  have I1:Inv X pins σ H { s with heap:=h' }:=I.turned (t':=s.toks) (fun b o hb e=>(sb.2 b hb).trans e) f0 f1 f3 f4 f5
  obtain⟨o,e,c,d⟩:=id st'
  exact⟨u,rfl,AaH (s:={ s with heap:=h' }) e c d (by decide) ⟨x,H,I1,ru,⟨rfl,fun ys hy=>by rw[I.Ia hy hq];exact hx⟩,st',fun b hb=>(hf b hb).1⟩⟩
 done:=by
  intro X hP hw hK hc i pins s σ H E I hf st hg
  subst hP hw hK
  obtain⟨xs,hq,hx⟩:=hg
  obtain⟨its,rv,p,hz⟩:=I.list hq
  obtain⟨f0,f1,f2,f3,f4,f5⟩:=hf it (by simp)
  have hl:=rv.length
  exact wpAny_pyNext_list_end (I.ok.hd hc) st p.isList (by simp;omega) fun h' eb=>⟨rfl,I.turned (t':=s.toks) (fun b o hb e=>eb b o hb e) f0 f1 f3 f4 f5⟩
 self:=fun _ _ _ _ _ st h=>wpAny_pyIter_listiter st h
theorem ZS{P:Program}{w:World}{K:PySem.W.Frag}{tg:Expr}(it:Addr)(lo:Int)(n:Nat):Turn P w K tg (Itr lo n) [it] it (fun i h=>IsRangeIter h it (lo+(i:Nat)*1) ((n:Int)-(i:Nat)) 1) where
 mem:=by simp
 obj:=fun i h st b hb=>by
  have e:b=it:=by simpa using hb
  subst e
  exact⟨_,st,fun v z=>by
   have z':Data.fields _=Data.cell v:=z
   cases z'⟩
 keep:=fun i h h' st k=>k it (by simp) _ st
 item:=by
  intro X hP hw hK hc i pins s σ H E I hf st hg
  subst hP hw hK
  obtain⟨f0,f1,f2,f3,f4,f5⟩:=hf it (by simp)
  have W:=Walks.range (prog:=X.prog) (w:=X.w) (I.ok.hd hc) it lo 1 n
  refine W.item i s _ _ hg st fun v h' tk hv st' kk=>?_
  obtain⟨t,rfl⟩:=hv
  have I1:Inv X pins σ H { s with heap:=h',toks:=tk }:=I.turned (fun b o hb e=>kk b o (by simpa using hb) e) f0 f1 f3 f4 f5
  refine⟨_,rfl,AaH (s:={ s with heap:=h',toks:=tk }) (n := "range_iterator") st' rfl rfl (by decide) ⟨.int (lo+i),H,I1,⟨t,?_⟩,⟨rfl,rfl⟩,st',fun b hb=>(hf b hb).1⟩⟩
  rw[AlZ]
 done:=by
  intro X hP hw hK hc i pins s σ H E I hf st hg
  subst hP hw hK
  obtain⟨f0,f1,f2,f3,f4,f5⟩:=hf it (by simp)
  exact wpAny_pyNext_range_end (I.ok.hd hc) st (by have:n≤i:=hg;omega) fun h' eb=>⟨rfl,I.turned (t':=s.toks) (fun b o hb e=>eb b o hb e) f0 f1 f3 f4 f5⟩
 self:=fun _ _ _ _ _ st h=>wpAny_pyIter_rangeiter st h
open PySem PySem.Spec PyProof.Rows
section
variable {X:Cx}{tg:Expr}
def Afa (K:PySem.W.Frag)(tl:TE):TI:=fun σ H R=>tl σ H fun x H1=>∃ a,x=.ref a∧(∃ xs,SqL K H1 a xs)∧R (Itl K a) H1
def Akb (K:PySem.W.Frag)(tl:TE):TI:=fun σ H R=>tl σ H fun x H1=>∃ a,x=.ref a∧(∃ xs,SqT K H1 a xs)∧R (Itt K a) H1
theorem AdS{l:Expr}{tl:TE}(hl:PE X l tl):PI X tg l (Afa X.K tl):=by
 intro pins s σ H R I h
 refine thn (hl pins s σ H _ I h) fun v s1 ⟨x,H1,I1,r1,q1⟩=>?_
 obtain⟨a,e,⟨xs,hq⟩,q⟩:=q1
 subst e
 cases r1
 obtain⟨its,rv,p,hz⟩:=I1.list hq
 refine wpAny_pyIter_list p.isList ?_
 refine⟨s1.heap.objs.size,[s1.heap.objs.size],_,_,H1,rfl,I1.kept (t':=s1.toks) fun b o e=>Heap.get?_push_of_some _ e,Ab0 a _,⟨_,Heap.get?_push_size _ rfl,rfl,rfl⟩,fun b hb=>?_,q⟩
 have e:b=s1.heap.objs.size:=by simpa using hb
 subst e
 exact I1.Acj (Ak8 _) (I1.hok.fresh (Ak8 _))
theorem Yx{pins:List (Addr × Obj)}{σ:St}{H:Hp}{s:Shared}{R:It→Hp→Prop}{E:Value→Shared→Prop}{lo hi:Int}{t u v:Tok}{tk:Nat}(I:Inv X pins σ H s)(h1 : -(2 ^ 62)≤lo)(h2:lo<2 ^ 62)(h3 : -(2 ^ 62)≤hi)(h4:hi<2 ^ 62)
  (q:R (Itr lo (hi-lo).toNat) H):wpAny (model X.prog X.w) X.A (pyIter (.ref s.heap.objs.size)) (PIE X pins σ tg R) E { s with heap:=s.heap.push { cls:=.type "range", data:=.fields #[.int lo t,.int hi u,.int 1 v] },toks:=tk }:=by
 refine wpAny_pyIter_range (IsRange.new ..) (small_one h1 h2 h3 h4) ?_
 have I1:Inv X pins σ H { s with heap:=s.heap.push { cls:=.type "range", data:=.fields #[.int lo t,.int hi u,.int 1 v] },toks:=tk }:=I.kept fun b o e=>Heap.get?_push_of_some _ e
 refine⟨(s.heap.push { cls:=.type "range", data:=.fields #[.int lo t,.int hi u,.int 1 v] }).objs.size,[(s.heap.push { cls:=.type "range", data:=.fields #[.int lo t,.int hi u,.int 1 v] }).objs.size],_,_,H,rfl,
  I1.kept (t':=tk) fun b o e=>Heap.get?_push_of_some _ e,ZS _ lo (hi-lo).toNat,?_,fun b hb=>?_,q⟩
 ·have e1:lo+((0:Nat):Int)*1=lo:=by simp
  have e2:(((hi-lo).toNat:Nat):Int)-((0:Nat):Int)=Builtin.Range.rangeSize lo hi 1:=by rw[rangeSize_one];split <;> omega
  show IsRangeIter _ _ (lo+((0:Nat):Int)*1) ((((hi-lo).toNat:Nat):Int)-((0:Nat):Int)) 1
  rw[e1,e2]
  exact Heap.get?_push_size _ rfl
 ·have e:b=(s.heap.push { cls:=.type "range", data:=.fields #[.int lo t,.int hi u,.int 1 v] }).objs.size:=by simpa using hb
  subst e
  exact I1.Acj (Ak8 _) (I1.hok.fresh (Ak8 _))
def Ahc (ta:TA):TI:=fun σ H R=>ta σ H fun vs H1=>∃ j:Int,vs=[.int j] ∧ -(2 ^ 62)≤j∧j<2 ^ 62∧R (Itr 0 j.toNat) H1
def Ahd (ta:TA):TI:=fun σ H R=>ta σ H fun vs H1=>∃ i j:Int,vs=[.int i,.int j]∧(-(2 ^ 62)≤i∧i<2 ^ 62 ∧ -(2 ^ 62)≤j∧j<2 ^ 62)∧R (Itr i (j-i).toNat) H1
theorem Aw{a:Expr}{ta:TA}{p pos:Pos}(hg:Gl X "range") (hm:X.mg "range" = none) (ha:PA X [a] ta) (hs:starEach [a] X.env=[(false,eval a X.env)]:=by rfl):PI X tg (.Call (.Name "range" p) [a] [] pos) (Ahc ta):=by
 intro pins s σ H R I h
 refine Call_ (HY I hg hm boot_range (PyProof.Rows.callWith_type1 (thn (ha pos pins s σ H _ I h) fun us s1 ⟨vs,H1,I1,r1,q1⟩=>?_) hs rfl))
 obtain⟨j,e,q1,q2,q⟩:=q1
 subst e
 cases r1 with
 | cons r rr =>
  cases rr
  obtain⟨t,rfl⟩:=r
  exact call_range_1 (Yx I1 (by omega) (by omega) q1 q2 (by simpa using q))
theorem Ab1{a b:Expr}{ta:TA}{p pos:Pos}(hg:Gl X "range") (hm:X.mg "range" = none) (ha:PA X [a,b] ta) (hs:starEach [a,b] X.env=[(false,eval a X.env),(false,eval b X.env)]:=by rfl) (hs2:starEach [b] X.env=[(false,eval b X.env)]:=by rfl) :
  PI X tg (.Call (.Name "range" p) [a,b] [] pos) (Ahd ta):=by
 intro pins s σ H R I h
 refine Call_ (HY I hg hm boot_range (PyProof.Rows.callWith_type1 (thn (ha pos pins s σ H _ I h) fun us s1 ⟨vs,H1,I1,r1,q1⟩=>?_) (by rw[hs,hs2]) (by rw[hs2];rfl)))
 obtain⟨i,j,e,⟨q1,q2,q3,q4⟩,q⟩:=q1
 subst e
 cases r1 with
 | cons r rr =>
  cases rr with
  | cons r' rr =>
   cases rr
   obtain⟨t,rfl⟩:=r
   obtain⟨t',rfl⟩:=r'
   exact call_range_2 (Yx I1 q1 q2 q3 q4 q)
def Ai8 (wi:TI)(g:TG)(tb:TS):TS:=fun D σ H=>wi σ H fun J H1=>∃ W:Nat→Nat→St→Hp→Prop,(∃ m,W 0 m σ H1)∧∀ i m σ H,W i m σ H →
 (J.stop i H∧D.nx σ H)∨(J.go i H∧∃ N:St→Hp→Prop,(∀ σ' H',N σ' H'→∃ m',m'<m∧W (i+1) m' σ' H')∧∀ x H',J.yld i H x H'→g x σ H' fun σ2 H2=>tb { D with nx:=N,ct:=N,bk:=D.nx } σ2 H2)
def U3 (fp:List Addr)(h:Heap):List (Addr × Obj):=fp.filterMap fun b=>(h.get? b).map fun o=>(b,o)
theorem KN{fp:List Addr}{h:Heap}{b:Addr}{o:Obj}(hb:b∈fp)(e:h.get? b=some o):(b,o)∈U3 fp h:=List.mem_filterMap.mpr ⟨b,hb,by rw[e];rfl⟩
theorem Ab2{fp:List Addr}{h:Heap}{p:Addr × Obj}(hp:p∈U3 fp h):p.1∈fp∧h.get? p.1=some p.2:=by
 obtain⟨b,hb,e⟩:=List.mem_filterMap.mp hp
 cases q:h.get? b with
 | none=>rw[q] at e;cases e
 | some o =>
  rw[q] at e
  have e':(b,o)=p:=Option.some.inj e
  subst e'
  exact⟨hb,q⟩
theorem Inv.pinned{pins:List (Addr × Obj)}{σ:St}{H:Hp}{s:Shared}{fp:List Addr}(I:Inv X pins σ H s)(hf:∀ b∈fp,Qp X pins H b)(ho:∀ b∈fp,∃ o,s.heap.get? b=some o∧∀ v,o.data≠.cell v):Inv X (pins++U3 fp s.heap) σ H s :=
 I.HD fun p hp=>(List.mem_append.mp hp).elim (fun z=>I.pin p (AkU _ z)) fun z=>by
  obtain⟨hb,e⟩:=Ab2 z
  obtain⟨f0,f1,f2,_⟩:=hf p.1 hb
  obtain⟨o,e',d⟩:=ho p.1 hb
  rw[e] at e';cases e'
  exact⟨e,f0,f1,f2,d⟩
theorem Inv.U4{pins pl:List (Addr × Obj)}{σ:St}{H:Hp}{s:Shared}(I:Inv X (pins++pl) σ H s):Inv X pins σ H s:=I.HD fun p hp=>I.pin p (AkU _ (Ams _ hp))
theorem Ci{iter:Expr}{body:List Stmt}{wi:TI}{g:TG}{tb:TS}{pos:Pos}(hp:PassesOwn (model X.prog X.w) X.A X.env X.xe)(hc:X.calm=true)(hi:PI X tg iter wi)(hg:PG X tg g)(hb:PSs X body tb)
  (hs:∀ x,foldedSetIterable iter X.env x=pure x:=by intro _;rfl):PS X (.For tg iter body [] pos) (Ai8 wi g tb):=by
 intro pins s σ H D I h
 refine wpAny_For (thn (hi pins s σ H _ I h) fun v s1 h1=>thn h1 fun itv s2 h2=>?_) hs
 obtain⟨it,fp,tn,J,H2,e,I2,T,st2,f2,W,⟨m0,w0⟩,turn⟩:=h2
 subst e
 have stat:∀{H':Hp},(∀ b∈fp,H' b=none)→∀ b∈fp,Qp X pins H' b:=fun hn b hb=>⟨hn b hb,(f2 b hb).2⟩
 refine codeAny_forLoop_any (fun n s'=>∃ i σ' H',Inv X pins σ' H' s'∧tn i s'.heap∧(∀ b∈fp,H' b=none)∧W i n σ' H') ?_ m0 ⟨0,σ,H2,I2,st2,fun b hb=>(f2 b hb).1,w0⟩
 rintro n s3 ⟨i,σ3,H3,I3,st3,fr3,w3⟩
 rcases turn i n σ3 H3 w3 with ⟨stop,qn⟩ | ⟨go,N,hN,step⟩
 ·refine wpAny_passesOwn hp (thn (T.done X rfl rfl rfl hc i pins s3 σ3 H3 X.xe I3 (stat fr3) st3 stop) fun r s4 ⟨hr,I4⟩=>?_)
  subst hr
  exact wpAny_execs_nil ⟨σ3,H3,I4,qn⟩
 ·refine wpAny_passesOwn hp (thn (T.item X rfl rfl rfl hc i pins s3 σ3 H3 X.xe I3 (stat fr3) st3 go) fun r s4 ⟨u,hr,h4⟩=>?_)
  subst hr
  refine wpAny_passesOwn hp (thn h4 fun _ s5 ⟨x,H5,I5,r5,y5,st5,fr5⟩=>?_)
  have I5':=I5.pinned (stat fr5) (T.obj _ _ st5)
  refine wpAny_passesOwn hp (thn (hg _ s5 σ3 H5 x u _ I5' r5 (step x H5 y5)) fun _ s6 ⟨σ6,H6,I6,q6⟩=>?_)
  refine wpAny_passesOwn hp (thn (hb _ s6 σ6 H6 _ I6 q6) fun f s7 q7=>?_)
  have again:∀{σ7:St} {H7:Hp},Inv X (pins++U3 fp s5.heap) σ7 H7 s7→N σ7 H7→∃ m,m<n∧∃ i σ' H',Inv X pins σ' H' s7∧tn i s7.heap∧(∀ b∈fp,H' b=none)∧W i m σ' H':=fun {σ7 H7} I7 n7=>by
   obtain⟨m',hm,w7⟩:=hN σ7 H7 n7
   refine⟨m',hm,i+1,σ7,H7,I7.U4,T.keep _ _ _ st5 fun b hb o e=>(I7.pin (b,o) (AkU _ (AkU _ (KN hb e)))).1,fun b hb=>?_,w7⟩
   obtain⟨o,e,d⟩:=T.obj _ _ st5 b hb
   exact(I7.pin (b,o) (AkU _ (AkU _ (KN hb e)))).2.1
  cases f with
  | next=>obtain⟨σ7,H7,I7,n7⟩:=q7;exact again I7 n7
  | cont=>obtain⟨σ7,H7,I7,n7⟩:=q7;exact again I7 n7
  | brk=>obtain⟨σ7,H7,I7,q7⟩:=q7;exact⟨σ7,H7,I7.U4,q7⟩
  | ret v=>obtain⟨x7,σ7,H7,I7,r7,q7⟩:=q7;exact⟨x7,σ7,H7,I7.U4,r7,q7⟩
end
theorem QT{K:PySem.W.Frag}{a:Addr}{xs:List V}{g:TG}{tb:TS}{D:Ends}{σ:St}{H:Hp}(Pv:Nat→St→Hp→Prop)(h0:Pv 0 σ H)(hl:∀ i σ H,i≤xs.length→Pv i σ H→SqL K H a xs)
  (hs:∀ i x σ H,xs[i]?=some x→Pv i σ H→g x σ H fun σ2 H2=>tb { D with nx:=Pv (i+1),ct:=Pv (i+1),bk:=D.nx } σ2 H2) (hd:∀ σ H,Pv xs.length σ H→D.nx σ H) :
  ∃ W:Nat→Nat→St→Hp→Prop,(∃ m,W 0 m σ H)∧∀ i m σ H,W i m σ H →
   ((Itl K a).stop i H∧D.nx σ H)∨((Itl K a).go i H∧∃ N:St→Hp→Prop,(∀ σ' H',N σ' H'→∃ m',m'<m∧W (i+1) m' σ' H')∧∀ x H',(Itl K a).yld i H x H'→g x σ H' fun σ2 H2=>tb { D with nx:=N,ct:=N,bk:=D.nx } σ2 H2):=by
 refine⟨fun i m σ H=>m=xs.length-i∧i≤xs.length∧Pv i σ H,⟨xs.length,by simp,AkD _,h0⟩,?_⟩
 rintro i m σ H ⟨rfl,hi,p⟩
 have q:=hl i σ H hi p
 by_cases hlt:i<xs.length
 ·refine .inr ⟨⟨xs,xs[i],q,by simp[hlt]⟩,Pv (i+1),fun σ' H' p'=>⟨xs.length-(i+1),by omega,rfl,hlt,p'⟩,fun x H' y=>?_⟩
  obtain⟨e,y⟩:=y
  subst e
  exact hs i x σ _ (y xs q) p
 ·have e:i=xs.length:=by omega
  subst e
  exact .inl ⟨⟨xs,q,Ak8 _⟩,hd σ H p⟩
theorem Bp{lo:Int}{n:Nat}{g:TG}{tb:TS}{D:Ends}{σ:St}{H:Hp}(Pv:Nat→St→Hp→Prop)(h0:Pv 0 σ H)
  (hs:∀ i σ H,i<n→Pv i σ H→g (.int (lo+i)) σ H fun σ2 H2=>tb { D with nx:=Pv (i+1),ct:=Pv (i+1),bk:=D.nx } σ2 H2) (hd:∀ σ H,Pv n σ H→D.nx σ H) :
  ∃ W:Nat→Nat→St→Hp→Prop,(∃ m,W 0 m σ H)∧∀ i m σ H,W i m σ H →
   ((Itr lo n).stop i H∧D.nx σ H)∨((Itr lo n).go i H∧∃ N:St→Hp→Prop,(∀ σ' H',N σ' H'→∃ m',m'<m∧W (i+1) m' σ' H')∧∀ x H',(Itr lo n).yld i H x H'→g x σ H' fun σ2 H2=>tb { D with nx:=N,ct:=N,bk:=D.nx } σ2 H2):=by
 refine⟨fun i m σ H=>m=n-i∧i≤n∧Pv i σ H,⟨n,by simp,AkD _,h0⟩,?_⟩
 rintro i m σ H ⟨rfl,hi,p⟩
 by_cases hlt:i<n
 ·refine .inr ⟨hlt,Pv (i+1),fun σ' H' p'=>⟨n-(i+1),by omega,rfl,hlt,p'⟩,fun x H' y=>?_⟩
  obtain⟨e,y⟩:=y
  subst e y
  exact hs i σ _ hlt p
 ·have e:i=n:=by omega
  subst e
  exact .inl ⟨Ak8 _,hd σ H p⟩
open PySem PySem.Spec PyProof.Rows
abbrev R2:=V→V→Hp→VK→Prop
def OpR (X:Cx)(f:Value→Value→Sem Value)(r:R2):Prop :=
 ∀(pins:List (Addr × Obj)) (s:Shared) (σ:St) (H:Hp) (x y:V) (v u:Value) (Q:VK),Inv X pins σ H s→RelV x v→RelV y u→r x y H Q →
  wpAny (model X.prog X.w) X.A (f v u) (EP X pins σ Q) X.xe s
def UnR (X:Cx)(f:Value→Sem Value)(r:V→Hp→VK→Prop):Prop :=
 ∀(pins:List (Addr × Obj)) (s:Shared) (σ:St) (H:Hp) (x:V) (v:Value) (Q:VK),Inv X pins σ H s→RelV x v→r x H Q →
  wpAny (model X.prog X.w) X.A (f v) (EP X pins σ Q) X.xe s
def Gj (X:Cx)(f:Value)(r:List V→Hp→VK→Prop):Prop :=
 ∀(pins:List (Addr × Obj)) (s:Shared) (σ:St) (H:Hp) (xs:List V) (us:List Value) (Q:VK),Inv X pins σ H s→Vals xs us→r xs H Q →
  wpAny (model X.prog X.w) X.A (call f us) (EP X pins σ Q) X.xe s
def Ai9 (X:Cx)(r:V→Hp→(Bool→Hp→Prop)→Prop):Prop :=
 ∀(pins:List (Addr × Obj)) (s:Shared) (σ:St) (H:Hp) (x:V) (v:Value) (Q:Bool→Hp→Prop),Inv X pins σ H s→RelV x v→r x H Q →
  wpAny (model X.prog X.w) X.A (truthy v) (TP X pins σ Q) X.xe s
def tOp (r:R2)(ta tb:TE):TE:=fun σ H Q=>ta σ H fun x H1=>tb σ H1 fun y H2=>r x y H2 Q
def tUn (r:V→Hp→VK→Prop)(ta:TE):TE:=fun σ H Q=>ta σ H fun x H1=>r x H1 Q
def rI (C:Int→Int→Prop)(g:Int→Int→V):R2:=fun x y H Q=>∃ i j,x=.int i∧y=.int j∧C i j∧Q (g i j) H
def rI0 (g:Int→Int→V):R2:=fun x y H Q=>∃ i j,x=.int i∧y=.int j∧Q (g i j) H
def rU (g:Int→V):V→Hp→VK→Prop:=fun x H Q=>∃ i,x=.int i∧Q (g i) H
section
variable {X:Cx}{a b c:Expr}{ta tb tc:TE}{pos:Pos}
theorem AfA(ha:PE X a ta)(hb:PE X b tb){pins:List (Addr × Obj)}{s:Shared}{σ:St}{H:Hp}{R:V→V→Hp→Prop}(I:Inv X pins σ H s)
  (h:ta σ H fun x H1=>tb σ H1 fun y H2=>R x y H2) {Q:Value→Shared→Prop} {f:Value→Value→Sem Value}
  (hf:∀ v u s2 x y H2,Inv X pins σ H2 s2→RelV x v→RelV y u→R x y H2→wpAny (model X.prog X.w) X.A (f v u) Q X.xe s2) :
  wpAny (model X.prog X.w) X.A (eval a X.env) (fun v s₁=>wpAny (model X.prog X.w) X.A (eval b X.env) (fun u s₂=>wpAny (model X.prog X.w) X.A (f v u) Q X.xe s₂) X.xe s₁) X.xe s:=by
 refine thn (ha pins s σ H _ I h) fun v s1 ⟨x,H1,I1,r1,q1⟩=>?_
 refine thn (hb pins s1 σ H1 _ I1 q1) fun u s2 ⟨y,H2,I2,r2,q2⟩=>?_
 exact hf v u s2 x y H2 I2 r1 r2 q2
theorem Ai{op:Operator}{r:R2}(ho:OpR X (binaryOp op) r)(ha:PE X a ta)(hb:PE X b tb):PE X (.BinOp a op b pos) (tOp r ta tb):=by
 intro pins s σ H Q I h
 exact wpAny_BinOp (AfA ha hb I h fun v u s2 x y H2 I2 rx ry q=>ho pins s2 σ H2 x y v u Q I2 rx ry q)
theorem Ahe{op:UnaryOp}{r:V→Hp→VK→Prop}(ho:UnR X (unaryOp op) r)(ha:PE X a ta):PE X (.UnaryOp op a pos) (tUn r ta):=by
 intro pins s σ H Q I h
 exact UnaryOp_ (thn (ha pins s σ H _ I h) fun v s1 ⟨x,H1,I1,r1,q1⟩=>ho pins s1 σ H1 x v Q I1 r1 q1)
theorem opI{f:Value→Value→Sem Value}{C:Int→Int→Prop}{g:Int→Int→Int}
  (rule:∀(i j:Int) (t u:Tok) (s:Shared) (Q:Value→Shared→Prop) (E:Value→Shared→Prop),C i j→Q (.int (g i j) s.toks) { s with toks:=s.toks+1 }→wpAny (model X.prog X.w) X.A (f (.int i t) (.int j u)) Q E s) :
  OpR X f (rI C fun i j=>.int (g i j)):=by
 intro pins s σ H x y v u Q I rx ry h
 obtain⟨i,j,rfl,rfl,hc,q⟩:=h
 obtain⟨t,rfl⟩:=rx
 obtain⟨t',rfl⟩:=ry
 exact rule i j t t' s _ _ hc ⟨.int (g i j),H,I.tok _,⟨_,rfl⟩,q⟩
theorem Ahf{f:Value→Value→Sem Value}{g:Int→Int→Int}
  (rule:∀(i j:Int) (t u:Tok) (s:Shared) (Q:Value→Shared→Prop) (E:Value→Shared→Prop),Q (.int (g i j) s.toks) { s with toks:=s.toks+1 }→wpAny (model X.prog X.w) X.A (f (.int i t) (.int j u)) Q E s) :
  OpR X f (rI0 fun i j=>.int (g i j)):=by
 intro pins s σ H x y v u Q I rx ry h
 obtain⟨i,j,rfl,rfl,q⟩:=h
 obtain⟨t,rfl⟩:=rx
 obtain⟨t',rfl⟩:=ry
 exact rule i j t t' s _ _ ⟨.int (g i j),H,I.tok _,⟨_,rfl⟩,q⟩
theorem AfB{f:Value→Value→Sem Value}{g:Int→Int→Bool}
  (rule:∀(i j:Int) (t u:Tok) (s:Shared) (Q:Value→Shared→Prop) (E:Value→Shared→Prop),Q (.bool (g i j)) s→wpAny (model X.prog X.w) X.A (f (.int i t) (.int j u)) Q E s) :
  OpR X f (rI0 fun i j=>.bl (g i j)):=by
 intro pins s σ H x y v u Q I rx ry h
 obtain⟨i,j,rfl,rfl,q⟩:=h
 obtain⟨t,rfl⟩:=rx
 obtain⟨t',rfl⟩:=ry
 exact rule i j t t' s _ _ ⟨.bl (g i j),H,I,rfl,q⟩
def AiA (i j:Int):Prop:=0<j∧j<1073741824
def Aj8 (i j:Int):Prop:=j≠0∧j.natAbs<1073741824
def Akc (i j:Int):Prop:=0≤j∧j≤1000000∧i.natAbs<2 ^ 64
def AfC (i j:Int):Prop:=(-(2 ^ 64)<i∧i<2 ^ 64)∨(-(2 ^ 64)<j∧j<2 ^ 64)
theorem AfC.ok{i j:Int}(h:AfC i j):IntMulOk i j:=by
 rcases h with ⟨h1,h2⟩ | ⟨h1,h2⟩
 ·exact .of_left (intBits_le_64 h1 h2)
 ·exact .of_right (intBits_le_64 h1 h2)
theorem Bs:OpR X (binaryOp .Add) (rI0 fun i j=>.int (i+j)):=Ahf fun _ _ _ _ _ _ _ q=>add_int q
theorem MP:OpR X (binaryOp .Sub) (rI0 fun i j=>.int (i-j)):=Ahf fun _ _ _ _ _ _ _ q=>sub_int q
theorem KQ:OpR X (binaryOp .Mult) (rI AfC fun i j=>.int (i*j)):=opI fun _ _ _ _ _ _ _ hc q=>mul_int q hc.ok
theorem GQ:OpR X (binaryOp .FloorDiv) (rI AiA fun i j=>.int (i / j)):=opI fun i j _ _ _ _ _ hc q=>by
 have h1:(0:Int)<j:=hc.1
 have h2:j<1073741824:=hc.2
 exact floordiv_int (by omega) (by rw[Int.fdiv_eq_ediv_of_nonneg i (by omega)];exact q) (.inl (PyProof.noPylong_small (by omega)))
theorem Cz:OpR X (binaryOp .Mod) (rI (fun _ j=>0<j) fun i j=>.int (i%j)):=opI fun i j _ _ _ _ _ hc q=>by
 have h1:(0:Int)<j:=hc
 exact mod_int' (by omega) (by rw[Int.fmod_eq_emod_of_nonneg i (by omega)];exact q)
theorem unI{f:Value→Sem Value}{g:Int→Int}
  (rule:∀(i:Int) (t:Tok) (s:Shared) (Q:Value→Shared→Prop) (E:Value→Shared→Prop),Q (.int (g i) s.toks) { s with toks:=s.toks+1 }→wpAny (model X.prog X.w) X.A (f (.int i t)) Q E s) :
  UnR X f (rU fun i=>.int (g i)):=by
 intro pins s σ H x v Q I rx h
 obtain⟨i,rfl,q⟩:=h
 obtain⟨t,rfl⟩:=rx
 exact rule i t s _ _ ⟨.int (g i),H,I.tok _,⟨_,rfl⟩,q⟩
theorem AfD:UnR X (unaryOp .USub) (rU fun i=>.int (-i)):=unI fun _ _ _ _ _ q=>neg_int q
end
def Ahg:V→V→Bool
 | .non,.non=>true | .non,.int _=>true | .int _,.non=>true | .non,.bl _=>true | .bl _,.non=>true | .non,.str _=>true | .str _,.non=>true
 | .int _,.int _=>true | .bl _,.bl _=>true | .str _,.str _=>true | .byt _,.byt _=>true
 | .int _,.str _=>true | .str _,.int _=>true | .bl _,.str _=>true | .str _,.bl _=>true
 | _,_=>false
def rEq:R2:=fun x y H Q=>Ahg x y=true∧Q (.bl (decide (x=y))) H
def rNe:R2:=fun x y H Q=>Ahg x y=true∧Q (.bl (!decide (x=y))) H
theorem AaI{i j:Int}:decide (V.int i=V.int j)=(i == j):=by
 rw[AlJ]
 simp
theorem Ack{i j:Bool}:decide (V.bl i=V.bl j)=(i == j):=by
 rw[AlJ]
 simp
theorem AaJ{i j:Str}:decide (V.str i=V.str j)=(i == j):=by
 rw[AlJ]
 simp
theorem AaK{i j:Array UInt8}:decide (V.byt i=V.byt j)=(i.toList == j.toList):=by
 rw[AlJ]
 cases i
 cases j
 simp
section
variable {X:Cx}{a b c:Expr}{ta tb tc:TE}{pos:Pos}
theorem By{pins:List (Addr × Obj)}{σ:St}{H:Hp}{s:Shared}{Q:VK}{k k':Bool}(I:Inv X pins σ H s)(q:Q (.bl k) H)(e:k=k'):EP X pins σ Q (.bool k') s:=by
 subst e
 exact⟨.bl k,H,I,rfl,q⟩
theorem Hm:OpR X (compareOp .Eq) rEq:=by
 intro pins s σ H x y v u Q I rx ry h
 obtain⟨hs,q⟩:=h
 cases x with
 | non =>
  cases rx
  cases y with
  | non=>cases ry;exact PySem.EqNone.eq_none_none (By I q (by simp))
  | bl j=>cases ry;exact PySem.EqNone.eq_none_bool (By I q (by simp))
  | int j=>obtain⟨t',rfl⟩:=ry;exact PySem.EqNone.eq_none_int (By I q (by simp))
  | str j=>obtain⟨t',rfl⟩:=ry;exact PySem.EqNone.eq_none_str (By I q (by simp))
  | _=>exact absurd (show false=true from hs) AkL
 | bl i =>
  cases rx
  cases y with
  | non=>cases ry;exact PySem.EqNone.eq_bool_none (By I q (by simp))
  | bl j=>cases ry;exact eq_bool (By I q Ack)
  | str j=>obtain⟨t',rfl⟩:=ry;exact PySem.EqMixed.eq_bool_str (By I q (by simp))
  | _=>exact absurd (show false=true from hs) AkL
 | int i =>
  obtain⟨t,rfl⟩:=rx
  cases y with
  | non=>cases ry;exact PySem.EqNone.eq_int_none (By I q (by simp))
  | int j=>obtain⟨t',rfl⟩:=ry;exact eq_int (By I q AaI)
  | str j=>obtain⟨t',rfl⟩:=ry;exact PySem.EqMixed.eq_int_str (By I q (by simp))
  | _=>exact absurd (show false=true from hs) AkL
 | str i =>
  obtain⟨t,rfl⟩:=rx
  cases y with
  | non=>cases ry;exact PySem.EqNone.eq_str_none (By I q (by simp))
  | bl j=>cases ry;exact PySem.EqMixed.eq_str_bool (By I q (by simp))
  | int j=>obtain⟨t',rfl⟩:=ry;exact PySem.EqMixed.eq_str_int (By I q (by simp))
  | str j=>obtain⟨t',rfl⟩:=ry;exact eq_str (By I q AaJ)
  | _=>exact absurd (show false=true from hs) AkL
 | byt i =>
  obtain⟨t,rfl⟩:=rx
  cases y with
  | byt j=>obtain⟨t',rfl⟩:=ry;exact PySem.W.eq_bytes (By I q AaK)
  | _=>exact absurd (show false=true from hs) AkL
 | _=>cases y <;> exact absurd (show false=true from hs) AkL
theorem Yy:OpR X (compareOp .NotEq) rNe:=by
 intro pins s σ H x y v u Q I rx ry h
 obtain⟨hs,q⟩:=h
 cases x with
 | non =>
  cases rx
  cases y with
  | non=>cases ry;exact PySem.EqNone.ne_none_none (By I q (by simp))
  | bl j=>cases ry;exact PySem.EqNone.ne_none_bool (By I q (by simp))
  | int j=>obtain⟨t',rfl⟩:=ry;exact PySem.EqNone.ne_none_int (By I q (by simp))
  | str j=>obtain⟨t',rfl⟩:=ry;exact PySem.EqNone.ne_none_str (By I q (by simp))
  | _=>exact absurd (show false=true from hs) AkL
 | bl i =>
  cases rx
  cases y with
  | non=>cases ry;exact PySem.EqNone.ne_bool_none (By I q (by simp))
  | bl j=>cases ry;exact ne_bool (By I q (congrArg not Ack))
  | str j=>obtain⟨t',rfl⟩:=ry;exact PySem.EqMixed.ne_bool_str (By I q (by simp))
  | _=>exact absurd (show false=true from hs) AkL
 | int i =>
  obtain⟨t,rfl⟩:=rx
  cases y with
  | non=>cases ry;exact PySem.EqNone.ne_int_none (By I q (by simp))
  | int j=>obtain⟨t',rfl⟩:=ry;exact ne_int (By I q (congrArg not AaI))
  | str j=>obtain⟨t',rfl⟩:=ry;exact PySem.EqMixed.ne_int_str (By I q (by simp))
  | _=>exact absurd (show false=true from hs) AkL
 | str i =>
  obtain⟨t,rfl⟩:=rx
  cases y with
  | non=>cases ry;exact PySem.EqNone.ne_str_none (By I q (by simp))
  | bl j=>cases ry;exact PySem.EqMixed.ne_str_bool (By I q (by simp))
  | int j=>obtain⟨t',rfl⟩:=ry;exact PySem.EqMixed.ne_str_int (By I q (by simp))
  | str j=>obtain⟨t',rfl⟩:=ry;exact ne_str (By I q (congrArg not AaJ))
  | _=>exact absurd (show false=true from hs) AkL
 | byt i =>
  obtain⟨t,rfl⟩:=rx
  cases y with
  | byt j=>obtain⟨t',rfl⟩:=ry;exact PySem.W.ne_bytes (By I q (congrArg not AaK))
  | _=>exact absurd (show false=true from hs) AkL
 | _=>cases y <;> exact absurd (show false=true from hs) AkL
theorem Acl:OpR X (compareOp .Lt) (rI0 fun i j=>.bl (decide (i<j))):=AfB fun _ _ _ _ _ _ _ q=>lt_int q
theorem AaL:OpR X (compareOp .Gt) (rI0 fun i j=>.bl (decide (j<i))):=AfB fun _ _ _ _ _ _ _ q=>gt_int q
theorem Ahh:OpR X (compareOp .GtE) (rI0 fun i j=>.bl (decide (j≤i))):=AfB fun _ _ _ _ _ _ _ q=>ge_int q
theorem W3:OpR X (compareOp .NotIn) (fun x y H Q=>∃ i j,x=.str i∧y=.str j∧Q (.bl (!(!(Builtin.Str.occurrences j i 0 j.length 1).isEmpty))) H):=by
 intro pins s σ H x y v u Q I rx ry h
 obtain⟨i,j,rfl,rfl,q⟩:=h
 obtain⟨t,rfl⟩:=rx
 obtain⟨t',rfl⟩:=ry
 exact notIn_str (By I q rfl)
def isObj:HO→Bool
 | .lst _=>true
 | .ins _ _ _=>true
 | _=>false
theorem Bw(b:Expr){op:CmpOp}(h:op≠.In:=by decide)(h2:op≠.NotIn:=by decide):behindInMarks op b=false:=by
 have e1:(op == CmpOp.In)=false:=by cases op <;> first | rfl | exact absurd rfl h
 have e2:(op == CmpOp.NotIn)=false:=by cases op <;> first | rfl | exact absurd rfl h2
 cases b <;> simp[behindInMarks,e1,e2]
theorem HF{op:CmpOp}{r:R2}(ho:OpR X (compareOp op) r)(ha:PE X a ta)(hb:PE X b tb)(hm:behindInMarks op b=false):PE X (.Compare a [op] [b] pos) (tOp r ta tb):=by
 intro pins s σ H Q I h
 exact wpAny_Compare1 (AfA ha hb I h fun v u s2 x y H2 I2 rx ry q=>ho pins s2 σ H2 x y v u Q I2 rx ry q) hm
def Ahi (t:TE):TT:=fun σ H Q=>t σ H fun x H'=>∃ k,x=.bl k∧Q k H'
theorem Bt{op:CmpOp}{r:R2}(ho:OpR X (compareOp op) r)(ha:PE X a ta)(hb:PE X b tb)(hm:behindInMarks op b=false):PT X (.Compare a [op] [b] pos) (Ahi (tOp r ta tb)):=by
 intro pins s σ H Q I h
 refine wpAny_isTrue_Compare1 (thn (ha pins s σ H _ I h) fun v s1 ⟨x,H1,I1,r1,q1⟩=>thn (hb pins s1 σ H1 _ I1 q1) fun u s2 ⟨y,H2,I2,r2,q2⟩ =>
  thn (ho pins s2 σ H2 x y v u _ I2 r1 r2 q2) fun c s3 ⟨z,H3,I3,r3,k,e,q3⟩=>?_) hm
 subst e
 cases r3
 exact wpAny_truthy_bool ⟨H3,I3,q3⟩
def AiB (r r':R2)(ta tb tc:TE):TE:=fun σ H Q=>ta σ H fun x H1=>tb σ H1 fun y H2=>r x y H2 fun z H3=>∃ k,z=.bl k ∧
 (if k=true then tc σ H3 fun w' H4=>r' y w' H4 Q else Q (.bl false) H3)
def AfE (K:PySem.W.Frag)(x:V)(H:Hp)(k:Bool):Prop :=
 match x with
 | .non=>k=false
 | .bl b=>k=b
 | .int i=>k=(i != 0)
 | .str y=>y.length≤sizeLine∧k=((y.length:Int) != 0)
 | .byt y=>y.size≤sizeLine∧k=((y.size:Int) != 0)
 | .ref p=>(∃ xs,SqL K H p xs∧k=!xs.isEmpty)∨(∃ xs,SqT K H p xs∧k=!xs.isEmpty)∨∃ kvs,H p=some (.dK kvs)∧k=!kvs.isEmpty
 | _=>False
theorem ZV{κ:Type}{kvs:List (κ × V)}{vs:List (κ × Value)}(r:KV kvs vs):(!vs.isEmpty)=!kvs.isEmpty:=by
 cases r <;> rfl
theorem U5{xs:List V}{its:List Value}(r:Vals xs its):(!its.toArray.isEmpty)=!xs.isEmpty:=by
 cases r <;> simp
theorem Qq:(sizeLine:Nat)<2 ^ 63:=by rw[sizeLine_eq];decide
theorem AfF:Ai9 X (fun x H Q=>∃ k,AfE X.K x H k∧Q k H):=by
 intro pins s σ H x v Q I rx h
 obtain⟨k,e,q⟩:=h
 have hl:=Qq
 have hs:sizeLine=16777216:=sizeLine_eq
 cases x with
 | non =>
  cases rx
  have e':k=false:=e
  subst e'
  exact truthy_none ⟨H,I,q⟩
 | bl b =>
  cases rx
  have e':k=b:=e
  subst e'
  exact wpAny_truthy_bool ⟨H,I,q⟩
 | int i =>
  obtain⟨t,rfl⟩:=rx
  have e':k=(i != 0):=e
  subst e'
  exact PySem.P.truthy_int ⟨H,I,q⟩
 | str y =>
  obtain⟨t,rfl⟩:=rx
  obtain⟨hy,e'⟩:y.length≤sizeLine∧k=((y.length:Int) != 0):=e
  subst e'
  exact PySem.P.truthy_str (by omega) ⟨H,I.tok _,q⟩
 | byt y =>
  obtain⟨t,rfl⟩:=rx
  obtain⟨hy,e'⟩:y.size≤sizeLine∧k=((y.size:Int) != 0):=e
  subst e'
  exact PySem.W.truthy_bytes (by omega) ⟨H,I.tok _,q⟩
 | ref p =>
  cases rx
  have e':(∃ xs,SqL X.K H p xs∧k=!xs.isEmpty)∨(∃ xs,SqT X.K H p xs∧k=!xs.isEmpty)∨∃ kvs,H p=some (.dK kvs)∧k=!kvs.isEmpty:=e
  rcases e' with ⟨xs,hx,e'⟩ | ⟨xs,hx,e'⟩ | ⟨kvs,hx,e'⟩
  ·subst e'
   obtain⟨its,r,pl,hz⟩:=I.list hx
   have hlen:=r.length
   exact wpAny_truthy_list pl.isList (by simp only [AkB];omega) ⟨H,I.tok _,by rw[U5 r];exact q⟩
  ·subst e'
   obtain⟨its,r,pl,hz⟩:=I.tuple hx
   have hlen:=r.length
   exact truthy_tuple pl (by simp only [AkB];omega) ⟨H,I.tok _,by rw[U5 r];exact q⟩
  ·subst e'
   obtain⟨hz,hS,vs,r,m⟩:kvs.length≤sizeLine∧(p == sysModules)=false∧∃ vs,KV kvs vs∧s.heap.DictOf (BW X.prog X.w) p vs:=I.hok p _ hx
   have hlen:kvs.length=vs.length:=Paired.length r
   exact wpAny_truthy_dict hS m (by omega) ⟨H,I.tok _,by rw[ZV r];exact q⟩
 | _=>exact(show False from e).elim
theorem Acm(ha:PE X a ta)(he:∀ whole,isTrue a X.env whole=(do let v ← whole;standAt a.pos;holding [v] (truthy v))) :
  PT X a (fun σ H Q=>ta σ H fun x H'=>∃ k,AfE X.K x H' k∧Q k H'):=by
 intro pins s σ H Q I h
 exact isTrue_plain (thn (ha pins s σ H _ I h) fun v s1 ⟨x,H1,I1,r1,q1⟩=>AfF pins s1 σ H1 x v Q I1 r1 q1) (he _)
theorem Qs:OpR X (binaryOp .Add) (fun x y H Q=>∃ i j,x=.str i∧y=.str j∧i.length+j.length≤sizeLine∧Q (.str (i++j)) H):=by
 intro pins s σ H x y v u Q I rx ry h
 obtain⟨i,j,rfl,rfl,hz,q⟩:=h
 obtain⟨t,rfl⟩:=rx
 obtain⟨t',rfl⟩:=ry
 exact add_str (fun t' tk=>⟨.str (i++j),H,I.tok _,⟨_,rfl⟩,q⟩) hz
def Ahj (b:Expr):Prop:=∀ o i,subscripted b false o i=operate [o,i] (getItem o i)
theorem vals1{x:V}{us:List Value}(r:Vals [x] us):∃ u,us=[u]∧RelV x u:=by
 cases r with
 | cons r1 r2=>cases r2;exact⟨_,rfl,r1⟩
theorem vals2{x y:V}{us:List Value}(r:Vals [x,y] us):∃ u w',us=[u,w']∧RelV x u∧RelV y w':=by
 cases r with
 | cons r1 r2 =>
  cases r2 with
  | cons r3 r4=>cases r4;exact⟨_,_,rfl,r1,r3⟩
theorem Ab3(hc:X.calm=true):Gj X (.builtin "max") (fun xs H Q=>∃ i j,xs=[.int i,.int j]∧Q (.int (if j>i then j else i)) H):=by
 intro pins s σ H xs us Q I r h
 obtain⟨i,j,rfl,q⟩:=h
 obtain⟨u,w',rfl,⟨t,rfl⟩,⟨t',rfl⟩⟩:=vals2 r
 refine max_two_ints (I.ok.hd hc) fun h' tk k=>⟨_,H,I.kept k,?_,q⟩
 by_cases hj:j>i
 ·rw[if_pos hj,if_pos hj];exact⟨_,rfl⟩
 ·rw[if_neg hj,if_neg hj];exact⟨_,rfl⟩
theorem Ab4(hc:X.calm=true):Gj X (.builtin "min") (fun xs H Q=>∃ i j,xs=[.int i,.int j]∧Q (.int (if j<i then j else i)) H):=by
 intro pins s σ H xs us Q I r h
 obtain⟨i,j,rfl,q⟩:=h
 obtain⟨u,w',rfl,⟨t,rfl⟩,⟨t',rfl⟩⟩:=vals2 r
 refine min_two_ints (I.ok.hd hc) fun h' tk k=>⟨_,H,I.kept k,?_,q⟩
 by_cases hj:j<i
 ·rw[if_pos hj,if_pos hj];exact⟨_,rfl⟩
 ·rw[if_neg hj,if_neg hj];exact⟨_,rfl⟩
theorem SJ:Gj X (.type "int") (fun xs H Q=>(∃ i,xs=[.int i]∧Q (.int i) H)∨∃ k,xs=[.bl k]∧Q (.int (if k then 1 else 0)) H):=by
 intro pins s σ H xs us Q I r h
 rcases h with ⟨i,rfl,q⟩ | ⟨k,rfl,q⟩
 ·obtain⟨u,rfl,t,rfl⟩:=vals1 r
  exact call_int_int ⟨.int i,H,I,⟨_,rfl⟩,q⟩
 ·obtain⟨u,rfl,r1⟩:=vals1 r
  cases r1
  exact call_int_bool ⟨.int (if k then 1 else 0),H,I.tok _,⟨_,rfl⟩,q⟩
def Akd (K:PySem.W.Frag)(x:V)(H:Hp)(n:Nat):Prop :=
 match x with
 | .str y=>y.length≤sizeLine∧n=y.length
 | .byt y=>y.size≤sizeLine∧n=y.size
 | .ref p=>(∃ xs,SqL K H p xs∧n=xs.length)∨∃ xs,SqT K H p xs∧n=xs.length
 | _=>False
end
open PySem PySem.Spec PyProof.Rows
structure AfG (h:Heap) (x dx C:Addr) (mA:Str→Option Value):Prop where
 obj:h.get? x=some (PySem.W.instObj C dx)
 ns:h.Ns1 dx mA
 ne:dx≠x
theorem Ab5{h:Heap}{dx:Addr}{mA:Str→Option Value}(n:h.Ns1 dx mA):∃ od,h.get? dx=some od∧∀ name,PySem.W.lookIn name od=some (mA name):=by
 obtain⟨o,es,ep,ho,hd,hk,_,hm⟩:=n
 refine⟨o,ho,fun name=>?_⟩
 have e:=hm name
 unfold nsFind findBy at e
 rw[← Array.find?_toList] at e
 unfold PySem.W.lookIn
 rw[hd]
 dsimp only
 split
 ·rename_i y q
  rw[q] at e
  exact congrArg some e
 ·rename_i q
  rw[q] at e
  have a:es.toList.any (·.refKey)=false:=by
   rw[List.any_eq_false]
   intro y hy
   obtain⟨z,t,hkey⟩:=hk y (Array.mem_toList_iff.mp hy)
   simp[DictEntry.refKey,hkey]
  have a':¬es.toList.any (·.refKey)=true:=by rw[a];exact AkL
  rw[if_neg a']
  exact congrArg some e
theorem AfG.look{h:Heap}{x dx C:Addr}{mA:Str→Option Value}(I:AfG h x dx C mA):∃ od,PySem.W.InstAt h x (PySem.W.instObj C dx) C (some od)∧∀ name,PySem.W.lookIn name od=some (mA name) :=
 let ⟨od,ho,hl⟩:=Ab5 I.ns
 ⟨od,⟨I.obj,rfl,rfl,ho⟩,hl⟩
section
variable {prog:Program}{w:World}{A:Around}{E:Value→Shared→Prop}{s:Shared}{K:PySem.W.Frag}{x dx C f:Addr}{mA:Str→Option Value}{name:Str}{v:Value}
end
def AfH (f:Str)(v:V):List (Str × V)→List (Str × V)
 | []=>[(f,v)]
 | (g,x)::r=>if g=f then (g,v)::r else (g,x)::AfH f v r
section
variable {P:Program}{w:World}{H H':Hp}{h h':Heap}{a C dx:Addr}{fs fs':List (Str × V)}
theorem O4(hok:HOk P w H h)(e:H a=some (.ins C dx fs)):∃ mA,AfG h a dx C mA∧(∀ f,Af6 (fs.lookup f) (mA f))∧PySem.Within mA (fs.map (·.1))∧fs.length≤1000∧H dx=some (.own a):=by
 obtain⟨d,z,ne,ob,mA,n,r,q⟩:=(show Fi P w H h a (.ins C dx fs) from hok a _ e)
 exact⟨mA,⟨ob,n,ne⟩,r,q,z,d⟩
end
structure Cls (K:PySem.W.Frag) (C:Addr):Prop where
 pg:PySem.W.plainGet K C Str.empty=true
 hd:PySem.W.hasDictIn K C=true
 po:PySem.W.plainOver K C=true
 sa:PySem.W.findIn K (.ref C) "__setattr__" = some (some (.builtin "object.__setattr__"))
theorem Cls.get{K:PySem.W.Frag}{C:Addr}(c:Cls K C)(f:Str):PySem.W.plainGet K C f=true:=c.pg
def ZW (K:PySem.W.Frag)(C:Addr)(f:Str):Prop:=PySem.W.findIn K (.ref C) f=some none
structure Con (K:PySem.W.Frag) (C:Addr) (f:Str) (v:V) (u:Value):Prop where
 at_:PySem.W.findIn K (.ref C) f=some (some u)
 rel:RelV v u
 get:PySem.W.specialIn K u "__get__" = some none
 cp:PySem.W.copiedNames.contains f=false
structure Meth (K:PySem.W.Frag) (C:Addr) (m:Str) (f:Addr):Prop where
 at_:PySem.W.findIn K (.ref C) m=some (some (.ref f))
 fn:PySem.W.isFn K (.ref f)=true
 kp:PySem.W.keepIn K (.ref f)=true
section
variable {X:Cx}{pins:List (Addr × Obj)}{σ:St}{H:Hp}{s:Shared}{a C dx:Addr}{fs:List (Str × V)}{f:Str}{v:V}{A:Around}{E:Value→Shared→Prop}
end
def Ake (K:PySem.W.Frag)(ta:TE)(f:Str):TE:=fun σ H Q=>ta σ H fun x H1=>∃ a C dx fs v,x=.ref a∧H1 a=some (.ins C dx fs)∧Cls K C∧ZW K C f∧fs.lookup f=some v∧Q v H1
def Akf (K:PySem.W.Frag)(ta:TE)(f:Str):TE:=fun σ H Q=>ta σ H fun x H1=>∃ a C dx fs v u,x=.ref a∧H1 a=some (.ins C dx fs)∧Cls K C∧Con K C f v u∧fs.lookup f=none∧Q v H1
def Akg (K:PySem.W.Frag)(ta tv:TE)(f:Str):TS:=fun D σ H=>tv σ H fun y H1=>ta σ H1 fun x H2=>∃ a C dx fs,x=.ref a∧H2 a=some (.ins C dx fs)∧Cls K C∧ZW K C f∧fs.length<1000 ∧
 D.nx σ (upd H2 a (.ins C dx (AfH f y fs)))
def Akh (X:Cx)(op:Operator)(rd:V→V→Hp→VK→Prop):Prop :=
 ∀(pins:List (Addr × Obj)) (s:Shared) (σ:St) (H:Hp) (x y:V) (u v:Value) (Q:VK),Inv X pins σ H s→RelV x u→RelV y v→rd x y H Q→wpAny (model X.prog X.w) X.A (inplaceOp op u v) (EP X pins σ Q) X.xe s
def Ain (K:PySem.W.Frag)(ta tv:TE)(rd:V→V→Hp→VK→Prop)(f:Str):TS:=fun D σ H=>ta σ H fun x H1=>∃ a C dx fs v,x=.ref a∧H1 a=some (.ins C dx fs)∧Cls K C∧ZW K C f∧fs.lookup f=some v ∧
 tv σ H1 fun y H2=>rd v y H2 fun z H3=>∃ dx' fs',H3 a=some (.ins C dx' fs')∧fs'.length<1000∧D.nx σ (upd H3 a (.ins C dx' (AfH f z fs')))
section
variable {X:Cx}{o e value:Expr}{f:Str}{pos pos' tpos:Pos}{ta tv:TE}
def Aki:V→V→Hp→VK→Prop:=fun x y H Q=>∃ i j,x=.int i∧y=.int j∧Q (.int (i+j)) H
def Akj:V→V→Hp→VK→Prop:=fun x y H Q=>∃ i j,x=.int i∧y=.int j∧Q (.int (i-j)) H
end
section
variable {X:Cx}{pins:List (Addr × Obj)}{σ:St}{H:Hp}{s:Shared}{A:Around}{E:Value→Shared→Prop}{Q:Value→Shared→Prop}{c:Value}{b:Bool}
inductive SM (K:PySem.W.Frag) (H:Hp):V→Value→Prop where
 | non:SM K H .non (.type "NoneType")
 | bl (x:Bool):SM K H (.bl x) (.type "bool")
 | int (i:Int):SM K H (.int i) (.type "int")
 | str (x:Str):SM K H (.str x) (.type "str")
 | flt (x:UInt64):SM K H (.flt x) (.type "float")
 | lst {a:Addr} {xs:List V} (e:H a=some (.lst xs)):SM K H (.ref a) (.type "list")
 | frz {a:Addr} {o:Obj} {xs:List V} (e:H a=some (.frz o (.lst xs))):SM K H (.ref a) (.type "list")
 | tup {a:Addr} {xs:List V} (e:H a=some (.tup xs)):SM K H (.ref a) (.type "tuple")
 | dK {a:Addr} {kvs:List (Key × V)} (e:H a=some (.dK kvs)):SM K H (.ref a) (.type "dict")
 | dT {a:Addr} {kvs:List (List Key × V)} (e:H a=some (.dT kvs)):SM K H (.ref a) (.type "dict")
 | ins {a C dx:Addr} {fs:List (Str × V)} (e:H a=some (.ins C dx fs)) (cl:Cls K C) (ha:PySem.W.findIn K (.ref C) "__class__" = some (some (.builtin "object.__class__")))
   (hn:PySem.W.specialIn K (.builtin "object.__class__") "__get__" = some (some (.builtin "getset_descriptor.__get__"))) (htk:PySem.W.takesIn K (.builtin "object.__class__")=some true)
   (hm:PySem.W.mroIn K C (.type "object")=some true):SM K H (.ref a) (.ref C)
theorem Wg{x:V}{u t:Value}(I:Inv X pins σ H s)(rx:RelV x u)(ty:SM X.K H x t)(e:PySem.W.kitOne X.K t c=some b)(h:∀ tk,Q (.bool b) { s with toks:=tk }) :
  wpAny (model X.prog X.w) A (call (.builtin "isinstance") [u,c]) Q E s:=by
 cases ty with
 | non=>cases (show u=Value.none from rx);exact PySem.W.kia_one PySem.W.kitx_none I.kIn True.intro e (fun z=>nomatch z) h
 | bl y=>cases (show u=Value.bool y from rx);exact PySem.W.kia_one PySem.W.kitx_bool I.kIn True.intro e (fun z=>nomatch z) h
 | int i=>obtain⟨t,q⟩:=(show ∃ t,u=Value.int i t from rx);cases q;exact PySem.W.kia_one PySem.W.kitx_int I.kIn True.intro e (fun z=>nomatch z) h
 | str y=>obtain⟨t,q⟩:=(show ∃ t,u=Value.str y t from rx);cases q;exact PySem.W.kia_one PySem.W.kitx_str I.kIn True.intro e (fun z=>nomatch z) h
 | flt y=>obtain⟨t,q⟩:=(show ∃ t,u=Value.float y t from rx);cases q;exact PySem.W.kia_one PySem.W.kitx_float I.kIn True.intro e (fun z=>nomatch z) h
 | @lst a xs ea =>
  cases (show u=Value.ref a from rx)
  obtain⟨_,_,n,_,h1⟩:=(show Fi X.prog X.w H s.heap a (.lst xs) from I.hok a _ ea)
  exact PySem.W.kia_one PySem.W.kitx_list I.kIn ⟨_,h1,rfl⟩ e (fun z=>nomatch z) h
 | @frz a ob xs ea =>
  cases (show u=Value.ref a from rx)
  obtain⟨_,_,_,n,_,h1⟩:=(show Fi X.prog X.w H s.heap a (.frz ob (.lst xs)) from I.hok a _ ea)
  exact PySem.W.kia_one PySem.W.kitx_list I.kIn ⟨_,h1,rfl⟩ e (fun z=>nomatch z) h
 | @tup a xs ea =>
  cases (show u=Value.ref a from rx)
  obtain⟨_,_,_,p⟩:=(show Fi X.prog X.w H s.heap a (.tup xs) from I.hok a _ ea)
  obtain⟨o,h1,h2,_⟩:=p
  exact PySem.W.kia_one PySem.W.kitx_tuple I.kIn ⟨o,h1,h2⟩ e (fun z=>nomatch z) h
 | @dK a kvs ea =>
  cases (show u=Value.ref a from rx)
  obtain⟨_,_,vs,_,p⟩:=(show Fi X.prog X.w H s.heap a (.dK kvs) from I.hok a _ ea)
  obtain⟨o,es,ep,h1,h2,_⟩:=p
  exact PySem.W.kia_one PySem.W.kitx_dict I.kIn ⟨o,h1,h2.1⟩ e (fun z=>nomatch z) h
 | @dT a kvs ea =>
  cases (show u=Value.ref a from rx)
  obtain⟨_,_,xs,_,o,es,ep,h1,h2,_⟩:=(show Fi X.prog X.w H s.heap a (.dT kvs) from I.hok a _ ea)
  exact PySem.W.kia_one PySem.W.kitx_dict I.kIn ⟨o,h1,h2.1⟩ e (fun z=>nomatch z) h
 | @ins a C dx fs ea cl ha hn htk hm =>
  cases (show u=Value.ref a from rx)
  obtain⟨mA,O,_⟩:=O4 I.hok ea
  obtain⟨od,J,_⟩:=O.look
  exact PySem.W.kia_one (PySem.W.kitx_own (cl.get _) cl.hd ha hn htk hm) I.kIn J e (fun z=>nomatch z) h
end
open PySem PySem.Spec PyProof.Rows
structure Ib (k:Nat) (A:Around):Prop where
 hd:A.handled=none
 dp:A.depth+3*k+5<recursionLimit
 un:A.units+16*k+200<cLine
theorem Ib.mono{j k:Nat}{A:Around}(r:Ib k A)(h:j≤k):Ib j A:=⟨r.hd,by have:=r.dp;omega,by have:=r.un;omega⟩
theorem Ib.deeper{k:Nat}{A:Around}(r:Ib (k+1) A)(env:Env):Ib k (A.deeper env) :=
 ⟨r.hd,by have:=r.dp;show A.depth+1+3*k+5<_;omega,by have:=r.un;show A.units+3+16*k+200<_;omega⟩
theorem Ib.depth{k:Nat}{A:Around}(r:Ib k A):A.depth<recursionLimit:=by have:=r.dp;omega
theorem Ib.AfI{k:Nat}{A:Around}(r:Ib k A):A.units<cLine:=by have:=r.un;omega
def AiC:TA:=fun _ H Q=>Q [] H
def Ahk (ta:TE)(tr:TA):TA:=fun σ H Q=>ta σ H fun x H1=>tr σ H1 fun xs H2=>Q (x::xs) H2
section
variable {X:Cx}{e:Expr}{es:List Expr}{te:TE}{t:TA}{pos:Pos}
theorem Ac:PA X [] AiC:=fun _ _ _ _ H Q I h=>Calls.spliced_nil ⟨[],H,I,.nil,h⟩
theorem Aa(ha:PE X e te)(hr:PA X es t)(hs:starEach (e::es) X.env=(false,eval e X.env)::starEach es X.env:=by rfl):PA X (e::es) (Ahk te t):=by
 intro pos pins s σ H Q I h
 rw[hs]
 show wpAny _ _ (spliced ((false,eval e X.env)::backTo pos (starEach es X.env))) _ _ s
 refine Calls.spliced_cons (thn (ha pins s σ H _ I h) fun u s1 ⟨x,H1,I1,r1,q1⟩=>?_)
 exact thn (hr pos pins s1 σ H1 _ I1 q1) fun us s2 ⟨xs,H2,I2,r2,q2⟩=>⟨x::xs,H2,I2,.cons r1 r2,q2⟩
def AiD (t:TA):TE:=fun σ H Q=>t σ H fun xs H1=>xs.length≤sizeLine∧∀ p,H1 p=none→Q (.ref p) (upd H1 p (.tup xs))
def AiE (t:TA):TE:=fun σ H Q=>t σ H fun xs H1=>xs.length≤sizeLine∧∀ p,H1 p=none→Q (.ref p) (upd H1 p (.lst xs))
theorem W4{x1}(h:PA X es t):PE X (.Tuple es x1 pos) (AiD t):=by
 intro pins s σ H Q I hq
 refine wpAny_Tuple_spliced (thn (h pos pins s σ H _ I hq) fun us s1 ⟨xs,H1,I1,r,z,q⟩=>⟨by rw[← r.length];exact z,?_⟩)
 have hf:H1 s1.heap.objs.size=none:=I1.hok.fresh (Ak8 _)
 refine⟨.ref s1.heap.objs.size,upd H1 s1.heap.objs.size (.tup xs),I1.laid (t':=s1.toks) (fun b u e=>Heap.get?_push_of_some _ e) (Ak8 _) ?_,rfl,q _ hf⟩
 exact⟨z,us,r,⟨_,Heap.get?_push_size _ rfl,rfl,_,rfl⟩⟩
theorem Ff(h:PA X es t):PE X (.List es pos) (AiE t):=by
 intro pins s σ H Q I hq
 refine wpAny_List_spliced (thn (h pos pins s σ H _ I hq) fun us s1 ⟨xs,H1,I1,r,z,q⟩=>⟨by rw[← r.length];exact z,?_⟩)
 have hf:H1 s1.heap.objs.size=none:=I1.hok.fresh (Ak8 _)
 refine⟨.ref s1.heap.objs.size,upd H1 s1.heap.objs.size (.lst xs),I1.laid (t':=s1.toks) (fun b u e=>Heap.get?_push_of_some _ e) (Ak8 _) ?_,rfl,q _ hf⟩
 exact⟨z,us,0,r,Heap.get?_push_size _ rfl⟩
end
abbrev Sp:=List V→Hp→VK→XK→Prop
abbrev CXT:=List Env→Hp→Shared→XK→Value→Shared→Prop
structure Acn (P:Program) (w:World) (K:PySem.W.Frag) (mg:Str→Option Value) (base:Heap) (A:Around) (outer:List Env) (s:Shared) (H:Hp):Prop where
 frames:A.frames=some outer
 mod:Mod K mg base
 bs:∀ b o,base.get? b=some o→s.heap.get? b=some o∧H b=none
 bsz:base.objs.size≤s.heap.objs.size
 Ul:s.heap.FunFrames base outer
 frf:∀ b∈frs outer,H b=none
 hok:HOk P w H s.heap
 bare:AllBare s.gens
def CE (outer:List Env)(P:Program)(w:World)(H:Hp)(s:Shared)(Q:VK)(u:Value)(s':Shared):Prop :=
 ∃ v H',s'.os=s.os∧AllBare s'.gens∧Un (frs outer) [] H H' s.heap s'.heap∧HOk P w H' s'.heap∧RelV v u∧Q v H'
def CR (CX:CXT)(outer:List Env)(P:Program)(w:World)(H:Hp)(s:Shared)(Q:VK)(E:XK)(r:Result)(s':Shared):Prop :=
 match r with
 | .ok (.ret u)=>CE outer P w H s Q u s'
 | .ok _=>False
 | .error e=>CX outer H s E e s'
structure BK (P:Program) (w:World) (K:PySem.W.Frag) (mg:Str→Option Value) (base:Heap) (CX:CXT) (k:Nat) (f:Addr) (fd:FuncData) (ps:List Str) (sp:Sp):Prop where
 len:∀ vs H Q E,sp vs H Q E→vs.length=ps.length
 run:∀(A:Around) (outer:List Env) (s:Shared) (H:Hp) (args:Args) (us:List Value) (vs:List V) (Q:VK) (E:XK),Ib k A→Acn P w K mg base A outer s H→BindsTo s fd args (ps.zip us)→Vals vs us→sp vs H Q E →
  codeAny (model P w) A (.call (.ref f) args) (CR CX outer P w H s Q E) s
theorem BK.mono{P:Program}{w:World}{K:PySem.W.Frag}{mg:Str→Option Value}{base:Heap}{CX:CXT}{j k:Nat}{f:Addr}{fd:FuncData}{ps:List Str}{sp:Sp}(F:BK P w K mg base CX j f fd ps sp)(h:j≤k) :
  BK P w K mg base CX k f fd ps sp:=⟨F.len,fun A outer s H args us vs Q E hr=>F.run A outer s H args us vs Q E (hr.mono h)⟩
section
variable {X:Cx}{pins:List (Addr × Obj)}{σ:St}{H:Hp}{s s':Shared}
theorem Inv.env0(I:Inv X pins σ H s):Acn X.prog X.w X.K X.mg X.base X.A X.stack s H :=
 ⟨I.ok.frames,I.ok.mod,I.bs,AkS I.ok.bsz I.sz,I.stack,I.W2,I.hok,I.bare⟩
theorem Inv.after{Q:VK}{u:Value}(I:Inv X pins σ H s)(h:CE X.stack X.prog X.w H s Q u s'):EP X pins σ Q u s':=by
 obtain⟨v,H',os,bare,un,hok,r,q⟩:=h
 obtain⟨hh,g,d,t,os'⟩:=s'
 obtain rfl:os'=s.os:=os
 exact⟨v,H',I.call (h':=hh) (g':=g) (d':=d) (t':=t) (ch:=[]) un hok bare (fun b z=>absurd z (by simp)),r,q⟩
end
def Ahl (sp:Sp)(dvs:List V)(E:XK)(t:TA):TE:=fun σ H Q=>t σ H fun vs H1=>sp (vs++dvs) H1 Q E
def Aj9 (C:Addr)(m:Str)(sp:Sp)(dvs:List V)(E:XK)(ta:TE)(t:TA):TE:=fun σ H Q=>ta σ H fun x H1=>∃ a dx fs,x=.ref a∧H1 a=some (.ins C dx fs)∧fs.lookup m=none ∧
 t σ H1 fun vs H2=>sp (x::(vs++dvs)) H2 Q E
def AjA (C:Addr)(sp:Sp)(dvs:List V)(E:XK)(t:TA):TE:=fun σ H Q=>t σ H fun vs H1=>∀ x dx,H1 x=none→H1 dx=none→dx≠x →
 sp (.ref x::(vs++dvs)) (upd (upd H1 dx (.own x)) x (.ins C dx [])) (fun v H2=>v=.non∧Q (.ref x) H2) E
def Binds(K:PySem.W.Frag)(fd:FuncData)(ps:List Str)(ds:List Value):Prop :=
 ∀(s:Shared) (us:List Value),K.In s.heap→(us++ds).length=ps.length→BindsTo s fd ⟨us,[]⟩ (ps.zip (us++ds))
theorem Binds.all{K:PySem.W.Frag}{fd:FuncData}{ps:List Str}(h:∀ us:List Value,us.length=ps.length→bindArgs fd ⟨us,[]⟩=pure (ps.zip us)):Binds K fd ps []:=fun s us _ hl=>by
 rw[Alb] at hl ⊢
 exact .of_eq (h us hl)
def Passes(CX:CXT)(X:Cx)(E:XK):Prop:=∀(pins:List (Addr × Obj)) (σ:St) (H:Hp) (s:Shared) (e:Value) (s':Shared),Inv X pins σ H s→CX X.stack H s E e s'→X.xe e s'
section
variable {X:Cx}{CX:CXT}{k:Nat}{f C:Addr}{fd:FuncData}{ps:List Str}{sp:Sp}{dvs:List V}{ds:List Value}{E:XK}{x m:Str}{p pos apos:Pos}{e o:Expr}{es:List Expr}{ta:TE}{t:TA}
theorem AfJ{pins:List (Addr × Obj)}{σ:St}{H:Hp}{s:Shared}{Q:VK}{us:List Value}{vs:List V}(F:BK X.prog X.w X.K X.mg X.base CX k f fd ps sp)(hr:Ib k X.A)(hb:Binds X.K fd ps ds)(hd:Vals dvs ds)(hx:Passes CX X E)
  (I:Inv X pins σ H s) (r:Vals vs us) (h:sp (vs++dvs) H Q E):wpAny (model X.prog X.w) X.A (call (.ref f) us) (EP X pins σ Q) X.xe s:=by
 have r2:Vals (vs++dvs) (us++ds):=r.append hd
 have hl:(us++ds).length=ps.length:=by rw[← r2.length];exact F.len _ _ _ _ h
 refine wpAny_call (codeAny_mono (F.run X.A X.stack s H ⟨us,[]⟩ (us++ds) (vs++dvs) Q E hr I.env0 (hb s us I.kIn hl) r2 h) fun r s' hq=>?_)
 cases r with
 | error e=>exact hx pins σ H s e s' I hq
 | ok fl =>
  cases fl with
  | ret u=>exact I.after hq
  | next=>exact False.elim hq
  | brk=>exact False.elim hq
  | cont=>exact False.elim hq
theorem Bl(F:BK X.prog X.w X.K X.mg X.base CX k f fd ps sp)(hr:Ib k X.A)(hg:Gl X x)(hm:X.mg x=some (.ref f))(hk:PySem.W.keepIn X.K (.ref f)=true)(hb:Binds X.K fd ps ds)(hd:Vals dvs ds)(hx:Passes CX X E)
  (ha:PA X (e::es) t) (hdb:(x == ("__debug__" : Str))=false:=by decide) (he:starEach (e::es) X.env=(false,eval e X.env)::starEach es X.env:=by rfl) (hpl:(backTo pos (starEach es X.env)).any (·.1)=false:=by rfl) :
  PE X (.Call (.Name x p) (e::es) [] pos) (Ahl sp dvs E t):=by
 intro pins s σ H Q I h
 refine wpAny_Call_Name_kw (AaF I hg hm ?_ hdb)
 refine PySem.W.callWith_K (h₀:=X.base) I.ok.mod.kin hk (thn (ha pos pins s σ H _ I h) fun us s1 ⟨vs,H1,I1,r,q⟩=>⟨I1.kIn,?_⟩) he hpl
 exact AfJ F hr hb hd hx I1 r q
structure Mk (K:PySem.W.Frag) (C f:Addr):Prop where
 makes:PySem.W.makesIn K C=true
 init:PySem.W.findIn K (.ref C) "__init__" = some (some (.ref f))
 fn:PySem.W.isFn K (.ref f)=true
 kp:PySem.W.keepIn K (.ref C)=true
end
def PK (X:Cx)(kws:List Keyword)(t:TA):Prop :=
 ∀(pos:Pos) (pins:List (Addr × Obj)) (s:Shared) (σ:St) (H:Hp) (Q:List V→Hp→Prop),Inv X pins σ H s→t σ H Q→wpAny (model X.prog X.w) X.A (evalAll ((backToKw pos (keywordEach kws X.env)).map (·.2))) (AP X pins σ Q) X.xe s
section
variable {X:Cx}{CX:CXT}{k:Nat}{f C:Addr}{fd:FuncData}{ps ks:List Str}{sp:Sp}{E:XK}{x m:Str}{p pos apos Akk:Pos}{e o:Expr}{es:List Expr}{kws:List Keyword}{te ta:TE}{t tk:TA}{nm:Option Str}
structure AiF (K:PySem.W.Frag) (fd:FuncData) (ps ks:List Str) (g:List Value→List Value→List Value) (gV:List V→List V→List V):Prop where
 to:∀(s:Shared) (us ws:List Value),K.In s.heap→(g us ws).length=ps.length→BindsTo s fd ⟨us,ks.zip ws⟩ (ps.zip (g us ws))
 rel:∀{vs:List V} {us:List Value} {zs:List V} {ws:List Value},Vals vs us→Vals zs ws→Vals (gV vs zs) (g us ws)
def AiG (sp:Sp)(gV:List V→List V→List V)(E:XK)(t tk:TA):TE:=fun σ H Q=>t σ H fun vs H1=>tk σ H1 fun zs H2=>sp (gV vs zs) H2 Q E
variable {g:List Value→List Value→List Value}{gV:List V→List V→List V}
end
structure Br (N P:List Str) (sc:Scope):Prop where
 kind:sc.kind=.function
 co:sc.isCoroutine=false
 gen:sc.isGenerator=false
 nd:N.Nodup
 pre:N.take P.length=P
 par:∀ x∈P,sc.names.lookup x=some .local∨sc.names.lookup x=some .cell
 AfK:∀ y∈sc.names,y.2≠.free
theorem Wh{kindOf:Str→Option NameKind}{x:Str}:∀{binds:List (Str × Value)} {m:Str→Option Value},(∀ v,(x,v)∉binds)→bindL kindOf binds m x=m x
 | [],_,_=>rfl
 | (n,v)::r,m,h=>by
  unfold bindL
  rw[Wh fun w hw=>h w (AkN _ hw)]
  split
  ·have:x≠n:=by rintro rfl;exact h v AkM
   simp[this]
  ·rfl
theorem Wi{kindOf:Str→Option NameKind}{x:Str}:∀{binds:List (Str × Value)} {m:Str→Option Value},(∀ v,(x,v)∉binds)→bindC kindOf binds m x=m x
 | [],_,_=>rfl
 | (n,v)::r,m,h=>by
  unfold bindC
  rw[Wi fun w hw=>h w (AkN _ hw)]
  split
  ·rfl
  ·have:x≠n:=by rintro rfl;exact h v AkM
   simp[this]
theorem Wj{kindOf:Str→Option NameKind}{x:Str}{v:Value}:∀{P:List Str} {vs:List Value} {i:Nat} {m:Str→Option Value},P.Nodup→P[i]?=some x→vs[i]?=some v→kindOf x=some .local →
  bindL kindOf (P.zip vs) m x=some v
 | [],_,_,_,_,h,_,_=>by simp at h
 | _::_,[],_,_,_,_,h,_=>by simp at h
 | p::P,w::vs,0,m,nd,h1,h2,hk=>by
  simp at h1 h2;subst h1;subst h2
  show bindL kindOf ((p,w)::P.zip vs) m p=_
  unfold bindL
  rw[Wh fun v hv=>(List.nodup_cons.mp nd).1 (List.of_mem_zip hv).1,if_pos hk]
  simp
 | p::P,w::vs,i+1,m,nd,h1,h2,hk=>by
  show bindL kindOf ((p,w)::P.zip vs) m x=_
  unfold bindL
  exact Wj (i:=i) (List.nodup_cons.mp nd).2 (by simpa using h1) (by simpa using h2) hk
theorem Wl{kindOf:Str→Option NameKind}{x:Str}{v:Value}:∀{P:List Str} {vs:List Value} {i:Nat} {m:Str→Option Value},P.Nodup→P[i]?=some x→vs[i]?=some v→kindOf x≠some .local →
  bindC kindOf (P.zip vs) m x=some v
 | [],_,_,_,_,h,_,_=>by simp at h
 | _::_,[],_,_,_,_,h,_=>by simp at h
 | p::P,w::vs,0,m,nd,h1,h2,hk=>by
  simp at h1 h2;subst h1;subst h2
  show bindC kindOf ((p,w)::P.zip vs) m p=_
  unfold bindC
  rw[Wi fun v hv=>(List.nodup_cons.mp nd).1 (List.of_mem_zip hv).1,if_neg hk]
  simp
 | p::P,w::vs,i+1,m,nd,h1,h2,hk=>by
  show bindC kindOf ((p,w)::P.zip vs) m x=_
  unfold bindC
  exact Wl (i:=i) (List.nodup_cons.mp nd).2 (by simpa using h1) (by simpa using h2) hk
def start(N:List Str)(vs:List V):St:=vs.map some++List.replicate (N.length-vs.length) none
def W5 (CX:CXT)(P:Program)(w:World)(K:PySem.W.Frag)(mg:Str→Option Value)(base:Heap)(N:List Str)(qual:Str)(scope:Scope)(f:Addr)(cd:Value)(A:Around)(outer:List Env)(s:Shared)(H:Hp)(E:XK):Cx where
 prog:=P
 w:=w
 K:=K
 mg:=mg
 base:=base
 A:=A.deeper (envOfC qual scope s.heap.objs.size f cd)
 N:=N
 s₀:=s
 H₀:=H
 env:=envOfC qual scope s.heap.objs.size f cd
 outer:=outer
 stack:=envOfC qual scope s.heap.objs.size f cd::outer
 ex:=[]
 calm:=true
 fn:=fun _=>true
 pn:=[]
 xe:=fun e s'=>wpAny (model P w) (A.deeper (envOfC qual scope s.heap.objs.size f cd)) (leaving (envOfC qual scope s.heap.objs.size f cd) e) (fun _ s''=>CX outer H s E e s'') (fun e' s''=>CX outer H s E e' s'') s'
theorem Yz{sc:Scope}{n:Nat}{x:Str}(h:sc.names.lookup x=some .cell):∃ c,(cellsFrom n sc.names []).lookup x=some c:=by
 have q:=PySem.W.cellsFrom_some sc.names n [] (.inl h)
 exact Option.isSome_iff_exists.mp q
theorem Ab6{CX:CXT}{P:Program}{w:World}{K:PySem.W.Frag}{mg:Str→Option Value}{base:Heap}{N ps:List Str}{qual:Str}{scope:Scope}{f:Addr}{cd:Value}{A:Around}{outer:List Env}{s s1:Shared}{H:Hp}{E:XK}{us:List Value}{vs:List V}
  (S:Br N ps scope) (hd:A.handled=none) (e0:Acn P w K mg base A outer s H) (hl:vs.length=ps.length) (r:Vals vs us)
  (x:InCallC s s.heap.objs.size (bindL (envOfC qual scope s.heap.objs.size f cd).kindOf (ps.zip us) fun _=>none) (cellsFrom (s.heap.objs.size+1) scope.names []) (bindC (envOfC qual scope s.heap.objs.size f cd).kindOf (ps.zip us) fun _=>none) s1) :
  Inv (W5 CX P w K mg base N qual scope f cd A outer s H E) [] (start N vs) H s1:=by
 have hpl:ps.length≤N.length:=by have:=congrArg List.length S.pre;rw[AkO] at this;omega
 obtain⟨h1,tk,rfl,hk⟩:=x.done
 have noA:∀ b:Addr,b∉(W5 CX P w K mg base N qual scope f cd A outer s H E).ex:=fun b z=>absurd (show b∈([]:List Addr) from z) (by simp)
 refine⟨⟨e0.mod,S.kind,rfl,rfl,Ak8 _,fun y z c h1 h2=>?_,fun y hy=>?_,fun y c _ h=>?_,fun _=>hd,Around.frames_deeper e0.frames,.inr ⟨rfl,rfl⟩,fun b z=>absurd z (noA b),e0.bs,e0.bsz,fun b _ _=>noA b,fun b z=>absurd z (noA b),e0.Ul,e0.frf⟩,
  rfl,e0.bare,Un.kept hk,⟨_,x.toInCall.ns,fun i y v h1 h2 h3=>?_⟩,fun y c h=>⟨_,x.cell y c h⟩,e0.hok.fresh (Ak8 _),fun y c h=>?_,fun p hp=>absurd (show p∈([]:List (Addr × Obj)) from hp) (by simp),e0.hok.kept hk,?_⟩
 ·exact name_of_addr x.apart (PySem.mem_of_lookup h1) (PySem.mem_of_lookup h2)
 ·have hy:scope.names.lookup y=some .cell∨scope.names.lookup y=some .free:=hy
  rcases hy with hy | hy
  ·exact Yz hy
  ·exact absurd rfl (S.AfK _ (PySem.mem_of_lookup hy))
 ·exact Al8 (x.above y c (PySem.mem_of_lookup h))
 ·have hi:i<vs.length:=by
   unfold start at h2
   by_cases hi:i<vs.length
   ·exact hi
   ·rw[Alk (by simpa using hi)] at h2
    rw[List.getElem?_replicate] at h2
    split at h2 <;> cases h2
  have ha:vs[i]?=some v:=by
   unfold start at h2
   rw[Alm (by simpa using hi),AkG] at h2
   cases e:vs[i]? with
   | none=>rw[e] at h2;cases h2
   | some a=>rw[e] at h2;cases h2;rfl
  obtain⟨u,hu,rv⟩:=r.get ha
  have hp:ps[i]?=some y:=by
   rw[← S.pre,Amu (by omega)];exact h1
  have ndP:ps.Nodup:=by rw[← S.pre];exact S.nd.sublist (Al9 _ _)
  refine⟨u,rv,?_⟩
  rcases S.par y (AkQ hp) with k | k
  ·exact .inl ⟨k,Wj ndP hp hu k⟩
  ·obtain⟨c,e⟩:=Yz (n:=s.heap.objs.size+1) k
   refine .inr ⟨.inl k,c,e,?_⟩
   have q:=x.cell y c e
   rw[Wl ndP hp hu (by show scope.names.lookup y≠_;rw[k];decide)] at q
   exact q
 ·exact e0.hok.fresh (Al8 (x.above y c (PySem.mem_of_lookup h)))
 ·unfold start
  show _=N.length
  rw[AkE,AkA,AlQ]
  omega
theorem Afb{CX:CXT}{P:Program}{w:World}{K:PySem.W.Frag}{mg:Str→Option Value}{base:Heap}{k:Nat}{f:Addr}{name qual:Str}{params:Arguments}{body:List Stmt}{scope:Scope}{dV kV doc pm cdv ct oc:Value}{an od:Option Addr}
  {osl:Array (Option Value)}{N ps:List Str}{sp:Sp} (lk:K.lookup f=some ⟨oc,od,.func (PySem.W.fnOf name qual params body scope dV kV doc pm an cdv ct),osl⟩) (hcd:PySem.W.codeIn K cdv qual=true) (S:Br N ps scope)
  (len:∀ vs H Q E,sp vs H Q E→vs.length=ps.length)
  (hbody:∀(A:Around) (outer:List Env) (s:Shared) (H:Hp) (vs:List V) (Q:VK) (E:XK),Ib k (A.deeper (envOfC qual scope s.heap.objs.size f cdv))→sp vs H Q E →
   ∃ t,PSs (W5 CX P w K mg base N qual scope f cdv A outer s H E) body t∧t { nx:=fun _ H'=>Q .non H',rt:=Q } (start N vs) H) :
  BK P w K mg base CX (k+1) f (PySem.W.fnOf name qual params body scope dV kV doc pm an cdv ct) ps sp:=by
 refine⟨len,fun A outer s H args us vs Q E hr e0 hb r hsp=>?_⟩
 have hl:=len _ _ _ _ hsp
 have KX:K.In s.heap:=e0.mod.kin.keeps fun b o e=>(e0.bs b o e).1
 have lim:s.heap.NoLimit:=e0.mod.nolimit.keeps fun b o e=>(e0.bs b o e).1
 have hkind:∀ y∈ps.zip us,scope.names.lookup y.1=some .local∨(scope.names.lookup y.1=some .cell∧((cellsFrom (s.heap.objs.size+1) scope.names []).lookup y.1).isSome=true):=fun⟨n,v⟩ hy=>by
  rcases S.par n (List.of_mem_zip hy).1 with q | q
  ·exact .inl q
  ·exact .inr ⟨q,PySem.W.cellsFrom_some _ _ _ (.inl q)⟩
 refine codeAny_call_function hr.depth (KX _ _ lk) rfl S.co S.gen rfl (PySem.W.codeRec_of KX hcd) (hb _ _ _ _ ?_)
 refine wpAny_newFunctionEnv_cells S.kind hkind fun env he s1 x=>?_
 subst he
 refine⟨lim.keeps x.toInCall.keep,codeAny_func ?_⟩
 obtain⟨t,ht,hq⟩:=hbody A outer s H vs Q E (hr.deeper _) hsp
 have I:Inv (W5 CX P w K mg base N qual scope f cdv A outer s H E) [] (start N vs) H s1:=Ab6 S hr.hd e0 hl r x
 refine wpAny_mono (ht [] s1 (start N vs) H _ I hq) (fun fl s' hs=>?_) fun e s' hs=>hs
 have fin:∀{σ':St} {H':Hp} {v:V} {u:Value},Inv (W5 CX P w K mg base N qual scope f cdv A outer s H E) [] σ' H' s'→RelV v u→Q v H'→CE outer P w H s Q u s' :=
  fun {σ' H' v u} J rv q=>⟨v,H',J.os,J.bare,J.base,J.hok,rv,q⟩
 cases fl with
 | ret u =>
  obtain⟨v,σ',H',J,rv,q⟩:=hs
  exact fin J rv q
 | next =>
  obtain⟨σ',H',J,q⟩:=hs
  exact fin (v:=V.non) (u:=Value.none) J rfl q
 | brk =>
  obtain⟨_,_,_,q⟩:=hs
  exact False.elim q
 | cont =>
  obtain⟨_,_,_,q⟩:=hs
  exact False.elim q
open PySem PySem.Spec PyProof.Rows
section
variable {X:Cx}{x:Str}{p pos:Pos}{e:Expr}{es:List Expr}{t:TA}{id T:String}{r:List V→Hp→VK→Prop}
def tCB (r:List V→Hp→VK→Prop)(t:TA):TE:=fun σ H Q=>t σ H fun vs H1=>r vs H1 Q
theorem Ao(hc:Gj X (.builtin id) r)(hg:Gl X x)(hm:X.mg x=none)(hv:bootBuiltins x=some (.builtin id))(ha:PA X (e::es) t)(hn:x ≠ "__name__" := by decide) (hdb:(x == ("__debug__" : Str))=false:=by decide)
  (he:starEach (e::es) X.env=(false,eval e X.env)::starEach es X.env:=by rfl) (hpl:(backTo pos (starEach es X.env)).any (·.1)=false:=by rfl):PE X (.Call (.Name x p) (e::es) [] pos) (tCB r t):=by
 intro pins s σ H Q I h
 refine wpAny_Call_Name_kw (HY I hg hm hv ?_ hn hdb)
 exact PyProof.Rows.callWith_builtin1 (thn (ha pos pins s σ H _ I h) fun us s1 ⟨vs,H1,I1,r1,q1⟩=>hc pins s1 σ H1 vs us Q I1 r1 q1) he hpl
theorem G5(hc:Gj X (.type T) r)(hg:Gl X x)(hm:X.mg x=none)(hv:bootBuiltins x=some (.type T))(ha:PA X (e::es) t)(hn:x ≠ "__name__" := by decide) (hdb:(x == ("__debug__" : Str))=false:=by decide)
  (he:starEach (e::es) X.env=(false,eval e X.env)::starEach es X.env:=by rfl) (hpl:(backTo pos (starEach es X.env)).any (·.1)=false:=by rfl):PE X (.Call (.Name x p) (e::es) [] pos) (tCB r t):=by
 intro pins s σ H Q I h
 refine wpAny_Call_Name_kw (HY I hg hm hv ?_ hn hdb)
 exact PyProof.Rows.callWith_type1 (thn (ha pos pins s σ H _ I h) fun us s1 ⟨vs,H1,I1,r1,q1⟩=>hc pins s1 σ H1 vs us Q I1 r1 q1) he hpl
end
end L2
namespace HT
open PySem PyProof.Rows
def lexLt:List Int→List Int→Bool
 | [],[]=>false
 | [],_::_=>true
 | _::_,[]=>false
 | x::xs,y::ys=>if x=y then lexLt xs ys else decide (x<y)
theorem Y0(A:Around)(s:Shared)(a:Int)(t:Tok)(c:Int)(u:Tok):∃ e,SeqAt.EqAt A s (.int a t) (.int c u) e∧(e=true↔a=c) :=
 ⟨(a == c),SeqAt.EqAt.int_int a t c u,by simp⟩
theorem Y4(A:Around)(s:Shared)(a:Int)(t:Tok)(c:Int)(u:Tok)(prog:Program)(w:World)(E:Value→Shared→Prop)(Q:Value→Shared→Prop)(h:Q (.bool (decide (a<c))) s) :
  wpAny (model prog w) A (richCompare .Lt (.int a t) (.int c u)) Q E s :=
 (PyProof.Rows.lt_int h:wpAny (model prog w) A (compareOp .Lt (.int a t) (.int c u)) Q E s)
section
open PySem.SeqAt
open PySem.AutoSeq1 (wpAny_loadPart')
open PySem.MeetsSeq PySem.MeetsSeq2 PySem.MeetsSeq3
end
section
variable {prog:Program}{w:World}{A:Around}{E:Value→Shared→Prop}{s:Shared}
def sIx (n d:Nat):Option Int→Nat
 | none=>d
 | some v=>if v<0 then (v+(n:Int)).toNat else min v.toNat n
theorem Y5(n d:Nat):sIx n d none=d:=rfl
theorem QV(n d k:Nat):sIx n d (some (k:Int))=min k n:=by
 show(if (k:Int)<0 then ((k:Int)+(n:Int)).toNat else min (k:Int).toNat n)=min k n
 rw[if_neg (by omega),AkJ]
end
end HT
namespace L2
open PySem PySem.Spec PyProof.Rows
abbrev TO:=St→Hp→(Option Int→Hp→Prop)→Prop
def PO (X:Cx)(e:Option Expr)(t:TO):Prop :=
 ∀(pins:List (Addr × Obj)) (s:Shared) (σ:St) (H:Hp) (Q:Option Int→Hp→Prop),Inv X pins σ H s→t σ H Q →
  wpAny (model X.prog X.w) X.A (evalPart e X.env) (fun u s'=>∃ o H',Inv X pins σ H' s'∧IsPart u o∧Q o H') X.xe s
def AdT:TO:=fun _ H Q=>Q none H
def Ahm (t:TE):TO:=fun σ H Q=>t σ H fun x H1=>∃ i,x=.int i∧Q (some i) H1
theorem intsAre_of{ns:List Int}:∀{us:List Value},Vals (ns.map V.int) us→IntsAre us ns:=by
 induction ns with
 | nil=>intro us r;rw[Ama] at r;cases r;exact .nil
 | cons n ns ih =>
  intro us r
  rw[AkT] at r
  cases r with
  | cons r1 r2 =>
   obtain⟨t,e⟩:=r1
   subst e
   exact .cons n t (ih r2)
section
variable {X:Cx}{e:Expr}{te:TE}{lo hi:Option Expr}{tl th:TO}{pos p2:Pos}
theorem Ja:PO X none AdT:=by
 intro pins s σ H Q I h
 rw[evalPart_none]
 exact wpAny_pure ⟨none,H,I,.none,h⟩
theorem Fy(h:PE X e te):PO X (some e) (Ahm te):=by
 intro pins s σ H Q I hw
 rw[evalPart_some]
 refine thn (h pins s σ H _ I hw) fun u s1 ⟨x,H1,I1,r1,q1⟩=>?_
 obtain⟨i,rfl,q⟩:=q1
 obtain⟨t,rfl⟩:=r1
 exact⟨some i,H1,I1,.int i t,q⟩
def SlR (X:Cx)(r:V→Option Int→Option Int→Hp→VK→Prop):Prop :=
 ∀(pins:List (Addr × Obj)) (s:Shared) (σ:St) (H:Hp) (x:V) (v vl vu:Value) (lo hi:Option Int) (sl:Addr) (Q:VK),Inv X pins σ H s→RelV x v→s.heap.IsSliceOf sl vl vu .none→IsPart vl lo→IsPart vu hi→r x lo hi H Q →
  ∃ T id,typeLookup (.type T) "__getitem__" = pure (some (.builtin id))∧s.TypeIs v T∧wpAny (model X.prog X.w) X.A (getItem v (.ref sl)) (EP X pins σ Q) X.xe s
def tSl (r:V→Option Int→Option Int→Hp→VK→Prop)(te:TE)(tl th:TO):TE:=fun σ H Q=>te σ H fun x H1=>tl σ H1 fun l H2=>th σ H2 fun u H3=>r x l u H3 Q
theorem Fj{r:V→Option Int→Option Int→Hp→VK→Prop}(hr:SlR X r)(he:PE X e te)(hl:PO X lo tl)(hu:PO X hi th):PE X (.Subscript e (.Slice lo hi none p2) pos) (tSl r te tl th):=by
 intro pins s σ H Q I h
 refine Subscript_ (thn (he pins s σ H _ I h) fun v s1 ⟨x,H1,I1,r1,q1⟩=>?_)
 refine wpAny_Slice (thn (hl pins s1 σ H1 _ I1 q1) fun vl s2 ⟨l,H2,I2,pl,q2⟩=>thn (hu pins s2 σ H2 _ I2 q2) fun vu s3 ⟨u,H3,I3,pu,q3⟩=>?_)
 rw[evalPart_none]
 refine wpAny_pure ?_
 have I4:Inv X pins σ H3 { s3 with heap:=s3.heap.push { cls:=.type "slice", data:=.fields #[vl,vu,.none] } }:=I3.kept (t':=s3.toks) fun b ob q=>Heap.get?_push_of_some _ q
 obtain⟨T,id,hT,ht,hg⟩:=hr pins { s3 with heap:=s3.heap.push { cls:=.type "slice", data:=.fields #[vl,vu,.none] } } σ H3 x v vl vu l u s3.heap.objs.size Q I4 r1 (Heap.IsSliceOf.new ..) pl pu q3
 show wpAny (model X.prog X.w) X.A (subscriptTail e (.Slice lo hi none p2) v (.ref s3.heap.objs.size)) (EP X pins σ Q) X.xe { s3 with heap:=s3.heap.push { cls:=.type "slice", data:=.fields #[vl,vu,.none] } }
 exact tail_any (ops:=[.ref s3.heap.objs.size,v]) ht hT hg (by with_unfolding_all rfl)
def KR (xs:List V)(lo hi:Option Int):List V:=(xs.drop (HT.sIx xs.length 0 lo)).take (HT.sIx xs.length xs.length hi-HT.sIx xs.length 0 lo)
theorem Y6(xs:List V)(lo hi:Option Int):(KR xs lo hi).length≤xs.length:=by
 unfold KR
 rw[AkO,Alh]
 omega
def Akl (K:PySem.W.Frag):V→Option Int→Option Int→Hp→VK→Prop:=fun x lo hi H Q=>∃ a xs,x=.ref a∧SqT K H a xs ∧
 ¬(HT.sIx xs.length 0 lo=0∧HT.sIx xs.length xs.length hi=xs.length)∧∀ p,H p=none→Q (.ref p) (upd H p (.tup (KR xs lo hi)))
def Akm (K:PySem.W.Frag):R2:=fun x y H Q=>∃ a b ns ms,x=.ref a∧y=.ref b∧SqT K H a (ns.map V.int)∧SqT K H b (ms.map V.int)∧Q (.bl (HT.lexLt ns ms)) H
def AjB (K:PySem.W.Frag):R2:=fun x y H Q=>∃ a b xs ys,x=.ref a∧y=.ref b∧SqT K H a xs∧SqT K H b ys∧xs≠[]∧xs.length+ys.length≤sizeLine ∧
 (ys=[]→Q (.ref a) H)∧(ys≠[]→∀ p,H p=none→Q (.ref p) (upd H p (.tup (xs++ys))))
end
open PySem PySem.Spec PyProof.Rows
def ixN (n:Nat)(i:Int):Option Nat:=if 0≤i then (if i<n then some i.toNat else none) else if -(n:Int)≤i then some (i+n).toNat else none
def atI {α:Type}(xs:List α)(i:Int):Option α:=(ixN xs.length i).bind fun j=>xs[j]?
theorem AaM{n:Nat}{i:Int}{j:Nat}(h:ixN n i=some j):seqIndex? i n=some j∧j<n ∧ -(n:Int)≤i∧i<n:=by
 unfold ixN at h
 by_cases h0:0≤i
 ·rw[if_pos h0] at h
  by_cases h1:i<n
  ·rw[if_pos h1] at h
   have e:i.toNat=j:=Option.some.inj h
   exact⟨by rw[seqIndex_of h0 h1,e],by omega,by omega,h1⟩
  ·rw[if_neg h1] at h;cases h
 ·rw[if_neg h0] at h
  by_cases h1 : -(n:Int)≤i
  ·rw[if_pos h1] at h
   have e:(i+n).toNat=j:=Option.some.inj h
   exact⟨by rw[seqIndex_neg (by omega) h1,e],by omega,h1,by omega⟩
  ·rw[if_neg h1] at h;cases h
theorem W6{α:Type}{xs:List α}{i:Int}{v:α}(h:atI xs i=some v):∃ j,seqIndex? i xs.length=some j∧xs[j]?=some v∧j<xs.length ∧ -(xs.length:Int)≤i∧i<xs.length:=by
 unfold atI at h
 cases e:ixN xs.length i with
 | none=>rw[e] at h;cases h
 | some j =>
  rw[e] at h
  obtain⟨h1,h2,h3,h4⟩:=AaM e
  exact⟨j,h1,h,h2,h3,h4⟩
theorem AaN{α:Type}{xs:List α}{j:Nat}{v:α}(h:xs[j]?=some v):atI xs (j:Int)=some v:=by
 have hj:j<xs.length:=(List.getElem?_eq_some_iff.mp h).1
 have e:ixN xs.length (j:Int)=some j:=by
  unfold ixN
  rw[if_pos (by omega),if_pos (by omega)];simp
 unfold atI;rw[e];exact h
def AdU (b:Expr):Prop:=∀ o i,subscripted b false o i=operate [o,i] (getItem o i)
def IxR (X:Cx)(r:R2):Prop :=
 ∀(value slice:Expr) (pins:List (Addr × Obj)) (s:Shared) (σ:St) (H:Hp) (x y:V) (v u:Value) (Q:VK),Inv X pins σ H s→RelV x v→RelV y u→r x y H Q →
  subscripted slice false v u=operate [v,u] (getItem v u)→wpAny (model X.prog X.w) X.A (subscriptTail value slice v u) (EP X pins σ Q) X.xe s
def MtR (X:Cx)(id:String)(r:V→List V→Hp→VK→Prop):Prop :=
 ∀(pins:List (Addr × Obj)) (s:Shared) (σ:St) (H:Hp) (x:V) (xs:List V) (v:Value) (us:List Value) (Q:VK),Inv X pins σ H s→RelV x v→Vals xs us→r x xs H Q →
  wpAny (model X.prog X.w) X.A (call (.builtin id) (v::us)) (EP X pins σ Q) X.xe s
section
variable {X:Cx}{a b:Expr}{ta tb:TE}{pos:Pos}
theorem Aq{r:R2}(hr:IxR X r)(ha:PE X a ta)(hb:PE X b tb)(hs:AdU b):PE X (.Subscript a b pos) (tOp r ta tb):=by
 intro pins s σ H Q I h
 exact Subscript_ (AfA ha hb I h fun v u s2 x y H2 I2 rx ry q=>hr a b pins s2 σ H2 x y v u Q I2 rx ry q (hs _ _))
def AfL (K:PySem.W.Frag):R2:=fun x y H Q=>∃ p xs i v,x=.ref p∧y=.int i∧SqL K H p xs∧atI xs i=some v∧Q v H
def AfM (K:PySem.W.Frag):R2:=fun x y H Q=>∃ p xs i v,x=.ref p∧y=.int i∧SqT K H p xs∧atI xs i=some v∧Q v H
def Ahn:R2:=fun x y H Q=>∃ z i c,x=.str z∧y=.int i∧z.length≤sizeLine∧atI z.cps.toList i=some c∧Q (.str ⟨#[c]⟩) H
theorem AdV:IxR X (AfL X.K):=by
 intro value slice pins s σ H x y v u Q I rx ry h hs
 obtain⟨p,xs,i,z,rfl,rfl,hq,he,q⟩:=h
 cases rx
 obtain⟨t,rfl⟩:=ry
 obtain⟨its,r,pl,hz⟩:=I.list hq
 obtain⟨j,h1,h2,h3,h4,h5⟩:=W6 he
 obtain⟨w,ew,rw'⟩:=r.get h2
 have hl:=r.length
 have hn:=Qq
 have fin:EP X pins σ Q w s:=⟨z,H,I,rw',q⟩
 by_cases h0:0≤i
 ·have hj:i.toNat=j:=by
   rw[seqIndex_of h0 h5] at h1
   exact Option.some.inj h1
  exact item_listR pl.isList h0 (by omega) (by rw[hj];simpa using ew) fin hs
 ·have hj:(i+(its.toArray.size:Int)).toNat=j:=by
   rw[seqIndex_neg (by omega) h4] at h1
   rw[AkB,← hl]
   exact Option.some.inj h1
  exact subscriptTail_builtinR (x:=w) pl.isList.typeIs slot_list_getitem.lookup
   (wpAny_getItem_list_neg (Q:=fun r s'=>r=w∧EP X pins σ Q r s') pl.isList (by omega) (by rw[AkB] <;> omega) (by omega) (by rw[hj];simpa using ew) ⟨rfl,fin⟩) hs
theorem AfN:IxR X (AfM X.K):=by
 intro value slice pins s σ H x y v u Q I rx ry h hs
 obtain⟨p,xs,i,z,rfl,rfl,hq,he,q⟩:=h
 cases rx
 obtain⟨t,rfl⟩:=ry
 obtain⟨its,r,pl,hz⟩:=I.tuple hq
 obtain⟨j,h1,h2,h3,h4,h5⟩:=W6 he
 obtain⟨w,ew,rw'⟩:=r.get h2
 have hl:=r.length
 have hn:=Qq
 have fin:EP X pins σ Q w s:=⟨z,H,I,rw',q⟩
 exact subscriptTail_builtinR (x:=w) pl.typeIs slot_tuple_getitem.lookup
  (getItem_tuple (j:=j) (Q:=fun r s'=>r=w∧EP X pins σ Q r s') pl (by omega) (by omega) (by rw[AkB,← hl];exact h1) (by simpa using ew) ⟨rfl,fin⟩) hs
theorem MT:IxR X Ahn:=by
 intro value slice pins s σ H x y v u Q I rx ry h hs
 obtain⟨z,i,c,rfl,rfl,hz,he,q⟩:=h
 obtain⟨t,rfl⟩:=rx
 obtain⟨t',rfl⟩:=ry
 obtain⟨j,h1,h2,h3,h4,h5⟩:=W6 he
 have hl:z.cps.toList.length=z.length:=by simp[Str.length]
 rw[hl] at h1 h4 h5
 have hn:=Qq
 exact tail_any (typeIs_str s z t) slot_str_getitem.lookup (getItem_str (c:=c) (by
  have e1:decide (i < -(2 ^ 63:Int))=false:=decide_eq_false (by omega)
  have e2:decide (i ≥ 2 ^ 63)=false:=decide_eq_false (by omega)
  rw[e1,e2,Bool.or_false]) (by rw[h1];simpa using h2) ⟨.str ⟨#[c]⟩,H,I.tok _,⟨_,rfl⟩,q⟩) hs
def rIx (K:PySem.W.Frag):R2:=fun x y H Q=>AfL K x y H Q∨AfM K x y H Q∨Ahn x y H Q
theorem ZX(its:List Value)(n j:Nat)(u:Value):Obj.mapSeq (·.setIfInBounds j u) { cls:=.type "list", data:=.seq its.toArray n }={ cls:=.type "list", data:=.seq (its.set j u).toArray n }:=by
 simp[Obj.mapSeq]
theorem Inv.lst{pins:List (Addr × Obj)}{σ:St}{H:Hp}{s:Shared}{p:Addr}{xs:List V}(I:Inv X pins σ H s)(h:H p=some (.lst xs)) :
  ∃(its:List Value) (n:Nat),Vals xs its∧s.heap.get? p=some { cls:=.type "list", data:=.seq its.toArray n }∧xs.length≤sizeLine:=by
 obtain⟨z,its,n,r,e⟩:=I.hok p _ h
 exact⟨its,n,r,e,z⟩
theorem Inv.AfO{pins:List (Addr × Obj)}{σ:St}{H:Hp}{s:Shared}{p:Addr}{xs ys:List V}{its its':List Value}{n n':Nat}{f:Obj→Obj}(I:Inv X pins σ H s)(h:H p=some (.lst xs))
  (ho:s.heap.get? p=some { cls:=.type "list", data:=.seq its.toArray n }) (hf:f { cls:=.type "list", data:=.seq its.toArray n }={ cls:=.type "list", data:=.seq its'.toArray n' }) (r:Vals ys its') (hz:ys.length≤sizeLine) (t:Nat) :
  Inv X pins σ (upd H p (.lst ys)) { s with heap:=s.heap.update p f,toks:=t }:=by
 have e:(s.heap.update p f).get? p=some { cls:=.type "list", data:=.seq its'.toArray n' }:=by
  rw[Heap.get?_update_self f ho (by rw[hf] <;> rfl),hf]
 refine I.write (x:=p) (e:=p) (by rw[h];trivial) (.inl rfl) (fun b u hb q=>(Heap.get?_update_other _ _ (Ne.symm hb)).trans q) ⟨_,e⟩ ?_
 exact⟨hz,its',n',r,e⟩
def Aho:V→V→V→Hp→(Hp→Prop)→Prop:=fun o i v H Q=>∃ p xs k j,o=.ref p∧i=.int k∧H p=some (.lst xs)∧ixN xs.length k=some j∧Q (upd H p (.lst (xs.set j v)))
theorem set_list:Aha X Aho:=by
 intro pins s σ H o i v ov iv u Q I ro ri rv h
 obtain⟨p,xs,k,j,rfl,rfl,hp,hj,q⟩:=h
 cases ro
 obtain⟨t,rfl⟩:=ri
 obtain⟨its,n,r,ho,hz⟩:=I.lst hp
 obtain⟨h1,h2,h3,h4⟩:=AaM hj
 have hl:=r.length
 have hn:=Qq
 have I':Inv X pins σ (upd H p (.lst (xs.set j v))) { s with heap:=s.heap.update p (Obj.mapSeq (·.setIfInBounds j u)) } :=
  I.AfO hp ho (ZX its n j u) (r.set rv j) (by rw[AlR];exact hz) s.toks
 by_cases h0:0≤k
 ·have hk:k.toNat=j:=by
   rw[seqIndex_of h0 h4] at h1
   exact Option.some.inj h1
  exact PySem.W.ki_setAt ho h0 (by omega) (by rw[AkB,← hl];exact h4) (by rw[hk];exact⟨_,I',q⟩)
 ·have hk:(k+(its.toArray.size:Int)).toNat=j:=by
   rw[seqIndex_neg (by omega) h3] at h1
   rw[AkB,← hl]
   exact Option.some.inj h1
  exact PySem.W.ki_setBack ho (by omega) (by rw[AkB,← hl];exact h3) (by omega) (by rw[hk];exact⟨_,I',q⟩)
theorem W7(lo hi:Option Int)(n:Nat):(sliceBounds lo hi none n).1=((HT.sIx n 0 lo:Nat):Int)∧(sliceBounds lo hi none n).2.1=((HT.sIx n n hi:Nat):Int)∧(sliceBounds lo hi none n).2.2=1:=by
 refine⟨?_,?_,rfl⟩
 ·cases lo with
  | none=>simp[sliceBounds,HT.sIx]
  | some i =>
   simp only [sliceBounds,HT.sIx,Option.getD_none,show(1:Int)>0 by decide,if_true]
   by_cases h:i<0
   ·simp only [h,if_true] <;> omega
   ·simp only [h,if_false] <;> omega
 ·cases hi with
  | none=>simp[sliceBounds,HT.sIx]
  | some i =>
   simp only [sliceBounds,HT.sIx,Option.getD_none,show(1:Int)>0 by decide,if_true]
   by_cases h:i<0
   ·simp only [h,if_true] <;> omega
   ·simp only [h,if_false] <;> omega
theorem VD(its:List Value)(lo hi:Option Int):slicePick its.toArray lo hi none=((its.drop (HT.sIx its.length 0 lo)).take (HT.sIx its.length its.length hi-HT.sIx its.length 0 lo)).toArray:=by
 obtain⟨h1,h2,h3⟩:=W7 lo hi its.toArray.size
 unfold slicePick
 rw[h1,h2,h3]
 simp only [sliceRange_one,pick_run,AkB] <;> rfl
def Ahp (K:PySem.W.Frag):V→Option Int→Option Int→Hp→VK→Prop:=fun x lo hi H Q=>∃ a xs,x=.ref a∧SqL K H a xs∧∀ p,H p=none→Q (.ref p) (upd H p (.lst (KR xs lo hi)))
theorem AdW:SlR X (Ahp X.K):=by
 intro pins s σ H x v vl vu lo hi sl Q I rx hs pl pu h
 obtain⟨a,xs,rfl,hx,q⟩:=h
 cases rx
 obtain⟨its,r,ht,hz⟩:=I.list hx
 have hlen:=r.length
 refine⟨"list", _,slot_list_getitem.lookup,ht.isList.typeIs,?_⟩
 refine wpAny_getItem_list_slice ht.isList hs pl pu .none (by simp) ?_ (by rw[AkB] <;> omega)
 rw[VD,← hlen]
 refine⟨.ref s.heap.objs.size,_,I.laid (t':=s.toks) (o:=.lst (KR xs lo hi)) (fun b ob q=>Heap.get?_push_of_some _ q) (Ak8 _) ?_,rfl,q _ (I.hok.fresh (Ak8 _))⟩
 exact⟨AkS (Y6 xs lo hi) hz,_,0,(r.drop (HT.sIx xs.length 0 lo)).take (HT.sIx xs.length xs.length hi-HT.sIx xs.length 0 lo),Heap.get?_push_size _ rfl⟩
def Ea:V→Bool
 | .non=>true
 | .bl _=>true
 | .int _=>true
 | .str _=>true
 | _=>false
def eqV:V→V→Bool
 | .non,.non=>true
 | .bl a,.bl b=>a == b
 | .bl a,.int b=>(if a then 1 else 0) == b
 | .int a,.bl b=>a == (if b then 1 else 0)
 | .int a,.int b=>a == b
 | .str a,.str b=>a == b
 | _,_=>false
theorem ZZ{A:Around}{s:Shared}{y x:V}{u v:Value}(ry:RelV y u)(rx:RelV x v)(fy:Ea y=true)(fx:Ea x=true):SeqAt.EqAt A s u v (eqV y x):=by
 cases y with
 | non =>
  cases ry
  cases x with
  | non=>cases rx;exact SeqAt.EqAt.same _
  | bl b=>cases rx;exact SeqAt.EqAt.none_bool b
  | int b=>obtain⟨t,rfl⟩:=rx;exact SeqAt.EqAt.none_int b t
  | str b=>obtain⟨t,rfl⟩:=rx;exact SeqAt.EqAt.none_str b t
  | _=>exact absurd (show false=true from fx) AkL
 | bl a =>
  cases ry
  cases x with
  | non=>cases rx;exact SeqAt.EqAt.bool_none a
  | bl b=>cases rx;exact SeqAt.EqAt.bool_bool a b
  | int b=>obtain⟨t,rfl⟩:=rx;exact SeqAt.EqAt.bool_int a b t
  | str b=>obtain⟨t,rfl⟩:=rx;exact SeqAt.EqAt.bool_str a b t
  | _=>exact absurd (show false=true from fx) AkL
 | int a =>
  obtain⟨t',rfl⟩:=ry
  cases x with
  | non=>cases rx;exact SeqAt.EqAt.int_none a t'
  | bl b=>cases rx;exact SeqAt.EqAt.int_bool a t' b
  | int b=>obtain⟨t,rfl⟩:=rx;exact SeqAt.EqAt.int_int a t' b t
  | str b=>obtain⟨t,rfl⟩:=rx;exact SeqAt.EqAt.int_str a t' b t
  | _=>exact absurd (show false=true from fx) AkL
 | str a =>
  obtain⟨t',rfl⟩:=ry
  cases x with
  | non=>cases rx;exact SeqAt.EqAt.str_none a t'
  | bl b=>cases rx;exact SeqAt.EqAt.str_bool a t' b
  | int b=>obtain⟨t,rfl⟩:=rx;exact SeqAt.EqAt.str_int a t' b t
  | str b=>obtain⟨t,rfl⟩:=rx;exact SeqAt.EqAt.str_str a t' b t
  | _=>exact absurd (show false=true from fx) AkL
 | _=>exact absurd (show false=true from fy) AkL
def eqU (x:V)(u:Value):Bool:=match u with
 | .none=>eqV .non x
 | .bool b=>eqV (.bl b) x
 | .int i _=>eqV (.int i) x
 | .str z _=>eqV (.str z) x
 | _=>false
def inV (x:V)(xs:List V):Bool:=xs.any fun y=>eqV y x
def rIn (K:PySem.W.Frag)(neg:Bool):R2:=fun x y H Q=>∃ p xs,y=.ref p∧(SqL K H p xs∨SqT K H p xs)∧Ea x=true∧xs.all Ea=true∧Q (.bl (if neg then !inV x xs else inV x xs)) H
theorem W8:Gj X (.builtin "len") (fun xs H Q=>∃ p ys,xs=[.ref p]∧(SqL X.K H p ys∨SqT X.K H p ys)∧Q (.int ys.length) H):=by
 intro pins s σ H xs us Q I r h
 obtain⟨p,ys,rfl,hq,q⟩:=h
 obtain⟨u,rfl,rx⟩:=vals1 r
 cases rx
 have hn:=Qq
 rcases hq with hq | hq
 ·obtain⟨its,r',pl,hz⟩:=I.list hq
  have hlen:=r'.length
  exact Calls.call_len_list pl.isList (by simp only [AkB] <;> omega) ⟨.int ys.length,H,I.tok _,⟨s.toks+1,by rw[AkB,hlen]⟩,q⟩
 ·obtain⟨its,r',pl,hz⟩:=I.tuple hq
  have hlen:=r'.length
  exact len_tuple pl (by simp only [AkB] <;> omega) ⟨.int ys.length,H,I.tok _,⟨s.toks+1,by rw[AkB,hlen]⟩,q⟩
theorem QW:Gj X (.builtin "len") (fun xs H Q=>∃ z,xs=[.str z]∧z.length≤sizeLine∧Q (.int z.length) H):=by
 intro pins s σ H xs us Q I r h
 obtain⟨z,rfl,hz,q⟩:=h
 obtain⟨u,rfl,t,rfl⟩:=vals1 r
 have hn:=Qq
 exact len_str (by omega) ⟨.int z.length,H,I.tok _,⟨_,rfl⟩,q⟩
theorem W9:Gj X (.type "list") (fun xs H Q=>∃ p ys,xs=[.ref p]∧(SqL X.K H p ys∨SqT X.K H p ys)∧∀ l,H l=none→Q (.ref l) (upd H l (.lst ys))):=by
 intro pins s σ H xs us Q I r h
 obtain⟨p,ys,rfl,hq,q⟩:=h
 obtain⟨u,rfl,rx⟩:=vals1 r
 cases rx
 have fin:∀(its:List Value),Vals ys its→ys.length≤sizeLine→∀(h':Heap) (c':Nat),(∀ b o',s.heap.get? b=some o'→h'.get? b=some o') →
   h'.get? s.heap.objs.size=some { cls:=.type "list", dict:=none,data:=.seq its.toArray c',slots:=#[] }→EP X pins σ Q (.ref s.heap.objs.size) { s with heap:=h' }:=fun its r' hz h' c' kp e =>
  ⟨.ref s.heap.objs.size,_,I.laid (t':=s.toks) kp (Ak8 _) (show Fi X.prog X.w _ h' _ (.lst ys) from⟨hz,its,c',r',e⟩),rfl,q _ (I.hok.fresh (Ak8 _))⟩
 rcases hq with hq | hq
 ·obtain⟨its,r',pl,hz⟩:=I.list hq
  have hlen:=r'.length
  obtain⟨o,ho,hc,n,hd⟩:=pl.isList
  exact call_list_seq p (.inl rfl) ho hc hd (fun h' c' kp e=>fin its r' hz h' c' kp e) (by simp only [AkB] <;> omega)
 ·obtain⟨its,r',pl,hz⟩:=I.tuple hq
  have hlen:=r'.length
  obtain⟨o,ho,hc,n,hd⟩:=pl
  exact call_list_seq p (.inr rfl) ho hc hd (fun h' c' kp e=>fin its r' hz h' c' kp e) (by simp only [AkB] <;> omega)
def tyV (K:PySem.W.Frag)(T:String)(x:V)(H:Hp):Prop:=match x with
 | .str _=>T = "str"
 | .int _=>T = "int"
 | .ref p=>(T = "list" ∧ ∃ xs,SqL K H p xs)∨(T = "tuple" ∧ ∃ o,K.lookup p=some o∧o.cls=.type "tuple" ∧ o.dict=none) ∨
   (T = "dict" ∧ ((∃ kvs,H p=some (.dK kvs))∨∃ kvs,H p=some (.dT kvs)))∨(T = "set" ∧ ∃ S n,H p=some (.set S n))
 | _=>False
theorem AfP{pins:List (Addr × Obj)}{σ:St}{H:Hp}{s:Shared}{T:String}{x:V}{v:Value}(I:Inv X pins σ H s)(r:RelV x v)(ty:tyV X.K T x H) :
  s.TypeIs v T∧∀ a,v=.ref a→∃ ob,s.heap.get? a=some ob∧ob.dict=none:=by
 cases x with
 | str z =>
  obtain⟨t,rfl⟩:=r
  cases (show T = "str" from ty)
  exact⟨typeIs_str s z t,fun _ e=>nomatch e⟩
 | int i =>
  obtain⟨t,rfl⟩:=r
  cases (show T = "int" from ty)
  exact⟨typeIs_int s i t,fun _ e=>nomatch e⟩
 | ref p =>
  cases r
  rcases ty with ⟨rfl,xs,hq⟩ | ⟨rfl,o,hk,hc,hd⟩ | ⟨rfl,hk⟩ | ⟨rfl,S,n,hk⟩
  ·obtain⟨its,_,pl,_⟩:=I.list hq
   refine⟨pl.isList.typeIs,fun a e=>?_⟩
   cases e
   obtain⟨o,n,e,c,hd,_⟩:=pl
   exact⟨o,e,hd⟩
  ·refine⟨⟨o,I.kIn p o hk,hc⟩,fun a e=>?_⟩
   cases e
   exact⟨o,I.kIn _ o hk,hd⟩
  ·have z:∃ o,s.heap.get? p=some o∧o.ExactDict:=by
    rcases hk with ⟨kvs,hk⟩ | ⟨kvs,hk⟩
    ·obtain⟨_,_,_,_,o,_,_,e,ex,_⟩:=I.hok p _ hk
     exact⟨o,e,ex⟩
    ·obtain⟨_,_,_,_,o,_,_,e,ex,_⟩:=I.hok p _ hk
     exact⟨o,e,ex⟩
   obtain⟨o,e,ex⟩:=z
   refine⟨⟨o,e,ex.1⟩,fun a e2=>?_⟩
   cases e2
   exact⟨o,e,ex.2.1⟩
  ·obtain⟨o,_,_,_,e,ex,_⟩:=I.hok p _ hk
   refine⟨⟨o,e,ex.1⟩,fun a e2=>?_⟩
   cases e2
   exact⟨o,e,ex.2.1⟩
 | _=>exact False.elim ty
def Akn (K:PySem.W.Frag)(T:String)(r:V→List V→Hp→VK→Prop)(to:TE):TE:=fun σ H Q=>to σ H fun x H1=>tyV K T x H1∧r x [] H1 Q
def tBM (K:PySem.W.Frag)(T:String)(r:V→List V→Hp→VK→Prop)(to:TE)(t:TA):TE:=fun σ H Q=>to σ H fun x H1=>tyV K T x H1∧t σ H1 fun xs H2=>r x xs H2 Q
variable {o e:Expr}{es:List Expr}{to:TE}{t:TA}{name:Str}{apos cpos:Pos}{T id:String}{r:V→List V→Hp→VK→Prop}
theorem Ahq(pa:PlainAttrs T)(slot:Slot T name id)(hty:typeOf (.builtin id)=pure (.type "method_descriptor")) (hm:MtR X id r) (ho:PE X o to) (ha:PA X (e::es) t)
  (hbase:attributeBase o name X.env (eval o X.env)=eval o X.env:=by rfl)
  (hfew:((backTo cpos (starEach (e::es) X.env)).all (fun x=>!x.1) && (backToKw cpos (keywordEach [] X.env)).all (fun x=>x.1.isSome)
   && decide ((e::es).length+([]:List Keyword).length+(if ([]:List Keyword).isEmpty then 0 else 1)<30))=true:=by rfl)
  (hline:(apos.endLine == cpos.line)=true:=by rfl) (hs:starEach (e::es) X.env=(false,eval e X.env)::starEach es X.env:=by rfl) (hplain:(backTo cpos (starEach es X.env)).any (·.1)=false:=by rfl) :
  PE X (.Call (.Attribute o name apos) (e::es) [] cpos) (tBM X.K T r to t):=by
 intro pins s σ H Q I h
 refine wpAny_Call_method_late hbase hfew hline rfl (thn (ho pins s σ H _ I h) fun v s1 ⟨x,H1,I1,r1,ty,q1⟩=>?_)
 obtain⟨h1,h2⟩:=AfP I1 r1 ty
 refine⟨T,id,pa,slot,hty,h1,h2,?_⟩
 have hA:=ha cpos pins s1 σ H1 _ I1 q1
 rw[hs] at hA ⊢
 refine Calls.callWith_builtin (by show(false || (backTo cpos (starEach es X.env)).any (·.1))=false;rw[hplain] <;> rfl) (Calls.evalArgs_plain ?_)
 exact thn hA fun us s2 ⟨vs,H2,I2,r2,q2⟩=>hm pins s2 σ H2 x vs v us Q I2 r1 r2 q2
end
open PySem PySem.Spec PyProof.Rows
def MtM (X:Cx)(id:String)(r:V→List V→Hp→VK→Prop):Prop :=
 ∀(pins:List (Addr × Obj)) (s:Shared) (σ:St) (H:Hp) (x:V) (xs:List V) (v:Value) (us:List Value) (Q:VK),Inv X pins σ H s→RelV x v→Vals xs us→r x xs H Q →
  wpAny (model X.prog X.w) X.A (call (.builtin id) (v::us)) (EP X pins σ Q) X.xe s
theorem Vals.one:∀{x:V} {us:List Value},Vals [x] us→∃ u,us=[u]∧RelV x u
 | _,_,.cons r .nil=>⟨_,rfl,r⟩
theorem Vals.two:∀{x y:V} {us:List Value},Vals [x,y] us→∃ u v,us=[u,v]∧RelV x u∧RelV y v
 | _,_,_,.cons r (.cons q .nil)=>⟨_,_,rfl,r,q⟩
theorem Vals.rep{xs:List V}{us:List Value}(h:Vals xs us):∀ k:Nat,Vals (List.replicate k xs).flatten (List.replicate k us).flatten
 | 0=>.nil
 | k+1=>by
  rw[AlK,AlK,Ale,Ale]
  exact Vals.append h (Vals.rep h k)
theorem foldl_rep(its:List Value):∀(k:Nat) (acc:List Value),
  List.foldl (fun x1 x2=>x1++x2) acc.toArray (List.replicate k its.toArray)=(acc++(List.replicate k its).flatten).toArray
 | 0,acc=>by simp
 | k+1,acc=>by
  have e:acc.toArray++its.toArray=(acc++its).toArray:=by simp
  have e2:(acc++its)++(List.replicate k its).flatten=acc++(List.replicate (k+1) its).flatten:=by
   rw[AlK,Ale,Alv]
  rw[← e2,← foldl_rep its k (acc++its),← e,AlK,List.foldl_cons]
section
variable {X:Cx}{pins:List (Addr × Obj)}{σ:St}{H:Hp}{s:Shared}{l b:Addr}{xs ys zs:List V}
theorem Inv.AdX{its its':List Value}{n:Nat}{f:Array Value→Array Value}{t':Nat}(I:Inv X pins σ H s)(hH:H l=some (.lst xs))
  (e:s.heap.get? l=some { cls:=.type "list", data:=.seq its.toArray n }) (hf:f its.toArray=its'.toArray) (hv:Vals ys its') (hz:ys.length≤sizeLine) :
  Inv X pins σ (upd H l (.lst ys)) { s with heap:=s.heap.update l (Obj.mapSeq f),toks:=t' }:=by
 have q:=PySem.IsL.update e f
 rw[hf] at q
 refine I.write (x:=l) (e:=l) (by rw[hH];exact trivial) (.inl rfl) (fun b' u hb hu=>(Heap.get?_update_other s.heap (Obj.mapSeq f) (Ne.symm hb)).trans hu) ⟨_,q⟩ ?_
 exact⟨hz,its',_,hv,q⟩
theorem Inv.AfQ{its:List Value}{t':Nat}(I:Inv X pins σ H s)(hv:Vals ys its)(hz:ys.length≤sizeLine) :
  Inv X pins σ (upd H s.heap.objs.size (.lst ys)) { s with heap:=s.heap.push { cls:=.type "list", data:=.seq its.toArray },toks:=t' } :=
 I.laid (fun _ _ q=>Heap.get?_push_of_some _ q) (Ak8 _) ⟨hz,its,0,hv,Heap.get?_push_size _ rfl⟩
theorem Inv.fresh(I:Inv X pins σ H s):H s.heap.objs.size=none:=I.hok.fresh (Ak8 _)
theorem Inv.WD(I:Inv X pins σ H s)(hH:H l=some (.lst xs)):xs.length≤sizeLine∧∃(its:List Value) (n:Nat),Vals xs its∧xs.length=its.length∧s.heap.get? l=some { cls:=.type "list", data:=.seq its.toArray n }:=by
 obtain⟨z,its,n,r,e⟩:=I.hok l _ hH
 exact⟨z,its,n,r,r.length,e⟩
theorem Y7{n:Nat}(h:n≤sizeLine):Builtin.List.listTooLong n=false:=by
 unfold Builtin.List.listTooLong
 exact decide_eq_false (by omega)
end
section
variable {X:Cx}
def AdY:V→List V→Hp→VK→Prop:=fun x vs H Q=>∃ l xs y,x=.ref l∧vs=[y]∧H l=some (.lst xs)∧xs.length<sizeLine∧Q .non (upd H l (.lst (xs++[y])))
theorem Gf:MtM X "list.append" AdY:=by
 intro pins s σ H x vs v us Q I rx rv h
 obtain⟨l,xs,y,rfl,rfl,hH,hz,q⟩:=h
 cases rx
 obtain⟨u,rfl,ru⟩:=rv.one
 obtain⟨z,its,n,r,hl,e⟩:=I.WD hH
 refine call_meets F.slot_list_append ⟨_,e,rfl⟩ F.entry_list_append (F.args_list_append_2 _ _) (PySem.list_append l its.toArray n u (by rw[AkB];omega)) ⟨e,?_⟩
 refine⟨.non,_,I.AdX (its':=its++[u]) hH e (by simp) (r.append (.cons ru .nil)) ?_,rfl,q⟩
 rw[AkE,List.length_singleton]
 omega
def AdZ:V→List V→Hp→VK→Prop:=fun x vs H Q=>∃ l b xs zs,x=.ref l∧vs=[.ref b]∧H l=some (.lst xs)∧H b=some (.lst zs)∧xs.length+zs.length≤sizeLine∧Q .non (upd H l (.lst (xs++zs)))
theorem Ab7:MtM X "list.extend" AdZ:=by
 intro pins s σ H x vs v us Q I rx rv h
 obtain⟨l,b,xs,zs,rfl,rfl,hH,hB,hz,q⟩:=h
 cases rx
 obtain⟨u,rfl,ru⟩:=rv.one
 cases ru
 obtain⟨z,its,n,r,hl,e⟩:=I.WD hH
 obtain⟨z2,its2,n2,r2,hl2,e2⟩:=I.WD hB
 have hsz:its.toArray.size+its2.toArray.size≤sizeLine:=by rw[AkB,AkB];omega
 have Aco:¬(!its.toArray.isEmpty && Builtin.List.listTooLong (its.toArray.size+its2.toArray.size))=true:=by
  rw[Y7 hsz,Bool.and_false]
  exact AkL
 refine call_meets F.slot_list_extend ⟨_,e,rfl⟩ F.entry_list_extend (F.args_list_extend_2 _ _)
  (AutoSeq1.list_extend_list_list_0 l its.toArray n b its2.toArray n2 Aco (by rw[AkB];omega) (by omega)) ⟨e,e2,?_⟩
 refine⟨.non,_,I.AdX (its':=its++its2) hH e (by simp) (r.append r2) ?_,rfl,q⟩
 rw[AkE]
 omega
def Ako:V→List V→Hp→VK→Prop:=fun x vs H Q=>∃ l xs y,x=.ref l∧vs=[]∧H l=some (.lst xs)∧xs[xs.length-1]?=some y∧Q y (upd H l (.lst xs.dropLast))
def AiH:V→List V→Hp→VK→Prop:=fun x vs H Q=>∃ l xs i k y,x=.ref l∧vs=[.int i]∧H l=some (.lst xs) ∧ -(2 ^ 63)≤i∧i<2 ^ 63∧seqIndex? i xs.length=some k∧xs[k]?=some y∧Q y (upd H l (.lst (xs.eraseIdx k)))
def Ahr:V→List V→Hp→VK→Prop:=fun x vs H Q=>∃ l xs,x=.ref l∧vs=[]∧H l=some (.lst xs)∧Q .non (upd H l (.lst xs.reverse))
def AiI:V→List V→Hp→VK→Prop:=fun x vs H Q=>∃ l xs,x=.ref l∧vs=[]∧H l=some (.lst xs)∧Q .non (upd H l (.lst []))
def AiJ:R2:=fun x y H Q=>∃ l b xs zs,x=.ref l∧y=.ref b∧H l=some (.lst xs)∧H b=some (.lst zs)∧xs.length+zs.length≤sizeLine∧∀ p,H p=none→Q (.ref p) (upd H p (.lst (xs++zs)))
theorem Aaa:OpR X (binaryOp .Add) AiJ:=by
 intro pins s σ H x y v u Q I rx ry h
 obtain⟨l,b,xs,zs,rfl,rfl,hH,hB,hz,q⟩:=h
 cases rx
 cases ry
 obtain⟨z,its,n,r,hl,e⟩:=I.WD hH
 obtain⟨z2,its2,n2,r2,hl2,e2⟩:=I.WD hB
 refine PySem.P.add_list e e2 ?_ (by rw[AkB,AkB];omega)
 have ea:its.toArray++its2.toArray=(its++its2).toArray:=by simp
 rw[ea]
 exact⟨.ref _,_,I.AfQ (t':=s.toks) (r.append r2) (by rw[AkE];omega),rfl,q _ I.fresh⟩
def AiK:R2:=fun x y H Q=>∃ l k xs,x=.ref l∧y=.int k∧H l=some (.lst xs) ∧ -(2 ^ 63)≤k∧k<2 ^ 63∧xs.length*k.toNat≤sizeLine ∧
 ∀ p,H p=none→Q (.ref p) (upd H p (.lst (List.replicate k.toNat xs).flatten))
theorem len_rep{α:Type}(xs:List α)(k:Nat):(List.replicate k xs).flatten.length=k*xs.length:=by
 induction k with
 | zero=>simp
 | succ k ih=>rw[AlK,Ale,AkE,ih,AlA,Nat.add_comm]
theorem Acp:OpR X (binaryOp .Mult) AiK:=by
 intro pins s σ H x y v u Q I rx ry h
 obtain⟨l,k,xs,rfl,rfl,hH,h1,h2,hz,q⟩:=h
 cases rx
 obtain⟨t,rfl⟩:=ry
 obtain⟨z,its,n,r,hl,e⟩:=I.WD hH
 have hlen:its.toArray.size*k.toNat≤sizeLine:=by rw[AkB,← hl];exact hz
 have AiL:¬its.toArray.size*k.toNat>(2 ^ 63-1) / 8:=by
  have:(sizeLine:Nat)≤(2 ^ 63-1) / 8:=by decide
  omega
 have hfit:¬(!Builtin.List.listFitsIndex k)=true:=by
  rw[fitsIndex_both h1 h2]
  exact AkL
 have Aco:¬Builtin.List.listTooLong (its.toArray.size*k.toNat)=true:=by
  rw[Y7 hlen]
  exact AkL
 have hnew:List.foldl (fun x1 x2=>x1++x2) #[] (List.replicate (if its.toArray.isEmpty=true then 0 else k.toNat) its.toArray)=(List.replicate k.toNat its).flatten.toArray:=by
  have f0:∀ m:Nat,List.foldl (fun x1 x2=>x1++x2) #[] (List.replicate m its.toArray)=(List.replicate m its).flatten.toArray:=fun m=>by
   have:=foldl_rep its m []
   rw[AlB] at this
   exact this
  rw[f0]
  cases its with
  | nil=>simp
  | cons a r'=>rw[if_neg (by simp)]
 refine wpAny_binaryOp_repeat_ref (T := "list") (U := "int") (by decide) ⟨_,e,rfl⟩ (fun s'=>typeIs_int s' k t) noFill_list_mul F.fills_int_mul F.slot_int_rmul repeat_list F.slot_int_index.lookup
  (call_meets F.slot_int_rmul (typeIs_int s k t) F.entry_int_rmul (F.args_int_rmul_2 _ _) (int___rmul___int_list k t l its.toArray n)
   ⟨e,rfl,⟨_,e,rfl⟩,call_meets F.slot_list_mul ⟨_,e,rfl⟩ F.entry_list_mul (F.args_list_mul_2 _ _) (AutoListH.list___mul___list_int_3 l its.toArray n k t hfit AiL Aco) ⟨e,?_⟩⟩)
 rw[hnew]
 exact⟨.ref _,_,I.AfQ (t':=s.toks) (r.rep k.toNat) (by rw[len_rep,Ami];exact hz),rfl,q _ I.fresh⟩
end
section
variable {prog:Program}{w:World}{A:Around}{E:Value→Shared→Prop}{s:Shared}
end
section
variable {X:Cx}
end
end L2
namespace Att
open PySem PySem.W PySem.Calls PyProof.Rows
theorem Um{P:Params}{h:Heap}:∀(ns:List Int) (vs:List Value),WellAll P h vs (ns.map WData.int)→IntsAre vs ns:=by
 intro ns
 induction ns with
 | nil =>
  intro vs w
  rw[Ama] at w
  cases w
  exact .nil
 | cons n ns ih =>
  intro vs w
  rw[AkT] at w
  cases w with
  | cons a b =>
   cases a
   exact .cons _ _ (ih _ b)
theorem Ab8{l:OpenLaw}{n:Nat}(hn:l.most=some n){P:Params}{h:Heap}{args:List WData}{vals:List Value}
  (hpre:l.row.toRowW.claim.pre args=true) (hwl:WellAll P h vals args) :
  ∃ a vs ns,vals=[Value.ref a]∧args=[WData.list (ns.map WData.int)]∧h.get? a=some { cls:=.type "list", data:=.seq vs.toArray }∧IntsAre vs ns∧ns.length≤n:=by
 have hsh:WShape.hasAll [] args [.list .int]=true:=(pre_splitW hpre).1
 have hc:l.pre.holds [] { args:=args }=true:=(pre_splitW hpre).2
 obtain⟨d,r,rfl,h1,h2⟩:=hasAllW_cons hsh
 obtain rfl:=hasAllW_nil h2
 obtain⟨xs,rfl,h3⟩:=hasW_list h1
 obtain⟨ns,rfl⟩:=items_int h3
 have hlen:ns.length≤n:=by
  unfold OpenLaw.pre at hc
  have h4:(WTm.not (.lt (.lit (.int (n:Int))) (.len (.arg 0)))).holds [] { args:=[.list (ns.map .int)] }=true:=by
   have h4:=(holds_andW hc).1
   rw[hn] at h4
   exact h4
  have h5:=condW_of h4 (w_not (w_lt w_lit (w_len_list (w_arg rfl))))
  rw[AkA] at h5
  refine Amv fun q=>?_
  have q':(n:Int)<((ns.length:Nat):Int):=by omega
  first
   | (rw[decide_eq_true q'] at h5;exact absurd h5 (by decide))
   | (simp at h5;omega)
 cases hwl with
 | cons w1 w2 =>
  cases w2
  cases w1 with
  | list ho hall=>exact⟨_,_,ns,rfl,rfl,ho,Um ns _ hall,hlen⟩
theorem Ab9(l:OpenLaw)(args:List WData):l.row.toRowW.claim.post args (.bool true) args=true :=
 postW_of (r:=l.row.toRowW) (X:=(true == true))
  (show WShape.has [] (.bool true) .bool=true by first | rfl | decide | simp[WShape.has,WShape.arms,WShape.armsAll])
  (show(WTm.eq .res (.lit (.bool true))).value [] { args:=args,res:=some (.bool true),after:=args }=some (.bool (true == true)) from w_eq_bool (w_res rfl) w_lit) rfl
theorem T9{l:OpenLaw}{n:Nat}{q:Program}{loose:List Str}{XP:(Str→Option Value)→Heap→Prop}{YP:World→Heap→Prop}{d:DefRec}
  (hn:l.most=some n) (hdf:d.params.defaults=[])
  (call:∀(w:World) (s₀ s₁:Shared) (mg mb:Str→Option Value) (fa:Addr) (o:Obj) (pm cd doc:Value) (a:Addr) (vs:List Value) (ns:List Int),
   Ground q loose [] XP w s₀ mg mb s₁.heap→YP w s₁.heap →
   s₁.heap.get? fa=some o→o.data=.func (docDef d.name d.params d.body d.scope pm cd doc)→s₁.heap.CodeRec cd d.name→mg d.name=some (.ref fa) →
   s₁.heap.get? a=some { cls:=.type "list", data:=.seq vs.toArray }→IntsAre vs ns→ns.length≤n→s₁.gens=#[] →
   codeAny (model l.prog w) callerA (.call (.ref fa) ⟨[.ref a],[]⟩) (fun r s'=>r=.ok (.ret (.bool true))∧OldK s₁.heap s'.heap∧s'.os=s₁.os∧AllBare s'.gens) s₁) :
  WalkO q loose XP YP l.row.toRowW d [] (fun f vs=>PySem.call f vs):=by
 intro w s₀ s₁ mg mb G Y fa o pm cd doc dV kV ho hd hcd hD hmg hg args vals as hpre hlay hrd hwl hlo
 obtain rfl:dV=.none:=Dflts.none hD hdf
 obtain rfl:kV=.none:=Dflts.noKw hD
 obtain⟨a,vs,ns,rfl,rfl,hobj,hints,hlen⟩:=Ab8 hn hpre hwl
 refine enter_call (codeAny_mono (call w s₀ s₁ mg mb fa o pm cd doc a vs ns G Y ho (fd_plain hd) hcd hmg hobj hints hlen hg) fun r s' hq=>?_)
 obtain⟨rfl,h2,h3,h4⟩:=hq
 exact⟨.inl ⟨.bool true,.bool true,[],rfl,fun _=>rfl,.bool true,Ab9 l _,fun _=>⟨List.Pairwise.nil,fun _ hm=>(nomatch hm)⟩⟩,h2,h3,h4⟩
section
variable {prog:Program}{w:World}{A:Around}{E:Value→Shared→Prop}{s:Shared}{K:Frag}
def AiM (h:Heap):Heap:={ h with objs:=#[] }
def ledger(h:Heap)(L d:Addr):List (Addr × Obj):=(List.range h.objs.size).filterMap fun a=>if a=L∨a=d then none else (h.get? a).map fun o=>(a,o)
end
end Att
namespace L2
open PySem PySem.Spec PyProof.Rows
theorem Kw:∀{vs:List Value} {ns:List Int},IntsAre vs ns→Vals (ns.map V.int) vs
 | _,_,.nil=>.nil
 | _,_,.cons n t h=>.cons ⟨t,rfl⟩ (Kw h)
def Only(H:Hp):Prop:=∀ b,H b=none∨∃ o xs,H b=some (.frz o (.lst xs))
theorem Acq{P:Program}{w:World}{K:PySem.W.Frag}{mg mb:Str→Option Value}{CX:CXT}{k:Nat}{fa a:Addr}{fd:FuncData}{x:Str}{sp:Sp}{s₁:Shared}{vs:List Value}{ns:List Int}
  (KX:K.In s₁.heap) (hns:s₁.heap.Ns mainGlobals mg) (hb:s₁.heap.Ns builtinsNs mb) (hbb:∀ x:Str,x ≠ "__name__" → mb x=bootBuiltins x) (hlim:s₁.heap.NoLimit) (hg:s₁.gens=#[])
  (ha:s₁.heap.get? a=some { cls:=.type "list", data:=.seq vs.toArray }) (hi:IntsAre vs ns) (hl:ns.length≤sizeLine) (hr:Ib k callerA)
  (F:∀ base:Heap,K.In base→base.Ns mainGlobals mg→BK P w K mg base CX k fa fd [x] sp) (hbind:∀(s:Shared) (u:Value),BindsTo s fd ⟨[u],[]⟩ [(x,u)])
  (hsp:∀ H:Hp,Only H→SqL K H a (ns.map V.int)→sp [.ref a] H (fun v _=>v=.bl true) fun _ _ _=>False)
  (hCX:∀ H e s',CX [] H s₁ (fun _ _ _=>False) e s'→False) :
  codeAny (model P w) callerA (.call (.ref fa) ⟨[.ref a],[]⟩) (fun r s'=>r=.ok (.ret (.bool true))∧OldK s₁.heap s'.heap∧s'.os=s₁.os∧AllBare s'.gens) s₁:=by
 have rv:=Kw hi
 have lenV:=hi.length
 have core:∀ H:Hp,Only H→SqL K H a (ns.map V.int)→HOk P w H s₁.heap→(∀ b,H b≠none→b=a)→(H a≠none→K.lookup a=none) →
   codeAny (model P w) callerA (.call (.ref fa) ⟨[.ref a],[]⟩) (fun r s'=>r=.ok (.ret (.bool true))∧OldK s₁.heap s'.heap∧s'.os=s₁.os∧AllBare s'.gens) s₁:=by
  intro H hO hS hok hA hK
  have KY:∀{b:Addr} {o:Obj},s₁.heap.get? b=some o→H b=none→(Pu s₁.heap H).get? b=some o:=fun e n=>Yt e n
  have noA:∀{b:Addr} {o:Obj} {es:Array DictEntry} {ep:Nat},s₁.heap.get? b=some o→o.data=.dict es ep→H b=none:=fun {b o es ep} e d=>by
   cases q:H b with
   | none=>rfl
   | some u =>
    have e':b=a:=hA b (by rw[q];simp)
    subst e'
    rw[ha] at e;cases e
    have d':Data.seq vs.toArray _=Data.dict es ep:=d
    cases d'
  have nsK:∀{b:Addr} {m:Str→Option Value},s₁.heap.Ns b m→(Pu s₁.heap H).Ns b m:=fun {b m} ⟨o,es,ep,e,d,r⟩=>⟨o,es,ep,KY e (noA e d),d,r⟩
  have hKb:K.In (Pu s₁.heap H):=fun b o e=>KY (KX b o e) (by
   cases q:H b with
   | none=>rfl
   | some u =>
    have e':b=a:=hA b (by rw[q];simp)
    subst e'
    rw[hK (by rw[q];simp)] at e;cases e)
  have hM:Mod K mg (Pu s₁.heap H):=⟨hKb,nsK hns,⟨mb,nsK hb,hbb⟩,let ⟨mc,h1,h2⟩:=hlim;⟨mc,nsK h1,h2⟩⟩
  have e0:Acn P w K mg (Pu s₁.heap H) callerA [] s₁ H:=⟨rfl,hM,fun b o e=>AaE e,AlS (We _ _),trivial,fun b hb=>absurd (show b∈([]:List Addr) from hb) (by simp),hok,.of_eq hg⟩
  refine codeAny_mono ((F _ hKb (nsK hns)).run callerA [] s₁ H ⟨[.ref a],[]⟩ [.ref a] [.ref a] _ _ hr e0 (hbind s₁ (.ref a)) (.cons rfl .nil) (hsp H hO hS)) fun r s' h=>?_
  cases r with
  | error e=>exact(hCX H e s' h).elim
  | ok fl =>
   cases fl with
   | next=>exact False.elim h
   | brk=>exact False.elim h
   | cont=>exact False.elim h
   | ret u =>
    obtain⟨v,H',os,bare,un,hok',r',q⟩:=h
    have q':v=.bl true:=q
    subst q'
    obtain rfl:u=Value.bool true:=r'
    refine⟨rfl,OldK.of_keep fun b o e=>?_,os,bare⟩
    cases q:H b with
    | none=>exact un.keep b o e q (by intro z;exact absurd (show b∈([]:List Addr) from z) (by simp)) (by simp)
    | some u =>
     rcases hO b with z | ⟨ob,xs,z⟩
     ·rw[q] at z;cases z
     ·have z2:=un.Pr b ob _ z
      obtain⟨e1,_⟩:=hok b _ z
      obtain⟨e2,_⟩:=hok' b _ z2
      rw[e] at e1;cases e1
      exact e2
 cases hk:K.lookup a with
 | some o =>
  have e:=KX a o hk
  rw[ha] at e
  cases e
  refine core (fun _=>none) (fun _=>.inl rfl) (.inr ⟨_,vs.toArray,_,hk,rfl,rfl,rfl,by rw[AkB,lenV];exact hl,by simpa using rv⟩) (fun b u z=>by have z':(none:Option HO)=some u:=z;cases z') (fun b z=>absurd rfl z) fun z=>absurd rfl z
 | none =>
  refine core (fun b=>if b=a then some (.frz { cls:=.type "list", data:=.seq vs.toArray } (.lst (ns.map V.int))) else none) (fun b=>?_) (.inl (.inr ⟨{ cls:=.type "list", data:=.seq vs.toArray },if_pos rfl⟩)) (fun b u z=>?_) (fun b z=>?_) fun _=>hk
  ·by_cases hb:b=a
   ·exact .inr ⟨_,_,if_pos hb⟩
   ·exact .inl (if_neg hb)
  ·by_cases hb:b=a
   ·have z':=(if_pos hb).symm.trans z
    cases z'
    subst hb
    exact⟨ha,by rw[AkA];exact hl,vs,_,rv,ha⟩
   ·have z':=(if_neg hb).symm.trans z
    cases z'
  ·by_cases hb:b=a
   ·exact hb
   ·exact absurd (if_neg hb) z
open PySem PySem.Spec PyProof.Rows
abbrev KOf {K:PySem.W.Frag} {h:Heap} (_:K.In h):PySem.W.Frag:=K
theorem Aio{l:PySem.W.OpenLaw}{n k:Nat}{q:Program}{loose:List Str}{XP:(Str→Option Value)→Heap→Prop}{YP:World→Heap→Prop}{d:DefRec}{K:Params→PySem.W.Frag}{CX:World→CXT}{sp:World→Sp}{x:Str}
  (hn:l.most=some n) (hn2:n≤sizeLine) (hdf:d.params.defaults=[]) (hr:Ib k callerA)
  (hY:∀(w:World) (h:Heap),YP w h→(K w.params).In h)
  (F:∀(w:World) (mg:Str→Option Value) (fa:Addr) (h:Heap),(K w.params).In h→h.Ns mainGlobals mg→mg d.name=some (.ref fa) →
   ∃ fd:FuncData,(∀(s:Shared) (u:Value),BindsTo s fd ⟨[u],[]⟩ [(x,u)]) ∧
    ∀ base:Heap,(K w.params).In base→base.Ns mainGlobals mg→BK l.prog w (K w.params) mg base (CX w) k fa fd [x] (sp w))
  (hsp:∀(w:World) (H:Hp) (a:Addr) (ns:List Int),ns.length≤n→Only H→SqL (K w.params) H a (ns.map V.int)→sp w [.ref a] H (fun v _=>v=.bl true) fun _ _ _=>False)
  (hCX:∀(w:World) (H:Hp) (s:Shared) (e:Value) (s':Shared),CX w [] H s (fun _ _ _=>False) e s'→False) :
  PySem.W.WalkO q loose XP YP l.row.toRowW d [] (fun f vs=>PySem.call f vs):=by
 refine Att.T9 hn hdf fun w s₀ s₁ mg mb fa o pm cd doc a vs ns G Y ho hd hcd hmg hobj hints hlen hg=>?_
 have KX:=hY w _ Y
 obtain⟨fd,hb,hF⟩:=F w mg fa _ KX G.T.g hmg
 exact Acq KX G.T.g G.T.b G.T.builtins G.T.nolimit hg hobj hints (AkS hlen hn2) hr hF hb (fun H hO hS=>hsp w H a ns hlen hO hS) fun H e s'=>hCX w H s₁ e s'
open PySem PySem.Spec PyProof.Rows
def inClass(s:Stmt)(j:Nat):Stmt:=match s with
 | .ClassDef _ _ _ body _ _ _ _ _ _ _=>body.getD j (.Pass ⟨0,0,0,0⟩)
 | _=>.Pass ⟨0,0,0,0⟩
def Am (s:Stmt):Arguments:=match s with
 | .FunctionDef _ a _ _ _ _ _ _ _ _=>a
 | _=>{ posonlyargs:=[],args:=[],vararg:=none,kwonlyargs:=[],kw_defaults:=[],kwarg:=none,defaults:=[] }
def Al (s:Stmt):List Stmt:=match s with
 | .FunctionDef _ _ b _ _ _ _ _ _ _=>b
 | _=>[]
def Ae (s:Stmt):Scope:=match s with
 | .FunctionDef _ _ _ _ _ _ sc _ _ _=>sc
 | _=>{ kind:=.function,names:=[],isGenerator:=false,isCoroutine:=false }
abbrev CX0:CXT:=fun _ _ _ _ _ _=>False
abbrev E0:XK:=fun _ _ _=>False
theorem Dk{X:Cx}:Passes CX0 X E0:=fun _ _ _ _ _ _ _ h=>h.elim
structure Fun (K:PySem.W.Frag) (x qual:Str) (st:Stmt) (f:Addr) (fd:FuncData):Prop where
 ex:∃(oc:Value) (od:Option Addr) (kV doc pm:Value) (an:Option Addr) (cdv ct:Value) (osl:Array (Option Value)),
  fd=PySem.W.fnOf x qual (Am st) (Al st) (Ae st) .none kV doc pm an cdv ct∧K.lookup f=some ⟨oc,od,.func fd,osl⟩∧PySem.W.codeIn K cdv qual=true
 kp:PySem.W.keepIn K (.ref f)=true
section
variable {P:Program}{w:World}{K:PySem.W.Frag}{mg:Str→Option Value}{base:Heap}
theorem Fun.ok{x qual:Str}{st:Stmt}{f:Addr}{fd:FuncData}{N ps:List Str}{k:Nat}{sp:Sp}(F:Fun K x qual st f fd)(S:Br N ps (Ae st))(len:∀ vs H Q E,sp vs H Q E→vs.length=ps.length)
  (hbody:∀(cdv:Value) (A:Around) (outer:List Env) (s:Shared) (H:Hp) (vs:List V) (Q:VK) (E:XK),Ib k (A.deeper (envOfC qual (Ae st) s.heap.objs.size f cdv))→sp vs H Q E →
   ∃ t,PSs (W5 CX0 P w K mg base N qual (Ae st) f cdv A outer s H E).nox (Al st) t∧t { nx:=fun _ H'=>Q .non H',rt:=Q } (start N vs) H):BK P w K mg base CX0 (k+1) f fd ps sp:=by
 obtain⟨oc,od,kV,doc,pm,an,cdv,ct,osl,rfl,lk,hcd⟩:=F.ex
 refine Afb lk hcd S len fun A outer s H vs Q E hr hsp=>?_
 obtain⟨t,h,q⟩:=hbody cdv A outer s H vs Q E hr hsp
 exact⟨t,h.nox,q⟩
theorem Fun.binds{x qual:Str}{st:Stmt}{f:Addr}{fd:FuncData}{ps:List Str}(F:Fun K x qual st f fd)
  (h:∀(kV doc pm:Value) (an:Option Addr) (cdv ct:Value) (us:List Value),us.length=ps.length→bindArgs (PySem.W.fnOf x qual (Am st) (Al st) (Ae st) .none kV doc pm an cdv ct) ⟨us,[]⟩=pure (ps.zip us)):Binds K fd ps []:=by
 obtain⟨oc,od,kV,doc,pm,an,cdv,ct,osl,rfl,lk,hcd⟩:=F.ex
 exact .all (h kV doc pm an cdv ct)
theorem Ax{x qual:Str}{st:Stmt}{f:Addr}{oc:Value}{od an:Option Addr}{osl:Array (Option Value)}{kV doc pm cdv ct:Value}(l:K.lookup f=some ⟨oc,od,.func (PySem.W.fnOf x qual (Am st) (Al st) (Ae st) .none kV doc pm an cdv ct),osl⟩)
  (c:PySem.W.codeIn K cdv qual=true) (k:PySem.W.keepIn K (.ref f)=true):Fun K x qual st f (PySem.W.fnOf x qual (Am st) (Al st) (Ae st) .none kV doc pm an cdv ct):=⟨⟨oc,od,kV,doc,pm,an,cdv,ct,osl,rfl,l,c⟩,k⟩
end
section
variable {X:Cx}
theorem pv(i:Nat){x:Str}{pos:Pos}(hN:X.N[i]?=some x:=by rfl)(hv:Vis X.env.scope x:=by first | exact Or.inl rfl | exact Or.inr (Or.inl rfl) | exact Or.inr (Or.inr rfl))(hd:(x == ("__debug__" : Str))=false:=by decide)
  (hcd:(x == ("__classdict__" : Str))=false:=by decide):PE X (.Name x pos) (AgU i):=ZR hN hv hd hcd
end
theorem Px{A B:Prop}(h:B):if false=true then A else B:=by
 rw[if_neg AkL]
 exact h
theorem WL{A B:Prop}(h:A):if true=true then A else B:=by
 rw[if_pos rfl]
 exact h
theorem AaO{c A B:Prop}[Decidable c](hc:c)(h:B):if (!decide c)=true then A else B:=by
 rw[decide_eq_true hc]
 exact Px h
def An (H H':Hp):Prop:=∀ b o,H b=some o→H' b=some o
theorem An.refl(H:Hp):An H H:=fun _ _ h=>h
theorem An.trans{H H1 H2:Hp}(a:An H H1)(b:An H1 H2):An H H2:=fun c o h=>b c o (a c o h)
theorem An.free{H H':Hp}(e:An H H'){l:Addr}(h:H' l=Option.none):H l=Option.none:=by
 cases q:H l with
 | none=>rfl
 | some o =>
  rw[e l o q] at h
  cases h
theorem An.seq{K:PySem.W.Frag}{H H':Hp}{a:Addr}{xs:List V}(e:An H H')(h:SqL K H a xs):SqL K H' a xs:=by
 rcases h with (h | ⟨o,h⟩) | h
 ·exact .inl (.inl (e _ _ h))
 ·exact .inl (.inr ⟨o,e _ _ h⟩)
 ·exact .inr h
open PySem PySem.Spec PyProof.Rows
theorem U6{scope:Scope}{env:Env}(h:∀ y∈scope.names,y.2=.free→∃ c,env.cells.lookup y.1=some c) :
  ∃ cl,closureFor scope env=pure cl∧(∀ x c,cl.lookup x=some c→env.cells.lookup x=some c∧(x,NameKind.free)∈scope.names) ∧
   ∀ x,(x,NameKind.free)∈scope.names→cl.lookup x=env.cells.lookup x:=by
 have key:∀(l:List (Str × NameKind)) (cs:List (Str × Addr)),(∀ y∈l,y.2=.free→∃ c,env.cells.lookup y.1=some c) →
   ∃ cl,(forIn l cs (fun(x:Str × NameKind) (cs:List (Str × Addr))=>do
     if x.2 == .free then
      let c ← cellOf env x.1
      pure (ForInStep.yield ((x.1,c)::cs))
     else pure (ForInStep.yield cs)):Sem (List (Str × Addr)))=pure cl ∧
    (∀ x c,cl.lookup x=some c→(env.cells.lookup x=some c∧(x,NameKind.free)∈l)∨cs.lookup x=some c) ∧
    ∀ x,((x,NameKind.free)∈l→cl.lookup x=env.cells.lookup x)∧((cs.lookup x=env.cells.lookup x)→cl.lookup x=env.cells.lookup x):=by
  intro l
  induction l with
  | nil=>intro cs _;exact⟨cs,rfl,fun x c e=>.inr e,fun x=>⟨fun z=>absurd z (by simp),fun z=>z⟩⟩
  | cons y r ih =>
   intro cs hl
   obtain⟨n,k⟩:=y
   by_cases hk:k=.free
   ·subst hk
    obtain⟨c,hc⟩:=hl (n,.free) AkM rfl
    obtain⟨cl,e1,e2,e3⟩:=ih ((n,c)::cs) fun y hy=>hl y (AkN _ hy)
    refine⟨cl,?_,fun x d e=>?_,fun x=>⟨fun z=>?_,fun z=>?_⟩⟩
    ·rw[Amj]
     simp only [beq_self_eq_true,if_true,cellOf,hc]
     exact e1
    ·rcases e2 x d e with ⟨z1,z2⟩ | z
     ·exact .inl ⟨z1,AkN _ z2⟩
     ·rw[AkY] at z
      by_cases hx:x == n
      ·rw[hx] at z
       have hx':x=n:=by simpa using hx
       subst hx'
       refine .inl ⟨?_,AkM⟩
       rw[hc];exact z
      ·have hx':(x == n)=false:=by simpa using hx
       rw[hx'] at z
       exact .inr z
    ·rcases List.mem_cons.mp z with z | z
     ·injection z with z1 _
      subst z1
      refine(e3 x).2 ?_
      rw[AkY,hc]
      simp
     ·exact(e3 x).1 z
    ·by_cases hx:x=n
     ·subst hx
      refine(e3 x).2 ?_
      rw[AkY,hc]
      simp
     ·refine(e3 x).2 ?_
      rw[AkY]
      have hx':(x == n)=false:=by simpa using hx
      rw[hx']
      exact z
   ·obtain⟨cl,e1,e2,e3⟩:=ih cs fun y hy=>hl y (AkN _ hy)
    have hb:(k == NameKind.free)=false:=by simpa using hk
    refine⟨cl,?_,fun x d e=>?_,fun x=>⟨fun z=>?_,(e3 x).2⟩⟩
    ·rw[Amj]
     simp only [hb,Ali,if_false]
     exact e1
    ·rcases e2 x d e with ⟨z1,z2⟩ | z
     ·exact .inl ⟨z1,AkN _ z2⟩
     ·exact .inr z
    ·rcases List.mem_cons.mp z with z | z
     ·injection z with _ z2
      exact absurd z2.symm hk
     ·exact(e3 x).1 z
 obtain⟨cl,e1,e2,e3⟩:=key scope.names [] h
 refine⟨cl,?_,fun x c e=>?_,fun x z=>(e3 x).1 z⟩
 ·unfold closureFor
  have:=e1
  simpa using this
 ·rcases e2 x c e with z | z
  ·exact z
  ·simp at z
theorem Ie{env:Env}(hk:env.scope.kind=.function):∀{names:List (Str × NameKind)} {x:Str} {k:NameKind},names.lookup x=some k→k≠.free →
  (names.map fun(n,k)=>if (k == NameKind.free && env.scope.kind == .function && env.kindOf n == some .cell) then (n,NameKind.cell) else (n,k)).lookup x=some k
 | [],_,_,h,_=>by simp at h
 | (n,k')::r,x,k,h,hf=>by
  have ih:=@Ie env hk r x k
  show List.lookup x ((if (k' == NameKind.free && env.scope.kind == .function && env.kindOf n == some .cell)=true then (n,NameKind.cell) else (n,k'))::_)=_
  cases hx:x == n with
  | true =>
   simp only [AkY,hx] at h
   cases h
   have:(k' == NameKind.free)=false:=by simpa using hf
   simp[AkY,hx,this]
  | false =>
   simp only [AkY,hx] at h
   by_cases hc:(k' == NameKind.free && env.scope.kind == .function && env.kindOf n == some .cell)=true
   ·rw[if_pos hc];simp only [AkY,hx];exact ih h hf
   ·rw[if_neg hc];simp only [AkY,hx];exact ih h hf
theorem Hu{env:Env}(hk:env.scope.kind=.function):∀{names:List (Str × NameKind)} {x:Str},names.lookup x=some .free→env.kindOf x=some .cell →
  (names.map fun(n,k)=>if (k == NameKind.free && env.scope.kind == .function && env.kindOf n == some .cell) then (n,NameKind.cell) else (n,k)).lookup x=some .cell
 | [],_,h,_=>by simp at h
 | (n,k')::r,x,h,hc=>by
  have ih:=@Hu env hk r x
  show List.lookup x ((if (k' == NameKind.free && env.scope.kind == .function && env.kindOf n == some .cell)=true then (n,NameKind.cell) else (n,k'))::_)=_
  cases hx:x == n with
  | true =>
   simp only [AkY,hx] at h
   cases h
   have hxn:x=n:=by simpa using hx
   subst hxn
   simp[AkY,hk,hc]
  | false =>
   simp only [AkY,hx] at h
   by_cases hd:(k' == NameKind.free && env.scope.kind == .function && env.kindOf n == some .cell)=true
   ·rw[if_pos hd];simp only [AkY,hx];exact ih h hc
   ·rw[if_neg hd];simp only [AkY,hx];exact ih h hc
def KZ (X:Cx)(Nc:List Str)(scope:Scope)(cl:List (Str × Addr))(C:Addr)(fp:List Addr)(s:Shared)(H:Hp):Cx where
 prog:=X.prog
 w:=X.w
 K:=X.K
 mg:=X.mg
 base:=X.base
 A:=X.A
 N:=Nc
 s₀:=s
 H₀:=H
 env:=compEnvC scope cl C X.env
 outer:=X.stack
 stack:=X.stack
 ex:=fp
 fn:=fun _=>false
 calm:=X.calm
 pn:=[]
 xe:=fun _ _=>False
def MJ (σ:St)(BJ:List Nat):St:=BJ.map fun j=>(σ[j]?).join
structure Ej (X:Cx) (x:Str) (Nc:List Str) (BJ:List Nat) (scope:Scope):Prop where
 kind:scope.kind=.function
 cell:∀ y∈scope.names,y.2≠.cell
 names:∀ y∈scope.names,y.2=.local→scope.names.lookup y.1=some .local
 fr:∀ y∈scope.names,y.2=.free→X.env.scope.names.lookup y.1=some .cell∧scope.names.lookup y.1=some .free
 loc:scope.names.lookup x=some .local
 len:Nc.length=BJ.length+1
 hd:Nc[0]?=some x
 nd:Nc.Nodup
 cap:∀ k j,BJ[k]?=some j→∃ y,Nc[k+1]?=some y∧X.N[j]?=some y∧scope.names.lookup y=some .free
theorem WM{prog:Program}{w:World}{A:Around}{R:Result→Shared→Prop}{s:Shared}{elt target iter:Expr}{ifs:List Expr}{scope:Scope}{pos:Pos}{it acc:Value}{env:Env}(I:Nat→Shared→Prop)
  (turn:∀ n s,I n s→wpAny (model prog w) A (pyNext it) (fun r s₁=>match r with
   | none=>R (.ok .next) s₁
   | some v=>wpAny (model prog w) A (letOwnedTupleGo target it v) (fun _ s1'=>wpAny (model prog w) A (assign target env v) (fun _ s₂ =>
     wpAny (model prog w) A (forIn ifs true fun c r=>if r=true then do let ok ← isTrue c env (eval c env);pure (ForInStep.yield ok) else pure (ForInStep.yield r)) (fun ok s₃ =>
      if ok=true then wpAny (model prog w) A (eval elt env) (fun x s₄ =>
       wpAny (model prog w) A (call (.builtin "list.append") [acc,x]) (fun _ s₅=>∃ m,m<n∧I m s₅) (notedBy (model prog w) A env fun e s'=>R (.error e) s') s₄) (notedBy (model prog w) A env fun e s'=>R (.error e) s') s₃
      else ∃ m,m<n∧I m s₃) (notedBy (model prog w) A env fun e s'=>R (.error e) s') s₂) (notedBy (model prog w) A env fun e s'=>R (.error e) s') s1') (notedBy (model prog w) A env fun e s'=>R (.error e) s') s₁) (notedBy (model prog w) A env fun e s'=>R (.error e) s') s)
  (n:Nat) (h:I n s) :
  codeAny (model prog w) A (.compLoop (.ListComp elt [⟨target,iter,ifs,0⟩] scope pos) 0 it acc env) R s:=by
 refine codeAny_loop rfl I (fun n s hI=>?_) n h
 show wpAny _ A ((compTurn (.ListComp elt [⟨target,iter,ifs,0⟩] scope pos) 0 it acc env).onRaise (fun x=>do noteFrame x env;theTreesLotGoes x)) _ _ s
 refine wpAny_noted ?_
 rw[compTurn_list]
 refine wpAny_bind (wpAny_standAt (wpAny_bind (wpAny_mono (turn n s hI) (fun r s₁ h₁=>?_) fun _ _ h'=>h')))
 cases r with
 | none=>exact wpAny_pure h₁
 | some v =>
  refine wpAny_bind (wpAny_mono h₁ (fun _ s1' h₁=>?_) fun _ _ h'=>h')
  refine wpAny_bind (wpAny_mono h₁ (fun _ s₂ h₂=>wpAny_bind (wpAny_mono h₂ (fun ok s₃ h₃=>?_) fun _ _ h'=>h')) fun _ _ h'=>h')
  cases ok with
  | false=>exact wpAny_pure ⟨rfl,h₃⟩
  | true =>
   exact wpAny_bind (wpAny_bind (wpAny_mono h₃ (fun x s₄ h₄=>wpAny_bind (wpAny_mono h₄ (fun _ s₅ h₅=>wpAny_pure (wpAny_pure ⟨rfl,h₅⟩)) fun _ _ h'=>h')) fun _ _ h'=>h'))
def WN:TT:=fun _ H Q=>Q true H
inductive PIf (X:Cx):List Expr→TT→Prop where
 | nil:PIf X [] WN
 | one {c:Expr} {t:TT} (h:PT X c t):PIf X [c] t
theorem PIf.run{X:Cx}{ifs:List Expr}{t:TT}(h:PIf X ifs t){pins:List (Addr × Obj)}{s:Shared}{σ:St}{H:Hp}{Q:Bool→Hp→Prop}(I:Inv X pins σ H s)(ht:t σ H Q) :
  wpAny (model X.prog X.w) X.A (forIn ifs true fun c r=>if r=true then do let ok ← isTrue c X.env (eval c X.env);pure (ForInStep.yield ok) else pure (ForInStep.yield r)) (TP X pins σ Q) X.xe s:=by
 cases h with
 | nil=>exact wpAny_tests_nil ⟨H,I,ht⟩
 | one h=>exact wpAny_tests_one (h pins s σ H Q I ht)
def WQ (BJ:List Nat)(tc:TT)(te:TE)(J:It)(σ:St)(H:Hp)(Q:VK):Prop :=
 ∃ W:Nat→Nat→List V→Hp→Prop,(∃ m,W 0 m [] H)∧∀ i m ys H,W i m ys H →
  (J.stop i H∧ys.length≤sizeLine∧∀ p,H p=none→Q (.ref p) (upd H p (.lst ys))) ∨
  (J.go i H∧ys.length<sizeLine∧∀ x H',J.yld i H x H'→tc (some x::MJ σ BJ) H' fun b H2 =>
   if b=true then te (some x::MJ σ BJ) H2 fun y H3=>∃ m',m'<m∧W (i+1) m' (ys++[y]) H3 else ∃ m',m'<m∧W (i+1) m' ys H2)
def Afc (wi:TI)(BJ:List Nat)(tc:TT)(te:TE):TE:=fun σ H Q=>wi σ H fun J H1=>WQ BJ tc te J σ H1 Q
section
variable {X:Cx}{pins:List (Addr × Obj)}{σ:St}{H:Hp}{s:Shared}
theorem Un.track{fs ex:List Addr}{H H':Hp}{h h':Heap}{a:Addr}{o:HO}(u:Un fs ex H H' h h')(ha:h.objs.size≤a)(hn:H' a=none):Un fs ex H (upd H' a o) h h' where
 keep:=u.keep
 slot:=u.slot
 free:=fun b ob q n hx=>by rw[Ar (AkF (AkK (Heap.lt_size q) ha))];exact u.free b ob q n hx
 there:=u.there
 tups:=fun b xs q=>by rw[Ar (Cy (u.tups b xs q) hn)];exact u.tups b xs q
 Pr:=fun b ob xs q=>by rw[Ar (Cy (u.Pr b ob xs q) hn)];exact u.Pr b ob xs q
 QM:=fun b ps q=>by
  obtain⟨m,e⟩:=u.QM b ps q
  exact⟨m,by rw[Ar (Cy e hn)];exact e⟩
theorem HOk.track{P:Program}{w:World}{H:Hp}{h:Heap}{a:Addr}{o:HO}(x:HOk P w H h)(hn:H a=none)(new:Fi P w (upd H a o) h a o):HOk P w (upd H a o) h:=fun b u e=>by
 by_cases hb:b=a
 ·subst hb;rw[Ad] at e;cases e;exact new
 ·rw[Ar hb] at e
  exact(x b u e).stay (fun c v _ q=>q) (fun c q=>by rw[Ar (Cy q hn)];exact q) fun c xs q=>by rw[Ar (Cy q hn)];exact q
theorem Aea{x:Str}{Nc:List Str}{BJ:List Nat}{scope:Scope}{cl:List (Str × Addr)}{C:Addr}{fp:List Addr}(I:Inv X pins σ H s)(O:Ej X x Nc BJ scope)
  (hcl:∀ x c,cl.lookup x=some c→X.env.cells.lookup x=some c∧(x,NameKind.free)∈scope.names) (AbA:∀ x,(x,NameKind.free)∈scope.names→cl.lookup x=X.env.cells.lookup x)
  (hC:s.heap.objs.size≤C) (hfp:∀ b∈fp,Qp X pins H b) (hfo:∀ b∈fp,b<s.heap.objs.size):(KZ X Nc scope cl C fp s H).Ok where
 mod:=I.ok.mod
 kind:=O.kind
 glob:=I.ok.glob
 blt:=I.ok.blt
 above:=hC
 inj:=fun a b c e1 e2=>I.ok.inj a b c (hcl a c e1).1 (hcl b c e2).1
 has:=fun y hy=>by
  have mem:(y,NameKind.free)∈scope.names:=by
   have hy':((relabel scope X.env).names.lookup y=some .cell)∨((relabel scope X.env).names.lookup y=some .free):=hy
   have hm:∃ k,(y,k)∈(relabel scope X.env).names∧(k=.cell∨k=.free):=by
    rcases hy' with h | h
    ·exact⟨_,PySem.mem_of_lookup h,.inl rfl⟩
    ·exact⟨_,PySem.mem_of_lookup h,.inr rfl⟩
   obtain⟨k,hm,hk⟩:=hm
   obtain⟨⟨n,k'⟩,hm',e⟩:=List.mem_map.mp hm
   dsimp only at e
   by_cases hc:(k' == NameKind.free && X.env.scope.kind == .function && X.env.kindOf n == some .cell)=true
   ·rw[if_pos hc] at e
    injection e with e1 _
    subst e1
    have:k'=.free:=by
     have:=(Amb _ _▸(Amb _ _▸hc).1).1
     simpa using this
    subst this
    exact hm'
   ·rw[if_neg hc] at e
    injection e with e1 e2
    subst e1 e2
    rcases hk with hk | hk
    ·subst hk;exact absurd rfl (O.cell _ hm')
    ·subst hk;exact hm'
  obtain⟨c,e⟩:=I.ok.has y (.inl (O.fr _ mem rfl).1)
  exact⟨c,(AbA y mem).trans e⟩
 cab:=fun _ _ z=>nomatch z
 hd:=I.ok.hd
 frames:=I.ok.frames
 stk:=.inl rfl
 exf:=fun b hb=>⟨AkF (AkK (hfo b hb) hC),fun y c e=>(hfp b hb).2.2.2.2.1 y c (hcl y c e).1⟩
 bs:=I.bs
 bsz:=AkS I.ok.bsz I.sz
 Abx:=fun b o e hb=>by
  rcases(hfp b hb).2.2.2.1 with z | z
  ·exact I.ok.Abx b o e z
  ·exact absurd (AkK (Heap.lt_size e) (AkS I.ok.bsz z)) (Alf _)
 Aby:=fun b hb z=>by
  rcases List.mem_cons.mp (I.ZQ b z) with e | e
  ·exact(hfp b hb).2.1 e
  ·exact(hfp b hb).2.2.1 e
 Ul:=I.stack
 frf:=I.W2
end
open PySem PySem.Spec PyProof.Rows
section
variable {X:Cx}{pins:List (Addr × Obj)}{σ:St}{H:Hp}{s:Shared}
theorem Acr(σ:St)(BJ:List Nat):(MJ σ BJ).length=BJ.length:=by unfold MJ;rw[AkA]
theorem Acs{σ:St}{BJ:List Nat}{k:Nat}{v:V}(e:(MJ σ BJ)[k]?=some (some v)):∃ j,BJ[k]?=some j∧σ[j]?=some (some v):=by
 unfold MJ at e
 rw[AkG] at e
 cases hk:BJ[k]? with
 | none=>rw[hk] at e;cases e
 | some j =>
  rw[hk] at e
  have e':(σ[j]?).join=some v:=Option.some.inj e
  refine⟨j,rfl,?_⟩
  cases hj:σ[j]? with
  | none=>rw[hj] at e';cases e'
  | some o=>rw[hj] at e';rw[show o=some v from e']
theorem Un.but{fs ex:List Addr}{H H':Hp}{h h1 h2:Heap}{C:Addr}(u:Un fs ex H H' h h1)(hs:Heap.SameBut C h1 h2)(hC:h.objs.size≤C):Un fs ex H H' h h2 where
 keep:=fun b o q n hb hx=>(hs.2 b (AkF (AkK (Heap.lt_size q) hC))).trans (u.keep b o q n hb hx)
 slot:=fun b o q n hb hx=>by
  obtain⟨sl,e⟩:=u.slot b o q n hb hx
  exact⟨sl,(hs.2 b (AkF (AkK (Heap.lt_size q) hC))).trans e⟩
 free:=u.free
 there:=fun b o q hx=>by
  obtain⟨o',e⟩:=u.there b o q hx
  exact⟨o',(hs.2 b (AkF (AkK (Heap.lt_size q) hC))).trans e⟩
 tups:=u.tups
 Pr:=u.Pr
 QM:=u.QM
theorem Aab{x:Str}{Nc:List Str}{BJ:List Nat}{scope:Scope}{cl:List (Str × Addr)}{C:Addr}{fp:List Addr}{h':Heap}{tk:Nat}{m0:Str→Option Value}(I:Inv X pins σ H s)(O:Ej X x Nc BJ scope)
  (hcl:∀ x c,cl.lookup x=some c→X.env.cells.lookup x=some c∧(x,NameKind.free)∈scope.names) (AbA:∀ x,(x,NameKind.free)∈scope.names→cl.lookup x=X.env.cells.lookup x)
  (hC:s.heap.objs.size≤C) (hfp:∀ b∈fp,Qp X pins H b) (hfo:∀ b∈fp,b<s.heap.objs.size)
  (old:∀ b o,s.heap.get? b=some o→h'.get? b=some o) (hns:h'.Ns C m0) :
  Inv (KZ X Nc scope cl C fp s H) [] (none::MJ σ BJ) H { s with heap:=h',toks:=tk } where
 ok:=Aea I O hcl AbA hC hfp hfo
 os:=rfl
 bare:=I.bare
 base:=Un.kept old
 loc:=by
  refine⟨m0,hns,fun i y v hN hσ hv=>?_⟩
  cases i with
  | zero=>simp at hσ
  | succ k =>
   rw[List.getElem?_cons_succ] at hσ
   obtain⟨j,hj,hs⟩:=Acs hσ
   obtain⟨z,hz1,hz2,hz3⟩:=O.cap k j hj
   have hN':Nc[k+1]?=some y:=hN
   rw[hz1] at hN'
   cases hN'
   have mem:(y,NameKind.free)∈scope.names:=PySem.mem_of_lookup hz3
   have hk:=(O.fr _ mem rfl).1
   obtain⟨m,hn,hl⟩:=I.loc
   obtain⟨u,r,l⟩:=hl j y v hz2 hs (.inr (.inl hk))
   refine⟨u,r,?_⟩
   rcases l with ⟨k',_⟩ | ⟨_,c,hc,z⟩
   ·have k'':X.env.scope.names.lookup y=some .local:=k'
    rw[hk] at k'';cases k''
   ·obtain⟨o,ho,hd⟩:=z
    exact .inr ⟨.inl (Hu I.ok.kind hz3 hk),c,(AbA y mem).trans hc,o,old _ _ ho,hd⟩
 cell:=fun y c e=>by
  obtain⟨v,o,ho,hd⟩:=I.cell y c (hcl y c e).1
  exact⟨v,o,old _ _ ho,hd⟩
 free:=I.hok.fresh hC
 Ku:=fun y c e=>I.Ku y c (hcl y c e).1
 pin:=fun p hp=>absurd (show p∈([]:List (Addr × Obj)) from hp) (by simp)
 hok:=I.hok.kept old
 len:=by
  show(none::MJ σ BJ).length=Nc.length
  rw[AkR,Acr,O.len]
abbrev WR (us:List Value) (n:Nat):Obj:={ cls:=.type "list", data:=.seq us.toArray n }
theorem Fz{X:Cx}{sc0 scope:Scope}(h:X.env.scope=sc0)(hd:∀ y∈scope.names,y.2=.free→sc0.names.lookup y.1=some .cell∧scope.names.lookup y.1=some .free) :
  ∀ y∈scope.names,y.2=.free→X.env.scope.names.lookup y.1=some .cell∧scope.names.lookup y.1=some .free:=by
 rw[h]
 exact hd
theorem U7{x:Str}{px:Pos}{Nc:List Str}{BJ:List Nat}{scope:Scope}{cl:List (Str × Addr)}{iter elt:Expr}{ifs:List Expr}{pos:Pos}{tc:TT}{te:TE}{Q:VK}{it:Addr}{fp:List Addr}{tn:Nat→Heap→Prop}{J:It}
  {RR:Value→Addr→Result→Shared→Prop}{E:Value→Shared→Prop}
  (O:Ej X x Nc BJ scope) (hc:X.calm=true)
  (hcl:∀ x c,cl.lookup x=some c→X.env.cells.lookup x=some c∧(x,NameKind.free)∈scope.names) (AbA:∀ x,(x,NameKind.free)∈scope.names→cl.lookup x=X.env.cells.lookup x)
  (hte:∀ C fp s H,PE (KZ X Nc scope cl C fp s H) elt te) (htc:∀ C fp s H,PIf (KZ X Nc scope cl C fp s H) ifs tc)
  (I:Inv X pins σ H s) (T:Turn X.prog X.w X.K (.Name x px) J fp it tn) (st:tn 0 s.heap) (hfp:∀ b∈fp,Qp X pins H b) (h:WQ BJ tc te J σ H Q)
  (hRR:∀(D C:Addr) (s':Shared) (m:Str→Option Value),s'.heap.Ns C m→(∀ h',Heap.SameBut C s'.heap h'→∃ H',Inv X pins σ H' { s' with heap:=h' }∧H' C=none∧Q (.ref D) H') →
   s.heap.objs.size≤C→RR (.ref D) C (.ok .next) s') :
  wpAny (model X.prog X.w) X.A (newList []) (fun acc s₃=>wpAny (model X.prog X.w) X.A (newFunctionEnv scope X.env.globals cl [] X.env.qual none .none (some X.env)) (fun cenv s₄ =>
   codeAny (model X.prog X.w) X.A (.compStart (.ListComp elt [⟨.Name x px,iter,ifs,0⟩] scope pos) 0 (.ref it) acc { cenv with scope:=relabel scope X.env }) (RR acc cenv.locals) s₄) E s₃) E s:=by
 refine wpAny_newObj_type (wpAny_newFunctionEnv O.cell (by intro y hy;simp at hy) (fun h₁ hns₁ hsb₁=>?_) O.kind)
 dsimp only at hns₁ hsb₁ ⊢
 generalize hH2:s.heap.push { cls:=.type "list", dict:=none,data:=.seq ([]:List Value).toArray }=H2 at hns₁ hsb₁ ⊢
 have hC:H2.objs.size=s.heap.objs.size+1:=by rw[← hH2,Heap.size_push]
 have hCle:s.heap.objs.size≤H2.objs.size:=by rw[hC];exact Alq _
 have hDC:s.heap.objs.size≠H2.objs.size:=by rw[hC];exact AkF (AlC _)
 have below:∀ b,b<s.heap.objs.size→b≠H2.objs.size∧b≠s.heap.objs.size:=fun b hb=>⟨by rw[hC];exact AkF (AlT hb),AkF hb⟩
 have old:∀ b o,s.heap.get? b=some o→h₁.get? b=some o:=fun b o e=>hsb₁.extBut b o (below b (Heap.lt_size e)).1 (Heap.get?_push_of_some _ (hH2▸Heap.get?_push_of_some _ e))
 have hacc:h₁.get? s.heap.objs.size=some (WR [] 0):=hsb₁.extBut _ _ hDC (Heap.get?_push_of_some _ (hH2▸Heap.get?_push_size _ rfl))
 have hfo:∀ b∈fp,b<s.heap.objs.size:=fun b hb=>by
  obtain⟨o,e,_⟩:=T.obj _ _ st b hb
  exact Heap.lt_size e
 have st1:tn 0 h₁:=T.keep _ _ _ st fun b _ o e=>old b o e
 generalize hDD:s.heap.objs.size=D at *
 generalize hCC:H2.objs.size=C at *
 have AiN:D≤C:=hCle
 let Y:Cx:=KZ X Nc scope cl C fp s H
 have I0:Inv Y [] (none::MJ σ BJ) H { s with heap:=h₁,toks:=s.toks+([]:List (Str × Value)).length }:=Aab I O hcl AbA (by rw[hDD];exact hCle) hfp (fun b hb=>by rw[hDD];exact hfo b hb) old hns₁
 have Ahs:H D=none:=by rw[← hDD];exact I.hok.fresh (Ak8 _)
 have Aeb:D≠C:=hDC
 have Dfs:D∉Y.fs:=fun z=>by
  have:=I.stack.mem (show D∈frs X.stack from z)
  obtain⟨_,o,e,_⟩:=this
  have:=Heap.lt_size e
  rw[hDD] at this
  exact Alf _ this
 have Aht:∀ y c,Y.env.cells.lookup y=some c→c≠D:=fun y c e z=>by
  obtain⟨v,q⟩:=I.cell y c (hcl y c e).1
  have:=q.lt
  rw[z,hDD] at this
  exact Alf _ this
 have Dfp:∀ b∈fp,b≠D:=fun b hb=>AkF (hfo b hb)
 have fpY:∀{H':Hp},(∀ b∈fp,H' b=none)→∀ b∈fp,Qp Y [] H' b:=fun hn b hb =>
  ⟨hn b hb,AkF (AkK (hfo b hb) AiN),fun z=>I0.ok.Aby b hb z,.inl hb,fun y c e=>(I0.ok.exf b hb).2 y c e,fun p hp=>absurd (show p∈([]:List (Addr × Obj)) from hp) (by simp)⟩
 obtain⟨W,⟨m0,w0⟩,turn⟩:=h
 have loop:∀ s₃:Shared,s₃={ s with heap:=h₁,toks:=s.toks+([]:List (Str × Value)).length } →
   codeAny (model X.prog X.w) X.A (.compLoop (.ListComp elt [⟨.Name x px,iter,ifs,0⟩] scope pos) 0 (.ref it) (.ref D) (compEnvC scope cl C X.env)) (RR (.ref D) C) s₃:=by
  rintro s₃ rfl
  refine WM (fun n s'=>∃(i:Nat) (o:Option V) (H':Hp) (ys:List V) (us:List Value) (k:Nat),Inv Y [] (o::MJ σ BJ) H' s'∧tn i s'.heap∧(∀ b∈fp,H' b=none)∧s'.heap.get? D=some (WR us k)∧H' D=none∧Vals ys us∧W i n ys H')
   ?_ m0 ⟨0,none,H,[],[],0,I0,st1,fun b hb=>(hfp b hb).1,hacc,Ahs,.nil,w0⟩
  rintro n s3 ⟨i,o3,H3,ys,us,k,I3,st3,fr3,hD3,nD3,rv,w3⟩
  have fpP:∀{H':Hp} {ob:Obj},(∀ b∈fp,H' b=none)→∀ b∈fp,Qp Y [(D,ob)] H' b:=fun hn b hb=>by
   obtain⟨g0,g1,g2,g3,g4,_⟩:=fpY hn b hb
   refine⟨g0,g1,g2,g3,g4,fun p hp=>?_⟩
   have e:p=(D,_):=List.mem_singleton.mp (show p∈[(D,_)] from hp)
   rw[e]
   exact Ne.symm (Dfp b hb)
  have IP:Inv Y [(D,WR us k)] (o3::MJ σ BJ) H3 s3:=I3.HD fun p hp=>by
   have e:p=(D,WR us k):=List.mem_singleton.mp hp
   subst e
   exact⟨hD3,nD3,Aeb,Dfs,fun v z=>by cases z⟩
  have AfR:∀{σ':St} {H':Hp} {s':Shared} {pl:List (Addr × Obj)},Inv Y ([(D,WR us k)]++pl) σ' H' s'→s'.heap.get? D=some (WR us k)∧H' D=none:=fun I'=>by
   have z:=I'.pin (D,WR us k) (AkU _ (Ams _ AkM))
   exact⟨z.1,z.2.1⟩
  rcases turn i n ys H3 w3 with ⟨stop,hlen,fin⟩ | ⟨go,hlen,step⟩
  ·
   refine wpAny_mono (T.done Y rfl rfl rfl hc i _ s3 _ H3 (fun _ _=>False) IP (fpP fr3) st3 stop) (fun r s4 hr=>?_) fun _ _ z=>z.elim
   obtain⟨hr,I4⟩:=hr
   subst hr
   obtain⟨gD,nD⟩:=AfR (pl:=[]) (by simpa using I4)
   obtain⟨m,hn,_⟩:=I4.loc
   refine hRR D C s4 m hn (fun h' hs'=>⟨upd H3 D (.lst ys),?_,(Ar (Ne.symm Aeb)).trans I4.free,fin D nD⟩) hCle
   have nt:∀ b ob,H3 b=some ob→b≠C:=fun b ob e z=>by
    have:=I4.free
    rw[z] at e
    rw[show H3 C=none from this] at e
    cases e
   have u1:Un (frs X.stack) fp H H3 s.heap h':=Un.but I4.base hs' (show s.heap.objs.size≤C by rw[hDD];exact hCle)
   have ok1:HOk X.prog X.w H3 h':=fun b ob e=>(I4.hok b ob e).stay (fun c v hc q=>(hs'.2 c (by
    rcases hc with z | z
    ·rw[z];exact nt b ob e
    ·exact nt c _ z)).trans q) (fun _ q=>q) fun _ _ q=>q
   have gD':h'.get? D=some (WR us k):=(hs'.2 D Aeb).trans gD
   exact I.call' (s':={ s4 with heap:=h' }) (ch:=fp) I4.os (u1.track (AlS hDD) nD) (ok1.track nD ⟨hlen,us,k,rv,gD'⟩) I4.bare fun b hb=>by
    obtain⟨_,g1,_,g3,g4,g5⟩:=hfp b hb
    exact⟨g3,g1,g4,g5⟩
  ·
   refine wpAny_mono (T.item Y rfl rfl rfl hc i _ s3 _ H3 (fun _ _=>False) IP (fpP fr3) st3 go) (fun r s4 hr=>?_) fun _ _ z=>z.elim
   obtain⟨u0,hr,h4⟩:=hr
   subst hr
   refine wpAny_mono h4 (fun _ s5 h5=>?_) fun _ _ z=>z.elim
   obtain⟨x5,H5,I5,r5,y5,st5,fr5⟩:=h5
   have I5':=I5.pinned (fpP fr5) (T.obj _ _ st5)
   have tgt:PG Y (.Name x px) (Yw 0):=Bd (i:=0) O.nd O.hd (.inl (Ie I.ok.kind O.loc (by intro z;cases z))) (.inr (Ie I.ok.kind O.loc (by intro z;cases z)))
   refine wpAny_mono (tgt _ s5 _ H5 x5 u0 (fun σ2 H2=>σ2=some x5::MJ σ BJ∧H2=H5) I5' r5 ⟨rfl,rfl⟩) (fun _ s6 h6=>?_) fun _ _ z=>z.elim
   obtain⟨_,_,I6,rfl,rfl⟩:=h6
   refine wpAny_mono ((htc C fp s H).run I6 (step x5 _ y5)) (fun b s7 h7=>?_) fun _ _ z=>z.elim
   obtain⟨H7,I7,q7⟩:=h7
   have Wm:∀{σ':St} {H':Hp} {s':Shared},Inv Y ([(D,WR us k)]++U3 fp s5.heap) σ' H' s'→tn (i+1) s'.heap∧∀ b∈fp,H' b=none:=fun I' =>
    ⟨T.keep _ _ _ st5 fun b hb o e=>(I'.pin (b,o) (AkU _ (AkU _ (KN hb e)))).1,fun b hb=>by
     obtain⟨o,e,d⟩:=T.obj _ _ st5 b hb
     exact(I'.pin (b,o) (AkU _ (AkU _ (KN hb e)))).2.1⟩
   cases b with
   | false =>
    rw[if_neg AkL] at q7
    rw[if_neg AkL]
    obtain⟨m',hm,w7⟩:=q7
    obtain⟨gD,nD⟩:=AfR I7
    obtain⟨k1,k2⟩:=Wm I7
    exact⟨m',hm,i+1,some x5,H7,ys,us,k,I7.HD (fun p hp=>nomatch hp),k1,k2,gD,nD,rv,w7⟩
   | true =>
    rw[if_pos rfl] at q7
    rw[if_pos rfl]
    refine wpAny_mono (hte C fp s H _ s7 _ H7 _ I7 q7) (fun u8 s8 h8=>?_) fun _ _ z=>z.elim
    obtain⟨y8,H8,I8,r8,m',hm,w8⟩:=h8
    obtain⟨gD,nD⟩:=AfR I8
    obtain⟨k1,k2⟩:=Wm I8
    refine call_meets F.slot_list_append ⟨_,gD,rfl⟩ F.entry_list_append (F.args_list_append_2 _ _) (PySem.list_append D us.toArray k u8 (by rw[AkB,← rv.length];omega)) ⟨gD,?_⟩
    have q:=PySem.IsL.update gD (·.push u8)
    have e1:us.toArray.push u8=(us++[u8]).toArray:=by simp
    rw[e1] at q
    have I8':Inv Y [] (some x5::MJ σ BJ) H8 s8:=I8.HD (fun p hp=>nomatch hp)
    have I9:Inv Y [] (some x5::MJ σ BJ) H8 { s8 with heap:=s8.heap.update D (Obj.mapSeq (·.push u8)),toks:=s8.toks } :=
     I8'.turned (it:=D) (fun b o hb e=>(Heap.get?_update_other s8.heap (Obj.mapSeq (·.push u8)) (Ne.symm hb)).trans e) nD Aeb (.inr (AlS hDD)) Aht (fun p hp=>nomatch hp)
    refine⟨m',hm,i+1,some x5,H8,ys++[y8],us++[u8],_,I9,T.keep _ _ _ k1 fun b hb o e=>(Heap.get?_update_other s8.heap (Obj.mapSeq (·.push u8)) (Ne.symm (Dfp b hb))).trans e,k2,q,nD,rv.append (.cons r8 .nil),w8⟩
 exact codeAny_compStart_list (loop _ rfl) (T.self X.A 0 _ _ _ st1 (loop _ rfl))
theorem O5{x:Str}{px pos:Pos}{Nc:List Str}{BJ:List Nat}{scope:Scope}{iter elt:Expr}{ifs:List Expr}{wi:TI}{tc:TT}{te:TE}(O:Ej X x Nc BJ scope)(hc:X.calm=true)(hi:PI X (.Name x px) iter wi)
  (htc:∀ cl C fp s H,PIf (KZ X Nc scope cl C fp s H) ifs tc) (hte:∀ cl C fp s H,PE (KZ X Nc scope cl C fp s H) elt te) (hs:∀ x,foldedSetIterable iter X.env x=pure x:=by intro _;rfl) :
  PE X (.ListComp elt [⟨.Name x px,iter,ifs,0⟩] scope pos) (Afc wi BJ tc te):=by
 intro pins s σ H Q I h
 rw[eval_ListComp]
 obtain⟨cl,e1,e2,e3⟩:=U6 (scope:=scope) (env:=X.env) fun y hy hf=>I.ok.has y.1 (.inl (O.fr y hy hf).1)
 refine wpAny_comprehension_free (use:=none) rfl hs e1 O.kind O.names (thn (hi pins s σ H _ I h) fun v s1 h1=>thn h1 fun itv s2 h2=>?_)
 obtain⟨it,fp,tn,J,H2,e,I2,T,st2,f2,w2⟩:=h2
 subst e
 refine U7 (RR:=fun acc C=>compPost (model X.prog X.w) X.A X.xe none (EP X pins σ Q) acc C) O hc e2 e3 (hte cl) (htc cl) I2 T st2 f2 w2 ?_
 intro D C s' m hn hq hC
 refine⟨m,hn,fun h' hs'=>?_⟩
 obtain⟨H',I',_,q⟩:=hq h' hs'
 exact⟨.ref D,H',I',rfl,q⟩
theorem O6{i:Nat}{y x:Str}{px py pos spos:Pos}{Nc:List Str}{BJ:List Nat}{scope:Scope}{iter elt:Expr}{ifs:List Expr}{wi:TI}{tc:TT}{te:TE}(O:Ej X x Nc BJ scope)(hc:X.calm=true)
  (hN:X.N.Nodup) (hy:X.N[i]?=some y) (hx:X.env.scope.names.lookup y=some .local) (hi:PI X (.Name x px) iter wi)
  (htc:∀ cl C fp s H,PIf (KZ X Nc scope cl C fp s H) ifs tc) (hte:∀ cl C fp s H,PE (KZ X Nc scope cl C fp s H) elt te)
  (hsw:swapsWith (.ListComp elt [⟨.Name x px,iter,ifs,0⟩] scope pos) (some (.Name y py)) spos.line X.env=pure true) (hs:∀ x,foldedSetIterable iter X.env x=pure x:=by intro _;rfl) :
  PS X (.Assign [.Name y py] (.ListComp elt [⟨.Name x px,iter,ifs,0⟩] scope pos) spos) (AdR (Afc wi BJ tc te) (Yw i)):=by
 intro pins s σ H Dn I h
 rw[exec_Assign_Name_used _ _ _ _ hsw]
 refine wpAny_bind (wpAny_standAt (wpAny_bind ?_))
 obtain⟨cl,e1,e2,e3⟩:=U6 (scope:=scope) (env:=X.env) fun y hy hf=>I.ok.has y.1 (.inl (O.fr y hy hf).1)
 show wpAny _ X.A (do let _ ← comprehension (.ListComp elt [⟨.Name x px,iter,ifs,0⟩] scope pos) scope X.env _ (newList []) false (eval iter X.env) (some (assign (.Name y py) X.env))) _ _ s
 refine wpAny_bind (wpAny_mono (wpAny_comprehension_free (use:=some (assign (.Name y py) X.env)) (Q:=fun _ s'=>SP X pins Dn .next s') rfl hs e1 O.kind O.names
  (thn (hi pins s σ H _ I h) fun v s1 h1=>thn h1 fun itv s2 h2=>?_)) (fun _ s' hq=>wpAny_pure (wpAny_pure hq)) fun _ _ e=>e)
 obtain⟨it,fp,tn,J,H2,e,I2,T,st2,f2,w2⟩:=h2
 subst e
 refine U7 (RR:=fun acc C=>compPost (model X.prog X.w) X.A X.xe (some (assign (.Name y py) X.env)) (fun _ s'=>SP X pins Dn .next s') acc C) O hc e2 e3 (hte cl) (htc cl) I2 T st2 f2 w2 ?_
 intro D C s' m hn hq hC
 show wpAny _ X.A (assign (.Name y py) X.env (.ref D)) _ _ _
 obtain⟨H',I',nC,q⟩:=hq s'.heap (.refl ..)
 have I'':Inv X pins σ H' s':=I'
 have CL:C≠X.env.locals:=Alp (AkK I2.lt hC)
 have Afd:∀ y c,X.env.cells.lookup y=some c→c≠C:=fun y c e z=>by
  obtain⟨v,q⟩:=I2.cell y c e
  have:=AkK q.lt hC
  rw[z] at this
  exact Alf _ this
 refine wpAny_assign_Name (Wf I'' hN hy (.inl hx) (show RelV (.ref D) (.ref D) from rfl) (fun s3 I3 hsb=>?_) (.inr hx))
 obtain⟨a,hsb,ha⟩:=hsb
 have aC:C≠a:=by
  rcases ha with z | z
  ·rw[z];exact CL
  ·exact Ne.symm (Afd _ _ z)
 refine⟨m,hn.sameBut hsb aC,fun h4 hs4=>?_⟩
 refine⟨_,H',I3.turned (it:=C) (t':=s3.toks) (fun b o hb e=>(hs4.2 b hb).trans e) nC CL (.inr (AkS I2.sz hC)) Afd (fun p hp z=>?_),q⟩
 ·have:=AkK (Heap.lt_size (I2.pin p hp).1) hC
  rw[z] at this
  exact Alf _ this
end
open PySem PySem.Spec PyProof.Rows
def Its (x:Str):It:=⟨fun i _=>i<x.cps.size,fun i H v H'=>H'=H∧∃ c,x.cps[i]?=some c∧v=.str ⟨#[c]⟩,fun i _=>x.cps.size≤i⟩
theorem AbB{P:Program}{w:World}{K:PySem.W.Frag}{tg:Expr}(it:Addr)(x:Str)(t:Tok):Turn P w K tg (Its x) [it] it (fun i h=>i≤x.cps.size∧h.IsStrIter it "str_ascii_iterator" x t i) where
 mem:=by simp
 obj:=fun i h st b hb=>by
  have e:b=it:=by simpa using hb
  subst e
  obtain⟨_,o,e,c,d⟩:=st
  exact⟨o,e,fun v z=>by rw[d] at z;cases z⟩
 keep:=fun i h h' st k=>by
  obtain⟨hl,o,e,c,d⟩:=st
  exact⟨hl,o,k it (by simp) o e,c,d⟩
 item:=by
  intro X hP hw hK hc i pins s σ H E I hf st hg
  subst hP hw hK
  obtain⟨hl,st⟩:=st
  have hg:i<x.cps.size:=hg
  obtain⟨f0,f1,f2,f3,f4,f5⟩:=hf it (by simp)
  have hx:x.cps[i]?=some x.cps[i]:=by simp[hg]
  refine wpAny_pyNext_ascii_item st hx fun h' st' sb=>?_
  have I1:Inv X pins σ H { s with heap:=h',toks:=s.toks+1 }:=I.turned (fun b o hb e=>(sb.2 b hb).trans e) f0 f1 f3 f4 f5
  obtain⟨o,e,c,d⟩:=id st'
  exact⟨_,rfl,AaH (s:={ s with heap:=h',toks:=s.toks+1 }) e c d (by decide) ⟨.str ⟨#[x.cps[i]]⟩,H,I1,⟨_,rfl⟩,⟨rfl,_,hx,rfl⟩,⟨hg,st'⟩,fun b hb=>(hf b hb).1⟩⟩
 done:=by
  intro X hP hw hK hc i pins s σ H E I hf st hg
  subst hP hw hK
  obtain⟨hl,st⟩:=st
  have hg:x.cps.size≤i:=hg
  obtain⟨f0,f1,f2,f3,f4,f5⟩:=hf it (by simp)
  exact wpAny_pyNext_ascii_end (I.ok.hd hc) st (by simp;omega) fun h' eb=>⟨rfl,I.turned (t':=s.toks) (fun b o hb e=>eb b o hb e) f0 f1 f3 f4 f5⟩
 self:=fun _ _ _ _ _ st h=>wpAny_pyIter_striter_ascii st.2 h
theorem AbC{P:Program}{w:World}{K:PySem.W.Frag}{tg:Expr}(it:Addr)(x:Str)(t:Tok):Turn P w K tg (Its x) [it] it (fun i h=>i≤x.cps.size∧h.IsStrIter it "str_iterator" x t i) where
 mem:=by simp
 obj:=fun i h st b hb=>by
  have e:b=it:=by simpa using hb
  subst e
  obtain⟨_,o,e,c,d⟩:=st
  exact⟨o,e,fun v z=>by rw[d] at z;cases z⟩
 keep:=fun i h h' st k=>by
  obtain⟨hl,o,e,c,d⟩:=st
  exact⟨hl,o,k it (by simp) o e,c,d⟩
 item:=by
  intro X hP hw hK hc i pins s σ H E I hf st hg
  subst hP hw hK
  obtain⟨hl,st⟩:=st
  have hg:i<x.cps.size:=hg
  obtain⟨f0,f1,f2,f3,f4,f5⟩:=hf it (by simp)
  have hx:x.cps[i]?=some x.cps[i]:=by simp[hg]
  refine wpAny_pyNext_wide_item st hx fun h' st' sb=>?_
  have I1:Inv X pins σ H { s with heap:=h',toks:=s.toks+1 }:=I.turned (fun b o hb e=>(sb.2 b hb).trans e) f0 f1 f3 f4 f5
  obtain⟨o,e,c,d⟩:=id st'
  exact⟨_,rfl,AaH (s:={ s with heap:=h',toks:=s.toks+1 }) e c d (by decide) ⟨.str ⟨#[x.cps[i]]⟩,H,I1,⟨_,rfl⟩,⟨rfl,_,hx,rfl⟩,⟨hg,st'⟩,fun b hb=>(hf b hb).1⟩⟩
 done:=by
  intro X hP hw hK hc i pins s σ H E I hf st hg
  subst hP hw hK
  obtain⟨hl,st⟩:=st
  have hg:x.cps.size≤i:=hg
  obtain⟨f0,f1,f2,f3,f4,f5⟩:=hf it (by simp)
  exact wpAny_pyNext_wide_end (I.ok.hd hc) st (by simp;omega) fun h' eb=>⟨rfl,I.turned (t':=s.toks) (fun b o hb e=>eb b o hb e) f0 f1 f3 f4 f5⟩
 self:=fun _ _ _ _ _ st h=>wpAny_pyIter_striter_wide st.2 h
section
variable {X:Cx}{tg:Expr}
def AiO (tl:TE):TI:=fun σ H R=>tl σ H fun x H1=>∃ z,x=.str z∧R (Its z) H1
theorem AfS{l:Expr}{tl:TE}(hl:PE X l tl):PI X tg l (AiO tl):=by
 intro pins s σ H R I h
 refine thn (hl pins s σ H _ I h) fun v s1 ⟨x,H1,I1,r1,q1⟩=>?_
 obtain⟨z,e,q⟩:=q1
 subst e
 obtain⟨t,rfl⟩:=r1
 have fpn:∀ b∈[s1.heap.objs.size],Qp X pins H1 b:=fun b hb=>by
  have e:b=s1.heap.objs.size:=by simpa using hb
  subst e
  exact I1.Acj (Ak8 _) (I1.hok.fresh (Ak8 _))
 cases ha:z.cps.all (·<128)
 ·refine wpAny_pyIter_wide ha ?_
  exact⟨s1.heap.objs.size,[s1.heap.objs.size],_,_,H1,rfl,I1.kept (t':=s1.toks) fun b o e=>Heap.get?_push_of_some _ e,AbC _ z t,⟨AkD _,_,Heap.get?_push_size _ rfl,rfl,rfl⟩,fpn,q⟩
 ·refine wpAny_pyIter_ascii ha ?_
  exact⟨s1.heap.objs.size,[s1.heap.objs.size],_,_,H1,rfl,I1.kept (t':=s1.toks) fun b o e=>Heap.get?_push_of_some _ e,AbB _ z t,⟨AkD _,_,Heap.get?_push_size _ rfl,rfl,rfl⟩,fpn,q⟩
end
theorem Aec{z:Str}{g:TG}{tb:TS}{D:Ends}{σ:St}{H:Hp}(Pv:Nat→St→Hp→Prop)(h0:Pv 0 σ H)
  (hs:∀ i c σ H,z.cps[i]?=some c→Pv i σ H→g (.str ⟨#[c]⟩) σ H fun σ2 H2=>tb { D with nx:=Pv (i+1),ct:=Pv (i+1),bk:=D.nx } σ2 H2) (hd:∀ σ H,Pv z.cps.size σ H→D.nx σ H) :
  ∃ W:Nat→Nat→St→Hp→Prop,(∃ m,W 0 m σ H)∧∀ i m σ H,W i m σ H →
   ((Its z).stop i H∧D.nx σ H)∨((Its z).go i H∧∃ N:St→Hp→Prop,(∀ σ' H',N σ' H'→∃ m',m'<m∧W (i+1) m' σ' H')∧∀ x H',(Its z).yld i H x H'→g x σ H' fun σ2 H2=>tb { D with nx:=N,ct:=N,bk:=D.nx } σ2 H2):=by
 refine⟨fun i m σ H=>m=z.cps.size-i∧i≤z.cps.size∧Pv i σ H,⟨z.cps.size,by simp,AkD _,h0⟩,?_⟩
 rintro i m σ H ⟨rfl,hi,p⟩
 by_cases hlt:i<z.cps.size
 ·refine .inr ⟨hlt,Pv (i+1),fun σ' H' p'=>⟨z.cps.size-(i+1),by omega,rfl,hlt,p'⟩,fun x H' y=>?_⟩
  obtain⟨e,c,hc,rfl⟩:=y
  subst e
  exact hs i c σ _ hc p
 ·have e:i=z.cps.size:=by omega
  subst e
  exact .inl ⟨Ak8 _,hd σ H p⟩
def CN (n:Nat)(Pv:Nat→List V→Hp→Prop)(i:Nat)(ys:List V)(H:Hp):Prop:=∃ m',m'<n-i∧m'=n-(i+1)∧i+1≤n∧Pv (i+1) ys H
theorem CN.of{n:Nat}{Pv:Nat→List V→Hp→Prop}{i:Nat}{ys:List V}{H:Hp}(h:i<n)(p:Pv (i+1) ys H):CN n Pv i ys H:=⟨n-(i+1),by omega,rfl,h,p⟩
def Ig (n:Nat)(Pv:Nat→List V→Hp→Prop)(tc:TT)(te:TE)(σ:St)(i:Nat)(ys:List V)(H:Hp):Prop :=
 tc σ H fun b H2=>if b=true then te σ H2 fun y H3=>CN n Pv i (ys++[y]) H3 else CN n Pv i ys H2
theorem Ig.no{n:Nat}{Pv:Nat→List V→Hp→Prop}{te:TE}{σ:St}{i:Nat}{ys:List V}{H:Hp}(h:te σ H fun y H3=>CN n Pv i (ys++[y]) H3):Ig n Pv WN te σ i ys H:=by
 unfold Ig WN
 exact WL h
theorem O7{K:PySem.W.Frag}{a:Addr}{xs:List V}{BJ:List Nat}{tc:TT}{te:TE}{σ:St}{H:Hp}{Q:VK}(Pv:Nat→List V→Hp→Prop)(h0:Pv 0 [] H)(hl:∀ i ys H,i≤xs.length→Pv i ys H→SqL K H a xs∧ys.length≤i)
  (hz:xs.length≤sizeLine) (hs:∀ i x ys H,i<xs.length→xs[i]?=some x→Pv i ys H→Ig xs.length Pv tc te (some x::MJ σ BJ) i ys H)
  (hd:∀ ys H p,Pv xs.length ys H→H p=none→Q (.ref p) (upd H p (.lst ys))):WQ BJ tc te (Itl K a) σ H Q:=by
 refine⟨fun i m ys H=>m=xs.length-i∧i≤xs.length∧Pv i ys H,⟨xs.length,by simp,AkD _,h0⟩,?_⟩
 rintro i m ys H ⟨rfl,hi,p⟩
 obtain⟨q,hy⟩:=hl i ys H hi p
 by_cases hlt:i<xs.length
 ·refine .inr ⟨⟨xs,xs[i],q,by simp[hlt]⟩,by omega,fun x H' y=>?_⟩
  obtain⟨e,y⟩:=y
  subst e
  exact hs i x ys _ hlt (y xs q) p
 ·have e:i=xs.length:=by omega
  subst e
  exact .inl ⟨⟨xs,q,Ak8 _⟩,by omega,fun p' hp=>hd ys H p' p hp⟩
theorem Ek{lo:Int}{n:Nat}{BJ:List Nat}{tc:TT}{te:TE}{σ:St}{H:Hp}{Q:VK}(Pv:Nat→List V→Hp→Prop)(h0:Pv 0 [] H)(hl:∀ i ys H,i≤n→Pv i ys H→ys.length≤i)
  (hz:n≤sizeLine) (hs:∀ i ys H,i<n→Pv i ys H→Ig n Pv tc te (some (.int (lo+i))::MJ σ BJ) i ys H)
  (hd:∀ ys H p,Pv n ys H→H p=none→Q (.ref p) (upd H p (.lst ys))):WQ BJ tc te (Itr lo n) σ H Q:=by
 refine⟨fun i m ys H=>m=n-i∧i≤n∧Pv i ys H,⟨n,by simp,AkD _,h0⟩,?_⟩
 rintro i m ys H ⟨rfl,hi,p⟩
 have hy:=hl i ys H hi p
 by_cases hlt:i<n
 ·refine .inr ⟨hlt,by omega,fun x H' y=>?_⟩
  obtain⟨e,y⟩:=y
  subst e y
  exact hs i ys _ hlt p
 ·have e:i=n:=by omega
  subst e
  exact .inl ⟨Ak8 _,by omega,fun p' hp=>hd ys H p' p hp⟩
theorem Aac{ys:List Str}:∀{us:List Value},Vals (ys.map V.str) us→StrsAre us ys:=by
 induction ys with
 | nil=>intro us r;rw[Ama] at r;cases r;exact .nil
 | cons n ns ih =>
  intro us r
  rw[AkT] at r
  cases r with
  | cons r1 r2 =>
   obtain⟨t,e⟩:=r1
   subst e
   exact .cons n t (ih r2)
def rJoin(K:PySem.W.Frag):V→List V→Hp→VK→Prop:=fun x vs H Q=>∃ z a ys,x=.str z∧vs=[.ref a]∧SqL K H a (ys.map V.str)∧(ys.map (·.length)).sum+ys.length*z.length≤16777216∧Q (.str (Txt.join z ys)) H
section
variable {X:Cx}
theorem Aed:MtR X "str.join" (rJoin X.K):=by
 intro pins s σ H x vs v us Q I rx rv h
 obtain⟨z,a,ys,rfl,rfl,hq,hz,q⟩:=h
 obtain⟨t,rfl⟩:=rx
 obtain⟨u,rfl,ru⟩:=rv.one
 cases ru
 obtain⟨its,r,pl,hl⟩:=I.list hq
 exact join_list pl.isList (Aac (by simpa using r)) hz fun t' k=>⟨.str _,H,I.tok _,⟨_,rfl⟩,q⟩
def Ahu (K:PySem.W.Frag):List V→Hp→VK→Prop:=fun vs H Q=>∃ x t b,SM K H x t ∧
 ((∃ n,vs=[x,.ty n]∧PySem.W.kitOne K t (.type n)=some b)∨(∃ a,vs=[x,.ref a]∧PySem.W.kitOne K t (.ref a)=some b))∧Q (.bl b) H
theorem Acu:Gj X (.builtin "isinstance") (Ahu X.K):=by
 intro pins s σ H xs us Q I rv h
 obtain⟨x,t,b,ty,hv,q⟩:=h
 rcases hv with ⟨n,rfl,e⟩ | ⟨a,rfl,e⟩
 ·obtain⟨u1,u2,rfl,r1,r2⟩:=rv.two
  cases r2
  exact Wg I r1 ty e fun tk=>⟨.bl b,H,I.tok _,rfl,q⟩
 ·obtain⟨u1,u2,rfl,r1,r2⟩:=rv.two
  cases r2
  exact Wg I r1 ty e fun tk=>⟨.bl b,H,I.tok _,rfl,q⟩
def eqL:List V→List V→Bool
 | [],[]=>true
 | x::xs,y::ys=>eqV x y && eqL xs ys
 | _,_=>false
theorem Y8{x:V}(h:Ea x=true):eqV x x=true:=by
 cases x with
 | non=>rfl
 | bl b=>simp[eqV]
 | int i=>simp[eqV]
 | str z=>simp[eqV]
 | _=>exact absurd (show false=true from h) AkL
theorem QX:∀{xs:List V},xs.all Ea=true→eqL xs xs=true
 | [],_=>rfl
 | x::xs,h=>by
  rw[List.all_cons,Amb] at h
  rw[eqL,Y8 h.1,QX h.2]
  rfl
theorem WT:∀{xs ys:List V},xs.length≠ys.length→eqL xs ys=false
 | [],[],h=>absurd rfl h
 | [],_::_,_=>rfl
 | _::_,[],_=>rfl
 | x::xs,y::ys,h=>by
  rw[eqL,WT (xs:=xs) (ys:=ys) (fun z=>h (by rw[AkR,AkR,z])),Bool.and_false]
theorem SN:∀{xs ys:List V},xs.length=ys.length→(List.range xs.length).all (fun j=>eqV (xs.getD j .non) (ys.getD j .non))=eqL xs ys
 | [],[],_=>rfl
 | [],_::_,h=>by simp at h
 | _::_,[],h=>by simp at h
 | x::xs,y::ys,h=>by
  have h':xs.length=ys.length:=by simpa using h
  rw[AkR,List.range_succ_eq_map,List.all_cons,List.all_map]
  rw[eqL,← SN h']
  rfl
def Akp (K:PySem.W.Frag):R2:=fun x y H Q=>∃ p q xs ys,x=.ref p∧y=.ref q∧SqL K H p xs∧SqL K H q ys∧xs.all Ea=true∧ys.all Ea=true∧Q (.bl (eqL xs ys)) H
end
open PySem
def tx (l:List Nat):Str:=⟨l.toArray⟩
theorem Ef(l:List Nat):(tx l).length=l.length:=by simp[tx,Str.length]
theorem AaP(l:List Nat):(tx l).cps.toList=l:=by simp[tx]
theorem Acv(l:List Nat)(i:Nat):(tx l).cps[i]?=l[i]?:=by simp[tx]
theorem WW(a b:List Nat):tx a++tx b=tx (a++b):=by
 show Str.append (tx a) (tx b)=_
 simp[tx,Str.append]
theorem AfT{a b:List Nat}(h:tx a=tx b):a=b:=by
 have:=congrArg (fun z:Str=>z.cps.toList) h
 simpa [tx] using this
theorem La(c:Nat):(⟨#[c]⟩:Str)=tx [c]:=rfl
theorem Wn:∀(ys:List (List Nat)) (acc:Array Nat),(ys.map tx).foldl (fun acc p=>acc++(tx []).cps++p.cps) acc=acc++ys.flatten.toArray
 | [],acc=>by simp
 | y::ys,acc=>by
  rw[AkT,List.foldl_cons,Wn ys]
  simp[tx]
theorem Aee:∀(ys:List (List Nat)),Txt.join (tx []) (ys.map tx)=tx ys.flatten
 | []=>by simp[Txt.join,Builtin.Str.glued,tx,Str.empty]
 | y::ys=>by
  show Str.mk _=_
  simp only [AkT,List.drop_one,List.tail_cons,List.headD_cons]
  rw[Wn]
  simp[tx]
theorem Afe{α:Type}(f:α→Nat):∀(l:List α),(l.map fun c=>[f c]).flatten=l.map f
 | []=>rfl
 | a::l=>by rw[AkT,Ale,Afe f l];rfl
theorem Ahv{α:Type}(f:α→Nat):∀(l:List α),(((l.map fun c=>[f c]).map tx).map (·.length)).sum=l.length
 | []=>rfl
 | a::l=>by
  rw[AkT,AkT,AkT,Al2,Ahv f l,Ef,AkR]
  show 1+l.length=l.length+1
  omega
end L2
namespace PySem
open Sem (wp)
open Builtin Builtin.Str Builtin.Int
namespace RV
end RV
def Akq (x:Str)(t:Tok)(i:Int):Obj:={ cls:=.type "reversed", data:=.fields #[.str x t,rawInt i] }
def Heap.AfU(h:Heap)(a:Addr)(x:Str)(t:Tok)(i:Int):Prop:=∃ o,h.get? a=some o∧o.cls=.type "reversed" ∧ o.data=.fields #[.str x t,rawInt i]
section
variable {prog:Program}{w:World}{A:Around}{E:Value→Shared→Prop}{s:Shared}
end
end PySem
namespace L2
open PySem PySem.Spec PyProof.Rows
def Akr (p:Addr)(x:Str):HO:=.ext fun h=>∃ t,h.AfU p x t ((x.length:Int)-1)
def Aks (p:Addr):HO:=.ext fun h=>∃ o,h.get? p=some o
section
variable {X:Cx}
theorem U8(hc:X.calm=true:=by rfl):Gj X (.builtin "max") (fun xs H Q=>∃ i j,xs=[.int i,.int j]∧Q (.int (if j>i then j else i)) H):=Ab3 hc
theorem U9(hc:X.calm=true:=by rfl):Gj X (.builtin "min") (fun xs H Q=>∃ i j,xs=[.int i,.int j]∧Q (.int (if j<i then j else i)) H):=Ab4 hc
end
open PySem PySem.Spec PyProof.Rows
theorem Y9{c A B:Prop}[Decidable c](h:¬c)(k:B):if decide c=true then A else B:=by rw[decide_eq_false h];exact Px k
theorem Ahw{c A B:Prop}[Decidable c](h:c)(k:A):if decide c=true then A else B:=by rw[decide_eq_true h];exact WL k
theorem Ahx{c A B:Prop}[Decidable c](h:¬c)(k:A):if (!decide c)=true then A else B:=by rw[decide_eq_false h];exact WL k
theorem Ky{c A B:Prop}[Decidable c](h1:c→A)(h2:¬c→B):if decide c=true then A else B:=by
 by_cases h:c
 ·exact Ahw h (h1 h)
 ·exact Y9 h (h2 h)
theorem An.upd{H:Hp}{p:Addr}{o:HO}(h:H p=none):An H (L2.upd H p o):=fun b o' e=>by rw[Ar (Cy e h)];exact e
theorem An.new{H H1:Hp}{p:Addr}{o:HO}(e:An H H1)(h:H1 p=none):An H (L2.upd H1 p o):=e.trans (.upd h)
theorem An.over{H H1:Hp}{p:Addr}{o:HO}(e:An H H1)(h:H p=none):An H (L2.upd H1 p o):=fun b o' q=>by rw[Ar (Cy q h)];exact e b o' q
theorem Cq:bootBuiltins "len" = some (.builtin "len"):=by decide +kernel
theorem Fl:bootBuiltins "isinstance" = some (.builtin "isinstance"):=by decide +kernel
theorem Acw:bootBuiltins "min" = some (.builtin "min"):=by decide +kernel
theorem Acx:bootBuiltins "max" = some (.builtin "max"):=by decide +kernel
theorem Aad:bootBuiltins "sum" = some (.builtin "sum"):=by decide +kernel
theorem O8:bootBuiltins "sorted" = some (.builtin "sorted"):=by decide +kernel
theorem Acy:bootBuiltins "all" = some (.builtin "all"):=by decide +kernel
theorem WY:bootBuiltins "list" = some (.type "list"):=by decide +kernel
theorem AfV:bootBuiltins "str" = some (.type "str"):=by decide +kernel
theorem Xa:bootBuiltins "int" = some (.type "int"):=by decide +kernel
theorem Acz:bootBuiltins "tuple" = some (.type "tuple"):=by decide +kernel
theorem Xb:bootBuiltins "enumerate" = some (.type "enumerate"):=by decide +kernel
theorem AfW:bootBuiltins "zip" = some (.type "zip"):=by decide +kernel
theorem Aef:bootBuiltins "bool" = some (.type "bool"):=by decide +kernel
theorem YB:bootBuiltins "range" = some (.type "range"):=by decide +kernel
theorem AfX:bootBuiltins "set" = some (.type "set"):=by decide +kernel
structure Df (K:PySem.W.Frag) (mg:Str→Option Value) (x:Str) (st:Stmt) (ps:List Str) (f:Addr) (fd:FuncData):Prop where
 F:Fun K x x st f fd
 m:mg x=some (.ref f)
 b:Binds K fd ps []
def vS (cl:List (List Nat)):List V:=cl.map fun t=>V.str (tx t)
def vI (ns:List Int):List V:=ns.map V.int
theorem Ih(cl:List (List Nat)):(vS cl).length=cl.length:=by unfold vS;rw[AkA]
theorem Av(ns:List Int):(vI ns).length=ns.length:=by unfold vI;rw[AkA]
theorem Aae{cl:List (List Nat)}{i:Nat}{t:List Nat}(h:cl[i]?=some t):(vS cl)[i]?=some (.str (tx t)):=by unfold vS;rw[AkG,h];rfl
theorem JQ{ns:List Int}{i:Nat}{n:Int}(h:ns[i]?=some n):(vI ns)[i]?=some (.int n):=by unfold vI;rw[AkG,h];rfl
theorem Xc{cl:List (List Nat)}{i:Nat}{v:V}(h:(vS cl)[i]?=some v):∃ t,cl[i]?=some t∧v=.str (tx t):=by
 unfold vS at h
 rw[AkG] at h
 cases e:cl[i]? with
 | none=>rw[e] at h;cases h
 | some t=>rw[e] at h;exact⟨t,rfl,(Option.some.inj h).symm⟩
theorem Xd{ns:List Int}{i:Nat}{v:V}(h:(vI ns)[i]?=some v):∃ t,ns[i]?=some t∧v=.int t:=by
 unfold vI at h
 rw[AkG] at h
 cases e:ns[i]? with
 | none=>rw[e] at h;cases h
 | some t=>rw[e] at h;exact⟨t,rfl,(Option.some.inj h).symm⟩
theorem AfY(cl:List (List Nat)):vS cl=(cl.map tx).map V.str:=by unfold vS;rw[Alw];rfl
theorem Xe(ns:List Int)(j:Nat)(n:Int):(vI ns).set j (.int n)=vI (ns.set j n):=by unfold vI;rw[List.map_set]
theorem SQ(ns:List Int)(n:Int):vI ns++[.int n]=vI (ns++[n]):=by unfold vI;rw[AkP];rfl
theorem Xf(cl:List (List Nat))(t:List Nat):vS cl++[.str (tx t)]=vS (cl++[t]):=by unfold vS;rw[AkP];rfl
theorem Bb{α:Type}{xs:List α}{i:Int}{v:α}(h0:0≤i)(h:xs[i.toNat]?=some v):atI xs i=some v:=by
 have e:i=(i.toNat:Int):=by omega
 rw[e]
 exact AaN h
theorem SX{n:Nat}{i:Int}(h0:0≤i)(h:i<n):ixN n i=some i.toNat:=by unfold ixN;rw[if_pos h0,if_pos h]
open PySem PySem.Spec PyProof.Rows
section
variable {X:Cx}{K:PySem.W.Frag}{tg:Expr}
theorem Ah(hK:X.K=K:=by rfl):IxR X (AfL K):=by subst hK;exact AdV
theorem CG(hK:X.K=K:=by rfl):IxR X (AfM K):=by subst hK;exact AfN
theorem Ak(hK:X.K=K:=by rfl):Gj X (.builtin "len") (fun xs H Q=>∃ p ys,xs=[.ref p]∧(SqL K H p ys∨SqT K H p ys)∧Q (.int ys.length) H):=by subst hK;exact W8
theorem PX(hK:X.K=K:=by rfl):Gj X (.type "list") (fun xs H Q=>∃ p ys,xs=[.ref p]∧(SqL K H p ys∨SqT K H p ys)∧∀ l,H l=none→Q (.ref l) (upd H l (.lst ys))):=by subst hK;exact W9
theorem Kz(hK:X.K=K:=by rfl):Gj X (.builtin "isinstance") (Ahu K):=by subst hK;exact Acu
theorem Ac0(hK:X.K=K:=by rfl):MtR X "str.join" (rJoin K):=by subst hK;exact Aed
theorem Fo(hK:X.K=K:=by rfl):SlR X (Ahp K):=by subst hK;exact AdW
theorem Hn{l:Expr}{tl:TE}(hl:PE X l tl)(hK:X.K=K:=by rfl):PI X tg l (Afa K tl):=by subst hK;exact AdS hl
theorem Wo{a:Expr}{ta:TE}(ha:PE X a ta)(he:∀ whole,isTrue a X.env whole=(do let v ← whole;standAt a.pos;holding [v] (truthy v)))(hK:X.K=K:=by rfl) :
  PT X a (fun σ H Q=>ta σ H fun x H'=>∃ k,AfE K x H' k∧Q k H'):=by subst hK;exact Acm ha he
variable {o e:Expr}{es:List Expr}{to:TE}{t:TA}{name:Str}{apos cpos:Pos}{T id:String}{r:V→List V→Hp→VK→Prop}
theorem Gk(pa:PlainAttrs T)(slot:Slot T name id)(hty:typeOf (.builtin id)=pure (.type "method_descriptor")) (hm:MtR X id r) (ho:PE X o to) (ha:PA X (e::es) t)
  (hbase:attributeBase o name X.env (eval o X.env)=eval o X.env:=by rfl)
  (hfew:((backTo cpos (starEach (e::es) X.env)).all (fun x=>!x.1) && (backToKw cpos (keywordEach [] X.env)).all (fun x=>x.1.isSome)
   && decide ((e::es).length+([]:List Keyword).length+(if ([]:List Keyword).isEmpty then 0 else 1)<30))=true:=by rfl)
  (hline:(apos.endLine == cpos.line)=true:=by rfl) (hs:starEach (e::es) X.env=(false,eval e X.env)::starEach es X.env:=by rfl) (hplain:(backTo cpos (starEach es X.env)).any (·.1)=false:=by rfl) (hK:X.K=K:=by rfl) :
  PE X (.Call (.Attribute o name apos) (e::es) [] cpos) (tBM K T r to t):=by
 subst hK
 exact Ahq pa slot hty hm ho ha hbase hfew hline hs hplain
end
open PySem PySem.Spec PyProof.Rows
abbrev exO (C t:Addr) (tb:Value):Obj:={ cls:=.ref C,data:=.fields #[.ref t,tb,.none,.none,.bool false,.none] }
structure Fx (B:Heap) (l:List Env) (e C t:Addr) (fl:Value) (h:Heap):Prop where
 st:B.StaysIn h
 ne:B.get? e=none
 fr:h.FunFrames B l
 ob:∃(T:Addr) (oT:Obj) (ts:Array Value),h.get? e=some (exO C t (.ref T))∧B.get? T=none∧T≠e∧h.get? T=some oT∧oT.data=.fields ts∧ts[3]?=some fl
section
variable {M:Model}{A:Around}{E:Value→Shared→Prop}{s:Shared}{B:Heap}{env:Env}{l:List Env}{e C t L:Addr}
end
open PySem PySem.Spec PyProof.Rows
section
variable {M:Model}{A:Around}{E:Value→Shared→Prop}{s:Shared}{B:Heap}{env:Env}{l:List Env}{e C t L:Addr}
end
structure Bk (P:Program) (w:World) (outer:List Env) (H:Hp) (h:Heap) (H':Hp) (B h':Heap):Prop where
 ok:HOk P w H' B
 keep:∀ b o,h.get? b=some o→H b=none→b∉frs outer→B.get? b=some o
 slot:∀ b o,h.get? b=some o→b∈frs outer→∃ sl,h'.get? b=some { o with slots:=sl }
 free:∀ b o,h.get? b=some o→H b=none→H' b=none
 there:∀ b o,h.get? b=some o→b∉frs outer→∃ o',B.get? b=some o'
 tups:∀ b xs,H b=some (.tup xs)→H' b=some (.tup xs)
 Pr:∀ b o u,H b=some (.frz o u)→H' b=some (.frz o u)
 QM:∀ b ps,H b=some (.tbl ps)→∃ more,H' b=some (.tbl (ps++more))
def CX1 (P:Program)(w:World):CXT:=fun outer H s E e s'=>∃ ea C t H' B,e=.ref ea∧Fx B outer ea C t .none s'.heap∧s'.os=s.os∧AllBare s'.gens∧Bk P w outer H s.heap H' B s'.heap∧E (.ref C) none H'
inductive Fly (B:Heap) (l:List Env) (L ea C t:Addr) (h:Heap):Prop where
 | new (st:B.StaysIn h) (ne:B.get? ea=none) (fr:h.FunFrames B l) (ob:h.get? ea=some (exO C t .none))
 | came (x:Fx B l ea C t .none h)
 | seen (x:Fx B l ea C t (rawInt L) h)
def FlX (X:Cx)(E:XK):Value→Shared→Prop:=fun e s'=>∃ ea C t H' B,e=.ref ea∧Fly B X.stack X.env.locals ea C t s'.heap∧s'.os=X.s₀.os∧AllBare s'.gens∧Bk X.prog X.w X.outer X.H₀ X.s₀.heap H' B s'.heap∧E (.ref C) none H'
structure Body (X:Cx):Prop where
 stack:X.stack=X.env::X.outer
 frame:X.env.frame=some X.env.locals
 ex:X.ex=[]
section
variable {X:Cx}{pins:List (Addr × Obj)}{σ:St}{H:Hp}{s s':Shared}{E:XK}{e:Value}
end
open PySem PySem.Spec PyProof.Rows
def AiP (K:PySem.W.Frag)(C:Addr):List Value:=match K.lookup C with
 | some ⟨_,_,.cls cd,_⟩=>cd.mro
 | _=>[]
def AiQ (C:Addr)(E:XK)(t:TA):TS:=fun _ σ H=>t σ H fun vs H1=>vs.length≤sizeLine∧E (.ref C) none H1
section
variable {X:Cx}{x:Str}{C:Addr}{bmB bmN:List Value}{B Bn nid Akt iid Aku:String}{E:XK}{e:Expr}{es:List Expr}{t:TA}{np cpos pos:Pos}
end
abbrev cx1 (P:Program) (w:World) (K:PySem.W.Frag) (mg:Str→Option Value) (base:Heap) (N:List Str) (qual:Str) (scope:Scope) (f:Addr) (cd:Value) (A:Around) (outer:List Env) (s:Shared) (H:Hp) (E:XK):Cx :=
 (W5 (CX1 P w) P w K mg base N qual scope f cd A outer s H E).wish (FlX (W5 (CX1 P w) P w K mg base N qual scope f cd A outer s H E) E)
section
variable {P:Program}{w:World}{K:PySem.W.Frag}{mg:Str→Option Value}{base:Heap}
end
def PEX (X:Cx)(e:Expr)(t:XK→TE):Prop:=∀(pins:List (Addr × Obj)) (s:Shared) (σ:St) (H:Hp) (Q:VK) (E:XK),Inv X pins σ H s→t E σ H Q →
 wpAny (model X.prog X.w) X.A (eval e X.env) (EP X pins σ Q) (fun ex s'=>∃ H1 s1,Inv X pins σ H1 s1∧CX1 X.prog X.w X.stack H1 s1 E ex s') s
section
variable {X:Cx}{k:Nat}{f C:Addr}{fd:FuncData}{ps:List Str}{sp:Sp}{dvs:List V}{ds:List Value}{x m:Str}{p pos apos:Pos}{e o:Expr}{es:List Expr}{ta:TE}{t:TA}
end
open PySem PySem.Spec PyProof.Rows
def exH (C a:Addr):HO:=.ext fun h=>∃ t tb,h.get? a=some (exO C t tb)
section
variable {X:Cx}{pins:List (Addr × Obj)}{σ:St}{H H':Hp}{s s':Shared}{B h2:Heap}{ea C t:Addr}{fl:Value}
abbrev Cx.hdl (X:Cx) (e:Addr):Cx:={ X with A:=X.A.mark (some (.ref e)),calm:=false,xe:=fun _ _=>False }
end
open PySem PySem.Spec PyProof.Rows
section
variable {M:Model}{A:Around}{E:Value→Shared→Prop}{h:Heap}{g:Array GenState}{d:Drawn}{t:Nat}{os:OsState}
end
abbrev WX (X:Cx) (pins:List (Addr × Obj)) (σ:St) (E:XK):Value→Shared→Prop:=fun ex s'=>∃ H1 s1,Inv X pins σ H1 s1∧CX1 X.prog X.w X.stack H1 s1 E ex s'
def PSX (X:Cx)(st:Stmt)(t:XK→TS):Prop:=∀(pins:List (Addr × Obj)) (s:Shared) (σ:St) (H:Hp) (D:Ends) (E:XK),Inv X pins σ H s→t E D σ H→wpAny (model X.prog X.w) X.A (exec st X.env) (SP X pins D) (WX X pins σ E) s
def Akv (X:Cx)(st:List Stmt)(t:XK→TS):Prop:=∀(pins:List (Addr × Obj)) (s:Shared) (σ:St) (H:Hp) (D:Ends) (E:XK),Inv X pins σ H s→t E D σ H→wpAny (model X.prog X.w) X.A (execs st X.env) (SP X pins D) (WX X pins σ E) s
section
variable {X:Cx}{e:Expr}{t u:XK→TS}{te:XK→TE}{pos:Pos}{st:Stmt}
abbrev Ends.un (D:Ends) (j:Nat):Ends:={ nx:=fun σ H=>D.nx (σ.set j none) H,rt:=D.rt,bk:=fun σ H=>D.bk (σ.set j none) H,ct:=fun σ H=>D.ct (σ.set j none) H }
def Sub (K:PySem.W.Frag)(C D:Addr):Prop:=(∃ bm nid,PySem.W.excIn K C bm nid=true)∧(AiP K C).contains (.ref D)=true
def Akw (K:PySem.W.Frag)(Ch:Addr)(j:Nat)(t:XK→TS)(ts:TS):TS:=fun D σ H=>t (fun c _ H'=>∃ C,c=.ref C∧Sub K C Ch∧∀ ea,H' ea=none→ts (D.un j) (σ.set j (some (.ref ea))) (upd H' ea (exH C ea))) D σ H
end
open PySem PySem.Spec PyProof.Rows
structure ExC (K:PySem.W.Frag) (C:Addr):Prop where
 ga:PySem.W.findIn K (.ref C) "__getattribute__" = some (some (.builtin "BaseException.__getattribute__"))
 gt:PySem.W.findIn K (.ref C) "__getattr__" = some none
 cl:PySem.W.findIn K (.ref C) "__class__" = some (some (.builtin "object.__class__"))
 gc:PySem.W.specialIn K (.builtin "object.__class__") "__get__" = some (some (.builtin "getset_descriptor.__get__"))
 tk:PySem.W.takesIn K (.builtin "object.__class__")=some true
 ob:PySem.W.mroIn K C (.type "object")=some true
 be:PySem.W.mroIn K C (.type "BaseException")=some true
 is:(PySem.W.clsIn K C).isSome=true
section
variable {prog:Program}{w:World}{A:Around}{E:Value→Shared→Prop}{s:Shared}{K:PySem.W.Frag}{x C t:Addr}{tb:Value}
end
def Akx (K:PySem.W.Frag):List V→Hp→VK→Prop:=fun vs H Q=>∃ a C b,H a=some (exH C a)∧ExC K C ∧
 ((∃ n,vs=[.ref a,.ty n]∧PySem.W.kitOne K (.ref C) (.type n)=some b)∨(∃ D,vs=[.ref a,.ref D]∧PySem.W.kitOne K (.ref C) (.ref D)=some b))∧Q (.bl b) H
section
variable {X:Cx}{K:PySem.W.Frag}
variable {CX:CXT}{k:Nat}{ps:List Str}{sp:Addr→Sp}{E:XK}{m:Str}{pos apos:Pos}{o:Expr}{ta:TE}
def AiR (K:PySem.W.Frag)(m:Str)(sp:Addr→Sp)(E:XK)(ta:TE):TE:=fun σ H Q=>ta σ H fun x H1=>∃ a C,x=.ref a∧H1 a=some (exH C a)∧sp C [x] H1 Q E
end
open PySem PySem.Spec PyProof.Rows
abbrev vE:List Value:=[.type "ValueError", .type "Exception", .type "BaseException", .type "object"]
abbrev vN:String := "ValueError.__new__"
structure Exn (K:PySem.W.Frag) (C:Addr):Prop where
 q:PySem.W.excIn K C vE vN=true
 c:ExC K C
 ty:PySem.W.typeIn K (.ref C)=some (.type "type")
 ve:PySem.W.mroIn K C (.type "ValueError")=some true
theorem Aaf{K:PySem.W.Frag}{C:Addr}(q:PySem.W.excIn K C vE vN=true)(ga:PySem.W.findIn K (.ref C) "__getattribute__" = some (some (.builtin "BaseException.__getattribute__"))) (gt:PySem.W.findIn K (.ref C) "__getattr__" = some none)
  (cl:PySem.W.findIn K (.ref C) "__class__" = some (some (.builtin "object.__class__"))) (gc:PySem.W.specialIn K (.builtin "object.__class__") "__get__" = some (some (.builtin "getset_descriptor.__get__"))) (tk:PySem.W.takesIn K (.builtin "object.__class__")=some true)
  (ob:PySem.W.mroIn K C (.type "object")=some true) (be:PySem.W.mroIn K C (.type "BaseException")=some true) (is:PySem.W.isClsIn K C=true) (ty:PySem.W.typeIn K (.ref C)=some (.type "type")) (ve:PySem.W.mroIn K C (.type "ValueError")=some true):Exn K C :=
 ⟨q,⟨ga,gt,cl,gc,tk,ob,be,is⟩,ty,ve⟩
section
variable {X:Cx}{CX:CXT}{k:Nat}{C f:Addr}{fd:FuncData}{ps:List Str}{sp:Sp}{E:XK}{m:Str}{pos apos:Pos}{o:Expr}{ta:TE}
def AiS (C:Addr)(sp:Sp)(E:XK)(ta:TE):TE:=fun σ H Q=>ta σ H fun x H1=>∃ a,x=.ref a∧H1 a=some (exH C a)∧sp [x] H1 Q E
end
def Aip (s:Stmt):List Stmt:=match s with
 | .ClassDef _ _ _ b _ _ _ _ _ _ _=>b
 | _=>[]
structure Mf (K:PySem.W.Frag) (x q:Str) (st:Stmt) (ps:List Str) (C f:Addr) (fd:FuncData):Prop where
 F:Fun K x q st f fd
 m:Meth K C x f
 b:Binds K fd ps []
theorem Ac1(K:PySem.W.Frag):PySem.W.kitOne K (.type "int") (.type "bool")=some false:=by
 unfold PySem.W.kitOne PySem.W.kitCls PySem.W.subIn
 rw[if_neg (by simp)]
 show(if _ then _ else _)=_
 rw[if_pos (by decide +kernel)]
 show Option.map (fun x=>x.contains (Value.type "bool")) (fastBuiltinMro "int")=some false
 decide +kernel
open PySem PySem.Spec PyProof.Rows
open Builtin Builtin.Str
def Aky (u:List Nat)(lo hi:Option Int):List Nat:=(u.drop (HT.sIx u.length 0 lo)).take (HT.sIx u.length u.length hi-HT.sIx u.length 0 lo)
section
variable {X:Cx}
end
open PySem PySem.Spec PyProof.Rows
theorem YC:∀(xs:List V) (us:List Value),xs.length=us.length→(∀(i:Nat) x u,xs[i]?=some x→us[i]?=some u→RelV x u)→Vals xs us
 | [],[],_,_=>.nil
 | [],_::_,h,_=>by simp at h
 | _::_,[],h,_=>by simp at h
 | x::xs,u::us,h,p=>.cons (p 0 x u rfl rfl) (YC xs us (by simpa using h) fun i y v e1 e2=>p (i+1) y v e1 e2)
def Aag (p:Addr)(a b c:Int):HO:=.ext fun h=>∃ t u v,IsRange h p a b c t u v
def Uo (a c:Int)(n:Nat):List Int:=(List.range n).map fun(i:Nat)=>a+(i:Int)*c
section
variable {X:Cx}{K:PySem.W.Frag}
theorem YD{pins:List (Addr × Obj)}{σ:St}{H:Hp}{s:Shared}{a b c:Int}{t u v:Tok}{Q:VK}{tk:Nat}(I:Inv X pins σ H s)(q:∀ p,H p=none→Q (.ref p) (upd H p (Aag p a b c))) :
  EP X pins σ Q (.ref s.heap.objs.size) { s with heap:=s.heap.push { cls:=.type "range", data:=.fields #[.int a t,.int b u,.int c v] },toks:=tk }:=by
 have hg:(s.heap.push { cls:=.type "range", data:=.fields #[.int a t,.int b u,.int c v] }).get? s.heap.objs.size=some { cls:=.type "range", data:=.fields #[.int a t,.int b u,.int c v] }:=Heap.get?_push_size _ rfl
 refine⟨.ref s.heap.objs.size,_,I.laid (o:=Aag s.heap.objs.size a b c) (fun b o e=>Heap.get?_push_of_some _ e) (Ak8 _) ?_,rfl,q _ (I.hok.fresh (Ak8 _))⟩
 exact⟨⟨t,u,v,hg⟩,⟨_,hg⟩,fun h1 h2 y k=>by
  obtain⟨t',u',v',y⟩:=y
  exact⟨t',u',v',k _ y⟩⟩
theorem AbD:Gj X (.type "range") (fun xs H Q=>∃ a b,xs=[.int a,.int b]∧∀ p,H p=none→Q (.ref p) (upd H p (Aag p a b 1))):=by
 intro pins s σ H xs us Q I rv h
 obtain⟨a,b,rfl,q⟩:=h
 obtain⟨u1,u2,rfl,r1,r2⟩:=rv.two
 obtain⟨t,rfl⟩:=r1
 obtain⟨t',rfl⟩:=r2
 exact call_range_2 (YD I q)
theorem Tc(hK:X.K=K:=by rfl)(hc:X.calm=true:=by rfl):Gj X (.builtin "sum") (fun xs H Q=>∃ a ns,xs=[.ref a]∧SqL K H a (vI ns)∧Q (.int ns.sum) H):=by
 subst hK
 intro pins s σ H xs us Q I rv h
 obtain⟨a,ns,rfl,hq,q⟩:=h
 obtain⟨u,rfl,ru⟩:=rv.one
 cases ru
 obtain⟨its,r,pl,hl⟩:=I.list hq
 have hi:IntsAre its ns:=intsAre_of r
 obtain⟨xs,hx⟩:=hi.allInts.items
 have hL:s.heap.IsList a (intItems xs):=by rw[← hx];exact pl.isList
 refine sum_intListG (I.ok.hd hc) hL fun h' tk t' hk=>?_
 have e1:xs.toList.map (·.1)=ns:=by
  have z:numsOf its.toArray.toList=ns:=hi.numsOf
  rw[hx,nums_intItems] at z
  exact z
 rw[show preSum (numAt xs) xs.size=ns.sum by rw[preSum_eq,AkZ (by simp),e1]]
 exact⟨.int ns.sum,H,I.kept hk,⟨t',rfl⟩,q⟩
end
open PySem PySem.Spec PyProof.Rows
section
variable {X:Cx}{tg:Expr}
def AiT (ta:TA):TI:=fun σ H R=>ta σ H fun vs H1=>∃ i j:Int,vs=[.int i,.int j]∧R (Itr i (j-i).toNat) H1
end
section
variable {X:Cx}
def AjC:R2:=fun x y H Q=>∃ u n,x=.str (tx u)∧y=.int n∧0≤n∧n≤1000000∧u.length*n.toNat≤sizeLine∧Q (.str (tx (List.replicate n.toNat u).flatten)) H
theorem Xg(x:Str)(c limit:Nat):∀(k i:Nat) (acc:Array Nat) (free:Nat),free≤i→acc.size+k≤limit →
  (forIn (List.range' i k) (acc,free) (StrLaws.occBody x ⟨#[c]⟩ x.length limit)).run.fst.size=acc.size+((x.cps.toList.drop i).take k).count c
 | 0,i,acc,free,_,_=>by simp
 | k+1,i,acc,free,hf,hl=>by
  rw[List.range'_succ,Amj]
  by_cases hc:x.cps.toList[i]?=some c
  ·have h1:=(StrLaws.subAt_one x c i).mpr hc
   have e:StrLaws.occBody x ⟨#[c]⟩ x.length limit i (acc,free)=pure (ForInStep.yield (acc.push i,i+(⟨#[c]⟩:Str).length)):=by
    unfold StrLaws.occBody
    rw[if_pos ⟨⟨⟨by show acc.size<limit;omega,hf⟩,h1.1⟩,h1.2⟩]
   rw[e]
   have ih:=Xg x c limit k (i+1) (acc.push i) (i+(⟨#[c]⟩:Str).length) (Ak8 _) (by rw[Array.size_push];omega)
   have hd:x.cps.toList.drop i=c::x.cps.toList.drop (i+1):=by
    obtain⟨hlt,he⟩:=List.getElem?_eq_some_iff.mp hc
    rw[List.drop_eq_getElem_cons hlt,he]
   rw[hd,List.take_succ_cons,List.count_cons_self]
   rw[Array.size_push] at ih
   refine Eq.trans ih ?_
   omega
  ·have h1:¬(i+(⟨#[c]⟩:Str).length≤x.length∧Builtin.Str.subAt x ⟨#[c]⟩ i=true):=fun z=>hc ((StrLaws.subAt_one x c i).mp z)
   have e:StrLaws.occBody x ⟨#[c]⟩ x.length limit i (acc,free)=pure (ForInStep.yield (acc,free)):=by
    unfold StrLaws.occBody
    rw[if_neg fun z=>h1 ⟨z.1.2,z.2⟩]
   rw[e]
   have ih:=Xg x c limit k (i+1) acc free (by omega) (by omega)
   refine Eq.trans ih ?_
   congr 1
   by_cases hlt:i<x.cps.toList.length
   ·rw[List.drop_eq_getElem_cons hlt,List.take_succ_cons,List.count_cons_of_ne]
    intro z
    exact hc (by rw[Ak9 hlt];exact congrArg some z)
   ·rw[List.drop_eq_nil_of_le (by omega),List.drop_eq_nil_of_le (by omega)]
    simp
theorem AbE(l:List Nat)(c:Nat):(Builtin.Str.occurrences (tx l) ⟨#[c]⟩ 0 (tx l).length ((tx l).length+1)).length=l.count c:=by
 rw[StrLaws.occ_eq]
 have:=Xg (tx l) c ((tx l).length+1) ((tx l).length+1-0) 0 #[] 0 (Ak8 _) (by simp)
 rw[Array.length_toList,this,AaP,Ef]
 simp[AkZ]
def AfZ:V→List V→Hp→VK→Prop:=fun x vs H Q=>∃ u c,x=.str (tx u)∧vs=[.str ⟨#[c]⟩]∧Q (.int (u.count c:Nat)) H
theorem YF:MtR X "str.count" AfZ:=by
 intro pins s σ H x vs v us Q I rx rv h
 obtain⟨u,c,rfl,rfl,q⟩:=h
 obtain⟨t,rfl⟩:=rx
 obtain⟨u',rfl,ru⟩:=rv.one
 obtain⟨t',rfl⟩:=ru
 refine call_gives F.slot_str_count (typeIs_str s _ t) F.entry_str_count (F.args_str_count_2 _ _) (gives_str_count _ _ t t') ?_
 rw[AbE]
 exact⟨.int _,H,I.tok _,⟨_,rfl⟩,q⟩
end
open PySem PySem.Spec PyProof.Rows
section
variable {X:Cx}{K:PySem.W.Frag}
def AjD (K:PySem.W.Frag):List V→Hp→VK→Prop:=fun vs H Q=>∃(a C p:Addr) (Ds:List Addr) (b:Bool),vs=[.ref a,.ref p]∧H a=some (exH C a)∧ExC K C∧H p=some (.tup (Ds.map V.ref))∧PySem.W.kitAny K (.ref C) (Ds.map Value.ref)=some b∧Q (.bl b) H
end
open PySem PySem.Spec PyProof.Rows
section
variable {X:Cx}{K:PySem.W.Frag}
def Akz (K:PySem.W.Frag):R2:=fun x y H Q=>∃ p q xs ys,x=.ref p∧y=.ref q∧SqL K H p xs∧SqL K H q ys∧xs.all Ea=true∧ys.all Ea=true∧Q (.bl (!eqL xs ys)) H
end
open PySem PySem.Spec PyProof.Rows
theorem Inv.Uu{X:Cx}{pins:List (Addr × Obj)}{σ:St}{H:Hp}{s:Shared}{h':Heap}{t':Nat}{its:List Addr}(I:Inv X pins σ H s)
  (k:∀ b o,b∉its→s.heap.get? b=some o→h'.get? b=some o) (hf:∀ b∈its,Qp X pins H b):Inv X pins σ H { s with heap:=h',toks:=t' }:=by
 have nit:∀ b u,H b=some u→b∉its:=fun b u e z=>by
  have:=(hf b z).1
  rw[this] at e
  cases e
 have nL:X.env.locals∉its:=fun z=>(hf _ z).2.1 rfl
 refine I.step (g':=s.gens) (d':=s.drawn) (ch:=its) (fun b hb=>?_) (fun b o _ _ hc e _=>k b o hc e) (fun b o _ _ hc e _=>⟨o.slots,k b o hc e⟩) (fun _ _ _ _ n=>n)
  (fun b o hc e=>⟨o,k b o hc e⟩) (fun _ _ e=>e) (fun _ _ _ e=>e) (fun b ps e=>⟨#[],by rw[e];simp⟩) (fun m hm=>?_) (fun b u e=>?_) I.bare
 ·obtain⟨_,h2,_,h4,h5,h6⟩:=hf b hb
  exact⟨h4,h2,h5,h6⟩
 ·obtain⟨o,es,ep,ho,r⟩:=hm
  exact⟨o,es,ep,k _ o nL ho,r⟩
 ·refine(I.hok b u e).stay (fun c v hc q=>k c v ?_ q) (fun _ q=>q) fun _ _ q=>q
  rcases hc with z | z
  ·rw[z];exact nit b u e
  ·exact nit c _ z
def Itz (K:PySem.W.Frag)(a b:Addr):It where
 go:=fun i H=>∃ xs ys x y,SqL K H a xs∧SqL K H b ys∧xs[i]?=some x∧ys[i]?=some y
 yld:=fun i H x H'=>∃ T,x=.ref T∧H T=none∧∀ xs ys u v,SqL K H a xs→SqL K H b ys→xs[i]?=some u→ys[i]?=some v→H'=upd H T (.tup [u,v])
 stop:=fun i H=>∃ xs ys,SqL K H a xs∧SqL K H b ys∧(xs.length≤i∨ys.length≤i)
def Ahy (z TI TO i1 i2 a b:Addr)(i:Nat)(h:Heap):Prop:=IsZip h z TI TO .none∧IsPair h TI (.ref i1) (.ref i2)∧(∃ p q,IsPair h TO p q)∧h.IsListIter i1 a i∧h.IsListIter i2 b i
theorem Ac2{P:Program}{w:World}{K:PySem.W.Frag}{es:List Expr}{kx:Nat}{tp:Pos}{z TI TO i1 i2 a b:Addr}(D:ZipApart z TI TO i1 i2 a b) :
  Turn P w K (.Tuple es kx tp) (Itz K a b) [z,TI,TO,i1,i2] z (Ahy z TI TO i1 i2 a b) where
 mem:=by simp
 obj:=fun i h st c hc=>by
  obtain⟨s1,s2,⟨p,q,s3⟩,s4,s5⟩:=st
  simp only [AkV,Ala,or_false] at hc
  rcases hc with e | e | e | e | e
  ·subst e;exact⟨_,s1,fun v z=>by cases (show Data.fields _=Data.cell v from z)⟩
  ·subst e;exact⟨_,s2,fun v z=>by cases (show Data.seq _ _=Data.cell v from z)⟩
  ·subst e;exact⟨_,s3,fun v z=>by cases (show Data.seq _ _=Data.cell v from z)⟩
  ·subst e;obtain⟨o,e,_,d⟩:=s4;exact⟨o,e,fun v z=>by rw[d] at z;cases z⟩
  ·subst e;obtain⟨o,e,_,d⟩:=s5;exact⟨o,e,fun v z=>by rw[d] at z;cases z⟩
 keep:=fun i h h' st k=>by
  obtain⟨s1,s2,⟨p,q,s3⟩,s4,s5⟩:=st
  exact⟨k _ (by simp) _ s1,k _ (by simp) _ s2,⟨p,q,k _ (by simp) _ s3⟩,s4.at fun o e=>k _ (by simp) o e,s5.at fun o e=>k _ (by simp) o e⟩
 item:=by
  intro X hP hw hK hc i pins s σ H E I hf st hg
  subst hP hw hK
  obtain⟨xs,ys,x,y,hq1,hq2,hx,hy⟩:=hg
  obtain⟨VF,rv1,p1,_⟩:=I.list hq1
  obtain⟨its2,rv2,p2,_⟩:=I.list hq2
  obtain⟨u,hu,ru⟩:=rv1.get hx
  obtain⟨v,hv,rw'⟩:=rv2.get hy
  obtain⟨s1,s2,⟨p,q,s3⟩,s4,s5⟩:=st
  refine wpAny_pyNext_zip_item D s1 s2 s3 s4 s5 p1.isList p2.isList (x:=u) (y:=v) (by simpa using hu) (by simpa using hv) fun h1 z1 t1 j1 j2 hT hsz kk=>?_
  refine⟨_,rfl,wpAny_letOwnedTupleGo_zip z1 fun h2 z2 sb=>?_⟩
  have zl:z<s.heap.objs.size:=Heap.lt_size s1
  have TIl:TI<s.heap.objs.size:=Heap.lt_size s2
  have TOl:TO<s.heap.objs.size:=Heap.lt_size s3
  have i1l:i1<s.heap.objs.size:=by obtain⟨_,e,_⟩:=s4;exact Heap.lt_size e
  have i2l:i2<s.heap.objs.size:=by obtain⟨_,e,_⟩:=s5;exact Heap.lt_size e
  have up:∀ c o,c≠z→h1.get? c=some o→h2.get? c=some o:=fun c o c1 e=>(sb.2 c c1).trans e
  have hTn:H s.heap.objs.size=none:=I.hok.fresh (Ak8 _)
  have I1:Inv X pins σ (upd H s.heap.objs.size (.tup [x,y])) { s with heap:=s.heap.push { cls:=.type "tuple", data:=.seq #[u,v] },toks:=s.toks } :=
   I.laid (fun c o e=>Heap.get?_push_of_some _ e) (Ak8 _) ⟨by show 2≤sizeLine;decide,[u,v],.cons ru (.cons rw' .nil),⟨_,Heap.get?_push_size _ rfl,rfl,_,rfl⟩⟩
  have fp2:∀ c∈[z,TI,TO,i1,i2],Qp X pins (upd H s.heap.objs.size (.tup [x,y])) c:=fun c hc=>by
   obtain⟨f0,f⟩:=hf c hc
   refine⟨?_,f⟩
   have lt:c<s.heap.objs.size:=by
    simp only [AkV,Ala,or_false] at hc
    rcases hc with e | e | e | e | e <;> subst e <;> assumption
   rw[Ar (AkF lt)]
   exact f0
  have I2:Inv X pins σ (upd H s.heap.objs.size (.tup [x,y])) { s with heap:=h2 }:=by
   refine Inv.Uu (s:={ s with heap:=s.heap.push { cls:=.type "tuple", data:=.seq #[u,v] },toks:=s.toks }) (h':=h2) (t':=s.toks) (its:=[z,TI,TO,i1,i2]) I1 (fun c o hc e=>?_) fp2
   simp only [AkV,Ala,or_false,not_or] at hc
   refine up c o hc.1 ?_
   by_cases hcs:c=s.heap.objs.size
   ·subst hcs
    have e':(s.heap.push { cls:=.type "tuple", data:=.seq #[u,v] }).get? s.heap.objs.size=some { cls:=.type "tuple", data:=.seq #[u,v] }:=Heap.get?_push_size _ rfl
    rw[e'] at e
    cases e
    exact hT
   ·have e':s.heap.get? c=some o:=by
     rw[← e]
     exact(Heap.get?_push_ne _ _ _ hcs).symm
    exact kk c o hc.1 hc.2.2.1 hc.2.2.2.1 hc.2.2.2.2 e'
  refine⟨.ref s.heap.objs.size,_,I2,rfl,⟨s.heap.objs.size,rfl,hTn,fun xs' ys' u' v' a1 a2 a3 a4=>?_⟩,⟨z2,up _ _ D.TIz (kk _ _ D.TIz D.TITO D.TIi1 D.TIi2 s2),⟨u,v,up _ _ D.TOz t1⟩,j1.at fun o e=>up _ o D.i1z e,j2.at fun o e=>up _ o D.i2z e⟩,fun c hc=>(fp2 c hc).1⟩
  rw[I.Ia a1 hq1,hx] at a3
  rw[I.Ia a2 hq2,hy] at a4
  cases a3
  cases a4
  rfl
 done:=by
  intro X hP hw hK hc i pins s σ H E I hf st hg
  subst hP hw hK
  obtain⟨xs,ys,hq1,hq2,hend⟩:=hg
  obtain⟨VF,rv1,p1,_⟩:=I.list hq1
  obtain⟨its2,rv2,p2,_⟩:=I.list hq2
  have l1:=rv1.length
  have l2:=rv2.length
  obtain⟨s1,s2,⟨p,q,s3⟩,s4,s5⟩:=st
  refine wpAny_pyNext_zip_end (I.ok.hd hc) D s1 s2 s3 s4 s5 p1.isList p2.isList ?_ fun h' kk=>⟨rfl,I.Uu (t':=s.toks) (its:=[z,TI,TO,i1,i2]) (fun c o hc e=>?_) hf⟩
  ·rcases hend with e | e
   ·exact .inl (by simp;omega)
   ·exact .inr (by simp;omega)
  ·simp only [AkV,Ala,or_false,not_or] at hc
   exact kk c o hc.1 hc.2.2.1 hc.2.2.2.1 hc.2.2.2.2 e
 self:=fun _ _ _ _ _ st h=>wpAny_pyIter_zip st.1 h
section
variable {X:Cx}{es:List Expr}{kx:Nat}{tp:Pos}
def AiU (K:PySem.W.Frag)(ta:TA):TI:=fun σ H R=>ta σ H fun vs H1=>∃ a b,vs=[.ref a,.ref b]∧(∃ xs,SqL K H1 a xs)∧(∃ ys,SqL K H1 b ys)∧R (Itz K a b) H1
theorem Aga{K:PySem.W.Frag}{a b:Expr}{ta:TA}{p pos:Pos}(hg:Gl X "zip") (hm:X.mg "zip" = none) (ha:PA X [a,b] ta) (hK:X.K=K:=by rfl) (hs:starEach [a,b] X.env=[(false,eval a X.env),(false,eval b X.env)]:=by rfl) (hs2:starEach [b] X.env=[(false,eval b X.env)]:=by rfl) :
  PI X (.Tuple es kx tp) (.Call (.Name "zip" p) [a,b] [] pos) (AiU K ta):=by
 subst hK
 intro pins s σ H R I h
 refine Call_ (HY I hg hm AfW (PyProof.Rows.callWith_type1 (thn (ha pos pins s σ H _ I h) fun us s1 ⟨vs,H1,I1,r1,q1⟩=>?_) (by rw[hs,hs2]) (by rw[hs2];rfl)))
 obtain⟨a,b,e,⟨xs,hq1⟩,⟨ys,hq2⟩,q⟩:=q1
 subst e
 cases r1 with
 | cons r rr =>
  cases rr with
  | cons r' rr =>
   cases rr
   cases r
   cases r'
   obtain⟨VF,rv1,p1,_⟩:=I1.list hq1
   obtain⟨its2,rv2,p2,_⟩:=I1.list hq2
   obtain⟨o1,e1,_⟩:=id p1.isList
   obtain⟨o2,e2,_⟩:=id p2.isList
   refine call_zip_2 p1.isList p2.isList fun h' hz hTI hTO j1 j2 hsz kk=>wpAny_pyIter_zip hz ?_
   refine⟨_,[s1.heap.objs.size+4,s1.heap.objs.size+2,s1.heap.objs.size+3,s1.heap.objs.size,s1.heap.objs.size+1],_,_,H1,rfl,I1.kept (t':=s1.toks) kk,Ac2 (zipApart_new (Heap.lt_size e1) (Heap.lt_size e2)),
    ⟨hz,hTI,⟨_,_,hTO⟩,j1,j2⟩,fun c hc=>?_,q⟩
   have le:s1.heap.objs.size≤c:=by
    simp only [AkV,Ala,or_false] at hc
    rcases hc with e | e | e | e | e <;> subst e <;> omega
   exact I1.Acj le (I1.hok.fresh le)
theorem Aeg{K:PySem.W.Frag}{a b:Addr}{xs ys:List V}{g:TG}{tb:TS}{D:Ends}{σ:St}{H:Hp}{n:Nat}(hn:n=min xs.length ys.length)(Pv:Nat→St→Hp→Prop)(h0:Pv 0 σ H)(hl:∀ i σ H,Pv i σ H→SqL K H a xs∧SqL K H b ys)
  (hs:∀ i x y σ H T,xs[i]?=some x→ys[i]?=some y→Pv i σ H→H T=none→g (.ref T) σ (upd H T (.tup [x,y])) fun σ2 H2=>tb { D with nx:=Pv (i+1),ct:=Pv (i+1),bk:=D.nx } σ2 H2) (hd:∀ σ H,Pv n σ H→D.nx σ H) :
  ∃ W:Nat→Nat→St→Hp→Prop,(∃ m,W 0 m σ H)∧∀ i m σ H,W i m σ H →
   ((Itz K a b).stop i H∧D.nx σ H)∨((Itz K a b).go i H∧∃ N:St→Hp→Prop,(∀ σ' H',N σ' H'→∃ m',m'<m∧W (i+1) m' σ' H')∧∀ x H',(Itz K a b).yld i H x H'→g x σ H' fun σ2 H2=>tb { D with nx:=N,ct:=N,bk:=D.nx } σ2 H2):=by
 refine⟨fun i m σ H=>m=n-i∧i≤n∧Pv i σ H,⟨n,by simp,AkD _,h0⟩,?_⟩
 rintro i m σ H ⟨rfl,hi,p⟩
 obtain⟨q1,q2⟩:=hl i σ H p
 by_cases hlt:i<n
 ·have x1:i<xs.length:=by omega
  have y1:i<ys.length:=by omega
  refine .inr ⟨⟨xs,ys,xs[i],ys[i],q1,q2,Ak9 x1,Ak9 y1⟩,Pv (i+1),fun σ' H' p'=>⟨n-(i+1),by omega,rfl,hlt,p'⟩,fun x H' y=>?_⟩
  obtain⟨T,rfl,hT,y⟩:=y
  have e:=y xs ys _ _ q1 q2 (Ak9 x1) (Ak9 y1)
  subst e
  exact hs i _ _ σ H T (Ak9 x1) (Ak9 y1) p hT
 ·have e:i=n:=by omega
  subst e
  exact .inl ⟨⟨xs,ys,q1,q2,by omega⟩,hd σ H p⟩
end
open PySem PySem.Spec PyProof.Rows
theorem Ib.QZ{k:Nat}{A:Around}(r:Ib k A):A.units+100<cLine:=by have:=r.un;omega
def Ahz (K:PySem.W.Frag)(H:Hp)(p q:Addr):Prop:=∃ as bs:List Addr,SqL K H p (as.map V.ref)∧SqL K H q (bs.map V.ref)∧as.length=bs.length ∧
 ∀(i:Nat) (a b:Addr),as[i]?=some a→bs[i]?=some b→∃ xs:List V,xs.all Ea=true∧SqL K H a xs∧SqL K H b xs
section
variable {X:Cx}{K:PySem.W.Frag}
def AjE (K:PySem.W.Frag):R2:=fun x y H Q=>∃ p q,x=.ref p∧y=.ref q∧Ahz K H p q∧Q (.bl false) H
def AjF (K:PySem.W.Frag):R2:=fun x y H Q=>∃ p q,x=.ref p∧y=.ref q∧Ahz K H p q∧Q (.bl true) H
end
open PySem PySem.Spec PyProof.Rows
def Ak0 (K:PySem.W.Frag):R2:=fun x y H Q=>∃(p q:Addr) (as:List Addr) (ks:List Int),x=.ref p∧y=.ref q∧SqL K H q (as.map V.ref)∧SqT K H p (vI ks) ∧
 (∀ a∈as,∃ js:List Int,SqT K H a (vI js))∧(∃ a∈as,SqT K H a (vI ks))∧Q (.bl true) H
section
variable {X:Cx}{K:PySem.W.Frag}
end
open PySem PySem.Spec PyProof.Rows
section
variable {prog:Program}{w:World}{A:Around}{E:Value→Shared→Prop}{s:Shared}
structure AiV (z TI TO i1 i2:Addr):Prop where
 TIz:TI≠z
 TOz:TO≠z
 i1z:i1≠z
 i2z:i2≠z
 TITO:TI≠TO
 TIi1:TI≠i1
 TIi2:TI≠i2
 TOi1:TO≠i1
 TOi2:TO≠i2
 i12:i1≠i2
abbrev Ah0 (x:Str) (t:Tok):Obj:={ cls:=.type (strIterType x),data:=.fields #[.str x t,.int 0 0] }
abbrev Ah1 (l:Addr):Obj:={ cls:=.type "list_iterator", data:=.fields #[.ref l,.int 0 0] }
abbrev AjG (h:Heap) (o1 o2:Obj):Heap:=((((h.push o1).push o2).push { cls:=.type "tuple", data:=.seq #[.ref h.objs.size,.ref (h.push o1).objs.size] }).push { cls:=.type "tuple", data:=.seq #[.none,.none] }).push
 { cls:=.type "zip", data:=.fields #[.none,.bool false,.bool false,.ref ((h.push o1).push o2).objs.size,.ref (((h.push o1).push o2).push { cls:=.type "tuple", data:=.seq #[.ref h.objs.size,.ref (h.push o1).objs.size] }).objs.size] }
abbrev AjH (h:Heap) (o1 o2:Obj):Addr:=((((h.push o1).push o2).push { cls:=.type "tuple", data:=.seq #[.ref h.objs.size,.ref (h.push o1).objs.size] }).push { cls:=.type "tuple", data:=.seq #[.none,.none] }).objs.size
end
open PySem PySem.Spec PyProof.Rows
inductive Src where
 | l (a:Addr)
 | s (z:Str)
def Ah2:Src→V
 | .l a=>.ref a
 | .s z=>.str z
def AaQ (K:PySem.W.Frag)(H:Hp):Src→Prop
 | .l a=>∃ xs,SqL K H a xs
 | .s _=>True
def YG (K:PySem.W.Frag)(H:Hp):Src→Nat→V→Prop
 | .l a,i,v=>∃ xs,SqL K H a xs∧xs[i]?=some v
 | .s z,i,v=>∃ c,z.cps[i]?=some c∧v=.str ⟨#[c]⟩
def Ac3 (K:PySem.W.Frag)(H:Hp):Src→Nat→Prop
 | .l a,i=>∃ xs,SqL K H a xs∧xs.length=i
 | .s z,i=>z.cps.size=i
def Afg (it:Addr)(t:Tok):Src→Nat→Heap→Prop
 | .l a,i,h=>h.IsListIter it a i
 | .s z,i,h=>h.IsStrIter it (strIterType z) z t i
def AjI (it:Addr):Src→List Addr
 | .l a=>[it,a]
 | .s _=>[it]
def AjJ (t:Tok):Src→Obj
 | .l a=>Ah1 a
 | .s z=>Ah0 z t
def AiW (K:PySem.W.Frag)(S1 S2:Src):It where
 go:=fun i H=>(∃ u,YG K H S1 i u)∧∃ v,YG K H S2 i v
 yld:=fun i H x H'=>∃ T,x=.ref T∧H T=none∧∀ u v,YG K H S1 i u→YG K H S2 i v→H'=upd H T (.tup [u,v])
 stop:=fun i H=>AaQ K H S1∧AaQ K H S2∧(Ac3 K H S1 i∨((∃ u,YG K H S1 i u)∧Ac3 K H S2 i))
def AiX (z TI TO i1 i2:Addr)(t1 t2:Tok)(S1 S2:Src)(i:Nat)(h:Heap):Prop:=IsZip h z TI TO .none∧IsPair h TI (.ref i1) (.ref i2)∧(∃ p q,IsPair h TO p q)∧Afg i1 t1 S1 i h∧Afg i2 t2 S2 i h
theorem lne{a n:Nat}(h:a<n)(k:Nat):@Ne Addr a (n+k):=fun z=>by have z:a=n+k:=z;omega
section
variable {X:Cx}{es:List Expr}{kx:Nat}{tp:Pos}
def zOk:Src→Src→Prop
 | .s _,.l _=>False
 | _,_=>True
def AjK (K:PySem.W.Frag)(ta:TA):TI:=fun σ H R=>ta σ H fun vs H1=>∃ S1 S2,vs=[Ah2 S1,Ah2 S2]∧zOk S1 S2∧AaQ K H1 S1∧AaQ K H1 S2∧R (AiW K S1 S2) H1
end
open PySem PySem.Spec PyProof.Rows
structure Aiq (X:Cx) (x x':Str) (Nc:List Str) (BJ:List Nat) (scope:Scope):Prop where
 kind:scope.kind=.function
 cell:∀ y∈scope.names,y.2≠.cell
 names:∀ y∈scope.names,y.2=.local→scope.names.lookup y.1=some .local
 fr:∀ y∈scope.names,y.2=.free→X.env.scope.names.lookup y.1=some .cell∧scope.names.lookup y.1=some .free
 loc:scope.names.lookup x=some .local
 Ak1:scope.names.lookup x'=some .local
 len:Nc.length=BJ.length+2
 hd:Nc[0]?=some x
 hd2:Nc[1]?=some x'
 nd:Nc.Nodup
 cap:∀ k j,BJ[k]?=some j→∃ y,Nc[k+2]?=some y∧X.N[j]?=some y∧scope.names.lookup y=some .free
def Aeh (K:PySem.W.Frag)(BJ:List Nat)(tc:TT)(te:TE)(J:It)(σ:St)(H:Hp)(Q:VK):Prop :=
 ∃ W:Nat→Nat→List V→Hp→Prop,(∃ m,W 0 m [] H)∧∀ i m ys H,W i m ys H →
  (J.stop i H∧ys.length≤sizeLine∧∀ p,H p=none→Q (.ref p) (upd H p (.lst ys))) ∨
  (J.go i H∧ys.length<sizeLine∧∀ x H',J.yld i H x H'→∃ a u v,x=.ref a∧SqT K H' a [u,v]∧tc (some u::some v::MJ σ BJ) H' fun b H2 =>
   if b=true then te (some u::some v::MJ σ BJ) H2 fun y H3=>∃ m',m'<m∧W (i+1) m' (ys++[y]) H3 else ∃ m',m'<m∧W (i+1) m' ys H2)
def AiY (K:PySem.W.Frag)(wi:TI)(BJ:List Nat)(tc:TT)(te:TE):TE:=fun σ H Q=>wi σ H fun J H1=>Aeh K BJ tc te J σ H1 Q
section
variable {X:Cx}{pins:List (Addr × Obj)}{σ:St}{H:Hp}{s:Shared}
end
open PySem PySem.Spec PyProof.Rows
section
variable {X:Cx}
def Aei (K:PySem.W.Frag):V→List V→Hp→VK→Prop:=fun x vs H Q=>∃ a ns k,x=.ref a∧vs=[.int k]∧SqL K H a (vI ns)∧Q (.int (ns.count k:Nat)) H
theorem Wq{K:PySem.W.Frag}(hK:X.K=K:=by rfl):MtR X "list.count" (Aei K):=by
 subst hK
 intro pins s σ H x vs v us Q I rx rv h
 obtain⟨a,ns,k,rfl,rfl,hx,q⟩:=h
 cases rx
 obtain⟨u,rfl,ru⟩:=rv.one
 obtain⟨t,rfl⟩:=ru
 obtain⟨its,r,ht,hz⟩:=I.list hx
 refine PyProof.Rows.count_list_ints (ns:=ns) ht.isList (intsAre_of r) ?_
 exact⟨.int _,H,I.tok _,⟨_,rfl⟩,q⟩
end
def Ite (K:PySem.W.Frag)(a:Addr):It where
 go:=fun i H=>∃ xs x,SqL K H a xs∧xs[i]?=some x
 yld:=fun i H x H'=>∃ T,x=.ref T∧H T=none∧∀ xs u,SqL K H a xs→xs[i]?=some u→H'=upd H T (.tup [.int (i:Int),u])
 stop:=fun i H=>∃ xs,SqL K H a xs∧xs.length=i
def AiZ (e it a:Addr)(i:Nat)(h:Heap):Prop:=(∃ old,IsEnum h e it i old)∧h.IsListIter it a i
theorem AbF{P:Program}{w:World}{K:PySem.W.Frag}{es:List Expr}{kx:Nat}{tp:Pos}{e it a:Addr}(hei:e≠it)(hae:a≠e)(hai:a≠it) :
  Turn P w K (.Tuple es kx tp) (Ite K a) [e,it] e (AiZ e it a) where
 mem:=by simp
 obj:=fun i h st c hc=>by
  obtain⟨⟨old,s1⟩,s2⟩:=st
  simp only [AkV,Ala,or_false] at hc
  rcases hc with z | z
  ·subst z;exact⟨_,s1,fun v z=>by cases (show Data.fields _=Data.cell v from z)⟩
  ·subst z;obtain⟨o,e,_,d⟩:=s2;exact⟨o,e,fun v z=>by rw[d] at z;cases z⟩
 keep:=fun i h h' st k=>by
  obtain⟨⟨old,s1⟩,s2⟩:=st
  exact⟨⟨old,k _ (by simp) _ s1⟩,s2.at fun o e=>k _ (by simp) o e⟩
 item:=by
  intro X hP hw hK hc i pins s σ H E I hf st hg
  subst hP hw hK
  obtain⟨xs,x,hq1,hx⟩:=hg
  obtain⟨VF,rv1,p1,_⟩:=I.list hq1
  obtain⟨u,hu,ru⟩:=rv1.get hx
  obtain⟨⟨old,s1⟩,s4⟩:=st
  have hlt:i<VF.toArray.size:=by have:=(List.getElem?_eq_some_iff.mp hu).1;simpa using this
  have hh:X.A.in1.handled=none:=I.ok.hd hc
  refine wpAny_pyNext_enum_itemD (Draws.list hh it a hai VF.toArray) s1 ⟨s4,p1.isList⟩ hlt hei (fun z=>?_) fun u' h1 tk hu' ho hst hT hsz kk=>?_
  ·simp only [AkV,Ala,or_false] at z
   rcases z with z | z
   ·exact hei z
   ·exact hae z.symm
  have hu2:VF[i]?=some u':=by simpa using hu'
  rw[hu] at hu2
  cases hu2
  refine⟨_,rfl,wpAny_letOwnedTupleGo_enum ho fun h2 he2 sb=>?_⟩
  have sb:Heap.SameBut e h1 h2:=sb
  have el:e<s.heap.objs.size:=Heap.lt_size s1
  have il:it<s.heap.objs.size:=by obtain⟨_,e,_⟩:=s4;exact Heap.lt_size e
  have up:∀ c o,c≠e→h1.get? c=some o→h2.get? c=some o:=fun c o c1 z=>(sb.2 c c1).trans z
  have hTn:H s.heap.objs.size=none:=I.hok.fresh (Ak8 _)
  have I1:Inv X pins σ (upd H s.heap.objs.size (.tup [.int (i:Int),x])) { s with heap:=s.heap.push { cls:=.type "tuple", data:=.seq #[.int i tk,u] },toks:=tk+1 } :=
   I.laid (fun c o e=>Heap.get?_push_of_some _ e) (Ak8 _) ⟨by show 2≤sizeLine;decide,[.int i tk,u],.cons ⟨tk,rfl⟩ (.cons ru .nil),⟨_,Heap.get?_push_size _ rfl,rfl,_,rfl⟩⟩
  have fp2:∀ c∈[e,it],Qp X pins (upd H s.heap.objs.size (.tup [.int (i:Int),x])) c:=fun c hc=>by
   obtain⟨f0,f⟩:=hf c hc
   refine⟨?_,f⟩
   have lt:c<s.heap.objs.size:=by
    simp only [AkV,Ala,or_false] at hc
    rcases hc with e | e <;> subst e <;> assumption
   rw[Ar (AkF lt)]
   exact f0
  have I2:Inv X pins σ (upd H s.heap.objs.size (.tup [.int (i:Int),x])) { s with heap:=h2,toks:=tk+1 }:=by
   refine Inv.Uu (s:={ s with heap:=s.heap.push { cls:=.type "tuple", data:=.seq #[.int i tk,u] },toks:=tk+1 }) (h':=h2) (t':=tk+1) (its:=[e,it]) I1 (fun c o hc z=>?_) fp2
   simp only [AkV,Ala,or_false,not_or] at hc
   refine up c o hc.1 ?_
   by_cases hcs:c=s.heap.objs.size
   ·subst hcs
    have e':(s.heap.push { cls:=.type "tuple", data:=.seq #[.int i tk,u] }).get? s.heap.objs.size=some { cls:=.type "tuple", data:=.seq #[.int i tk,u] }:=Heap.get?_push_size _ rfl
    rw[e'] at z
    cases z
    exact hT
   ·have e':s.heap.get? c=some o:=by
     rw[← z]
     exact(Heap.get?_push_ne _ _ _ hcs).symm
    exact kk c o hc.1 hc.2 e'
  refine⟨.ref s.heap.objs.size,_,I2,rfl,⟨s.heap.objs.size,rfl,hTn,fun xs' u' a1 a3=>?_⟩,⟨⟨u,by simpa using he2⟩,hst.1.at fun o z=>up _ o hei.symm z⟩,fun c hc=>(fp2 c hc).1⟩
  rw[I.Ia a1 hq1,hx] at a3
  cases a3
  rfl
 done:=by
  intro X hP hw hK hc i pins s σ H E I hf st hg
  subst hP hw hK
  obtain⟨xs,hq1,hend⟩:=hg
  obtain⟨VF,rv1,p1,_⟩:=I.list hq1
  have l1:=rv1.length
  obtain⟨⟨old,s1⟩,s4⟩:=st
  have hh:X.A.in1.handled=none:=I.ok.hd hc
  have en:i=VF.toArray.size:=by simp;omega
  subst en
  refine wpAny_pyNext_enum_endD (Draws.list hh it a hai VF.toArray) s1 ⟨s4,p1.isList⟩ fun h' kk=>⟨rfl,I.Uu (t':=s.toks) (its:=[e,it]) (fun c o hc z=>?_) hf⟩
  simp only [AkV,Ala,or_false,not_or] at hc
  exact kk c o hc.2 z
 self:=fun _ _ _ _ _ st h=>by obtain⟨⟨old,s1⟩,_⟩:=st;exact wpAny_pyIter_enum s1 h
section
variable {X:Cx}{es:List Expr}{kx:Nat}{tp:Pos}
def Ah3 (K:PySem.W.Frag)(ta:TA):TI:=fun σ H R=>ta σ H fun vs H1=>∃ a,vs=[.ref a]∧(∃ xs,SqL K H1 a xs)∧R (Ite K a) H1
theorem Aej{K:PySem.W.Frag}{a:Expr}{ta:TA}{p pos:Pos}(hg:Gl X "enumerate") (hm:X.mg "enumerate" = none) (ha:PA X [a] ta) (hK:X.K=K:=by rfl) (hs:starEach [a] X.env=[(false,eval a X.env)]:=by rfl) :
  PI X (.Tuple es kx tp) (.Call (.Name "enumerate" p) [a] [] pos) (Ah3 K ta):=by
 subst hK
 intro pins s σ H R I h
 refine Call_ (HY I hg hm Xb (PyProof.Rows.callWith_type1 (thn (ha pos pins s σ H _ I h) fun us s1 ⟨vs,H1,I1,r1,q1⟩=>?_) hs rfl))
 obtain⟨a,e,⟨xs,hq1⟩,q⟩:=q1
 subst e
 cases r1 with
 | cons r rr =>
  cases rr
  cases r
  obtain⟨VF,rv1,p1,_⟩:=I1.list hq1
  obtain⟨o1,e1,_⟩:=id p1.isList
  have la:a<s1.heap.objs.size:=Heap.lt_size e1
  refine call_enumerate_list p1.isList fun h' he hi hsz kk=>wpAny_pyIter_enum he ?_
  refine⟨_,[s1.heap.objs.size+1,s1.heap.objs.size],_,_,H1,rfl,I1.kept (t':=s1.toks) kk,AbF (lne (AlC _) 0).symm (lne la 1) (lne la 0),⟨⟨_,he⟩,hi⟩,fun c hc=>?_,q⟩
  have le:s1.heap.objs.size≤c:=by
   simp only [AkV,Ala,or_false] at hc
   rcases hc with e | e <;> subst e <;> omega
  exact I1.Acj le (I1.hok.fresh le)
theorem Ac4{K:PySem.W.Frag}{a:Addr}{xs:List V}{g:TG}{tb:TS}{D:Ends}{σ:St}{H:Hp}(Pv:Nat→St→Hp→Prop)(h0:Pv 0 σ H)(hl:∀ i σ H,Pv i σ H→SqL K H a xs)
  (hs:∀ i x σ H T,xs[i]?=some x→Pv i σ H→H T=none→g (.ref T) σ (upd H T (.tup [.int (i:Int),x])) fun σ2 H2=>tb { D with nx:=Pv (i+1),ct:=Pv (i+1),bk:=D.nx } σ2 H2) (hd:∀ σ H,Pv xs.length σ H→D.nx σ H) :
  ∃ W:Nat→Nat→St→Hp→Prop,(∃ m,W 0 m σ H)∧∀ i m σ H,W i m σ H →
   ((Ite K a).stop i H∧D.nx σ H)∨((Ite K a).go i H∧∃ N:St→Hp→Prop,(∀ σ' H',N σ' H'→∃ m',m'<m∧W (i+1) m' σ' H')∧∀ x H',(Ite K a).yld i H x H'→g x σ H' fun σ2 H2=>tb { D with nx:=N,ct:=N,bk:=D.nx } σ2 H2):=by
 refine⟨fun i m σ H=>m=xs.length-i∧i≤xs.length∧Pv i σ H,⟨xs.length,by simp,AkD _,h0⟩,?_⟩
 rintro i m σ H ⟨rfl,hi,p⟩
 have q1:=hl i σ H p
 by_cases hlt:i<xs.length
 ·refine .inr ⟨⟨xs,xs[i],q1,Ak9 hlt⟩,Pv (i+1),fun σ' H' p'=>⟨xs.length-(i+1),by omega,rfl,hlt,p'⟩,fun x H' y=>?_⟩
  obtain⟨T,rfl,hT,y⟩:=y
  have e:=y xs _ q1 (Ak9 hlt)
  subst e
  exact hs i _ σ H T (Ak9 hlt) p hT
 ·have e:i=xs.length:=by omega
  subst e
  exact .inl ⟨⟨xs,q1,rfl⟩,hd σ H p⟩
end
open PySem PySem.Spec PyProof.Rows
inductive VG (K:PySem.W.Frag) (H:Hp):Nat→V→V→Prop where
 | flat {n:Nat} {x:V} (h:Ea x=true):VG K H n x x
 | lst {n:Nat} {p q:Addr} {xs ys:List V} (hp:SqL K H p xs) (hq:SqL K H q ys) (hl:xs.length=ys.length) (hi:∀(i:Nat) (x y:V),xs[i]?=some x→ys[i]?=some y→VG K H n x y):VG K H (n+1) (.ref p) (.ref q)
 | tup {n:Nat} {p q:Addr} {xs ys:List V} (hp:SqT K H p xs) (hq:SqT K H q ys) (hl:xs.length=ys.length) (hi:∀(i:Nat) (x y:V),xs[i]?=some x→ys[i]?=some y→VG K H n x y):VG K H (n+1) (.ref p) (.ref q)
section
variable {X:Cx}{K:PySem.W.Frag}
theorem K1{xs:List V}{us:List Value}(r:Vals xs us){j:Nat}(h:j<us.toArray.size):∃ x,xs[j]?=some x∧RelV x us.toArray[j]:=by
 have l:=r.length
 simp only [AkB] at h
 obtain⟨u,e,q⟩:=r.get (i:=j) (x:=xs[j]) (by simp[show j<xs.length by omega])
 refine⟨xs[j],by simp[show j<xs.length by omega],?_⟩
 have:us.toArray[j]=u:=by
  have h2:us.toArray[j]?=some u:=by simpa using e
  exact Option.some.inj ((Array.getElem?_eq_getElem (by simpa using h)).symm.trans h2)
 rw[this]
 exact q
theorem Ac5{pins:List (Addr × Obj)}{σ:St}{H:Hp}{s:Shared}(I:Inv X pins σ H s){n:Nat}{x y:V}(S:VG X.K H n x y):∀{A:Around} {u v:Value},RelV x u→RelV y v→A.units+n<cLine→SeqAt.EqAt A s u v true:=by
 induction S with
 | flat h =>
  intro A u v r1 r2 hu
  have:=ZZ (A:=A) (s:=s) r1 r2 h h
  rw[Y8 h] at this
  exact this
 | lst hp hq hl hi ih =>
  intro A u v r1 r2 hu
  rename_i n p q xs ys
  cases r1
  cases r2
  by_cases e:p=q
  ·subst e;exact SeqAt.EqAt.same _
  ·refine SeqAt.EqAt.of_refs e ?_
   obtain⟨its,r,pl,hz⟩:=I.list hp
   obtain⟨its2,r2,pl2,hz2⟩:=I.list hq
   have l1:=r.length
   have l2:=r2.length
   have key:=SeqAt.RcAt.lists (A:=A) (s:=s) (e:=fun _=>true) pl.isList pl2.isList (by simp only [AkB];omega) (by omega) (fun j h1 h2=>?_)
   ·have e1:(List.range its.toArray.size).all (fun _=>true)=true:=by simp
    rw[e1] at key
    exact key
   ·obtain⟨x,ex,qx⟩:=K1 r h1
    obtain⟨y,ey,qy⟩:=K1 r2 h2
    exact ih j x y ex ey qx qy (by show A.units+1+n<cLine;omega)
 | tup hp hq hl hi ih =>
  intro A u v r1 r2 hu
  rename_i n p q xs ys
  cases r1
  cases r2
  by_cases e:p=q
  ·subst e;exact SeqAt.EqAt.same _
  ·refine SeqAt.EqAt.of_refs e ?_
   obtain⟨its,r,pl,hz⟩:=I.tuple hp
   obtain⟨its2,r2,pl2,hz2⟩:=I.tuple hq
   have l1:=r.length
   have l2:=r2.length
   have key:=SeqAt.RcAt.tuples (A:=A) (s:=s) (e:=fun _=>true) pl pl2 (by omega) (fun j h1 h2=>?_)
   ·have e1:((List.range (min its.toArray.size its2.toArray.size)).all (fun _=>true) && its.toArray.size == its2.toArray.size)=true:=by
     have e2:its.length=its2.length:=by omega
     simp[e2]
    rw[e1] at key
    exact key
   ·obtain⟨x,ex,qx⟩:=K1 r h1
    obtain⟨y,ey,qy⟩:=K1 r2 h2
    exact ih j x y ex ey qx qy (by show A.units+1+n<cLine;omega)
def Aah (K:PySem.W.Frag)(H:Hp)(p q:Addr):Prop:=∃ xs ys:List V,SqL K H p xs∧SqL K H q ys∧xs.length=ys.length∧∀(i:Nat) (x y:V),xs[i]?=some x→ys[i]?=some y→VG K H 50 x y
def Ak2 (K:PySem.W.Frag):R2:=fun x y H Q=>∃ p q,x=.ref p∧y=.ref q∧Aah K H p q∧Q (.bl true) H
def Aja (K:PySem.W.Frag):R2:=fun x y H Q=>∃ p q,x=.ref p∧y=.ref q∧Aah K H p q∧Q (.bl false) H
theorem Agb(hu:X.A.units+100<cLine)(hK:X.K=K:=by rfl):OpR X (compareOp .NotEq) (Aja K):=by
 subst hK
 intro pins s σ H x y v u Q I rx ry h
 obtain⟨p,q,rfl,rfl,⟨xs,ys,hx,hy,hl,hi⟩,k⟩:=h
 cases rx
 cases ry
 obtain⟨its,r,pl,hz⟩:=I.list hx
 obtain⟨its2,r2,pl2,hz2⟩:=I.list hy
 have l1:=r.length
 have l2:=r2.length
 refine SeqAt.RcNeAt.lists (e:=fun _=>true) pl.isList pl2.isList (by simp only [AkB];omega) (by omega) (fun j h1 h2=>?_) _ _ _ _ ?_
 ·obtain⟨x,ex,qx⟩:=K1 r h1
  obtain⟨y,ey,qy⟩:=K1 r2 h2
  exact Ac5 I (hi j x y ex ey) qx qy (by show X.A.units+1+50<cLine;omega)
 refine⟨.bl false,H,I,?_,k⟩
 show Value.bool _=Value.bool _
 simp
end
open PySem PySem.Spec PyProof.Rows
section
variable {X:Cx}{K:PySem.W.Frag}
def AjL (K:PySem.W.Frag):R2:=fun x y H Q=>∃(p q:Addr) (js ks:List Int),x=.ref p∧y=.ref q∧SqT K H p (vI js)∧SqT K H q (vI ks)∧Q (.bl (!decide (js=ks))) H
end
open PySem PySem.Spec PyProof.Rows
section
variable {X:Cx}{K:PySem.W.Frag}
theorem UG{pins:List (Addr × Obj)}{σ:St}{H:Hp}{s:Shared}{vs:List Value}{out:Array Value}{ns':List Int}{Q:VK}(I:Inv X pins σ H s)(hi:IntsAre out.toList ns')(hz:ns'.length≤sizeLine)
  (q:∀ l,H l=none→Q (.ref l) (upd H l (.lst (vI ns')))):EP X pins σ Q (.ref (s.heap.objs.size+1)) { s with heap:=sortedAll s.heap vs out }:=by
 obtain⟨e,he⟩:=sortedAll_at s.heap vs out
 refine⟨.ref (s.heap.objs.size+1),_,I.laid (t':=s.toks) (o:=.lst (vI ns')) (fun b u=>sortedAll_old) (Alq _) ?_,rfl,q _ (I.hok.fresh (Alq _))⟩
 refine⟨by rw[Av];exact hz,out.toList,e,Kw hi,?_⟩
 rw[he]
theorem Aai(hK:X.K=K:=by rfl):Gj X (.builtin "sorted") (fun xs H Q=>∃ a ns,xs=[.ref a]∧SqL K H a (vI ns)∧ns.length<64∧∀ l ns',ns'.Perm ns→ns'.Pairwise (·≤·)→H l=none→Q (.ref l) (upd H l (.lst (vI ns')))):=by
 subst hK
 intro pins s σ H xs us Q I rv h
 obtain⟨a,ns,rfl,hq,h64,q⟩:=h
 obtain⟨u,rfl,ru⟩:=rv.one
 cases ru
 obtain⟨its,r,pl,hl⟩:=I.list hq
 have hi:IntsAre its ns:=intsAre_of r
 have hsz:sizeLine=16777216:=sizeLine_eq
 refine sorted_ints pl.isList hi (by rw[hi.length];exact h64) fun out ns' a1 a2 a3=>?_
 exact UG I a1 (by have:=a2.length_eq;omega) fun l hl=>q l ns' a2 a3 hl
def Agc (K:PySem.W.Frag)(tl:TE):TE:=fun σ H Q=>tl σ H fun x H1=>∃ a ns,x=.ref a∧SqL K H1 a (vI ns)∧ns.length<64∧∀ l ns',ns'.Perm ns→ns'.Pairwise (· ≥ ·)→H1 l=none→Q (.ref l) (upd H1 l (.lst (vI ns')))
theorem YH{e:Expr}{tl:TE}{p pos kp cp:Pos}{j:Nat}(hg:Gl X "sorted") (hm:X.mg "sorted" = none) (hl:PE X e tl) (hK:X.K=K:=by rfl)
  (he:backTo pos (starEach [e] X.env)=(false,eval e X.env)::backTo pos (starEach [] X.env):=by rfl)
  (hplain:(backTo pos (starEach [e] X.env)).any (·.1)=false:=by rfl):PE X (.Call (.Name "sorted" p) [e] [⟨some "reverse", .Constant (.bool true) j cp,kp⟩] pos) (Agc K tl):=by
 subst hK
 intro pins s σ H Q I h
 refine wpAny_Call_Name_kw (HY I hg hm O8 ?_ (by decide) (by decide))
 refine callWith_kw ?_ he hplain rfl rfl
 rw[he]
 refine Calls.spliced_cons (thn (hl pins s σ H _ I h) fun u s1 ⟨x,H1,I1,r1,q1⟩=>Calls.spliced_nil ?_)
 refine kws_cons (Constant_bool (kws_nil ?_))
 obtain⟨a,ns,rfl,hq,h64,q⟩:=q1
 cases r1
 obtain⟨its,r,pl,hz⟩:=I1.list hq
 have hi:IntsAre its ns:=intsAre_of r
 have hsz:sizeLine=16777216:=sizeLine_eq
 show wpAny _ _ (call (.builtin "sorted") [.ref a] [(Str.ofString "reverse", .bool true)]) _ _ _
 refine sorted_ints_rev pl.isList hi (by rw[hi.length];exact h64) fun out ns' a1 a2 a3=>?_
 exact UG I1 a1 (by have:=a2.length_eq;omega) fun l hl=>q l ns' a2 (by unfold Ordered at a3;rw[if_pos rfl] at a3;exact a3) hl
end
open PySem PySem.Spec PyProof.Rows
def vB (bs:List Bool):List V:=bs.map V.bl
theorem Xh(bs:List Bool):(vB bs).length=bs.length:=by unfold vB;rw[AkA]
theorem Ac6(bs:List Bool)(b:Bool):vB bs++[.bl b]=vB (bs++[b]):=by unfold vB;rw[AkP];rfl
theorem Aaj{bs:List Bool}:∀{us:List Value},Vals (bs.map V.bl) us→us=bs.map Value.bool:=by
 induction bs with
 | nil=>intro us r;rw[Ama] at r;cases r;rfl
 | cons n ns ih =>
  intro us r
  rw[AkT] at r
  cases r with
  | cons r1 r2 =>
   cases r1
   rw[ih r2]
   rfl
section
variable {X:Cx}{K:PySem.W.Frag}
end
open PySem PySem.Spec PyProof.Rows
theorem all_range(bs:List Bool):(List.range bs.length).all (fun i=>bs.getD i false)=bs.all id:=by
 rw[AlJ,Amk,Amk]
 constructor
 ·rintro h b hb
  obtain⟨i,hi,e⟩:=AkW hb
  have:=h i (List.mem_range.mpr hi)
  rw[AkH,Ak9 hi,e] at this
  exact this
 ·rintro h i hi
  have hl:=List.mem_range.mp hi
  rw[AkH,Ak9 hl]
  exact h _ (AkI hl)
section
variable {X:Cx}{K:PySem.W.Frag}
theorem Wr(hK:X.K=K:=by rfl)(hc:X.calm=true:=by rfl):Gj X (.builtin "all") (fun xs H Q=>∃ a bs,xs=[.ref a]∧SqL K H a (vB bs)∧Q (.bl (bs.all id)) H):=by
 subst hK
 intro pins s σ H xs us Q I rv h
 obtain⟨a,bs,rfl,hq,q⟩:=h
 obtain⟨u,rfl,ru⟩:=rv.one
 cases ru
 obtain⟨its,r,pl,hl⟩:=I.list hq
 have ei:=Aaj (bs:=bs) r
 subst ei
 obtain⟨o,eo,_⟩:=id pl.isList
 have alt:=Heap.lt_size eo
 refine call_all_walk (wpAny_pyIter_list pl.isList ?_)
 refine⟨_,_,_,_,_,_,fun i=>bs.getD i false,rfl,Walks.list (A:=X.A.in1) (I.ok.hd hc) _ a (AkF alt) (bs.map Value.bool).toArray,⟨⟨_,Heap.get?_push_size _ rfl,rfl,rfl⟩,pl.isList.push _⟩,?_,fun h' tk hk=>?_⟩
 ·intro i v s' Q' E' hP hQ
  have hv:(bs.map Value.bool)[i]?=some v:=by simpa using hP
  rw[AkG] at hv
  cases e:bs[i]? with
  | none=>rw[e] at hv;cases hv
  | some b =>
   rw[e] at hv
   cases hv
   have eb:bs.getD i false=b:=by rw[AkH,e];rfl
   have hQ':Q' (bs.getD i false) s':=hQ
   rw[eb] at hQ'
   exact wpAny_truthy_bool hQ'
 ·have e1:(List.range ((bs.map Value.bool).toArray).size).all (fun i=>bs.getD i false)=bs.all id:=by
   rw[AkB,AkA]
   exact all_range bs
  rw[e1]
  refine⟨.bl (bs.all id),H,I.kept (t':=tk) (fun b ob e=>hk b ob ?_ (Heap.get?_push_of_some _ e)),rfl,q⟩
  have lt:=Heap.lt_size e
  intro hm
  rw[List.mem_singleton.mp hm] at lt
  exact Alf _ lt
theorem AbG:Gj X (.type "range") (fun xs H Q=>∃ b,xs=[.int b]∧∀ p,H p=none→Q (.ref p) (upd H p (Aag p 0 b 1))):=by
 intro pins s σ H xs us Q I rv h
 obtain⟨b,rfl,q⟩:=h
 obtain⟨u1,rfl,r1⟩:=rv.one
 obtain⟨t,rfl⟩:=r1
 exact call_range_1 (YD I q)
end
end L2
set_option maxHeartbeats 4000000
namespace Stab
open PySem PyProof.Rows
def V (xs:Array Keyed)(i:Nat):Int:=match xs[i]? with
 | some p=>numOf p.2
 | none=>0
theorem Lb{xs ys:Array Keyed}{i j:Nat}(h:xs[i]?=ys[j]?):V xs i=V ys j:=by unfold V;rw[h]
def Lx (xs:Array Keyed)(i j:Nat):Prop:=K xs i<K xs j∨(K xs i=K xs j∧V xs i<V xs j)
def St (xs:Array Keyed)(k:Nat):Prop:=∀ i j,i<j→j<k→Lx xs i j
def De (xs:Array Keyed)(k:Nat):Prop:=∀ i j,i<j→j<k→Lx xs j i
def Inc (xs:Array Keyed):Prop:=∀ i j,i<j→j<xs.size→V xs i<V xs j
structure SB (a₀:Array Keyed) (st:SortSt) (k:Nat):Prop where
 base:SBase a₀ st
 tail:∀ j,k≤j→(arrOf st)[j]?=a₀[j]?
 low:∀ i,i<k→∃ i',i'<k∧(arrOf st)[i]?=a₀[i']?
section
variable {a₀:Array Keyed}{st:SortSt}{k:Nat}
theorem SB.up(h:SB a₀ st k){k':Nat}(hk:k≤k'):SB a₀ st k' :=
 ⟨h.base,fun j hj=>h.tail j (AkS hk hj),fun i hi=>by
  by_cases hik:i<k
  ·obtain⟨i',h1,h2⟩:=h.low i hik
   exact⟨i',AkK h1 hk,h2⟩
  ·exact⟨i,hi,h.tail i (Amv hik)⟩⟩
theorem SB.vlt(h:SB a₀ st k)(inc:Inc a₀){i j:Nat}(hi:i<k)(hj:k≤j)(hs:j<a₀.size):V (arrOf st) i<V (arrOf st) j:=by
 obtain⟨i',h1,h2⟩:=h.low i hi
 rw[Lb h2,Lb (h.tail j hj)]
 exact inc i' j (AkK h1 hj) hs
theorem SB.mir(h:SB a₀ st k)(hk:k≤a₀.size){i j:Nat}(hj:j≤k):SB a₀ (setArr st (mirror (arrOf st) i j ((j-i) / 2))) k:=by
 have hz:j≤(arrOf st).size:=by rw[h.base.size];omega
 refine⟨h.base.setArr (mirror_perm _ _ _ _),fun x hx=>?_,fun x hx=>?_⟩
 ·show(mirror (arrOf st) i j ((j-i) / 2))[x]?=_
  rw[getElem?_mirror_all hz,if_neg (by omega)]
  exact h.tail x hx
 ·show ∃ i',i'<k∧(mirror (arrOf st) i j ((j-i) / 2))[x]?=_
  rw[getElem?_mirror_all hz]
  by_cases hc:i≤x∧x<j
  ·rw[if_pos hc]
   exact h.low _ (by omega)
  ·rw[if_neg hc]
   exact h.low _ hx
theorem SB.bub(h:SB a₀ st k)(hk:k<a₀.size){d:Nat}(hd:d≤k):SB a₀ (setArr st (bubble (arrOf st) k d)) (k+1):=by
 have hz:k<(arrOf st).size:=by rw[h.base.size];exact hk
 have h':=h.up (Alq k)
 refine⟨h.base.setArr (bubble_perm _ _ _),fun x hx=>?_,fun x hx=>?_⟩
 ·show(bubble (arrOf st) k d)[x]?=_
  rw[getElem?_bubble hz d hd,if_neg (by omega),if_neg (by omega)]
  exact h'.tail x hx
 ·show ∃ i',i'<k+1∧(bubble (arrOf st) k d)[x]?=_
  rw[getElem?_bubble hz d hd]
  by_cases h1:x=k-d
  ·rw[if_pos h1];exact h'.low _ (AlC k)
  ·rw[if_neg h1]
   by_cases h2:k-d<x∧x≤k
   ·rw[if_pos h2];exact h'.low _ (by omega)
   ·rw[if_neg h2];exact h'.low _ hx
end
theorem K3{xs:Array Keyed}{i j:Nat}(hj:j≤xs.size)(k:Nat):V (mirror xs i j ((j-i) / 2)) k=if i≤k∧k<j then V xs (i+j-1-k) else V xs k:=by
 have e:=getElem?_mirror_all (i:=i) hj k
 by_cases h1:i≤k∧k<j
 ·rw[if_pos h1] at e ⊢;exact Lb e
 ·rw[if_neg h1] at e ⊢;exact Lb e
theorem YJ{xs:Array Keyed}{src d:Nat}(hs:src<xs.size)(hd:d≤src)(k:Nat) :
  V (bubble xs src d) k=if k=src-d then V xs src else if src-d<k∧k≤src then V xs (k-1) else V xs k:=by
 have e:=getElem?_bubble hs d hd k
 by_cases h1:k=src-d
 ·rw[if_pos h1] at e ⊢;exact Lb e
 ·rw[if_neg h1] at e ⊢
  by_cases h2:src-d<k∧k≤src
  ·rw[if_pos h2] at e ⊢;exact Lb e
  ·rw[if_neg h2] at e ⊢;exact Lb e
structure Dr (xs:Array Keyed) (x neq:Nat):Prop where
 le:neq+1≤x
 fst:∀ i j,i<j→j<x-(neq+1)→Lx xs j i
 snd:∀ i j,i<x-(neq+1)→x-(neq+1)≤j→j<x→K xs j<K xs i
 run:∀ i j,x-(neq+1)≤i→i<j→j<x→K xs i=K xs j∧V xs i<V xs j
section
variable {xs:Array Keyed}{x neq:Nat}
theorem Dr.rev(h:Dr xs x neq)(hx:x≤xs.size):De (mirror xs (x-(neq+1)) x ((x-(x-(neq+1))) / 2)) x:=by
 intro i j hij hj
 obtain⟨h1,h2,h3,h4⟩:=h
 unfold Lx
 rw[K_mirror hx,K_mirror hx,K3 hx,K3 hx]
 by_cases ci:x-(neq+1)≤i
 ·rw[if_pos (by omega),if_pos (by omega),if_pos (by omega),if_pos (by omega)]
  obtain⟨e1,e2⟩:=h4 (x-(neq+1)+x-1-j) (x-(neq+1)+x-1-i) (by omega) (by omega) (by omega)
  exact .inr ⟨e1,e2⟩
 ·rw[if_neg (c:=_≤i∧_) (by omega),if_neg (c:=_≤i∧_) (by omega)]
  by_cases cj:x-(neq+1)≤j
  ·rw[if_pos (by omega),if_pos (by omega)]
   exact .inl (h3 i _ (by omega) (by omega) (by omega))
  ·rw[if_neg (by omega),if_neg (by omega)]
   exact h2 i j hij (by omega)
theorem Dr.one(h:Dr xs x 0):De xs x:=by
 intro i j hij hj
 obtain⟨h1,h2,h3,h4⟩:=h
 by_cases cj:j<x-(0+1)
 ·exact h2 i j hij cj
 ·exact .inl (h3 i j (by omega) (by omega) hj)
theorem De.next(h:De xs x)(h1:1≤x)(hl:K xs x<K xs (x-1)):Dr xs (x+1) 0:=by
 refine⟨by omega,fun i j hij hj=>h i j hij (by omega),fun i j hi hj1 hj2=>?_,fun i j hi hij hj=>by omega⟩
 have ej:j=x:=by omega
 subst ej
 by_cases hi':i=j-1
 ·rw[hi'];exact hl
 ·have:=h i (j-1) (by omega) (by omega)
  unfold Lx at this
  omega
theorem Dr.eq(h:Dr xs x neq)(he:K xs x=K xs (x-1))(hv:∀ i,i<x→V xs i<V xs x):Dr xs (x+1) (neq+1):=by
 obtain⟨h1,h2,h3,h4⟩:=h
 have ep:x+1-(neq+1+1)=x-(neq+1):=by omega
 refine⟨by omega,fun i j hij hj=>h2 i j hij (by omega),fun i j hi hj1 hj2=>?_,fun i j hi hij hj=>?_⟩
 ·by_cases hj:j<x
  ·exact h3 i j (by omega) (by omega) hj
  ·have ej:j=x:=by omega
   rw[ej,he]
   exact h3 i (x-1) (by omega) (by omega) (by omega)
 ·by_cases hjx:j<x
  ·exact h4 i j (by omega) hij hjx
  ·have ej:j=x:=by omega
   subst ej
   refine⟨?_,hv i hij⟩
   rw[he]
   by_cases hi':i=j-1
   ·rw[hi']
   ·exact(h4 i (j-1) (by omega) (by omega) (by omega)).1
theorem St.all(h:St xs x)(hk:¬K xs 0<K xs (x-1)):∀ i,i<x→K xs i=K xs (x-1)∧(∀ j,i<j→j<x→V xs i<V xs j):=by
 have ge:∀ i,i<x→K xs i=K xs (x-1):=fun i hi=>by
  have a1:K xs 0≤K xs i:=by
   by_cases h0:i=0
   ·rw[h0];exact Amc _
   ·have:=h 0 i (by omega) hi;unfold Lx at this;omega
  have a2:K xs i≤K xs (x-1):=by
   by_cases h0:i=x-1
   ·rw[h0];exact Amc _
   ·have:=h i (x-1) (by omega) (by omega);unfold Lx at this;omega
  omega
 refine fun i hi=>⟨ge i hi,fun j hij hj=>?_⟩
 have:=h i j hij hj
 have e1:=ge i hi
 have e2:=ge j hj
 unfold Lx at this
 omega
end
section
variable {prog:Program}{w:World}{A:Around}{E:Value→Shared→Prop}{s:Shared}{a₀:Array Keyed}
theorem Ac7{st:SortSt}{a nrem:Nat}{Q:AscSt→SortSt→Prop}(h0:IntKeys a₀)(inc:Inc a₀)(hn:nrem≤a₀.size)(ha:1≤a)(han:a≤nrem)(hB:SB a₀ st a)
  (hs:St (arrOf st) a) (h:∀ n,a≤n→n≤nrem→St (arrOf st) n→(n=nrem∨K (arrOf st) n<K (arrOf st) (n-1))→Q (none,n) st) :
  wpS (model prog w) A E s (ascLoop a nrem) Q st:=by
 unfold ascLoop
 refine wpS_forRange (I:=fun x c st'=>st'=st∧c=(none,x)∧St (arrOf st) x) ?step ?fin ⟨rfl,rfl,hs⟩
 case fin =>
  rintro c st' ⟨rfl,rfl,q⟩
  have e:max a nrem=nrem:=by omega
  rw[e] at q ⊢
  exact h nrem han (Ak8 _) q (.inl rfl)
 case step =>
  rintro x c st' hax hxn ⟨rfl,rfl,q⟩
  refine wpS_bind (wpS_ltK hB.base h0 (by omega) (by omega) ?_)
  by_cases hl:K (arrOf st') x<K (arrOf st') (x-1)
  ·simp only [hl,decide_true,if_true]
   exact wpS_pure (h x hax (by omega) q (.inr hl))
  ·simp only [hl,decide_false,Ali,if_false]
   refine wpS_pure ⟨rfl,rfl,fun i j hij hj=>?_⟩
   by_cases hjx:j<x
   ·exact q i j hij hjx
   ·have ej:j=x:=by omega
    subst ej
    have v:=(hB.up hax).vlt inc hij (Ak8 j) (by omega)
    have kk:K (arrOf st') i≤K (arrOf st') (j-1):=by
     by_cases hi:i=j-1
     ·rw[hi];exact Amc _
     ·have:=q i (j-1) (by omega) (by omega)
      unfold Lx at this
      omega
    unfold Lx
    omega
theorem YK{st:SortSt}{n nrem:Nat}{Q:Option Nat→SortSt→Prop}(h0:IntKeys a₀)(inc:Inc a₀)(hn:nrem≤a₀.size)(h1:1≤n)(hnn:n≤nrem)(hB:SB a₀ st n)
  (hs:De (arrOf st) n) (h:∀ m st',SB a₀ st' m→1≤m→m≤nrem→St (arrOf st') m→Q (some m) st') :
  wpS (model prog w) A E s (tail3 n nrem) Q st:=by
 unfold tail3
 have hz:n≤(arrOf st).size:=by rw[hB.base.size];omega
 refine wpS_bind (wpS_reverse ?_)
 have hB':=hB.mir (by omega) (i:=0) (j:=n) (Ak8 n)
 refine wpS_bind (Ac7 h0 inc hn h1 hnn hB' ?_ fun m a1 a2 a3 _=>wpS_pure (h m _ (hB'.up a1) (by omega) a2 a3))
 intro i j hij hj
 show Lx (mirror (arrOf st) 0 n ((n-0) / 2)) i j
 unfold Lx
 rw[K_mirror hz,K_mirror hz,K3 hz,K3 hz,if_pos (by omega),if_pos (by omega),if_pos (by omega),if_pos (by omega)]
 exact hs _ _ (by omega) (by omega)
theorem Aek{st:SortSt}{n nrem:Nat}{Q:DescSt→SortSt→Prop}(h0:IntKeys a₀)(inc:Inc a₀)(hn:nrem≤a₀.size)(hnn:n≤nrem)(hB:SB a₀ st n)
  (hs:Dr (arrOf st) n 0) (h:∀ m neq st',SB a₀ st' m→n≤m→m≤nrem→Dr (arrOf st') m neq→Q (none,m,neq) st') :
  wpS (model prog w) A E s (descLoop n nrem) Q st:=by
 unfold descLoop
 refine wpS_forRange (I:=fun x c st'=>∃ q,c=(none,x,q)∧SB a₀ st' x∧Dr (arrOf st') x q) ?step ?fin ⟨0,rfl,hB,hs⟩
 case fin =>
  rintro c st' ⟨q,rfl,b,d⟩
  have e:max n nrem=nrem:=by omega
  rw[e] at b d ⊢
  exact h nrem q st' b hnn (Ak8 _) d
 case step =>
  rintro x c st' hax hxn ⟨q,rfl,b,d⟩
  have x1:=d.le
  have hz:x≤(arrOf st').size:=by rw[b.base.size];omega
  dsimp only
  refine wpS_bind (wpS_ltK b.base h0 (by omega) (by omega) ?_)
  by_cases hl:K (arrOf st') x<K (arrOf st') (x-1)
  ·simp only [hl,decide_true,if_true]
   by_cases hq:q>0
   ·rw[if_pos hq]
    refine wpS_bind (wpS_reverse (wpS_pure ⟨0,rfl,(b.mir (by omega) (Ak8 x)).up (Alq x),De.next (d.rev hz) (by omega) ?_⟩))
    show K (mirror (arrOf st') _ _ _) _<K (mirror (arrOf st') _ _ _) _
    rw[K_mirror hz,K_mirror hz,if_neg (by omega),if_pos (by omega)]
    have:=(d.run (x-(q+1)+x-1-(x-1)) (x-1) (by omega) (by omega) (by omega)).1
    rw[this]
    exact hl
   ·rw[if_neg hq]
    have eq:q=0:=by omega
    subst eq
    exact wpS_pure ⟨0,rfl,b.up (Alq x),d.one.next (by omega) hl⟩
  ·simp only [hl,decide_false,Ali,if_false]
   refine wpS_bind (wpS_ltK b.base h0 (by omega) (by omega) ?_)
   by_cases hg:K (arrOf st') (x-1)<K (arrOf st') x
   ·simp only [hg,decide_true,if_true]
    exact wpS_pure (h x q st' b hax (by omega) d)
   ·simp only [hg,decide_false,Ali,if_false]
    exact wpS_pure ⟨q+1,rfl,b.up (Alq x),d.eq (by omega) fun i hi=>b.vlt inc hi (Ak8 x) (by omega)⟩
theorem TF{st:SortSt}{n nrem:Nat}{Q:Option Nat→SortSt→Prop}(h0:IntKeys a₀)(inc:Inc a₀)(hn:nrem≤a₀.size)(hnn:n+1≤nrem)(hB:SB a₀ st (n+1))
  (hs:Dr (arrOf st) (n+1) 0) (h:∀ m st',SB a₀ st' m→1≤m→m≤nrem→St (arrOf st') m→Q (some m) st') :
  wpS (model prog w) A E s (descPart n nrem) Q st:=by
 unfold descPart
 refine wpS_bind (wpS_lift (wpAny_rule ⟨rfl,?_⟩))
 refine wpS_bind (Aek h0 inc hn hnn hB hs fun m q st' b m1 m2 d=>?_)
 dsimp only
 have hz:m≤(arrOf st').size:=by rw[b.base.size];omega
 by_cases hq:q>0
 ·rw[if_pos hq]
  exact wpS_bind (wpS_reverse (YK h0 inc hn (by omega) m2 (b.mir (by omega) (Ak8 m)) (d.rev hz) h))
 ·rw[if_neg hq]
  have eq:q=0:=by omega
  subst eq
  exact YK h0 inc hn (by omega) m2 b d.one h
theorem YL{st:SortSt}{nrem:Nat}{Q:Option Nat→SortSt→Prop}(h0:IntKeys a₀)(inc:Inc a₀)(hn:nrem≤a₀.size)(h1:1≤nrem)(hB:SB a₀ st 0)
  (h:∀ m st',SB a₀ st' m→1≤m→m≤nrem→St (arrOf st') m→Q (some m) st') :
  wpS (model prog w) A E s (countRun' 0 nrem) Q st:=by
 rw[countRun0_eq]
 have hB1:SB a₀ st 1:=hB.up (AkD 1)
 refine wpS_bind (Ac7 h0 inc hn (Ak8 1) h1 hB1 (fun i j hij hj=>by omega) fun n n1 n2 q hor=>?_)
 dsimp only
 have bn:=hB1.up n1
 have hz:n≤(arrOf st).size:=by rw[hB.base.size];omega
 by_cases e:n=nrem
 ·rw[if_pos (by simpa using e)]
  exact wpS_pure (h n st bn n1 n2 q)
 ·rw[if_neg (by simpa using e)]
  have hl:=hor.resolve_left e
  by_cases g:n>1
  ·rw[if_pos g]
   refine wpS_bind (wpS_ltK hB.base h0 (by omega) (by omega) ?_)
   by_cases r:K (arrOf st) 0<K (arrOf st) (n-1)
   ·simp only [r,decide_true,if_true]
    exact wpS_pure (h n st bn n1 n2 q)
   ·simp only [r,decide_false,Ali,if_false]
    have al:=q.all r
    have hm:=bn.mir (by omega) (i:=0) (j:=n) (Ak8 n)
    refine wpS_bind (wpS_reverse (TF h0 inc hn (by omega) (hm.up (Alq n)) (De.next ?_ n1 ?_) h))
    ·intro i j hij hj
     show Lx (mirror (arrOf st) _ _ _) j i
     unfold Lx
     rw[K_mirror hz,K_mirror hz,K3 hz,K3 hz,if_pos (by omega),if_pos (by omega),if_pos (by omega),if_pos (by omega)]
     refine .inr ⟨?_,(al _ (by omega)).2 _ (by omega) (by omega)⟩
     rw[(al _ (by omega)).1,(al (0+n-1-i) (by omega)).1]
    ·show K (mirror (arrOf st) _ _ _) _<K (mirror (arrOf st) _ _ _) _
     rw[K_mirror hz,K_mirror hz,if_neg (by omega),if_pos (by omega),(al (0+n-1-(n-1)) (by omega)).1]
     exact hl
  ·rw[if_neg g]
   have e1:n=1:=by omega
   subst e1
   exact TF h0 inc hn (by omega) (bn.up (Alq 1)) (De.next (fun i j hij hj=>by omega) (Ak8 1) hl) h
theorem AbH{st:SortSt}{n ok:Nat}{Q:Bool→SortSt→Prop}(h0:IntKeys a₀)(inc:Inc a₀)(hn:n≤a₀.size)(ok1:1≤ok)(hok:ok≤n)(hB:SB a₀ st ok)(hs:St (arrOf st) ok)
  (h:∀ st',SB a₀ st' n→St (arrOf st') n→Q true st'):wpS (model prog w) A E s (binarySort' 0 n ok) Q st:=by
 rw[binarySort'_eq]
 simp only [Alx]
 have em:max ok 1=ok:=by omega
 rw[em]
 refine wpS_bind (wpS_mono (wpS_forRange (I:=fun k c st'=>c=(none,())∧SB a₀ st' k∧St (arrOf st') k) (Q:=fun c st'=>c=(none,())∧SB a₀ st' n∧St (arrOf st') n) ?step ?fin ⟨rfl,hB,hs⟩) ?post)
 case post =>
  rintro c st' ⟨rfl,b,q⟩
  exact wpS_pure (h st' b q)
 case fin =>
  rintro c st' ⟨hc,b,q⟩
  have e:max ok n=n:=by omega
  rw[e] at b q
  exact⟨hc,b,q⟩
 case step =>
  rintro k c st' hak hkn ⟨rfl,b,q⟩
  have hk:k<a₀.size:=by omega
  have le:∀ i j,i≤j→j<k→K (arrOf st') i≤K (arrOf st') j:=fun i j hij hj=>by
   by_cases e:i=j
   ·rw[e];exact Amc _
   ·have:=q i j (by omega) hj
    unfold Lx at this
    omega
  refine wpS_bind (wpS_mono (wpS_forRange (I:=fun x c st2=>st2=st'∧∃ l r,c=(none,l,r)∧l≤r∧r≤k∧r-l≤k-x ∧
    (∀ i,i<l→K (arrOf st') i≤K (arrOf st') k)∧(∀ i,r≤i→i<k→K (arrOf st') k<K (arrOf st') i))
   (Q:=fun c st2=>st2=st'∧∃ l,c=(none,l,l)∧l≤k∧(∀ i,i<l→K (arrOf st') i≤K (arrOf st') k)∧(∀ i,l≤i→i<k→K (arrOf st') k<K (arrOf st') i)) ?istep ?ifin
   ⟨rfl,0,k,rfl,by omega,by omega,by omega,fun i hi=>by omega,fun i h1 h2=>by omega⟩) ?ipost)
  case ifin =>
   rintro c st2 ⟨rfl,l,r,rfl,hlr,hrk,hm,lo,hi⟩
   have e:l=r:=by omega
   subst e
   exact⟨rfl,l,rfl,hrk,lo,hi⟩
  case istep =>
   rintro x c st2 _ hxk ⟨rfl,l,r,rfl,hlr,hrk,hm,lo,hi⟩
   dsimp only
   by_cases g:l ≥ r
   ·rw[if_pos g]
    have e:l=r:=by omega
    subst e
    exact wpS_pure ⟨rfl,l,rfl,hrk,lo,hi⟩
   ·rw[if_neg g]
    refine wpS_bind (wpS_ltK b.base h0 hk (by omega) ?_)
    by_cases hl:K (arrOf st2) k<K (arrOf st2) ((l+r) / 2)
    ·simp only [hl,decide_true,if_true]
     exact wpS_pure ⟨rfl,l,(l+r) / 2,rfl,by omega,by omega,by omega,lo,fun i h1 h2=>Int.lt_of_lt_of_le hl (le _ _ h1 h2)⟩
    ·simp only [hl,decide_false,Ali,if_false]
     exact wpS_pure ⟨rfl,(l+r) / 2+1,r,rfl,by omega,by omega,by omega,fun i h1=>Int.le_trans (le i ((l+r) / 2) (by omega) (by omega)) (Int.not_lt.mp hl),hi⟩
  case ipost =>
   rintro c st2 ⟨rfl,l,rfl,hlk,lo,hi⟩
   show wpS _ _ _ _ (do moveDown' k l;pure (ForInStep.yield (none,()))) _ _
   rw[moveDown'_eq]
   refine wpS_bind (wpS_modify (wpS_pure ⟨rfl,b.bub hk (by omega),?_⟩))
   have hz:k<(arrOf st2).size:=by rw[b.base.size];exact hk
   intro i j hij hj
   show Lx (bubble (arrOf st2) k (k-l)) i j
   have e:k-(k-l)=l:=by omega
   have vk:∀ x,x<k→V (arrOf st2) x<V (arrOf st2) k:=fun x hx=>b.vlt inc hx (Ak8 k) hk
   unfold Lx
   rw[K_bubble hz (by omega),K_bubble hz (by omega),YJ hz (by omega),YJ hz (by omega),e]
   by_cases c1:i=l
   ·have d1:¬j=l:=by omega
    have d2:l<j∧j≤k:=by omega
    rw[if_pos c1,if_pos c1,if_neg d1,if_neg d1,if_pos d2,if_pos d2]
    exact .inl (hi _ (by omega) (by omega))
   ·rw[if_neg c1,if_neg c1]
    by_cases c2:l<i∧i≤k
    ·have d1:¬j=l:=by omega
     have d2:l<j∧j≤k:=by omega
     rw[if_pos c2,if_pos c2,if_neg d1,if_neg d1,if_pos d2,if_pos d2]
     exact q _ _ (by omega) (by omega)
    ·rw[if_neg c2,if_neg c2]
     by_cases c3:j=l
     ·rw[if_pos c3,if_pos c3]
      have k1:=lo i (by omega)
      have k2:=vk i (by omega)
      omega
     ·rw[if_neg c3,if_neg c3]
      by_cases c4:l<j∧j≤k
      ·rw[if_pos c4,if_pos c4]
       exact q _ _ (by omega) (by omega)
      ·rw[if_neg c4,if_neg c4]
       exact q _ _ hij (by omega)
theorem YM{st:SortSt}{Q:Unit→SortSt→Prop}(h0:IntKeys a₀)(inc:Inc a₀)(hB:SBase a₀ st)(same:arrOf st=a₀)(h2:2≤a₀.size)(h64:a₀.size<64)
  (h:∀ st',(arrOf st').Perm a₀→failedOf st'=none→St (arrOf st') a₀.size→Q () st'):wpS (model prog w) A E s sortRuns' Q st:=by
 rw[sortRuns'_eq]
 refine wpS_bind (wpS_get ?_)
 dsimp only
 have hmr:minRun' a₀.size a₀.size 0=a₀.size:=by
  obtain⟨f,hf⟩:∃ f,a₀.size=f+1:=⟨a₀.size-1,by omega⟩
  have e:minRun' (f+1) a₀.size 0=a₀.size:=by rw[minRun'_succ,if_pos h64];rfl
  rwa [← hf] at e
 have b0:SB a₀ st 0:=⟨hB,fun j _=>by rw[same],fun i hi=>by omega⟩
 have Ah4:∀ st',SB a₀ st' a₀.size→St (arrOf st') a₀.size →
   (arrOf (setPending st' ((pendingOf st').push (0,a₀.size,0)))).Perm a₀∧failedOf (setPending st' ((pendingOf st').push (0,a₀.size,0)))=none∧(pendingOf (setPending st' ((pendingOf st').push (0,a₀.size,0)))).size=1∧St (arrOf (setPending st' ((pendingOf st').push (0,a₀.size,0)))) a₀.size:=fun st' b q =>
  ⟨b.base.perm,b.base.failed,by show((pendingOf st').push _).size=1;rw[b.base.pend];rfl,q⟩
 simp only [hB.size,hmr]
 refine wpS_bind (wpS_mono (wpS_forRange
  (I:=fun x c st'=>(x=0∧c=(none,0)∧SB a₀ st' 0)∨(1≤x∧c=(none,a₀.size)∧(arrOf st').Perm a₀∧failedOf st'=none∧(pendingOf st').size=1∧St (arrOf st') a₀.size))
  (Q:=fun c st'=>c=(none,a₀.size)∧(arrOf st').Perm a₀∧failedOf st'=none∧(pendingOf st').size=1∧St (arrOf st') a₀.size) ?step ?fin (.inl ⟨rfl,rfl,b0⟩)) ?post)
 case fin =>
  rintro c st' (⟨hx,_,_⟩ | ⟨_,hc,hD⟩)
  ·omega
  ·exact⟨hc,hD⟩
 case step =>
  rintro x c st' _ hx (⟨rfl,rfl,b⟩ | ⟨hx1,rfl,hD⟩)
  ·dsimp only
   rw[if_neg (by omega)]
   simp only [Nat.sub_zero,Aml,Alx]
   refine wpS_bind (YL h0 inc (Ak8 _) (by omega) b fun m st2 b2 m1 m2 q2=>?_)
   dsimp only
   by_cases hlt:m<a₀.size
   ·rw[if_pos hlt]
    refine wpS_bind (wpS_lift (wpAny_rule ⟨rfl,?_⟩))
    refine wpS_bind (AbH h0 inc (Ak8 _) m1 m2 b2 q2 fun st3 b3 q3=>?_)
    simp only [Bool.not_true,Ali,if_false]
    refine wpS_bind (wpS_get ?_)
    have hb:(pendingOf st3).back?=none:=by rw[b3.base.pend];rfl
    rw[hb]
    dsimp only
    exact wpS_bind (wpS_modify (wpS_pure (.inr ⟨by omega,rfl,Ah4 _ b3 q3⟩)))
   ·rw[if_neg hlt]
    have hm:m=a₀.size:=by omega
    subst hm
    refine wpS_bind (wpS_get ?_)
    have hb:(pendingOf st2).back?=none:=by rw[b2.base.pend];rfl
    rw[hb]
    dsimp only
    exact wpS_bind (wpS_modify (wpS_pure (.inr ⟨by omega,rfl,Ah4 _ b2 q2⟩)))
  ·dsimp only
   rw[if_pos (Ak8 _)]
   exact wpS_pure ⟨rfl,hD⟩
 case post =>
  rintro c st' ⟨rfl,hD⟩
  dsimp only
  refine wpS_bind (wpS_mono (wpS_forRange (I:=fun _ c st2=>st2=st'∧c=(none,())) (Q:=fun c st2=>st2=st'∧c=(none,())) ?_ (fun _ _ hh=>hh) ⟨rfl,rfl⟩) ?_)
  ·rintro x c st2 _ _ ⟨rfl,rfl⟩
   refine wpS_bind (wpS_get ?_)
   rw[if_pos (by rw[hD.2.2.1];exact Ak8 1)]
   exact wpS_pure ⟨rfl,rfl⟩
  ·rintro c st2 ⟨rfl,rfl⟩
   exact wpS_pure (h _ hD.1 hD.2.1 hD.2.2.2)
end
end Stab
namespace L2
open PySem PySem.Spec PyProof.Rows
def cdO (c:Addr)(q:Str):HO:=.ext fun h=>h.CodeRec (.ref c) q
def Tb (P:Addr)(q:Str)(H:Hp):Prop:=∃ ps:Array Value,H P=some (.tbl ps)∧TriplesOk ps.toList∧∀(pos:Pos) (cv:Value),codeAmong pos ps.toList=some cv→∃ c,cv=.ref c∧H c=some (cdO c q)
def El (H H':Hp):Prop:=∀ b o,H b=some o→(∀ ps,o≠.tbl ps)→H' b=some o
theorem An.toT{H H':Hp}(s:An H H'):El H H':=fun b o h _=>s b o h
theorem El.trans{H H1 H2:Hp}(a:El H H1)(b:El H1 H2):El H H2:=fun c o h n=>b c o (a c o h n) n
theorem Tb.same{P:Addr}{q:Str}{H H':Hp}(t:Tb P q H)(s:An H H'):Tb P q H':=by
 obtain⟨ps,h1,h2,h3⟩:=t
 refine⟨ps,s _ _ h1,h2,fun pos cv e=>?_⟩
 obtain⟨c,e1,e2⟩:=h3 pos cv e
 exact⟨c,e1,s _ _ e2⟩
theorem El.lst{H H':Hp}(s:El H H'){a:Addr}{xs:List V}(h:H a=some (.lst xs)):H' a=some (.lst xs):=s a _ h fun _ z=>HO.noConfusion z
theorem El.tup{H H':Hp}(s:El H H'){a:Addr}{xs:List V}(h:H a=some (.tup xs)):H' a=some (.tup xs):=s a _ h fun _ z=>HO.noConfusion z
theorem El.ext{H H':Hp}(s:El H H'){a:Addr}{φ:Heap→Prop}(h:H a=some (.ext φ)):H' a=some (.ext φ):=s a _ h fun _ z=>HO.noConfusion z
theorem El.seq{K:PySem.W.Frag}{H H':Hp}{a:Addr}{xs:List V}(s:El H H')(h:SqL K H a xs):SqL K H' a xs:=by
 rcases h with (h | ⟨o,h⟩) | h
 ·exact .inl (.inl (s.lst h))
 ·exact .inl (.inr ⟨o,s a _ h fun _ z=>HO.noConfusion z⟩)
 ·exact .inr h
theorem Aak{pos pos':Pos}{c cv:Value}(l:List Value)(h:TriplesOk l):codeAmong pos' (l++[rawInt pos.line,rawInt pos.col,c])=some cv→codeAmong pos' l=some cv∨cv=c:=by
 fun_induction TriplesOk l with
 | case1 =>
  intro e
  simp only [AlB,codeAmong,rawInt] at e
  split at e
  ·exact .inr (Option.some.inj e).symm
  ·cases e
 | case2 a t b u x rest ih =>
  intro e
  simp only [Amw,codeAmong] at e ⊢
  split at e
  ·rename_i hc
   rw[if_pos hc]
   exact .inl e
  ·rename_i hc
   rw[if_neg hc]
   exact ih h e
 | case3 l h1 h2=>exact h.elim
theorem Agd{P:Program}{w:World}{H:Hp}{h:Heap}{c:Addr}{q:Str}(r:h.CodeRec (.ref c) q):Fi P w H h c (cdO c q):=by
 obtain⟨c',o,vs,t,e,g,d,v⟩:=id r
 cases e
 refine⟨r,⟨o,g⟩,fun h1 h2 r1 k=>?_⟩
 obtain⟨c2,o2,vs2,t2,e2,g2,d2,v2⟩:=r1
 cases e2
 exact⟨c,o2,vs2,t2,rfl,k _ g2,d2,v2⟩
section
variable {X:Cx}{pins:List (Addr × Obj)}{σ:St}{H:Hp}{s:Shared}
theorem Inv.table{h':Heap}{tk:Nat}{P c':Addr}{q:Str}{ps more:Array Value}(I:Inv X pins σ H s)(hP:H P=some (.tbl ps))(hx:Heap.ExtBut P s.heap h')(hsz:s.heap.objs.size≤c')
  (hrec:h'.CodeRec (.ref c') q) (htb:h'.get? P=some (PySem.W.tabObj (ps++more))) :
  Inv X pins σ (upd (upd H P (.tbl (ps++more))) c' (cdO c' q)) { s with heap:=h',toks:=tk }:=by
 have nP:∀ b,H b=none→b≠P:=fun b n e=>by rw[e,hP] at n;cases n
 have hc:H c'=none:=I.hok.fresh hsz
 have cP:c'≠P:=nP c' hc
 have lt:∀ b o,s.heap.get? b=some o→b≠c':=fun b o e z=>absurd (Heap.lt_size e) (by rw[z];exact Nat.not_lt.mpr hsz)
 have nc:∀ b u,H b=some u→b≠c':=fun b u e z=>by rw[z,hc] at e;cases e
 have up:∀ b,b≠P→b≠c'→upd (upd H P (.tbl (ps++more))) c' (cdO c' q) b=H b:=fun b n1 n2=>by rw[Ar n2,Ar n1]
 refine I.step (ch:=[]) (g':=s.gens) (d':=s.drawn) (fun _ z=>nomatch z) (fun b o _ _ _ e n=>hx b o (nP b n) e) (fun b o _ _ _ e n=>⟨o.slots,hx b o (nP b n) e⟩) (fun b o _ e n=>by rw[up b (nP b n) (lt b o e)];exact n)
  (fun b o _ e=>?_) (fun b xs e=>?_) (fun b o u e=>?_) (fun b ps' e=>?_) (fun m hm=>hm.extBut hx (nP _ I.free)) (fun b u e=>?_) I.bare
 ·by_cases h:b=P
  ·rw[h];exact⟨_,htb⟩
  ·exact⟨o,hx b o h e⟩
 ·rw[up b (fun z=>by rw[z,hP] at e;cases e) (nc b _ e)];exact e
 ·rw[up b (fun z=>by rw[z,hP] at e;cases e) (nc b _ e)];exact e
 ·by_cases h:b=P
  ·rw[h,hP] at e
   cases e
   exact⟨more,by rw[h,Ar (Ne.symm cP),Ad]⟩
  ·exact⟨#[],by rw[up b h (nc b _ e),e];simp⟩
 ·by_cases h1:b=c'
  ·rw[h1,Ad] at e
   cases e
   rw[h1]
   exact Agd hrec
  ·rw[Ar h1] at e
   by_cases h2:b=P
   ·rw[h2,Ad] at e
    cases e
    rw[h2]
    exact htb
   ·rw[Ar h2] at e
    refine(I.hok b u e).stay (fun c v hc' r=>hx c v ?_ r) (fun c r=>?_) fun c xs r=>?_
    ·rcases hc' with z | z
     ·rw[z];exact h2
     ·intro z2;rw[z2,hP] at z;cases z
    ·rw[up c (fun z=>by rw[z,hP] at r;cases r) (nc c _ r)];exact r
    ·rw[up c (fun z=>by rw[z,hP] at r;cases r) (nc c _ r)];exact r
def Bm (mg:Str→Option Value)(base:Heap):Prop:=∃ bm ob,mg "__builtins__" = some (.ref bm)∧bm≠builtinsNs∧base.get? bm=some ob∧ob.cls=.type "module" ∧ ob.dict=some builtinsNs∧ob.data=.plain
theorem Ac8{P c:Addr}{q:Str}{params:Arguments}{body:Expr}{scope:Scope}{Ael:Pos}{clos:List (Str × Addr)}{R:Value→Shared→Prop}{E:Value→Shared→Prop}{A:Around}
  (I:Inv X pins σ H s) (tb:Tb P q H) (hcode:X.env.code=.ref c) (C:PySem.W.CodeHd X.base c P) (B:Bm X.mg X.base) (hq:X.env.qual ++ "<lambda>" = q)
  (hdef:defaultsOf params X.env=([],[])) (hcl:closureFor scope X.env=pure clos)
  (k:∀(f c':Addr) (pm ctv:Value) (H':Hp) (s':Shared),El H H'→Tb P q H'→H' c'=some (cdO c' q)→s.heap.objs.size≤s'.heap.objs.size →
   Inv X ((f,PySem.W.kla_obj "<lambda>" q params body scope clos pm c' ctv)::pins) σ H' s'→R (.ref f) s') :
  wpAny (model X.prog X.w) A (eval (.Lambda params body scope Ael) X.env) R E s:=by
 refine PySem.W.kla_eval hdef ?_
 rw[hq]
 obtain⟨ps,hP,ht,hc⟩:=tb
 have gP:s.heap.get? P=some (PySem.W.tabObj ps):=I.hok P _ hP
 obtain⟨bm,ob,b1,b2,b3,b4,b5,b6⟩:=B
 have hgP:mainGlobals≠P:=fun e=>by
  obtain⟨o,es,ep,g,d,_⟩:=I.mod.glob
  have z:=(I.bs _ _ g).2
  rw[e,hP] at z
  cases z
 have hbP:bm≠P:=fun e=>by
  have z:=(I.bs _ _ b3).2
  rw[e,hP] at z
  cases z
 have hbG:bm≠mainGlobals:=fun e=>by
  obtain⟨o,es,ep,g,d,_⟩:=I.mod.glob
  rw[e,g] at b3
  cases b3
  rw[d] at b6
  cases b6
 have hB:s.heap.BuiltinsAt X.mg P:=⟨bm,ob,b1,b2,hbG,hbP,I.bk _ _ b3,b4,b5,b6⟩
 have hG:s.heap.Ns mainGlobals X.mg:=I.mod.glob.keeps I.bk
 have fin:∀(H':Hp) (h':Heap) (tk:Nat) (o:Obj),o.isFreed=false→(∀ v,o.data≠.cell v)→s.heap.objs.size≤h'.objs.size→Inv X pins σ H' { s with heap:=h',toks:=tk } →
   Inv X ((h'.objs.size,o)::pins) σ H' { s with heap:=h'.push o,toks:=tk }:=fun H' h' tk o hfr hd hsz J=>by
  have J2:Inv X pins σ H' { s with heap:=h'.push o,toks:=tk }:=J.kept (t':=tk) fun b u e=>Heap.get?_push_of_some _ e
  refine J2.HD fun p hp=>?_
  rcases List.mem_cons.mp hp with rfl | hp
  ·exact⟨Heap.get?_push_size _ hfr,J.hok.fresh (Ak8 _),Alp (AkK I.lt hsz),I.Af7 hsz,hd⟩
  ·exact J2.pin p (AkU _ hp)
 have Afh:∀(h':Heap) (o:Obj),s.heap.objs.size≤h'.objs.size→s.heap.objs.size≤(h'.push o).objs.size:=fun h' o h=>by rw[Heap.size_push];exact Nat.le_succ_of_le h
 cases e:codeAmong Ael ps.toList with
 | none =>
  refine PySem.W.kla_makeFunction (mg:=X.mg) (ps:=ps) hcl I.ok.glob hG hcode (C.keeps I.bk) gP ht e hgP hB fun c' ctv h' tk hx hge hlt hrec htb=>?_
  have J:=I.table (tk:=tk) (q:=q) hP hx hge hrec htb
  have hcf:H c'=none:=I.hok.fresh hge
  have nP:P≠c':=fun z=>by rw[z,hcf] at hP;cases hP
  refine k _ c' _ ctv _ _ (fun b o h n=>?_) ⟨_,by rw[Ar nP,Ad],?_,fun pos cv e2=>?_⟩ Ad (Afh h' _ (Al8 (Nat.lt_of_le_of_lt hge hlt))) (fin _ h' tk _ rfl (fun v z=>by cases z) (Al8 (Nat.lt_of_le_of_lt hge hlt)) J)
  ·rw[Ar (fun z=>by rw[z,hcf] at h;cases h),Ar (fun z=>by rw[z,hP] at h;exact n _ (Option.some.inj h).symm)]
   exact h
  ·rw[Array.toList_append]
   exact TriplesOk_snoc _ _ _ _ ht
  ·rw[Array.toList_append] at e2
   rcases Aak _ ht e2 with e3 | e3
   ·obtain⟨c1,z1,z2⟩:=hc _ _ e3
    exact⟨c1,z1,by rw[Ar (fun z=>by rw[z,hcf] at z2;cases z2),Ar (fun z=>by rw[z,hP] at z2;cases z2)];exact z2⟩
   ·exact⟨c',e3,Ad⟩
 | some cv =>
  obtain⟨c1,rfl,hc1⟩:=hc _ _ e
  refine PySem.W.kla_makeFunctionHit (mg:=X.mg) (ps:=ps) hcl I.ok.glob hG hcode (C.keeps I.bk) gP ht e hB fun ctv h' tk hk hsz=>?_
  exact k _ c1 _ ctv H _ (An.refl H).toT ⟨ps,hP,ht,hc⟩ hc1 (Afh h' _ hsz) (fin H h' tk _ rfl (fun v z=>by cases z) hsz (I.kept (t':=tk) hk))
def Ah5 (X:Cx)(A:Around)(N:List Str)(env:Env)(s:Shared)(H:Hp):Cx where
 prog:=X.prog
 w:=X.w
 K:=X.K
 mg:=X.mg
 base:=X.base
 A:=A.deeper env
 N:=N
 s₀:=s
 H₀:=H
 env:=env
 outer:=X.stack
 stack:=env::X.stack
 ex:=[]
 calm:=true
 fn:=fun _=>false
 pn:=[]
 xe:=fun _ _=>False
theorem Ac9{A:Around}{f c' cc:Addr}{q x nm:Str}{params:Arguments}{body:Expr}{scope:Scope}{pm ctv u:Value}{j:Nat}{y v:V}{Q:VK}{t:TE}{E:Value→Shared→Prop}
  (I:Inv X pins σ H s) (hA:A.frames=some X.stack) (hd:A.handled=none) (hroom:A.depth<recursionLimit)
  (hf:(f,PySem.W.kla_obj "<lambda>" q params body scope [(nm,cc)] pm c' ctv)∈pins) (hc:H c'=some (cdO c' q))
  (hN:X.N[j]?=some nm) (hv:σ[j]?=some (some v)) (hk:X.env.kindOf nm=some .cell) (hcc:X.env.cells.lookup nm=some cc)
  (hnames:scope.names=[(x,.local),(nm,.free)]) (hxn:x≠nm) (hkind:scope.kind=.function) (hco:scope.isCoroutine=false) (hgen:scope.isGenerator=false)
  (hbind:∀ w:Value,bindArgs (PySem.W.kla_fn "<lambda>" q params body scope [(nm,cc)] pm (.ref c') ctv) ⟨[w],[]⟩=pure [(x,w)])
  (ru:RelV y u) (hb:∀(env:Env) (s:Shared) (H:Hp),env.scope=scope→PE (Ah5 X A [x,nm] env s H) body t) (h:t [some y,some v] H Q) :
  wpAny (model X.prog X.w) A (call (.ref f) [u]) (EP X pins σ Q) E s:=by
 have hx1:scope.names.lookup x=some .local:=by rw[hnames];simp
 have hx2:scope.names.lookup nm=some .free:=by rw[hnames,AkY,beq_false_of_ne (Ne.symm hxn)];simp
 have hpf:=I.pin _ (AkU _ hf)
 have hrec:s.heap.CodeRec (.ref c') q:=(I.hok c' _ hc).1
 have vis:Vis X.env.scope nm:=.inr (.inl hk)
 obtain⟨m,hns,hl⟩:=I.loc
 obtain⟨u',rv,lk⟩:=hl j nm v hN hv vis
 have hcell:s.heap.IsCell cc (some u'):=by
  rcases lk with ⟨z,_⟩ | ⟨_,c2,e2,z⟩
  ·have:some NameKind.local=some NameKind.cell:=z.symm.trans hk
   cases this
  ·rw[hcc] at e2
   cases e2
   exact z
 refine wpAny_call (codeAny_mono (R:=fun r s'=>match r with | .ok (.ret u)=>EP X pins σ Q u s' | _=>False)
  (PySem.W.kla_callFunE hroom hpf.1 rfl hco hgen rfl hrec ?_) fun r s' hq=>?_)
 ·rw[hbind u]
  refine wpAny_pure (wpAny_newFunctionEnv (fun p hp=>?_) (fun p hp=>?_) (fun h₁ hn hsb=>⟨I.nolimit.fresh _ hsb,?_⟩) hkind)
  ·rw[show(PySem.W.kla_fn "<lambda>" q params body scope [(nm,cc)] pm (.ref c') ctv).scope=scope from rfl,hnames] at hp
   rcases List.mem_cons.mp hp with rfl | hp
   ·intro z;cases z
   ·rw[List.mem_singleton.mp hp];intro z;cases z
  ·rw[List.mem_singleton.mp hp];exact hx1
  ·have hk₁:∀ b o,s.heap.get? b=some o→h₁.get? b=some o:=fun b o e=>hsb.extBut b o (AkF (Heap.lt_size e)) (Heap.get?_push_of_some _ e)
   show codeAny _ _ (.expr body (PySem.W.envX q scope s.heap.objs.size f (.ref c') [(nm,cc)])) _ _
   have one:∀ z c,([(nm,cc)]:List (Str × Addr)).lookup z=some c→z=nm∧c=cc:=fun z c e=>by
    rw[AkY] at e
    cases hz:z == nm with
    | true=>rw[hz] at e;exact⟨eq_of_beq hz,(Option.some.inj e).symm⟩
    | false=>rw[hz] at e;cases e
   have J:Inv (Ah5 X A [x,nm] (PySem.W.envX q scope s.heap.objs.size f (.ref c') [(nm,cc)]) s H) [] [some y,some v] H { s with heap:=h₁,toks:=s.toks+[(x,u)].length }:=by
    refine⟨⟨I.ok.mod,hkind,rfl,rfl,Ak8 _,fun a b c e1 e2=>(one _ _ e1).1.trans (one _ _ e2).1.symm,fun z hz=>?_,fun z c e1 e2=>Bool.noConfusion e1,fun _=>hd,Around.frames_deeper hA,.inr ⟨rfl,rfl⟩,
     fun b z=>absurd (show b∈([]:List Addr) from z) (by simp),I.bs,AkS I.ok.bsz I.sz,fun b _ _ z=>absurd (show b∈([]:List Addr) from z) (by simp),fun b z=>absurd (show b∈([]:List Addr) from z) (by simp),I.stack,I.W2⟩,
     rfl,I.bare,Un.kept hk₁,⟨_,hn,fun i n v' e1 e2 e3=>?_⟩,fun z c e=>?_,I.hok.fresh (Ak8 _),fun z c e=>?_,fun p hp=>absurd (show p∈([]:List (Addr × Obj)) from hp) (by simp),I.hok.kept hk₁,rfl⟩
    ·have hz':scope.names.lookup z=some .cell∨scope.names.lookup z=some .free:=hz
     have hm:(z,NameKind.cell)∈scope.names∨(z,NameKind.free)∈scope.names:=hz'.imp PySem.mem_of_lookup PySem.mem_of_lookup
     rw[hnames] at hm
     have hzn:z=nm:=by
      rcases hm with hm | hm
      ·rcases List.mem_cons.mp hm with e | e
       ·cases e
       ·cases List.mem_singleton.mp e
      ·rcases List.mem_cons.mp hm with e | e
       ·cases e
       ·exact(Prod.mk.inj (List.mem_singleton.mp e)).1
     exact⟨cc,by rw[hzn];show([(nm,cc)]:List (Str × Addr)).lookup nm=_;simp⟩
    ·match i,e1,e2 with
     | 0,e1,e2 =>
      cases e1
      cases e2
      exact⟨u,ru,.inl ⟨hx1,by simp⟩⟩
     | 1,e1,e2 =>
      cases e1
      cases e2
      obtain⟨o,g,d⟩:=hcell
      exact⟨u',rv,.inr ⟨.inr hx2,cc,by show([(nm,cc)]:List (Str × Addr)).lookup nm=_;simp,o,hk₁ _ _ g,d⟩⟩
     | i+2,e1,e2=>cases e1
    ·obtain⟨o,g,d⟩:=hcell
     rw[(one z c e).2]
     exact⟨some u',o,hk₁ _ _ g,d⟩
    ·rw[(one z c e).2]
     exact I.Ku nm cc hcc
   refine PySem.W.kla_codeExpr (wpAny_mono (hb (PySem.W.envX q scope s.heap.objs.size f (.ref c') [(nm,cc)]) s H rfl [] _ [some y,some v] H Q J h) (fun u2 s' hq=>?_) fun _ _ z=>z.elim)
   obtain⟨v',H',J',r',q'⟩:=hq
   exact I.after ⟨v',H',J'.os,J'.bare,J'.base,J'.hok,r',q'⟩
 ·cases r with
  | error e=>exact False.elim hq
  | ok fl =>
   cases fl with
   | ret u=>exact hq
   | next=>exact False.elim hq
   | brk=>exact False.elim hq
   | cont=>exact False.elim hq
end
open PySem PySem.Spec PyProof.Rows
section
variable {prog:Program}{w:World}{A:Around}{E:Value→Shared→Prop}{s:Shared}
theorem YQ{Q:List Value→Shared→Prop}{r:Addr}{a b c:Int}{t u v:Tok}{n:Nat}(hh:A.handled=none)(hr:IsRange s.heap r a b c t u v)(hsmall:Builtin.Range.small a b c=true)
  (hn:Builtin.Range.rangeSize a b c=n) (hlen:n≤2 ^ 24)
  (hQ:∀ h' tk acc,(∀ b o,s.heap.get? b=some o→h'.get? b=some o)→s.heap.objs.size≤h'.objs.size→ItemsOf (fun i v=>∃ t,v=.int (a+i*c) t) acc n→Q acc.toList { s with heap:=h',toks:=tk }) :
  wpAny (model prog w) A (collect (.ref r)) Q E s:=by
 unfold collect
 refine wpAny_bind (wpAny_runValue (codeAny_builtin F.entry_proto_collect ?_))
 rw[Around.under_plainId F.plain_proto_collect _]
 show wpAny _ A.in1 (newList [] >>= fun l=>again (.builtin "list.__iadd__" ⟨[l,.ref r],[]⟩)) _ _ s
 refine wpAny_bind (wpAny_newObj_type ?_)
 refine wpAny_pure ⟨plainId_quiet F.plain_list_iadd _,codeAny_builtin F.entry_list_iadd ?_⟩
 rw[Around.under_plainId F.plain_list_iadd _]
 have hS₁:(s.heap.push { cls:=.type "list", data:=.seq ([]:List Value).toArray }).get? s.heap.objs.size=some { cls:=.type "list", data:=.seq ([]:List Value).toArray }:=Heap.get?_push_size _ rfl
 show wpAny _ A.in1 (Builtin.List.listExtendWith (.ref s.heap.objs.size) (.ref r) (.ref s.heap.objs.size)) _ _ _
 have fin:∀(r:Result) (s':Shared),(∃ h' tk acc' c',r=.ok (.ret (.ref s.heap.objs.size))∧s'={ s with heap:=h',toks:=tk }∧(∀ b o,b≠s.heap.objs.size→(s.heap.push { cls:=.type "list", data:=.seq ([]:List Value).toArray }).get? b=some o→h'.get? b=some o) ∧
   h'.get? s.heap.objs.size=some { cls:=.type "list", dict:=none,data:=.seq acc' c',slots:=#[] }∧ItemsOf (fun i v=>∃ t,v=.int (a+i*c) t) acc' n)→∃ h' tk acc' c',r=.ok (.ret (.ref s.heap.objs.size))∧s'={ s with heap:=h',toks:=tk } ∧
   h'.get? s.heap.objs.size=some { cls:=.type "list", dict:=none,data:=.seq acc' c',slots:=#[] }∧Q acc'.toList s':=by
  rintro r s' ⟨h',tk,acc',c',e1,e2,hk,hS',hacc⟩
  refine⟨h',tk,acc',c',e1,e2,hS',?_⟩
  rw[e2]
  exact hQ h' tk acc' (fun b o e=>hk b o (AkF (Heap.lt_size e)) (Heap.get?_push_of_some _ e)) (Al8 (Heap.lt_size hS')) hacc
 refine wpAny_mono (wpAny_extend_range (s:={ s with heap:=s.heap.push { cls:=.type "list", data:=.seq ([]:List Value).toArray } }) (R:=fun r s'=>∃ h' tk acc' c',r=.ok (.ret (.ref s.heap.objs.size))∧s'={ s with heap:=h',toks:=tk }∧(∀ b o,b≠s.heap.objs.size→(s.heap.push { cls:=.type "list", data:=.seq ([]:List Value).toArray }).get? b=some o→h'.get? b=some o) ∧
   h'.get? s.heap.objs.size=some { cls:=.type "list", dict:=none,data:=.seq acc' c',slots:=#[] }∧ItemsOf (fun i v=>∃ t,v=.int (a+i*c) t) acc' n) hh (Heap.get?_push_of_some _ hr) hsmall hn hlen s.heap.objs.size (.ref s.heap.objs.size) 0 hS₁
  fun h' tk acc' c' hk hS' hacc=>⟨h',tk,acc',c',rfl,rfl,hk,hS',hacc⟩) (fun f s' hf=>?_) fun e s' hf=>?_
 ·cases f with
  | done f =>
   obtain⟨h',tk,acc',c',e1,e2,hS',q⟩:=fin _ _ hf
   cases e1
   subst e2
   show wpAny _ A (load s.heap.objs.size >>= _) _ _ _
   exact wpAny_bind (wpAny_load hS' (wpAny_pure q))
  | again c' =>
   refine⟨hf.1,codeAny_mono hf.2 fun r s' hr=>?_⟩
   obtain⟨h',tk,acc',c',e1,e2,hS',q⟩:=fin _ _ hr
   subst e1 e2
   show wpAny _ A (load s.heap.objs.size >>= _) _ _ _
   exact wpAny_bind (wpAny_load hS' (wpAny_pure q))
 ·obtain⟨h',tk,acc',c',e1,_⟩:=hf
  cases e1
end
theorem AbI{items:List Value}{ns:List Int}(hi:IntsAre items ns){g:Int→Int}{keys:Array Value}(hk:IntsAre keys.toList (ns.map g)){p:Keyed}(hp:p∈keys.toList.zip items) :
  ∃ z,z∈ns∧numOf p.2=z∧numOf p.1=g z∧∃ t,p.2=.int z t:=by
 obtain⟨i,hl,e⟩:=AkW hp
 have h1:=hi.length
 have h2:=hk.length
 rw[AkA] at h2
 rw[List.length_zip] at hl
 have hn:i<ns.length:=by omega
 obtain⟨t1,e1⟩:=hi.get i ns[i] (Ak9 hn)
 obtain⟨t2,e2⟩:=hk.get i (g ns[i]) (by rw[AkG,Ak9 hn];rfl)
 rw[List.getElem_zip] at e
 have e1':items[i]'(by omega)=.int ns[i] t1:=Option.some.inj ((Ak9 _).symm.trans e1)
 have e2':keys.toList[i]'(by omega)=.int (g ns[i]) t2:=Option.some.inj ((Ak9 _).symm.trans e2)
 rw[e1',e2'] at e
 subst e
 exact⟨ns[i],AkI hn,rfl,rfl,t1,rfl⟩
theorem Aem{items:List Value}{ns:List Int}(hi:IntsAre items ns){g:Int→Int}{keys:Array Value}(hk:IntsAre keys.toList (ns.map g)){xs:Array Keyed}(hp:xs.Perm (keys.zip items.toArray))(hs:Stab.St xs xs.size) :
  ∃ ns':List Int,IntsAre (xs.map (·.2)).toList ns'∧ns'.Perm ns∧ns'.Pairwise (fun x y=>g x<g y∨(g x=g y∧x<y)):=by
 have hl:xs.toList.Perm (keys.toList.zip items):=by rw[← ksk_zip];exact Array.perm_iff_toList_perm.mp hp
 have al:∀ p∈xs.toList,∃ z,z∈ns∧numOf p.2=z∧numOf p.1=g z∧∃ t,p.2=.int z t:=fun p h=>AbI hi hk (hl.mem_iff.mp h)
 have len:keys.toList.length=items.length:=by rw[hk.length,AkA,hi.length]
 refine⟨xs.toList.map fun p=>numOf p.2,?_,?_,?_⟩
 ·rw[Array.toList_map]
  have:=intsAre_map (xs.toList.map (·.2)) fun v hv=>by
   obtain⟨p,hp',rfl⟩:=List.mem_map.mp hv
   obtain⟨z,_,_,_,t,e⟩:=al p hp'
   exact⟨z,t,e⟩
  rw[Alw] at this
  exact this
 ·have h1:=hl.map fun p:Keyed=>numOf p.2
  have h2:(keys.toList.zip items).map (fun p:Keyed=>numOf p.2)=ns:=by
   rw[← hi.nums,show(fun p:Keyed=>numOf p.2)=numOf∘Prod.snd from rfl,← Alw,List.map_snd_zip (by omega)]
  rw[h2] at h1
  exact h1
 ·rw[AkX,Amx]
  intro i j h1 h2 hij
  have h1':i<xs.size:=by simpa using h1
  have h2':j<xs.size:=by simpa using h2
  have q:=hs i j hij h2'
  obtain⟨z1,_,a1,b1,_⟩:=al xs.toList[i] (AkI h1)
  obtain⟨z2,_,a2,b2,_⟩:=al xs.toList[j] (AkI h2)
  rw[a1,a2]
  unfold Stab.Lx at q
  rw[K_eq h1',K_eq h2'] at q
  unfold Stab.V at q
  rw[getElem?_pos xs i h1',getElem?_pos xs j h2'] at q
  simp only [Array.getElem_toList] at a1 a2 b1 b2
  simp only [a1,a2,b1,b2] at q
  exact q
theorem Aen{items:List Value}{ns:List Int}(hi:IntsAre items ns)(inc:ns.Pairwise (·<·)){keys:Array Value}(hl:keys.size=items.length):Stab.Inc (keys.zip items.toArray):=by
 intro i j hij hj
 have hz:(keys.zip items.toArray).size=items.length:=by rw[Array.size_zip,hl,AkB,Aml]
 have h1:=hi.length
 have val:∀ k (hk:k<items.length),Stab.V (keys.zip items.toArray) k=ns[k]'(by omega):=fun k hk=>by
  obtain⟨t,e⟩:=hi.get k ns[k] (Ak9 (by omega))
  unfold Stab.V
  rw[getElem?_pos (keys.zip items.toArray) k (by omega)]
  simp only [Array.getElem_zip,List.getElem_toArray]
  rw[Option.some.inj ((Ak9 hk).symm.trans e)]
  rfl
 rw[val i (by omega),val j (by omega)]
 exact List.pairwise_iff_getElem.mp inc i j (by omega) (by omega) hij
section
variable {X:Cx}{A:Around}{pins:List (Addr × Obj)}{σ:St}{E:Value→Shared→Prop}{a kS f:Addr}{items:List Value}{ns:List Int}{g:Int→Int}{e1:Nat}{Pst:PySem.Fin→Shared→Prop}
theorem YS{H:Hp}{s:Shared}{st:SortSt}{keys:Array Value}(hi:IntsAre items ns)(h64:ns.length<64)(hk:IntsAre keys.toList (ns.map g))
  (I:Inv X ((a,seqObj "list" #[] e1)::pins) σ (upd H kS (.lst (vI (ns.map g)))) s) (hkS:H kS=none) (a0:X.s₀.heap.objs.size≤a) (aC:∀ x c,X.env.cells.lookup x=some c→c≠a) (aP:∀ p∈X.pn++pins,p.1≠a)
  (hp:(arrOf st).Perm (keys.zip items.toArray)) (hs:Stab.St (arrOf st) (arrOf st).size) (hfl:failedOf st=none)
  (k:∀(H':Hp) (s':Shared) (ns':List Int),An H H'→H a=none→H' a=some (.lst (vI ns'))→ns'.Perm ns→ns'.Pairwise (fun x y=>g x<g y∨(g x=g y∧x<y))→Inv X pins σ H' s'→Pst (.done (.ret .none)) s') :
  wpAny (model X.prog X.w) A (ksk_tail a false e1 (.ref kS) st) Pst E s:=by
 have hsz:sizeLine=16777216:=sizeLine_eq
 obtain⟨ns',o1,o2,o3⟩:=Aem hi hk hp hs
 have pa:=I.pin (a,seqObj "list" #[] e1) (AkU _ AkM)
 obtain⟨ga,na,aL,aF,_⟩:=pa
 have hak:a≠kS:=fun z=>by
  have na':upd H kS (.lst (vI (ns.map g))) a=none:=na
  rw[z,Ad] at na'
  cases na'
 have hHa:H a=none:=by
  have na':upd H kS (.lst (vI (ns.map g))) a=none:=na
  rw[Ar hak] at na'
  exact na'
 obtain⟨z,its,n,rv,hl,gk⟩:=I.WD (l:=kS) Ad
 have hil:its.length=ns.length:=by rw[← hl,Av,AkA]
 have s1:=Heap.SameBut.update s.heap kS (Obj.mapSeq fun _=>(#[]:Array Value))
 have I1:Inv X ((a,seqObj "list" #[] e1)::pins) σ (upd (upd H kS (.lst (vI (ns.map g)))) kS (.lst [])) { s with heap:=s.heap.update kS (Obj.mapSeq fun _=>(#[]:Array Value)),toks:=s.toks } :=
  I.AdX (its':=[]) (f:=fun _=>#[]) Ad gk rfl .nil (AkD _)
 rw[AaD] at I1
 have ga1:(s.heap.update kS (Obj.mapSeq fun _=>(#[]:Array Value))).get? a=some (seqObj "list" #[] e1):=(s1.2 a hak).trans ga
 have osz:((arrOf st).map (·.2)).size=ns'.length:=by rw[← o1.length,Array.length_toList]
 have o2l:=o2.length_eq
 unfold ksk_tail
 try dsimp only
 refine wpAny_bind (listUpdate_at gk rfl ?_ (by rw[AkB];omega) (AkD _))
 refine wpAny_bind (wpAny_letGo ?_)
 refine wpAny_bind (seqEpoch_at ga1 rfl ?_)
 refine wpAny_bind (listUpdate_at ga1 rfl ?_ (AkD _) (by simp only [Ali,if_false];rw[osz];omega))
 rw[hfl]
 simp only [bne_self_eq_false,Ali,if_false]
 refine wpAny_pure ?_
 have I1':Inv X pins σ (upd H kS (.lst [])) { s with heap:=s.heap.update kS (Obj.mapSeq fun _=>(#[]:Array Value)),toks:=s.toks }:=I1.HD fun p hp=>I1.pin p (AkU _ (AkN _ hp))
 have ha1:upd H kS (.lst []) a=none:=by rw[Ar hak];exact hHa
 generalize hh1:s.heap.update kS (Obj.mapSeq fun _=>(#[]:Array Value))=h1 at ga1 I1' ⊢
 have s2:=Heap.SameBut.update h1 a (Obj.mapSeq fun _=>(arrOf st).map (·.2))
 obtain⟨c2,hc2⟩:∃ c2,(h1.update a (Obj.mapSeq fun _=>(arrOf st).map (·.2))).get? a=some (seqObj "list" ((arrOf st).map (·.2)) c2):=⟨_,get?_update_seq ga1 fun _=>(arrOf st).map (·.2)⟩
 have nit:∀ b u,upd H kS (.lst []) b=some u→b≠a:=fun b u e z=>by rw[z,ha1] at e;cases e
 have J:Inv X pins σ (upd (upd H kS (.lst [])) a (.lst (vI ns'))) { s with heap:=h1.update a (Obj.mapSeq fun _=>(arrOf st).map (·.2)),toks:=s.toks }:=by
  refine Inv.step (s:={ s with heap:=h1,toks:=s.toks }) I1' (g':=s.gens) (d':=s.drawn) (ch:=[a]) (fun b hb=>?_) (fun b o _ _ hc e _=>(s2.2 b (fun z=>hc (by simp[z]))).trans e) (fun b o _ _ hc e _=>⟨o.slots,(s2.2 b (fun z=>hc (by simp[z]))).trans e⟩)
   (fun b o hc e n=>by rw[Ar (fun z=>hc (by simp[z]))];exact n) (fun b o hc e=>⟨o,(s2.2 b (fun z=>hc (by simp[z]))).trans e⟩) (fun b xs e=>by rw[Ar (nit b _ e)];exact e) (fun b o u e=>by rw[Ar (nit b _ e)];exact e)
   (fun b ps e=>⟨#[],by rw[Ar (nit b _ e),e];simp⟩) (fun m hm=>hm.sameBut s2 (Ne.symm aL)) (fun b u e=>?_) I1'.bare
  ·have e:b=a:=by simpa using hb
   rw[e]
   exact⟨.inr a0,aL,aC,aP⟩
  ·by_cases hb:b=a
   ·rw[hb,Ad] at e
    cases e
    rw[hb]
    exact⟨by rw[Av];omega,((arrOf st).map (·.2)).toList,c2,Kw o1,hc2⟩
   ·rw[Ar hb] at e
    refine(I1'.hok b u e).stay (fun c v hc q=>(s2.2 c ?_).trans q) (fun c q=>by rw[Ar (nit c _ q)];exact q) fun c xs q=>by rw[Ar (nit c _ q)];exact q
    rcases hc with z | z
    ·rw[z];exact hb
    ·exact nit c _ z
 refine k _ _ ns' (fun b o h=>?_) hHa Ad o2 o3 J
 rw[Ar (fun z=>by rw[z,hHa] at h;cases h),Ar (fun z=>by rw[z,hkS] at h;cases h)]
 exact h
theorem Aeo{H:Hp}{s:Shared}{keys:Array Value}(hi:IntsAre items ns)(inc:ns.Pairwise (·<·))(h64:ns.length<64)(hk:IntsAre keys.toList (ns.map g))
  (I:Inv X ((a,seqObj "list" #[] e1)::pins) σ (upd H kS (.lst (vI (ns.map g)))) s) (hkS:H kS=none) (a0:X.s₀.heap.objs.size≤a) (aC:∀ x c,X.env.cells.lookup x=some c→c≠a) (aP:∀ p∈X.pn++pins,p.1≠a)
  (k:∀(H':Hp) (s':Shared) (ns':List Int),An H H'→H a=none→H' a=some (.lst (vI ns'))→ns'.Perm ns→ns'.Pairwise (fun x y=>g x<g y∨(g x=g y∧x<y))→Inv X pins σ H' s'→Pst (.done (.ret .none)) s') :
  wpAny (model X.prog X.w) A (ksk_end a false items.toArray e1 (.ref kS) keys) Pst E s:=by
 have h1:=hi.length
 have hsz:keys.size=items.length:=by
  have h2:=hk.length
  rw[Array.length_toList,AkA] at h2
  omega
 have hzs:(keys.zip items.toArray).size=items.length:=by rw[Array.size_zip,hsz,AkB,Aml]
 unfold ksk_end
 try dsimp only
 simp only [Ali,if_false]
 by_cases h2:items.toArray.size<2
 ·rw[if_pos h2,if_pos h2]
  refine wpAny_bind (wpAny_pure ?_)
  rw[StateT.run_pure]
  refine wpAny_bind (wpAny_pure ?_)
  try dsimp only
  refine YS (st:=SortSt.mk' general' (keys.zip items.toArray) #[] 7 none) hi h64 hk I hkS a0 aC aP (Array.Perm.refl _) ?_ rfl k
  intro i j hij hj
  have hj2:j<(keys.zip items.toArray).size:=hj
  rw[hzs] at hj2
  rw[AkB] at h2
  omega
 ·rw[if_neg h2,if_neg h2]
  rw[AkB] at h2
  rw[ksk_kind hk (by rw[hsz];omega)]
  refine wpAny_bind (wpAny_pure ?_)
  refine wpAny_bind (wpAny_mono (Stab.YM (a₀:=keys.zip items.toArray) (st:=SortSt.mk' oneType' (keys.zip items.toArray) #[] 7 none)
   (Q:=fun _ st'=>(arrOf st').Perm (keys.zip items.toArray)∧failedOf st'=none∧Stab.St (arrOf st') (keys.zip items.toArray).size)
   (ksk_intKeys hk) (Aen hi inc hsz) ⟨Array.Perm.refl _,rfl,rfl,rfl⟩ rfl (by rw[hzs];omega) (by rw[hzs];omega) fun st' a1 a2 a3=>⟨a1,a2,a3⟩) ?_ fun _ _ e=>e)
  rintro⟨⟨⟩,st'⟩ s' ⟨rfl,hp,hf,hs⟩
  try dsimp only
  exact YS hi h64 hk I hkS a0 aC aP hp (by rw[hp.size_eq];exact hs) hf k
theorem AcA{H:Hp}{s:Shared}{n0:Nat}(I:Inv X pins σ H s)(ha:H a=none)(hoa:s.heap.get? a=some (seqObj "list" items.toArray n0)) (a0:X.s₀.heap.objs.size≤a) (aL:a≠X.env.locals) (aF:a∉X.fs)
  (aC:∀ x c,X.env.cells.lookup x=some c→c≠a) (aP:∀ p∈X.pn++pins,p.1≠a) (hi:IntsAre items ns) (inc:ns.Pairwise (·<·)) (h64:ns.length<64)
  (turn:∀(z:Int) (t:Tok) (pl:List (Addr × Obj)) (H':Hp) (s':Shared),z∈ns→An H H'→Inv X (pl++pins) σ H' s' →
   wpAny (model X.prog X.w) A (call (.ref f) [.int z t]) (fun u s''=>(∃ t',u=.int (g z) t')∧Inv X (pl++pins) σ H' s'') (fun _ _=>False) s')
  (k:∀(H':Hp) (s':Shared) (ns':List Int),An H H'→H a=none→H' a=some (.lst (vI ns'))→ns'.Perm ns→ns'.Pairwise (fun x y=>g x<g y∨(g x=g y∧x<y))→Inv X pins σ H' s'→Pst (.done (.ret .none)) s') :
  wpAny (model X.prog X.w) A (ksk_tree a (.ref f) false) Pst E s:=by
 have hsz:sizeLine=16777216:=sizeLine_eq
 have hl:=hi.length
 have s1:=Heap.SameBut.update s.heap a (Obj.mapSeq fun _=>(#[]:Array Value))
 obtain⟨e1,ho1⟩:∃ e1,(s.heap.update a (Obj.mapSeq fun _=>(#[]:Array Value))).get? a=some (seqObj "list" #[] e1):=⟨_,get?_update_seq hoa fun _=>#[]⟩
 have alt:a<s.heap.objs.size:=Heap.lt_size hoa
 unfold ksk_tree
 refine wpAny_bind (listItems_at hoa rfl ?_)
 refine wpAny_bind (listUpdate_at hoa rfl ?_ (by rw[AkB];omega) (AkD _))
 refine wpAny_bind (seqEpoch_at ho1 rfl ?_)
 refine wpAny_bind (wpAny_newTuple ?_ (by show items.length≤_;omega))
 refine wpAny_bind (wpAny_newList ?_ (AkD _))
 refine wpAny_holding ?_
 have I1:Inv X pins σ H { s with heap:=s.heap.update a (Obj.mapSeq fun _=>(#[]:Array Value)),toks:=s.toks }:=I.turned (it:=a) (fun b o hb e=>(s1.2 b hb).trans e) ha aL (.inr a0) aC aP
 have I2:Inv X pins σ H { s with heap:=(s.heap.update a (Obj.mapSeq fun _=>(#[]:Array Value))).push (seqObj "tuple" items.toArray 0),toks:=s.toks }:=I1.kept (t':=s.toks) fun b u e=>Heap.get?_push_of_some _ e
 have I3:=I2.AfQ (its:=[]) (ys:=[]) (t':=s.toks) .nil (AkD _)
 have ho3:=Heap.get?_push_of_some { cls:=.type "list", data:=.seq ([]:List Value).toArray } (Heap.get?_push_of_some (seqObj "tuple" items.toArray 0) ho1)
 have hkn:=I2.fresh
 dsimp only at I3 ho3 hkn ⊢
 generalize hkS:((s.heap.update a (Obj.mapSeq fun _=>(#[]:Array Value))).push (seqObj "tuple" items.toArray 0)).objs.size=kS at I3 hkn ⊢
 have hak:a≠kS:=by
  rw[← hkS,size_push',Heap.size_update]
  exact AkF (AlT alt)
 have I4:Inv X ((a,seqObj "list" #[] e1)::pins) σ (upd H kS (.lst (vI ((ns.map g).take 0)))) { s with heap:=((s.heap.update a (Obj.mapSeq fun _=>(#[]:Array Value))).push (seqObj "tuple" items.toArray 0)).push { cls:=.type "list", data:=.seq ([]:List Value).toArray },toks:=s.toks } :=
  I3.HD fun p hp=>by
   rcases List.mem_cons.mp hp with rfl | hp
   ·exact⟨ho3,by rw[Ar hak];exact ha,aL,aF,fun v z=>by cases z⟩
   ·exact I3.pin p (AkU _ hp)
 have Ah6:∀ l,An H (upd H kS (.lst l)):=fun l b o h=>by rw[Ar (fun z=>by rw[z,hkn] at h;cases h)];exact h
 unfold ksk_rest
 refine wpAny_bind (wpAny_rule ?_)
 first
  | rw[List.forIn_toArray]
  | (rw[← Array.forIn_toList];simp only [List.toList_toArray])
  | rw[← Array.forIn_toList]
 refine wpAny_bind (ksk_fold (fun i s'=>Inv X ((a,seqObj "list" #[] e1)::pins) σ (upd H kS (.lst (vI ((ns.map g).take i)))) s') items 0 _ I4 ?step ?done)
 case step =>
  rintro j x s' hx J
  simp only [Alx] at J ⊢
  have hj:j<items.length:=(List.getElem?_eq_some_iff.mp hx).1
  obtain⟨z,t,rfl,hz⟩:=hi.at j x hx
  refine wpAny_bind (wpAny_attempt (wpAny_mono (turn z t [(a,seqObj "list" #[] e1)] _ s' (AkQ hz) (Ah6 _) J) (fun u s'' he=>?_) fun _ _ hF=>hF.elim))
  obtain⟨⟨t',rfl⟩,J2⟩:=he
  try dsimp only
  obtain⟨_,its,n,rv,hl2,gk⟩:=J2.WD (l:=kS) Ad
  have hil:its.length≤ns.length:=by
   rw[← hl2,Av,AkO,AkA]
   exact Nat.min_le_right _ _
  refine wpAny_bind (listUpdate_at gk rfl ?_ (by rw[AkB];omega) (AkS (AlS (Array.size_push ..)) (by rw[AkB];omega)))
  refine wpAny_pure ⟨rfl,?_⟩
  have ek:(ns.map g).take (j+1)=(ns.map g).take j++[g z]:=by rw[AlD,AkG,hz];rfl
  have J3:=J2.AdX (its':=its++[.int (g z) t']) (ys:=vI ((ns.map g).take (j+1))) (f:=(·.push (.int (g z) t'))) (t':=s''.toks) Ad gk (by simp) (by
   rw[ek]
   unfold vI
   rw[AkP]
   exact rv.append (.cons ⟨t',rfl⟩ .nil)) (by rw[Av,AkO,AkA];have:=Nat.min_le_right (j+1) ns.length;omega)
  rw[AaD] at J3
  exact J3
 case done =>
  rintro s' J
  have e3:(ns.map g).take (0+items.length)=ns.map g:=AkZ (by rw[AkA];omega)
  rw[e3] at J
  obtain⟨_,its,n,rv,hl2,gk⟩:=J.WD (l:=kS) Ad
  try dsimp only
  refine wpAny_bind (listItems_at gk rfl ?_)
  exact Aeo hi inc h64 (by simpa using intsAre_of rv) J hkn a0 aC aP k
end
open PySem PySem.Spec PyProof.Rows
section
variable {X:Cx}{K:PySem.W.Frag}
def AcB (K:PySem.W.Frag)(P:Addr)(q:Str)(j:Nat)(te:TE):TE:=fun σ H Q=>te σ H fun x H1=>∃(p:Addr) (lo hi:Int) (n:Nat) (a:Addr) (ks:List Int),x=.ref p∧H1 p=some (Aag p lo hi 1)∧Builtin.Range.small lo hi 1=true ∧
 Builtin.Range.rangeSize lo hi 1=(n:Int)∧n<64∧σ[j]?=some (some (.ref a))∧SqL K H1 a (vI ks)∧0≤lo∧lo.toNat+n≤ks.length∧Tb P q H1 ∧
 ∀ l H2 ns',El H1 H2→Tb P q H2→H1 l=none→H2 l=some (.lst (vI ns'))→ns'.Perm (Uo lo 1 n) →
  ns'.Pairwise (fun x y => -(ks.getD x.toNat 0) < -(ks.getD y.toNat 0)∨(-(ks.getD x.toNat 0) = -(ks.getD y.toNat 0)∧x<y))→Q (.ref l) H2
theorem AcC(lo:Int)(n:Nat):(Uo lo 1 n).Pairwise (·<·):=by
 unfold Uo
 rw[AkX]
 exact List.pairwise_lt_range.imp fun {a b} h=>by omega
theorem Ra(lo:Int)(n:Nat):(Uo lo 1 n).length=n:=by unfold Uo;rw[AkA,AkC]
theorem AbJ{lo:Int}{n:Nat}{acc:Array Value}(h:ItemsOf (fun i v=>∃ t,v=.int (lo+i*1) t) acc n):IntsAre acc.toList (Uo lo 1 n):=by
 refine intsAre_of (YC _ _ (by rw[AkA,Ra,Array.length_toList,h.1]) fun i x u e1 e2=>?_)
 obtain⟨z,hz1,rfl⟩:=Xd e1
 obtain⟨t',rfl⟩:=h.2 i u (by rw[← Array.getElem?_toList];exact e2)
 have hin:i<n:=by
  have:=(List.getElem?_eq_some_iff.mp e1).1
  rwa [AkA,Ra] at this
 unfold Uo at hz1
 rw[AkG,Alr hin] at hz1
 cases hz1
 exact⟨t',rfl⟩
theorem AcD{scope:Scope}{env:Env}{x nm:Str}{cc:Addr}(hnames:scope.names=[(x,.local),(nm,.free)])(hcc:env.cells.lookup nm=some cc):closureFor scope env=pure [(nm,cc)]:=by
 have hc:cellOf env nm=pure cc:=by unfold cellOf;rw[hcc]
 unfold closureFor
 rw[hnames]
 simp only [Amj,List.forIn_nil,hc,pure_bind,show(NameKind.local == NameKind.free)=false from rfl,show(NameKind.free == NameKind.free)=true from rfl,if_true,if_false,Ali]
theorem UJ{P c:Addr}{q x nm:Str}{j:Nat}{e:Expr}{te:TE}{p1 pos kp Ael b1 b2 b3 b4:Pos}{params:Arguments}{scope:Scope}
  (hg:Gl X "sorted") (hm:X.mg "sorted" = none) (he:PE X e te) (C:PySem.W.CodeHd X.base c P) (B:Bm X.mg X.base) (hr:Ib 2 X.A) (hcode:X.env.code=.ref c:=by rfl) (hq:X.env.qual ++ "<lambda>" = q:=by rfl)
  (hN:X.N[j]?=some nm:=by rfl) (hkd:X.env.kindOf nm=some .cell:=by rfl) (hnames:scope.names=[(x,.local),(nm,.free)]:=by rfl) (hxn:x≠nm:=by decide) (hkind:scope.kind=.function:=by rfl) (hco:scope.isCoroutine=false:=by rfl) (hgen:scope.isGenerator=false:=by rfl)
  (hdef:defaultsOf params X.env=([],[]):=by rfl)
  (hbind:∀(cc c':Addr) (pm ctv w:Value),bindArgs (PySem.W.kla_fn "<lambda>" q params (.UnaryOp .USub (.Subscript (.Name nm b1) (.Name x b2) b3) b4) scope [(nm,cc)] pm (.ref c') ctv) ⟨[w],[]⟩=pure [(x,w)]:=by intros;rfl)
  (hd1:(x == ("__debug__" : Str))=false:=by decide) (hd2:(x == ("__classdict__" : Str))=false:=by decide) (hd3:(nm == ("__debug__" : Str))=false:=by decide) (hd4:(nm == ("__classdict__" : Str))=false:=by decide)
  (hK:X.K=K:=by rfl) (hc:X.calm=true:=by rfl)
  (hs:backTo pos (starEach [e] X.env)=(false,eval e X.env)::backTo pos (starEach [] X.env):=by rfl)
  (hplain:(backTo pos (starEach [e] X.env)).any (·.1)=false:=by rfl) :
  PE X (.Call (.Name "sorted" p1) [e] [⟨some "key", .Lambda params (.UnaryOp .USub (.Subscript (.Name nm b1) (.Name x b2) b3) b4) scope Ael,kp⟩] pos) (AcB K P q j te):=by
 subst hK
 intro pins s σ H Q I h
 have hsz:sizeLine=16777216:=sizeLine_eq
 refine wpAny_Call_Name_kw (HY I hg hm O8 ?_ (by decide) (by decide))
 refine callWith_kw ?_ hs hplain rfl rfl
 rw[hs]
 refine Calls.spliced_cons (thn (he pins s σ H _ I h) fun u s1 ⟨y,H1,I1,r1,q1⟩=>Calls.spliced_nil ?_)
 obtain⟨p,lo,hi,n,a,ks,rfl,hp,hsm,hn,h64,hσ,hS,h0,hlen,tb,k⟩:=q1
 cases r1
 obtain⟨cc,hcc⟩:=I1.ok.has nm (.inl hkd)
 refine kws_cons (Ac8 I1 tb hcode C B hq hdef (AcD hnames hcc) fun f c' pm ctv H2 s2 t2 tb2 hc2 hz2 I2=>kws_nil ?_)
 show wpAny _ _ (call (.builtin "sorted") [.ref p] [(Str.ofString "key", .ref f)]) _ _ _
 refine call_function_entry_kw kind_sorted plain_sorted entry_sorted (ksk_s1 _ _) ?_
 unfold Builtin.«sorted»
 refine wpAny_bind (m:=checkCount "sorted" 1 1 _) (wpAny_pure ?_)
 obtain⟨⟨t,u,v,hrg⟩,_,_⟩:=I2.hok p _ (t2.ext hp)
 refine wpAny_bind (YQ (I2.ok.hd hc) hrg hsm hn (by omega) fun h3 tk3 acc hk3 hz3 hit=>?_)
 have hi3:=AbJ hit
 have hl3:acc.toList.length=n:=by rw[hi3.length,Ra]
 refine wpAny_bind (wpAny_newList ?_ (by omega))
 have I3:=I2.kept (t':=tk3) (h':=h3.push { cls:=.type "list", data:=.seq acc.toList.toArray }) fun b u e=>Heap.get?_push_of_some _ (hk3 b u e)
 have hoL:(h3.push { cls:=.type "list", data:=.seq acc.toList.toArray }).get? h3.objs.size=some (seqObj "list" acc.toList.toArray 0):=Heap.get?_push_size _ rfl
 have hge:s2.heap.objs.size≤h3.objs.size:=hz3
 have fr2:H2 h3.objs.size=none:=I2.hok.fresh hge
 have fr1:H1 h3.objs.size=none:=I1.hok.fresh (AkS hz2 hge)
 refine wpAny_bind (wpAny_holding (wpAny_call_entry_kw slot_list_sort ⟨_,hoL,rfl⟩ entry_list_sort ?body (ksk_l1 _ _)))
 case body =>
  show wpAny (model X.prog X.w) X.A.in1.in1 (Builtin.«list.sort» ⟨[.ref h3.objs.size],[(Str.ofString "key", .ref f)]⟩) _ _ _
  rw[ksk_t1]
  refine AcA (g:=fun z => -(ks.getD z.toNat 0)) I3 fr2 hoL (AkS I2.sz hge) (Alp (AkK I2.lt hge)) (I2.Af7 hge) (fun z c e=>?_) (fun pp hpp=>?_) hi3 (AcC lo n) (by rw[Ra];exact h64)
   (fun z t pl H' s' hz sm J=>?_) fun H4 s4 ns' sm ha ha4 pm4 pw4 I4=>⟨_,rfl,?_⟩
  ·obtain⟨v,hv⟩:=I2.cell z c e
   exact AkF (AkK hv.lt hge)
  ·exact AkF (AkK (Heap.lt_size (I2.pin pp hpp).1) hge)
  ·obtain⟨i,hin,ez⟩:∃ i:Nat,i<n∧z=lo+i:=by
    unfold Uo at hz
    obtain⟨i,hi1,hi2⟩:=List.mem_map.mp hz
    exact⟨i,List.mem_range.mp hi1,by omega⟩
   have hzl:z.toNat<ks.length:=by omega
   have hx2:scope.names.lookup nm=some .free:=by rw[hnames,AkY,beq_false_of_ne (Ne.symm hxn)];simp
   have hx1:scope.names.lookup x=some .local:=by rw[hnames];simp
   refine wpAny_mono (Ac9 (y:=.int z) (v:=.ref a) (Q:=fun v H''=>v=.int (-(ks.getD z.toNat 0))∧H''=H') J I.ok.frames (I.ok.hd hc) (by have:=hr.dp;show X.A.depth<_;omega)
    (AkU _ AkM) (sm _ _ hc2) hN hσ hkd hcc hnames hxn hkind hco hgen (hbind cc c' pm ctv) ⟨t,rfl⟩
    (fun env s H hes=>Ahe AfD (Aq (Ah (K:=X.K)) (ZR (i:=1) rfl (.inr (.inr (by show env.scope.names.lookup nm=_;rw[hes];exact hx2))) hd3 hd4) (ZR (i:=0) rfl (.inl (by show env.scope.names.lookup x=_;rw[hes];exact hx1)) hd1 hd2) (fun _ _=>rfl)))
    ⟨_,rfl,_,rfl,a,vI ks,z,.int (ks.getD z.toNat 0),rfl,rfl,sm.seq (t2.seq hS),?_,_,rfl,rfl,rfl⟩) (fun u s'' ⟨v,H'',J2,rv,ev,eh⟩=>?_) fun _ _ z=>z
   ·refine Bb (by omega) ?_
    unfold vI
    rw[AkG,Ak9 hzl,AkH,Ak9 hzl]
    rfl
   ·subst ev eh
    exact⟨rv,J2⟩
  ·refine wpAny_pure ⟨_,rfl,.ref h3.objs.size,H4,I4.HD fun pp hpp=>I4.pin pp (AkU _ (AkN _ hpp)),rfl,?_⟩
   exact k _ H4 ns' (t2.trans sm.toT) (tb2.same sm) fr1 ha4 pm4 pw4
end
open PySem PySem.Spec PyProof.Rows
theorem Age{K:PySem.W.Frag}{x:Str}{f c P:Addr}{fd:FuncData}{oc o1:Value}{od o2:Option Addr}{osl o3:Array (Option Value)}{vs:Array Value}(hn:PySem.W.nsIn K mainGlobals x=some (some (.ref f)))
  (lk:K.lookup f=some ⟨oc,od,.func fd,osl⟩) (hc:fd.code=.ref c) (lc:K.lookup c=some ⟨o1,o2,.fields vs,o3⟩) (hv:(vs[11]?:Option Value)=some (.ref P)):PySem.W.tabIn K x=some (c,P):=by
 unfold PySem.W.tabIn
 rw[hn]
 simp only [lk,hc,lc,hv]
theorem Fun.okC{P:Program}{w:World}{K:PySem.W.Frag}{mg:Str→Option Value}{base:Heap}{x qual:Str}{st:Stmt}{f c:Addr}{fd:FuncData}{N ps:List Str}{k:Nat}{sp:Sp}(F:Fun K x qual st f fd)(hc:fd.code=.ref c)(S:Br N ps (Ae st))
  (len:∀ vs H Q E,sp vs H Q E→vs.length=ps.length)
  (hbody:∀(A:Around) (outer:List Env) (s:Shared) (H:Hp) (vs:List V) (Q:VK) (E:XK),Ib k (A.deeper (envOfC qual (Ae st) s.heap.objs.size f (.ref c)))→sp vs H Q E →
   ∃ t,PSs (W5 CX0 P w K mg base N qual (Ae st) f (.ref c) A outer s H E).nox (Al st) t∧t { nx:=fun _ H'=>Q .non H',rt:=Q } (start N vs) H):BK P w K mg base CX0 (k+1) f fd ps sp:=by
 obtain⟨oc,od,kV,doc,pm,an,cdv,ct,osl,rfl,lk,hcd⟩:=F.ex
 have e:cdv=.ref c:=hc
 subst e
 refine Afb lk hcd S len fun A outer s H vs Q E hr hsp=>?_
 obtain⟨t,h,q⟩:=hbody A outer s H vs Q E hr hsp
 exact⟨t,h.nox,q⟩
theorem AbK{P:Program}{w:World}{K:PySem.W.Frag}{mg mb:Str→Option Value}{CX:CXT}{k:Nat}{fa a c T:Addr}{q:Str}{fd:FuncData}{x:Str}{sp:Sp}{s₁:Shared}{vs:List Value}{ns:List Int}
  (KX:K.In s₁.heap) (hns:s₁.heap.Ns mainGlobals mg) (hb:s₁.heap.Ns builtinsNs mb) (hbb:∀ x:Str,x ≠ "__name__" → mb x=bootBuiltins x) (hlim:s₁.heap.NoLimit) (hg:s₁.gens=#[])
  (ha:s₁.heap.get? a=some { cls:=.type "list", data:=.seq vs.toArray }) (hi:IntsAre vs ns) (hl:ns.length≤sizeLine) (hr:Ib k callerA)
  (hC:PySem.W.CodeHd s₁.heap c T) (hT:s₁.heap.get? T=some (PySem.W.tabObj #[])) (hKT:K.lookup T=none) (hbm:Bm mg s₁.heap)
  (F:∀ base:Heap,K.In base→base.Ns mainGlobals mg→PySem.W.CodeHd base c T→Bm mg base→BK P w K mg base CX k fa fd [x] sp) (hbind:∀(s:Shared) (u:Value),BindsTo s fd ⟨[u],[]⟩ [(x,u)])
  (hsp:∀ H:Hp,SqL K H a (ns.map V.int)→Tb T q H→sp [.ref a] H (fun v _=>v=.bl true) fun _ _ _=>False)
  (hCX:∀ H e s',CX [] H s₁ (fun _ _ _=>False) e s'→False) :
  codeAny (model P w) callerA (.call (.ref fa) ⟨[.ref a],[]⟩) (fun r s'=>r=.ok (.ret (.bool true))∧OldK s₁.heap s'.heap∧s'.os=s₁.os∧AllBare s'.gens) s₁:=by
 have rv:=Kw hi
 have lenV:=hi.length
 have aT:a≠T:=fun e=>by rw[e,hT] at ha;cases ha
 have core:∀ H:Hp,H T=some (.tbl #[])→(∀ b u,H b=some u→b=T∨(b=a∧∃ o xs,u=.frz o (.lst xs)))→SqL K H a (ns.map V.int)→HOk P w H s₁.heap→(H a≠none→K.lookup a=none) →
   codeAny (model P w) callerA (.call (.ref fa) ⟨[.ref a],[]⟩) (fun r s'=>r=.ok (.ret (.bool true))∧OldK s₁.heap s'.heap∧s'.os=s₁.os∧AllBare s'.gens) s₁:=by
  intro H hHT hA hS hok hK
  have KY:∀{b:Addr} {o:Obj},s₁.heap.get? b=some o→H b=none→(Pu s₁.heap H).get? b=some o:=fun e n=>Yt e n
  have noA:∀{b:Addr} {o:Obj},s₁.heap.get? b=some o→o.cls≠.type "list" ∨ (∃ es ep,o.data=.dict es ep)→o.cls≠.none∨(∃ es ep,o.data=.dict es ep)→H b=none:=fun {b o} e d d2=>by
   cases q:H b with
   | none=>rfl
   | some u =>
    exfalso
    rcases hA b u q with e' | ⟨e',_⟩
    ·rw[e',hT] at e
     cases e
     rcases d2 with d2 | ⟨es,ep,d2⟩
     ·exact d2 rfl
     ·have d':Data.fields _=Data.dict es ep:=d2
      cases d'
    ·rw[e',ha] at e
     cases e
     rcases d with d | ⟨es,ep,d⟩
     ·exact d rfl
     ·have d':Data.seq vs.toArray _=Data.dict es ep:=d
      cases d'
  have nsK:∀{b:Addr} {m:Str→Option Value},s₁.heap.Ns b m→(Pu s₁.heap H).Ns b m:=fun {b m} ⟨o,es,ep,e,d,r⟩=>⟨o,es,ep,KY e (noA e (.inr ⟨es,ep,d⟩) (.inr ⟨es,ep,d⟩)),d,r⟩
  have hKb:K.In (Pu s₁.heap H):=fun b o e=>KY (KX b o e) (by
   cases q:H b with
   | none=>rfl
   | some u =>
    exfalso
    rcases hA b u q with e' | ⟨e',_⟩
    ·rw[e',hKT] at e;cases e
    ·rw[e',hK (by rw[← e',q];simp)] at e;cases e)
  have hM:Mod K mg (Pu s₁.heap H):=⟨hKb,nsK hns,⟨mb,nsK hb,hbb⟩,let ⟨mc,h1,h2⟩:=hlim;⟨mc,nsK h1,h2⟩⟩
  have hCb:PySem.W.CodeHd (Pu s₁.heap H) c T:=by
   obtain⟨o,vs',file,tf,flags,tg,inF,text,tt,e1,r1,r⟩:=hC
   exact⟨o,vs',file,tf,flags,tg,inF,text,tt,KY e1 (noA e1 (.inl (by rw[r1];decide)) (.inl (by rw[r1];intro z;cases z))),r1,r⟩
  have hBb:Bm mg (Pu s₁.heap H):=by
   obtain⟨bm,ob,b1,b2,b3,b4,r⟩:=hbm
   exact⟨bm,ob,b1,b2,KY b3 (noA b3 (.inl (by rw[b4];decide)) (.inl (by rw[b4];intro z;cases z))),b4,r⟩
  have e0:Acn P w K mg (Pu s₁.heap H) callerA [] s₁ H:=⟨rfl,hM,fun b o e=>AaE e,AlS (We _ _),trivial,fun b hb=>absurd (show b∈([]:List Addr) from hb) (by simp),hok,.of_eq hg⟩
  have tb:Tb T q H:=⟨#[],hHT,trivial,fun pos cv e=>by cases e⟩
  refine codeAny_mono ((F _ hKb (nsK hns) hCb hBb).run callerA [] s₁ H ⟨[.ref a],[]⟩ [.ref a] [.ref a] _ _ hr e0 (hbind s₁ (.ref a)) (.cons rfl .nil) (hsp H hS tb)) fun r s' h=>?_
  cases r with
  | error e=>exact(hCX H e s' h).elim
  | ok fl =>
   cases fl with
   | next=>exact False.elim h
   | brk=>exact False.elim h
   | cont=>exact False.elim h
   | ret u =>
    obtain⟨v,H',os,bare,un,hok',r',q'⟩:=h
    have q2:v=.bl true:=q'
    subst q2
    obtain rfl:u=Value.bool true:=r'
    refine⟨rfl,⟨fun b o e=>?_,fun b o e=>un.there b o e (by simp)⟩,os,bare⟩
    cases q:H b with
    | none=>exact .inl (un.keep b o e q (by intro z;exact absurd (show b∈([]:List Addr) from z) (by simp)) (by simp))
    | some u =>
     rcases hA b u q with z | ⟨z,ob,xs,zu⟩
     ·subst z
      obtain⟨more,e2⟩:=un.QM b #[] hHT
      have e3:s'.heap.get? b=some (PySem.W.tabObj (#[]++more)):=hok' b _ e2
      rw[hT] at e
      cases e
      exact .inr (.inl ⟨(hC.tab hT).isCodeTable,rfl,#[],more,rfl,e3⟩)
     ·subst zu
      have z2:=un.Pr b ob _ q
      obtain⟨e1,_⟩:=hok b _ q
      obtain⟨e2,_⟩:=hok' b _ z2
      rw[e] at e1;cases e1
      exact .inl e2
 cases hk:K.lookup a with
 | some o =>
  have e:=KX a o hk
  rw[ha] at e
  cases e
  refine core (fun b=>if b=T then some (.tbl #[]) else none) (if_pos rfl) (fun b u z=>?_) (.inr ⟨_,vs.toArray,_,hk,rfl,rfl,rfl,by rw[AkB,lenV];exact hl,by simpa using rv⟩) (fun b u z=>?_) fun z=>absurd (if_neg aT) z
  ·by_cases hb:b=T
   ·exact .inl hb
   ·have z':=(if_neg hb).symm.trans z
    cases z'
  ·by_cases hb:b=T
   ·have z':=(if_pos hb).symm.trans z
    cases z'
    rw[hb]
    exact hT
   ·have z':=(if_neg hb).symm.trans z
    cases z'
 | none =>
  refine core (fun b=>if b=T then some (.tbl #[]) else if b=a then some (.frz { cls:=.type "list", data:=.seq vs.toArray } (.lst (ns.map V.int))) else none) (if_pos rfl) (fun b u z=>?_)
   (.inl (.inr ⟨{ cls:=.type "list", data:=.seq vs.toArray },(if_neg aT).trans (if_pos rfl)⟩)) (fun b u z=>?_) fun _=>hk
  ·by_cases hb:b=T
   ·exact .inl hb
   ·have z':=(if_neg hb).symm.trans z
    by_cases hb2:b=a
    ·have z2:=(if_pos hb2).symm.trans z'
     exact .inr ⟨hb2,_,_,(Option.some.inj z2).symm⟩
    ·have z2:=(if_neg hb2).symm.trans z'
     cases z2
  ·by_cases hb:b=T
   ·have z':=(if_pos hb).symm.trans z
    cases z'
    rw[hb]
    exact hT
   ·have z':=(if_neg hb).symm.trans z
    by_cases hb2:b=a
    ·have z2:=(if_pos hb2).symm.trans z'
     cases z2
     rw[hb2]
     exact⟨ha,by rw[AkA];exact hl,vs,_,rv,ha⟩
    ·have z2:=(if_neg hb2).symm.trans z'
     cases z2
theorem AcE{l:PySem.W.OpenLaw}{n k:Nat}{q:Program}{loose:List Str}{XP:(Str→Option Value)→Heap→Prop}{YP:World→Heap→Prop}{d d':DefRec}{K:Params→PySem.W.Frag}{CX:CXT}{sp:PySem.W.Frag→Addr→Sp}{x y qn:Str}
  (hn:l.most=some n) (hn2:n≤sizeLine) (hdf:d.params.defaults=[]) (hr:Ib k callerA)
  (hY:∀(w:World) (h:Heap),YP w h→(K w.params).In h) (hrec:(recsOf q).find? (fun e=>e.name == y)=some d')
  (F:∀(w:World) (mg:Str→Option Value) (fa:Addr) (h:Heap),(K w.params).In h→h.Ns mainGlobals mg→mg d.name=some (.ref fa) →
   ∃(fd:FuncData) (c T:Addr),(∀(s:Shared) (u:Value),BindsTo s fd ⟨[u],[]⟩ [(x,u)])∧PySem.W.tabIn (K w.params) y=some (c,T)∧PySem.W.noTabs (K w.params)=true ∧
    ∀ base:Heap,(K w.params).In base→base.Ns mainGlobals mg→PySem.W.CodeHd base c T→Bm mg base→BK l.prog w (K w.params) mg base CX k fa fd [x] (sp (K w.params) T))
  (hsp:∀(K:PySem.W.Frag) (T:Addr) (H:Hp) (a:Addr) (ns:List Int),ns.length≤n→SqL K H a (ns.map V.int)→Tb T qn H→sp K T [.ref a] H (fun v _=>v=.bl true) fun _ _ _=>False)
  (hCX:∀(H:Hp) (s:Shared) (e:Value) (s':Shared),CX [] H s (fun _ _ _=>False) e s'→False) :
  PySem.W.WalkO q loose XP YP l.row.toRowW d [] (fun f vs=>PySem.call f vs):=by
 refine Att.T9 hn hdf fun w s₀ s₁ mg mb fa o pm cd doc a vs ns G Y ho hd hcd hmg hobj hints hlen hg=>?_
 have KX:=hY w _ Y
 obtain⟨fd,c,T,hb,hT,Ajb,hF⟩:=F w mg fa _ KX G.T.g hmg
 obtain⟨hC,hT2⟩:=PySem.W.tab_of G.T KX hrec hT
 have hKT:(K w.params).lookup T=none:=by
  cases e:(K w.params).lookup T with
  | none=>rfl
  | some o =>
   exfalso
   have h1:=KX T o e
   rw[hT2] at h1
   cases h1
   have h2:=List.all_eq_true.mp Ajb (T,PySem.W.tabObj #[]) (PySem.W.mem_of_lookupK e)
   exact absurd (show false=true from h2) AkL
 exact AbK KX G.T.g G.T.b G.T.builtins G.T.nolimit hg hobj hints (AkS hlen hn2) hr hC hT2 hKT G.T.bmain hF hb (fun H hS tb=>hsp _ T H a ns hlen hS tb) fun H e s'=>hCX H s₁ e s'
end L2
namespace Mine
open PySem L2
def Sg (c:Nat):Prop:=c=35∨c=46
structure Cl (cl:List (List Nat)) (m n:Nat):Prop where
 hn:cl.length=n
 hm:∀ t∈cl,t.length=m
 sg:∀ t∈cl,∀ c∈t,Sg c
 m1:1≤m
 m40:m≤40
 n1:1≤n
 n40:n≤40
def flip(c:Nat):Nat:=if c=35 then 46 else 35
def back(cl:List (List Nat)):List (List Nat):=cl.map fun t=>t.reverse.map flip
def col (cl:List (List Nat))(e:Nat):List Nat:=cl.map fun t=>t.getD e 0
def AjM (cl:List (List Nat))(m:Nat):List (List Nat):=(List.range m).map fun e=>(col cl e).map flip
def sgn (cl:List (List Nat))(m n:Nat)(x y:Int):Nat:=(cl.getD (y%(n:Int)).toNat []).getD (x%(m:Int)).toNat 0
def met (st ln c s:Int):Int:=ln / c+(if (s-st)%c<ln%c then 1 else 0)
def Agf (f:Nat→Int):Nat→Int
 | 0=>0
 | k+1=>Agf f k+f k
def Agg (g:Nat→Int)(st:Int)(c:Nat):Nat→Int
 | 0=>0
 | n+1=>Agg g st c n+g ((st+(n:Int))%(c:Int)).toNat
def isH (cl:List (List Nat))(p e:Nat):Int:=if (cl.getD p []).getD e 0=35 then 1 else 0
def Agh (cl:List (List Nat))(m:Nat)(left wide:Int)(p:Nat):Int:=Agf (fun e=>if (cl.getD p []).getD e 0=35 then met left wide (m:Int) (e:Int) else 0) m
def overs(cl:List (List Nat))(m n:Nat)(left first wide high:Int):Int:=Agf (fun p=>Agh cl m left wide p*met first high (n:Int) (p:Int)) n
def cnt (cl:List (List Nat))(m n:Nat)(left first:Int)(wide high:Nat):Int:=Agg (fun p=>Agg (isH cl p) left m wide) first n high
def Dt (cl:List (List Nat))(m:Nat):List Int:=((List.range m).map fun e=>(((col cl e).count 35:Nat):Int))++cl.map fun t=>((t.count 46:Nat):Int)
theorem UL(cl:List (List Nat))(m:Nat):(Dt cl m).length=m+cl.length:=by
 unfold Dt
 rw[AkE,AkA,AkA,AkC]
end Mine
namespace Mine
def sm (f:Nat→Nat):List Nat→Nat
 | []=>0
 | x::l=>f x+sm f l
theorem Ld(f:Nat→Nat):∀ a b:List Nat,sm f (a++b)=sm f a+sm f b
 | [],b=>by simp[sm]
 | x::a,b=>by rw[Amw];show f x+sm f (a++b)=f x+sm f a+sm f b;rw[Ld f a b];omega
theorem Jb(f:Nat→Nat){a b:List Nat}(h:a.Perm b):sm f a=sm f b:=by
 induction h with
 | nil=>rfl
 | cons x _ ih=>show f x+_=f x+_;rw[ih]
 | swap x y l=>show f y+(f x+_)=f x+(f y+_);omega
 | trans _ _ h1 h2=>rw[h1,h2]
theorem Ws(f g:Nat→Nat)(h:∀ x,f x≤g x):∀ l,sm f l≤sm g l
 | []=>Ak8 _
 | x::l=>Nat.add_le_add (h x) (Ws f g h l)
theorem Le(f g:Nat→Nat):∀ l,sm (fun x=>f x+g x) l=sm f l+sm g l
 | []=>rfl
 | x::l=>by show f x+g x+sm _ l=f x+sm f l+(g x+sm g l);rw[Le f g l];omega
theorem Eb(c:Nat):∀ l:List Nat,sm (fun _=>c) l=l.length*c
 | []=>by simp[sm]
 | x::l=>by show c+sm _ l=(l.length+1)*c;rw[Eb c l,AlA];omega
theorem Td(f:Nat→Nat)(h:∀ x,f x≤1)(l:List Nat):sm f l≤l.length:=by
 have:=Ws f (fun _=>1) h l
 rw[Eb] at this
 omega
theorem Xi(f g:Nat→Nat)(h:∀ x,f x=g x)(l:List Nat):sm f l=sm g l:=by rw[funext h]
def b2n (b:Bool):Nat:=if b=true then 1 else 0
theorem Nb(b:Bool):b2n b≤1:=by cases b <;> decide
theorem Aep(b:Bool):b2n b+b2n (!b)=1:=by cases b <;> decide
def aS (up:Nat→Nat→Bool)(n e:Nat):Nat:=sm (fun p=>b2n (up e p)) (List.range n)
def bS (up:Nat→Nat→Bool)(m p:Nat):Nat:=sm (fun e=>b2n (!up e p)) (List.range m)
theorem cross(up:Nat→Nat→Bool)(T:List Nat):∀ S:List Nat,sm (fun e=>sm (fun p=>b2n (up e p)) T) S+sm (fun p=>sm (fun e=>b2n (!up e p)) S) T=S.length*T.length
 | []=>by
  show 0+sm (fun _=>0) T=_
  rw[Eb]
  simp
 | e::S=>by
  have ih:=cross up T S
  have h1:sm (fun p=>sm (fun e=>b2n (!up e p)) (e::S)) T=sm (fun p=>b2n (!up e p)) T+sm (fun p=>sm (fun e=>b2n (!up e p)) S) T:=Le (fun p=>b2n (!up e p)) (fun p=>sm (fun e=>b2n (!up e p)) S) T
  have h2:sm (fun p=>b2n (up e p)) T+sm (fun p=>b2n (!up e p)) T=T.length:=by
   rw[← Le,Xi _ (fun _=>1) (fun p=>Aep _),Eb,Amd]
  rw[h1]
  show sm (fun p=>b2n (up e p)) T+sm (fun e=>sm (fun p=>b2n (up e p)) T) S+_=(S.length+1)*T.length
  rw[AlA]
  omega
theorem AcF(up:Nat→Nat→Bool){m n:Nat}{S S' T T':List Nat}(hS:(S++S').Perm (List.range m))(hT:(T++T').Perm (List.range n)) :
  sm (aS up n) S+sm (bS up m) T+S.length*T.length≤S.length*n+T.length*m:=by
 have hm:S.length+S'.length=m:=by have:=hS.length_eq;rwa [AkE,AkC] at this
 have hn:T.length+T'.length=n:=by have:=hT.length_eq;rwa [AkE,AkC] at this
 have h1:sm (aS up n) S≤sm (fun e=>sm (fun p=>b2n (up e p)) T) S+S.length*T'.length:=by
  rw[← Eb,← Le]
  refine Ws _ _ (fun e=>?_) S
  unfold aS
  rw[← Jb _ hT,Ld]
  exact Nat.add_le_add_left (Td _ (fun _=>Nb _) T') _
 have h2:sm (bS up m) T≤sm (fun p=>sm (fun e=>b2n (!up e p)) S) T+T.length*S'.length:=by
  rw[← Eb,← Le]
  refine Ws _ _ (fun p=>?_) T
  unfold bS
  rw[← Jb _ hS,Ld]
  exact Nat.add_le_add_left (Td _ (fun _=>Nb _) S') _
 have h3:=cross up T S
 have e1:S.length*n=S.length*T.length+S.length*T'.length:=by rw[← hn,AlU]
 have e2:T.length*m=S.length*T.length+T.length*S'.length:=by rw[← hm,AlU,Ami T.length S.length]
 omega
theorem AcG(up:Nat→Nat→Bool)(m n:Nat):sm (aS up n) (List.range m)+sm (bS up m) (List.range n)=m*n:=by
 have:=cross up (List.range n) (List.range m)
 rw[AkC,AkC] at this
 exact this
theorem Rb{α β:Type}{f:α→β}{d e:List β}(h:d.Perm e):∀ l,e=l.map f→∃ l':List α,l'.Perm l∧d=l'.map f:=by
 induction h with
 | nil=>intro l hl;exact⟨l,.refl _,hl⟩
 | cons x _ ih =>
  intro l hl
  cases l with
  | nil=>cases hl
  | cons y l =>
   rw[AkT] at hl
   injection hl with h1 h2
   obtain⟨l',p,e⟩:=ih l h2
   exact⟨y::l',p.cons _,by rw[AkT,e,h1]⟩
 | swap x y r =>
  intro l hl
  match l,hl with
  | a::b::l,hl =>
   rw[AkT,AkT] at hl
   injection hl with h1 h2
   injection h2 with h2 h3
   exact⟨b::a::l,.swap _ _ _,by rw[AkT,AkT,h1,h2,h3]⟩
  | [a],hl=>cases hl
  | [],hl=>cases hl
 | trans _ _ h1 h2 =>
  intro l hl
  obtain⟨l1,p1,e1⟩:=h2 l hl
  obtain⟨l2,p2,e2⟩:=h1 l1 e1
  exact⟨l2,p2.trans p1,e2⟩
def G (m n:Nat)(dA dB:List Int)(s t:Nat):Int:=(s:Int)*n+(t:Int)*m-(s:Int)*t-(dA.take s).sum-(dB.take t).sum
structure Sc (m n:Nat) (dA dB:List Int):Prop where
 lA:dA.length=m
 lB:dB.length=n
 decA:dA.Pairwise (· ≥ ·)
 Fp:dB.Pairwise (· ≥ ·)
 low:∀ s t,s≤m→t≤n→0≤G m n dA dB s t
 top:G m n dA dB m n=0
theorem HH(f:Nat→Nat):∀ l:List Nat,(l.map fun e=>((f e:Nat):Int)).sum=(sm f l:Int)
 | []=>rfl
 | x::l=>by rw[AkT,Al2,HH f l];show _=((f x+sm f l:Nat):Int);omega
theorem YT{a b:List Int}(h:a.Perm b):a.sum=b.sum:=by
 induction h with
 | nil=>rfl
 | cons x _ ih=>rw[Al2,Al2,ih]
 | swap x y l=>rw[Al2,Al2,Al2,Al2];omega
 | trans _ _ h1 h2=>rw[h1,h2]
theorem Sc.of(up:Nat→Nat→Bool){m n:Nat}{dA dB:List Int}(hA:dA.Perm ((List.range m).map fun e=>((aS up n e:Nat):Int)))(hB:dB.Perm ((List.range n).map fun p=>((bS up m p:Nat):Int)))
  (decA:dA.Pairwise (· ≥ ·)) (Fp:dB.Pairwise (· ≥ ·)):Sc m n dA dB:=by
 have lA:dA.length=m:=by rw[hA.length_eq,AkA,AkC]
 have lB:dB.length=n:=by rw[hB.length_eq,AkA,AkC]
 obtain⟨lS,pS,eS⟩:=Rb hA _ rfl
 obtain⟨lT,pT,eT⟩:=Rb hB _ rfl
 refine⟨lA,lB,decA,Fp,fun s t hs ht=>?_,?_⟩
 ·have:=AcF up (S:=lS.take s) (S':=lS.drop s) (T:=lT.take t) (T':=lT.drop t) (by rw[Alj];exact pS) (by rw[Alj];exact pT)
  have l1:(lS.take s).length=s:=by rw[AkO];have:=pS.length_eq;rw[AkC] at this;omega
  have l2:(lT.take t).length=t:=by rw[AkO];have:=pT.length_eq;rw[AkC] at this;omega
  rw[l1,l2] at this
  unfold G
  rw[eS,eT,← Als,← Als,HH,HH]
  have c:((sm (aS up n) (lS.take s)+sm (bS up m) (lT.take t)+s*t:Nat):Int)≤((s*n+t*m:Nat):Int):=by exact_mod_cast this
  simp only [AlV,AlE] at c
  omega
 ·unfold G
  rw[AkZ (by omega),AkZ (by omega),YT hA,YT hB,HH,HH]
  have:=AcG up m n
  have c:((sm (aS up n) (List.range m)+sm (bS up m) (List.range n):Nat):Int)=((m*n:Nat):Int):=by exact_mod_cast this
  simp only [AlV,AlE] at c
  have e:(n:Int)*m=(m:Int)*n:=Int.mul_comm _ _
  omega
section
variable {m n:Nat}{dA dB:List Int}
theorem YW{d:List Int}{k:Nat}(h:k<d.length):(d.take (k+1)).sum=(d.take k).sum+d.getD k 0:=by
 rw[AlD,List.sum_append,Ak9 h]
 have e:d.getD k 0=d[k]:=by simp[List.getD,h]
 rw[e]
 simp
theorem AcH{d:List Int}(h:d.Pairwise (· ≥ ·)){i j:Nat}(hij:i≤j)(hj:j<d.length):d.getD j 0≤d.getD i 0:=by
 have hi:i<d.length:=by omega
 have e1:d.getD i 0=d[i]:=by simp[List.getD,hi]
 have e2:d.getD j 0=d[j]:=by simp[List.getD,hj]
 rw[e1,e2]
 by_cases e:i=j
 ·subst e;exact Amc _
 ·exact List.pairwise_iff_getElem.mp h i j hi hj (by omega)
theorem G_s(C:Sc m n dA dB){s:Nat}(t:Nat)(h:s<m):G m n dA dB (s+1) t=G m n dA dB s t+((n:Int)-t-dA.getD s 0):=by
 unfold G
 rw[YW (by rw[C.lA];exact h),AlV,Amm,Int.add_mul,Int.add_mul,Int.one_mul,Int.one_mul]
 omega
theorem G_t(C:Sc m n dA dB)(s:Nat){t:Nat}(h:t<n):G m n dA dB s (t+1)=G m n dA dB s t+((m:Int)-s-dB.getD t 0):=by
 unfold G
 rw[YW (by rw[C.lB];exact h),AlV,Amm,Int.add_mul,Int.mul_add,Int.one_mul,AlZ]
 omega
theorem Agi(C:Sc m n dA dB){s:Nat}(t:Nat)(c:Int)(hc:c≤(n:Int)-t-dA.getD s 0):∀ d:Nat,s+d≤m→G m n dA dB s t+c*d≤G m n dA dB (s+d) t
 | 0,_=>by simp
 | d+1,h=>by
  have ih:=Agi C t c hc d (by omega)
  have e:=G_s C t (s:=s+d) (by omega)
  have mo:=AcH C.decA (i:=s) (j:=s+d) (by omega) (by rw[C.lA];omega)
  have e2:c*((d+1:Nat):Int)=c*d+c:=by rw[AlV,Amm,Int.mul_add,AlZ]
  rw[show s+(d+1)=s+d+1 from rfl,e,e2]
  omega
theorem Agj(C:Sc m n dA dB)(s:Nat){t:Nat}(c:Int)(hc:c≤(m:Int)-s-dB.getD t 0):∀ d:Nat,t+d≤n→G m n dA dB s t+c*d≤G m n dA dB s (t+d)
 | 0,_=>by simp
 | d+1,h=>by
  have ih:=Agj C s c hc d (by omega)
  have e:=G_t C s (t:=t+d) (by omega)
  have mo:=AcH C.Fp (i:=t) (j:=t+d) (by omega) (by rw[C.lB];omega)
  have e2:c*((d+1:Nat):Int)=c*d+c:=by rw[AlV,Amm,Int.mul_add,AlZ]
  rw[show t+(d+1)=t+d+1 from rfl,e,e2]
  omega
theorem Ah7(s s' t t':Nat):G m n dA dB s t+G m n dA dB s' t'=G m n dA dB s' t+G m n dA dB s t'-((s':Int)-s)*((t':Int)-t):=by
 unfold G
 rw[Int.sub_mul,Int.mul_sub,Int.mul_sub]
 omega
def lexLt(a b:Nat × Nat):Prop:=a.1<b.1∨(a.1=b.1∧a.2<b.2)
theorem AcI(C:Sc m n dA dB){s t s' t':Nat}(hs:s≤m)(ht:t≤n)(hs':s'≤m)(ht':t'≤n)(z:G m n dA dB s t=0)(z':G m n dA dB s' t'=0)(lt:lexLt (s,t) (s',t'))
  (none:∀ x y,x≤m→y≤n→G m n dA dB x y=0→lexLt (s,t) (x,y)→lexLt (x,y) (s',t')→False) :
  s≤s'∧t≤t'∧0<(s'-s)+(t'-t)∧(1<(s'-s)+(t'-t)→2≤s'-s∧2≤t'-t):=by
 have lt':s<s'∨(s=s'∧t<t'):=lt
 have hle:s≤s':=by omega
 have tle:t≤t':=by
  by_cases h:t≤t'
  ·exact h
  ·exfalso
   have h1:s<s':=by omega
   have q:=Ah7 (m:=m) (n:=n) (dA:=dA) (dB:=dB) s s' t t'
   have l1:=C.low s' t hs' ht
   have l2:=C.low s t' hs ht'
   have p:0<((s':Int)-s)*((t:Int)-t'):=Int.mul_pos (by omega) (by omega)
   have e:((s':Int)-s)*((t':Int)-t) =-(((s':Int)-s)*((t:Int)-t')):=by rw[← Int.mul_neg];congr 1;omega
   omega
 refine⟨hle,tle,by omega,fun big=>?_⟩
 have q:=Ah7 (m:=m) (n:=n) (dA:=dA) (dB:=dB) s s' t t'
 have l1:=C.low s' t hs' ht
 have l2:=C.low s t' hs ht'
 by_cases hs1:s'=s
 ·
  exfalso
  subst hs1
  have t2:t+2≤t':=by omega
  have g1:=G_t C s' (t:=t) (by omega)
  have lo:=C.low s' (t+1) hs' (by omega)
  have nz:G m n dA dB s' (t+1)≠0:=fun e=>none s' (t+1) hs' (by omega) e (.inr ⟨rfl,by show t<t+1;omega⟩) (.inr ⟨rfl,by show t+1<t';omega⟩)
  have:=Agj C s' (t:=t) 1 (by omega) (t'-t) (by omega)
  rw[show t+(t'-t)=t' by omega] at this
  omega
 by_cases ht1:t'=t
 ·exfalso
  subst ht1
  have t2:s+2≤s':=by omega
  have g1:=G_s C t' (s:=s) (by omega)
  have lo:=C.low (s+1) t' (by omega) ht'
  have nz:G m n dA dB (s+1) t'≠0:=fun e=>none (s+1) t' (by omega) ht' e (.inl (by show s<s+1;omega)) (.inl (by show s+1<s';omega))
  have:=Agi C (s:=s) t' 1 (by omega) (s'-s) (by omega)
  rw[show s+(s'-s)=s' by omega] at this
  omega
 have gt1:=G_t C s (t:=t) (by omega)
 have gs1:=G_s C t (s:=s) (by omega)
 have lot:=C.low s (t+1) hs (by omega)
 have los:=C.low (s+1) t (by omega) ht
 have nzt:G m n dA dB s (t+1)≠0:=fun e=>none s (t+1) hs (by omega) e (.inr ⟨rfl,by show t<t+1;omega⟩) (.inl (by show s<s';omega))
 have bt:=Agj C s (t:=t) 1 (by omega) (t'-t) (by omega)
 rw[show t+(t'-t)=t' by omega] at bt
 have nzs:G m n dA dB (s+1) t≠0:=fun e=>none (s+1) t (by omega) ht e (.inl (by show s<s+1;omega)) (by
  by_cases h:s+1=s'
  ·exact .inr ⟨h,by show t<t';omega⟩
  ·exact .inl (by show s+1<s';omega))
 have bs:=Agi C (s:=s) t 1 (by omega) (s'-s) (by omega)
 rw[show s+(s'-s)=s' by omega] at bs
 refine⟨?_,?_⟩
 ·by_cases h:s'=s+1
  ·exfalso
   subst h
   have e:(((s+1:Nat):Int)-s)*((t':Int)-t)=(t':Int)-t:=by rw[show((s+1:Nat):Int)-s=1 by omega,Int.one_mul]
   rw[e] at q
   omega
  ·omega
 ·by_cases h:t'=t+1
  ·exfalso
   subst h
   have e:((s':Int)-s)*(((t+1:Nat):Int)-t)=(s':Int)-s:=by rw[show((t+1:Nat):Int)-t=1 by omega,AlZ]
   rw[e] at q
   omega
  ·omega
end
end Mine
namespace Mine
def Ur (P:Nat→Nat→Bool)(s j:Nat):List (Nat × Nat):=((List.range j).map fun t=>(s,t)).filter fun p=>P p.1 p.2
def Fq (P:Nat→Nat→Bool)(n i:Nat):List (Nat × Nat):=(List.range i).flatMap fun s=>Ur P s (n+1)
theorem Te(P:Nat→Nat→Bool)(s j:Nat):Ur P s (j+1)=Ur P s j++(if P s j=true then [(s,j)] else []):=by
 unfold Ur
 rw[Aln,AkP,AlF]
 congr 1
 show(List.filter _ [(s,j)])=_
 by_cases h:P s j=true
 ·rw[if_pos h];simp[h]
 ·rw[if_neg h];simp[h]
theorem Tf(P:Nat→Nat→Bool)(n i:Nat):Fq P n (i+1)=Fq P n i++Ur P i (n+1):=by
 unfold Fq
 rw[Aln,Amn]
 simp
theorem Rc{P:Nat→Nat→Bool}{s j:Nat}{p:Nat × Nat}:p∈Ur P s j↔p.1=s∧p.2<j∧P p.1 p.2=true:=by
 unfold Ur
 rw[Alo,AlG]
 constructor
 ·rintro⟨⟨t,ht,rfl⟩,h⟩
  exact⟨rfl,List.mem_range.mp ht,h⟩
 ·rintro⟨h1,h2,h3⟩
  exact⟨⟨p.2,List.mem_range.mpr h2,by rw[← h1]⟩,h3⟩
theorem Ii{P:Nat→Nat→Bool}{n i:Nat}{p:Nat × Nat}:p∈Fq P n i↔p.1<i∧p.2≤n∧P p.1 p.2=true:=by
 unfold Fq
 rw[List.mem_flatMap]
 constructor
 ·rintro⟨s,hs,h⟩
  obtain⟨h1,h2,h3⟩:=Rc.mp h
  have:=List.mem_range.mp hs
  exact⟨by omega,by omega,h3⟩
 ·rintro⟨h1,h2,h3⟩
  exact⟨p.1,List.mem_range.mpr h1,Rc.mpr ⟨rfl,by omega,h3⟩⟩
theorem AaR(P:Nat→Nat→Bool)(s:Nat):∀ j,(Ur P s j).Pairwise lexLt
 | 0=>List.Pairwise.nil
 | j+1=>by
  rw[Te]
  refine List.pairwise_append.mpr ⟨AaR P s j,?_,fun a ha b hb=>?_⟩
  ·by_cases h:P s j=true
   ·rw[if_pos h];exact List.pairwise_singleton _ _
   ·rw[if_neg h];exact List.Pairwise.nil
  ·by_cases h:P s j=true
   ·rw[if_pos h] at hb
    rw[List.mem_singleton.mp hb]
    obtain⟨h1,h2,_⟩:=Rc.mp ha
    exact .inr ⟨h1,h2⟩
   ·rw[if_neg h] at hb;exact absurd hb (by simp)
theorem Xj(P:Nat→Nat→Bool)(n:Nat):∀ i,(Fq P n i).Pairwise lexLt
 | 0=>List.Pairwise.nil
 | i+1=>by
  rw[Tf]
  refine List.pairwise_append.mpr ⟨Xj P n i,AaR P i _,fun a ha b hb=>?_⟩
  obtain⟨h1,_⟩:=Ii.mp ha
  obtain⟨h2,_⟩:=Rc.mp hb
  exact .inl (by omega)
theorem YX(P:Nat→Nat→Bool)(s j:Nat):(Ur P s j).length≤j:=by
 unfold Ur
 refine AkS (Amy _ _) ?_
 rw[AkA,AkC]
 exact Ak8 _
theorem UT(P:Nat→Nat→Bool)(n:Nat):∀ i,(Fq P n i).length≤i*(n+1)
 | 0=>AkD _
 | i+1=>by
  rw[Tf,AkE,AlA]
  exact Nat.add_le_add (UT P n i) (YX P i _)
theorem AaS{a:Nat × Nat}(h:lexLt a a):False:=by unfold lexLt at h;omega
theorem YZ{a b:Nat × Nat}(h:lexLt a b)(h2:lexLt b a):False:=by unfold lexLt at h h2;omega
theorem Tg{l:List (Nat × Nat)}(h:l.Pairwise lexLt){i j:Nat}{a b:Nat × Nat}(ha:l[i]?=some a)(hb:l[j]?=some b)(lt:lexLt a b):i<j:=by
 obtain⟨hi,e1⟩:=List.getElem?_eq_some_iff.mp ha
 obtain⟨hj,e2⟩:=List.getElem?_eq_some_iff.mp hb
 rcases AlL i j with h1 | h1 | h1
 ·exact h1
 ·subst h1
  have:a=b:=by rw[← e1,← e2]
  rw[this] at lt
  exact(AaS lt).elim
 ·have:=List.pairwise_iff_getElem.mp h j i hj hi h1
  rw[e1,e2] at this
  exact(YZ lt this).elim
structure Tps (m n:Nat) (P:Nat→Nat→Bool) (zs:List (Nat × Nat)):Prop where
 two:2≤zs.length
 fst:zs[0]?=some (0,0)
 lst:zs[zs.length-1]?=some (m,n)
 in_:∀(i:Nat) (a:Nat × Nat),zs[i]?=some a→a.1≤m∧a.2≤n
 stp:∀(i:Nat) (a b:Nat × Nat),zs[i]?=some a→zs[i+1]?=some b→a.1≤b.1∧a.2≤b.2∧0<(b.1-a.1)+(b.2-a.2)∧(1<(b.1-a.1)+(b.2-a.2)→2≤b.1-a.1∧2≤b.2-a.2)
def Pz (m n:Nat)(dA dB:List Int)(s t:Nat):Bool:=decide ((dA.take s).sum+(dB.take t).sum=(s:Int)*n+(t:Int)*m-(s:Int)*t)
theorem Xk{m n:Nat}{dA dB:List Int}{s t:Nat}:Pz m n dA dB s t=true↔G m n dA dB s t=0:=by
 unfold Pz G
 rw[decide_eq_true_iff]
 omega
theorem Tps.of{m n:Nat}{dA dB:List Int}(C:Sc m n dA dB)(h1:1≤m):Tps m n (Pz m n dA dB) (Fq (Pz m n dA dB) n (m+1)):=by
 have pw:=Xj (Pz m n dA dB) n (m+1)
 have m0:((0:Nat),(0:Nat))∈Fq (Pz m n dA dB) n (m+1):=Ii.mpr ⟨by show 0<m+1;omega,AkD _,Xk.mpr (by unfold G;simp)⟩
 have m1:(m,n)∈Fq (Pz m n dA dB) n (m+1):=Ii.mpr ⟨by show m<m+1;omega,Ak8 _,Xk.mpr C.top⟩
 generalize hz:Fq (Pz m n dA dB) n (m+1)=zs at *
 have inn:∀(i:Nat) (a:Nat × Nat),zs[i]?=some a→a.1≤m∧a.2≤n∧G m n dA dB a.1 a.2=0:=fun i a e=>by
  have:=AkQ e
  rw[← hz] at this
  obtain⟨q1,q2,q3⟩:=Ii.mp this
  exact⟨by omega,q2,Xk.mp q3⟩
 obtain⟨i0,e0⟩:=Ame m0
 obtain⟨i1,e1⟩:=Ame m1
 have l01:i0<i1:=Tg pw e0 e1 (.inl (by show 0<m;omega))
 have i1l:=(List.getElem?_eq_some_iff.mp e1).1
 have f0:i0=0:=by
  by_cases h:i0=0
  ·exact h
  ·exfalso
   have hl:0<zs.length:=by omega
   have lt:=List.pairwise_iff_getElem.mp pw 0 i0 hl (by omega) (by omega)
   have:=(List.getElem?_eq_some_iff.mp e0).2
   rw[this] at lt
   unfold lexLt at lt
   simp at lt
 have fl:i1=zs.length-1:=by
  by_cases h:i1=zs.length-1
  ·exact h
  ·exfalso
   have hl:zs.length-1<zs.length:=by omega
   have lt:=List.pairwise_iff_getElem.mp pw i1 (zs.length-1) i1l hl (by omega)
   have e:=(List.getElem?_eq_some_iff.mp e1).2
   rw[e] at lt
   have q:=inn (zs.length-1) _ (Ak9 hl)
   unfold lexLt at lt
   simp only at lt
   omega
 refine⟨by omega,f0▸e0,fl▸e1,fun i a e=>⟨(inn i a e).1,(inn i a e).2.1⟩,fun i a b ea eb=>?_⟩
 obtain⟨a1,a2,a3⟩:=inn i a ea
 obtain⟨b1,b2,b3⟩:=inn (i+1) b eb
 have hi:=(List.getElem?_eq_some_iff.mp ea)
 have hj:=(List.getElem?_eq_some_iff.mp eb)
 have lt:lexLt a b:=by
  have:=List.pairwise_iff_getElem.mp pw i (i+1) hi.1 hj.1 (by omega)
  rw[hi.2,hj.2] at this
  exact this
 refine AcI C a1 a2 b1 b2 a3 b3 lt fun x y hx hy z l1 l2=>?_
 have mm:(x,y)∈zs:=by rw[← hz];exact Ii.mpr ⟨by show x<m+1;omega,hy,Xk.mpr z⟩
 obtain⟨k,ek⟩:=Ame mm
 have k1:=Tg pw ea ek l1
 have k2:=Tg pw ek eb l2
 omega
theorem Nf:∀{a b:List Int},a.Perm b→a.Pairwise (· ≥ ·)→b.Pairwise (· ≥ ·)→a=b
 | [],b,p,_,_=>(List.Perm.nil_eq p)
 | x::a,[],p,_,_=>absurd p.length_eq (by simp)
 | x::a,y::b,p,ha,hb=>by
  obtain⟨a1,a2⟩:=List.pairwise_cons.mp ha
  obtain⟨b1,b2⟩:=List.pairwise_cons.mp hb
  have e:x=y:=by
   have hx:x∈y::b:=p.mem_iff.mp AkM
   have hy:y∈x::a:=p.mem_iff.mpr AkM
   rcases List.mem_cons.mp hx with h | h
   ·exact h
   ·rcases List.mem_cons.mp hy with h' | h'
    ·exact h'.symm
    ·have:=b1 x h
     have:=a1 y h'
     omega
  subst e
  rw[Nf p.cons_inv a2 b2]
def pre (d:List Int):List Int:=(List.range (d.length+1)).map fun s=>(d.take s).sum
structure Grt (cs done left:List Int):Prop where
 perm:(done++left).Perm cs
 dec:done.Pairwise (· ≥ ·)
 ge:∀ a∈done,∀ b∈left,b≤a
theorem Aal(l:List Nat)(c:Nat):∀ k,k≤l.length→(l.take k).count c=sm (fun i=>b2n (l.getD i 0 == c)) (List.range k)
 | 0,_=>by simp[sm]
 | k+1,h=>by
  rw[Aln,Ld,← Aal l c k (by omega),AlD,Ak9 (by omega),Amz]
  have e:l.getD k 0=l[k]:=by simp[List.getD,show k<l.length by omega]
  show _+List.count c [l[k]]=_+(b2n (l.getD k 0 == c)+0)
  rw[e,List.count_singleton]
  rfl
def upC (cl:List (List Nat))(e p:Nat):Bool:=(cl.getD p []).getD e 0 == 35
def eS (cl:List (List Nat))(m:Nat):List Int:=(List.range m).map fun e=>(((col cl e).count 35:Nat):Int)
def pS (cl:List (List Nat)):List Int:=cl.map fun t=>((t.count 46:Nat):Int)
theorem Qt(cl:List (List Nat))(m:Nat):(eS cl m).length=m:=by unfold eS;rw[AkA,AkC]
theorem Xl(cl:List (List Nat)):(pS cl).length=cl.length:=by unfold pS;rw[AkA]
theorem K4{f g:Nat→Nat}:∀{l:List Nat},(∀ x∈l,f x=g x)→sm f l=sm g l
 | [],_=>rfl
 | x::l,h=>by show f x+sm f l=g x+sm g l;rw[h x AkM,K4 fun y hy=>h y (AkN _ hy)]
theorem AcJ(cl:List (List Nat))(e p:Nat):(col cl e).getD p 0=(cl.getD p []).getD e 0:=by
 unfold col
 by_cases h:p<cl.length
 ·simp[List.getD,h]
 ·simp[List.getD,Aly (Amv h)]
theorem Ah8{cl:List (List Nat)}{m n:Nat}(C:Cl cl m n)(e:Nat):aS (upC cl) n e=(col cl e).count 35:=by
 have hl:(col cl e).length=n:=by unfold col;rw[AkA,C.hn]
 have:=Aal (col cl e) 35 n (by omega)
 rw[AkZ (by omega)] at this
 rw[this]
 unfold aS upC
 refine Xi _ _ (fun p=>?_) _
 rw[AcJ]
theorem Ah9{cl:List (List Nat)}{m n:Nat}(C:Cl cl m n){p:Nat}(hp:p<cl.length):bS (upC cl) m p=cl[p].count 46:=by
 have hl:=C.hm _ (AkI hp)
 have sg:=C.sg _ (AkI hp)
 have:=Aal cl[p] 46 m (by omega)
 rw[AkZ (by omega)] at this
 rw[this]
 unfold bS
 refine K4 fun e he=>?_
 have hem:=List.mem_range.mp he
 have e1:cl.getD p []=cl[p]:=by simp[List.getD,hp]
 have e2:cl[p].getD e 0=cl[p][e]:=by simp[List.getD,show e<cl[p].length by omega]
 unfold upC
 rw[e1,e2]
 rcases sg _ (AkI (show e<cl[p].length by omega)) with z | z <;> rw[z] <;> rfl
theorem AaT{cl:List (List Nat)}{m n:Nat}(C:Cl cl m n):eS cl m=(List.range m).map fun e=>((aS (upC cl) n e:Nat):Int):=by
 unfold eS
 refine AlM fun e _=>?_
 rw[Ah8 C]
theorem AaU{cl:List (List Nat)}{m n:Nat}(C:Cl cl m n):pS cl=(List.range n).map fun p=>((bS (upC cl) m p:Nat):Int):=by
 refine Al3 (by rw[Xl,AkA,AkC,C.hn]) fun i h1 h2=>?_
 have h1':i<cl.length:=by rw[Xl] at h1;exact h1
 rw[Al4,AlW,Ah9 C h1']
 exact Al4 ..
theorem AcK{cl:List (List Nat)}{m n:Nat}(C:Cl cl m n){dA dB:List Int}(hA:dA.Perm (eS cl m))(hB:dB.Perm (pS cl))(decA:dA.Pairwise (· ≥ ·))(Fp:dB.Pairwise (· ≥ ·)):Sc m n dA dB :=
 Sc.of (upC cl) (by rw[← AaT C];exact hA) (by rw[← AaU C];exact hB) decA Fp
theorem Za(cl:List (List Nat))(m:Nat):(Dt cl m).take m=eS cl m:=by
 show(eS cl m++pS cl).take m=_
 rw[List.take_append_of_le_length (by rw[Qt];exact Ak8 _),AkZ (by rw[Qt];exact Ak8 _)]
theorem Zb(cl:List (List Nat))(m:Nat):(Dt cl m).drop m=pS cl:=by
 show(eS cl m++pS cl).drop m=_
 have:=List.drop_left (l₁:=eS cl m) (l₂:=pS cl)
 rwa [Qt] at this
theorem Th{α:Type}{R:α→α→Prop}(AhA:∀ a b,R a b→R b a→False):∀{l l':List α},l.Perm l'→l.Pairwise R→l'.Pairwise R→l=l'
 | [],l',p,_,_=>p.nil_eq
 | a::l,[],p,_,_=>absurd p.length_eq (by simp)
 | a::l,b::t,p,h,h'=>by
  have e:a=b:=by
   have h1:a∈b::t:=p.mem_iff.mp AkM
   have h2:b∈a::l:=p.mem_iff.mpr AkM
   rcases List.mem_cons.mp h1 with e | m1
   ·exact e
   ·rcases List.mem_cons.mp h2 with e | m2
    ·exact e.symm
    ·exact(AhA _ _ ((List.pairwise_cons.mp h').1 a m1) ((List.pairwise_cons.mp h).1 b m2)).elim
  subst e
  rw[Th AhA p.cons_inv (List.pairwise_cons.mp h).2 (List.pairwise_cons.mp h').2]
structure Ord (key:Nat→Nat) (N:Nat) (l:List Nat):Prop where
 perm:l.Perm (List.range N)
 ord:l.Pairwise (fun x y=>key y<key x∨(key x=key y∧x<y))
theorem Ord.len{key:Nat→Nat}{N:Nat}{l:List Nat}(a:Ord key N l):l.length=N:=by rw[a.perm.length_eq,AkC]
theorem Ord.nd{key:Nat→Nat}{N:Nat}{l:List Nat}(a:Ord key N l):l.Nodup:=a.perm.nodup_iff.mpr AlX
theorem Ord.lt{key:Nat→Nat}{N:Nat}{l:List Nat}(a:Ord key N l){x:Nat}(h:x∈l):x<N:=List.mem_range.mp (a.perm.mem_iff.mp h)
theorem Rf{f:Nat→Nat}{c:Nat}:∀{l:List Nat},(∀ x∈l,f x≤c)→l.length*c≤sm f l→∀ x∈l,f x=c
 | [],_,_,x,hx=>by cases hx
 | y::l,h,e,x,hx=>by
  have hb:∀{l:List Nat},(∀ x∈l,f x≤c)→sm f l≤l.length*c:=by
   intro l
   induction l with
   | nil=>intro _;exact AkD _
   | cons z l ih =>
    intro h
    have:=h z AkM
    have:=ih fun x hx=>h x (AkN _ hx)
    show f z+sm f l≤(l.length+1)*c
    rw[AlA]
    omega
  have h1:=h y AkM
  have h2:=hb fun x hx=>h x (AkN y hx)
  have e':(l.length+1)*c≤f y+sm f l:=e
  rw[AlA] at e'
  rcases List.mem_cons.mp hx with rfl | hx
  ·omega
  ·exact Rf (fun x hx=>h x (AkN _ hx)) (by omega) x hx
theorem AcL(up:Nat→Nat→Bool){m n:Nat}{S S' T T':List Nat}(hS:(S++S').Perm (List.range m))(hT:(T++T').Perm (List.range n))
  (e:sm (aS up n) S+sm (bS up m) T+S.length*T.length=S.length*n+T.length*m):(∀ x∈S,∀ y∈T',up x y=true)∧∀ y∈T,∀ x∈S',up x y=false:=by
 have hm:S.length+S'.length=m:=by have:=hS.length_eq;rwa [AkE,AkC] at this
 have hn:T.length+T'.length=n:=by have:=hT.length_eq;rwa [AkE,AkC] at this
 have h1:sm (aS up n) S=sm (fun e=>sm (fun p=>b2n (up e p)) T) S+sm (fun e=>sm (fun p=>b2n (up e p)) T') S:=by
  rw[← Le]
  refine Xi _ _ (fun e=>?_) S
  unfold aS
  rw[← Jb _ hT,Ld]
 have h2:sm (bS up m) T=sm (fun p=>sm (fun e=>b2n (!up e p)) S) T+sm (fun p=>sm (fun e=>b2n (!up e p)) S') T:=by
  rw[← Le]
  refine Xi _ _ (fun p=>?_) T
  unfold bS
  rw[← Jb _ hS,Ld]
 have h3:=cross up T S
 have a1:∀ x∈S,sm (fun p=>b2n (up x p)) T'≤T'.length:=fun x _=>Td _ (fun _=>Nb _) T'
 have b1:∀ y∈T,sm (fun e=>b2n (!up e y)) S'≤S'.length:=fun y _=>Td _ (fun _=>Nb _) S'
 have a2:sm (fun e=>sm (fun p=>b2n (up e p)) T') S≤S.length*T'.length:=by rw[← Eb];exact Ws _ _ (fun x=>Td _ (fun _=>Nb _) T') S
 have b2:sm (fun p=>sm (fun e=>b2n (!up e p)) S') T≤T.length*S'.length:=by rw[← Eb];exact Ws _ _ (fun y=>Td _ (fun _=>Nb _) S') T
 have e1:S.length*n=S.length*T.length+S.length*T'.length:=by rw[← hn,AlU]
 have e2:T.length*m=S.length*T.length+T.length*S'.length:=by rw[← hm,AlU,Ami T.length S.length]
 refine⟨fun x hx y hy=>?_,fun y hy x hx=>?_⟩
 ·have q:=Rf a1 (by omega) x hx
  have q2:=Rf (f:=fun p=>b2n (up x p)) (c:=1) (l:=T') (fun _ _=>Nb _) (by rw[Amd,q];exact Ak8 _) y hy
  cases h:up x y with
  | true=>rfl
  | false=>rw[h] at q2;cases q2
 ·have q:=Rf b1 (by omega) y hy
  have q2:=Rf (f:=fun e=>b2n (!up e y)) (c:=1) (l:=S') (fun _ _=>Nb _) (by rw[Amd,q];exact Ak8 _) x hx
  cases h:up x y with
  | true=>rw[h] at q2;cases q2
  | false=>rfl
def cQ (m k:Nat):Int:=((m+k:Nat):Int)
structure Lay (up:Nat→Nat→Bool) (m n:Nat) (tss:List (List Int)) (zs:List (Nat × Nat)) (eo po:List Nat):Prop where
 oE:Ord (aS up n) m eo
 oP:Ord (bS up m) n po
 fst:zs[0]?=some (0,0)
 lst:zs[zs.length-1]?=some (m,n)
 in_:∀(i:Nat) (a:Nat × Nat),zs[i]?=some a→a.1≤m∧a.2≤n
 stp:∀(i:Nat) (a b:Nat × Nat),zs[i]?=some a→zs[i+1]?=some b→a.1≤b.1∧a.2≤b.2∧0<(b.1-a.1)+(b.2-a.2)
 z:∀(i:Nat) (a:Nat × Nat),zs[i]?=some a→sm (aS up n) (eo.take a.1)+sm (bS up m) (po.take a.2)+a.1*a.2=a.1*n+a.2*m
 len:tss.length+1=zs.length
 lay:∀(i:Nat) (a b:Nat × Nat) (t:List Int),zs[i]?=some a→zs[i+1]?=some b→tss[i]?=some t →
  t.Perm (((eo.drop a.1).take (b.1-a.1)).map (cQ 0)++((po.drop a.2).take (b.2-a.2)).map (cQ m))∧t.Pairwise (·≤·)
section
variable {up:Nat→Nat→Bool}{m n:Nat}{tss:List (List Int)}{zs:List (Nat × Nat)}{eo po:List Nat}
theorem Agk{m a b:Nat}(h:cQ m a=cQ m b):a=b:=by unfold cQ at h;omega
theorem AcM{m:Nat}{l:List Nat}(h:l.Nodup):(l.map (cQ m)).Nodup:=by
 show List.Pairwise _ _
 rw[AkX]
 exact h.imp fun {a b} hn e=>hn (Agk e)
theorem Lay.at(L:Lay up m n tss zs eo po){i:Nat}(hi:i<tss.length):∃ a b,zs[i]?=some a∧zs[i+1]?=some b∧a.1≤b.1∧a.2≤b.2∧b.1≤m∧b.2≤n∧0<(b.1-a.1)+(b.2-a.2) ∧
  tss[i].Perm (((eo.drop a.1).take (b.1-a.1)).map (cQ 0)++((po.drop a.2).take (b.2-a.2)).map (cQ m))∧tss[i].Pairwise (·≤·):=by
 have h1:i<zs.length:=by have:=L.len;omega
 have h2:i+1<zs.length:=by have:=L.len;omega
 have e1:=Ak9 h1
 have e2:=Ak9 h2
 obtain⟨s1,s2,s3⟩:=L.stp i _ _ e1 e2
 obtain⟨i1,i2⟩:=L.in_ _ _ e2
 obtain⟨l1,l2⟩:=L.lay i _ _ _ e1 e2 (Ak9 hi)
 exact⟨_,_,e1,e2,s1,s2,i1,i2,s3,l1,l2⟩
theorem Lay.Aeq(L:Lay up m n tss zs eo po){a b:Nat × Nat}(h1:a.1≤b.1)(h2:a.2≤b.2)(h3:b.1≤m)(h4:b.2≤n) :
  ((eo.drop a.1).take (b.1-a.1)).length=b.1-a.1∧((po.drop a.2).take (b.2-a.2)).length=b.2-a.2:=by
 have l1:=L.oE.len
 have l2:=L.oP.len
 rw[AkO,Alh,AkO,Alh]
 omega
theorem Lay.count(L:Lay up m n tss zs eo po){i:Nat}(hi:i<tss.length){a b:Nat × Nat}(ea:zs[i]?=some a)(eb:zs[i+1]?=some b):tss[i].length=(b.1-a.1)+(b.2-a.2)∧(tss[i].filter fun z=>decide (z<(m:Int))).length=b.1-a.1:=by
 obtain⟨a',b',ea',eb',h1,h2,h3,h4,h5,p,_⟩:=L.at hi
 rw[ea] at ea'
 cases ea'
 rw[eb] at eb'
 cases eb'
 obtain⟨s1,s2⟩:=L.Aeq h1 h2 h3 h4
 refine⟨by rw[p.length_eq,AkE,AkA,AkA,s1,s2],?_⟩
 rw[(p.filter _).length_eq,AlF,List.filter_eq_self.mpr,List.filter_eq_nil_iff.mpr,Alb,AkA,s1]
 ·intro z hz
  obtain⟨k,_,rfl⟩:=List.mem_map.mp hz
  unfold cQ
  simp only [decide_eq_true_eq]
  omega
 ·intro z hz
  obtain⟨k,hk,rfl⟩:=List.mem_map.mp hz
  have:=L.oE.lt (Amf (AlH hk))
  unfold cQ
  simp only [decide_eq_true_eq]
  omega
theorem Lay.ne(L:Lay up m n tss zs eo po){i:Nat}(hi:i<tss.length):0<tss[i].length:=by
 obtain⟨a,b,ea,eb,_,_,_,_,h,_⟩:=L.at hi
 rw[(L.count hi ea eb).1]
 exact h
theorem Lay.part(L:Lay up m n tss zs eo po):∀ i (a:Nat × Nat),zs[i]?=some a→i≤tss.length→(tss.take i).flatten.Perm ((eo.take a.1).map (cQ 0)++(po.take a.2).map (cQ m))
 | 0,a,e,_=>by
  rw[L.fst] at e
  cases e
  rw[Amo,Amo,Amo]
  exact List.Perm.refl _
 | i+1,b,e,hi=>by
  obtain⟨a,b',ea,eb,h1,h2,h3,h4,h5,p,_⟩:=L.at (i:=i) (by omega)
  rw[e] at eb
  cases eb
  have ih:=L.part i a ea (by omega)
  rw[Am9 (by omega),List.flatten_append,Ale,List.flatten_nil,Alb]
  have sp:∀(l:List Nat) (s s':Nat),s≤s'→l.take s'=l.take s++(l.drop s).take (s'-s):=fun l s s' h=>by
   conv=>lhs;rw[show s'=s+(s'-s) by omega]
   rw[List.take_add]
  rw[sp eo a.1 b.1 h1,sp po a.2 b.2 h2,AkP,AkP]
  refine(ih.append p).trans ?_
  rw[Alv,Alv]
  refine List.Perm.append_left _ ?_
  rw[← Alv,← Alv]
  exact List.Perm.append_right _ List.perm_append_comm
theorem map_range(m n:Nat):(List.range m).map (cQ 0)++(List.range n).map (cQ m)=(List.range (m+n)).map fun k=>((k:Nat):Int):=by
 apply Al3
 ·simp
 ·intro i h1 h2
  rw[List.getElem_append]
  split
  ·simp[cQ]
  ·rename_i h
   simp[cQ] at h ⊢
   omega
theorem Lay.all(L:Lay up m n tss zs eo po):tss.flatten.Perm ((List.range (m+n)).map fun k=>((k:Nat):Int)):=by
 have hl:=L.len
 have e:zs[tss.length]?=some (m,n):=by rw[show tss.length=zs.length-1 by omega];exact L.lst
 have p:=L.part tss.length (m,n) e (Ak8 _)
 rw[AkZ (Ak8 _),AkZ (by rw[L.oE.len];exact Ak8 _),AkZ (by rw[L.oP.len];exact Ak8 _)] at p
 rw[← map_range]
 exact p.trans ((L.oE.perm.map _).append (L.oP.perm.map _))
theorem Lay.nd(L:Lay up m n tss zs eo po):tss.flatten.Nodup:=by
 rw[L.all.nodup_iff]
 show List.Pairwise _ _
 rw[AkX]
 exact List.nodup_range.imp fun {a b} h e=>h (by omega)
theorem AcN:∀{tss:List (List Int)} {i:Nat} (hi:i<tss.length),tss.flatten.Nodup→tss[i].Nodup
 | t::tss,0,_,h=>by rw[Ale] at h;exact(List.nodup_append.mp h).1
 | t::tss,i+1,hi,h=>by rw[Ale] at h;exact AcN (tss:=tss) (i:=i) (by simpa using hi) (List.nodup_append.mp h).2.1
theorem Lay.inc(L:Lay up m n tss zs eo po){i:Nat}(hi:i<tss.length):tss[i].Pairwise (·<·):=by
 obtain⟨_,_,_,_,_,_,_,_,_,_,p⟩:=L.at hi
 exact(p.and (AcN hi L.nd)).imp fun {a b} ⟨h1,h2⟩=>by omega
theorem Lay.mem(L:Lay up m n tss zs eo po){i:Nat}(hi:i<tss.length){z:Int}(hz:z∈tss[i]):0≤z∧z<((m+n:Nat):Int):=by
 have:z∈tss.flatten:=List.mem_flatten.mpr ⟨_,AkI hi,hz⟩
 obtain⟨k,hk,rfl⟩:=List.mem_map.mp (L.all.mem_iff.mp this)
 have:=List.mem_range.mp hk
 omega
theorem Lay.has(L:Lay up m n tss zs eo po){k:Nat}(hk:k<m+n):∃ i,∃ hi:i<tss.length,((k:Nat):Int)∈tss[i]:=by
 have:((k:Nat):Int)∈tss.flatten:=L.all.mem_iff.mpr (List.mem_map.mpr ⟨k,List.mem_range.mpr hk,rfl⟩)
 obtain⟨t,ht,hz⟩:=List.mem_flatten.mp this
 obtain⟨i,hi,e⟩:=AkW ht
 exact⟨i,hi,by rw[e];exact hz⟩
theorem Wt:∀{tss:List (List Int)},tss.flatten.Nodup→∀{i j:Nat} (hi:i<tss.length) (hj:j<tss.length) {z:Int},z∈tss[i]→z∈tss[j]→i=j
 | t::tss,h,0,0,_,_,_,_,_=>rfl
 | t::tss,h,0,j+1,_,hj,z,h1,h2=>by
  rw[Ale] at h
  have:=(List.nodup_append.mp h).2.2 z h1 z (List.mem_flatten.mpr ⟨_,AkI (by simpa using hj),h2⟩)
  exact absurd rfl this
 | t::tss,h,i+1,0,hi,_,z,h1,h2=>by
  rw[Ale] at h
  have:=(List.nodup_append.mp h).2.2 z h2 z (List.mem_flatten.mpr ⟨_,AkI (by simpa using hi),h1⟩)
  exact absurd rfl this
 | t::tss,h,i+1,j+1,hi,hj,z,h1,h2=>by
  rw[Ale] at h
  rw[Wt (List.nodup_append.mp h).2.1 (i:=i) (j:=j) (by simpa using hi) (by simpa using hj) h1 h2]
theorem Lay.mono(L:Lay up m n tss zs eo po){i:Nat}{a:Nat × Nat}(ea:zs[i]?=some a):∀(d:Nat) (b:Nat × Nat),zs[i+d]?=some b→a.1≤b.1∧a.2≤b.2
 | 0,b,eb=>by rw[Nat.add_zero,ea] at eb;cases eb;exact⟨Ak8 _,Ak8 _⟩
 | d+1,b,eb=>by
  have hl:i+d<zs.length:=by have:=(List.getElem?_eq_some_iff.mp eb).1;omega
  obtain⟨h1,h2⟩:=L.mono ea d zs[i+d] (Ak9 hl)
  obtain⟨h3,h4,_⟩:=L.stp (i+d) _ b (Ak9 hl) eb
  omega
theorem Zc{l:List Nat}{s s':Nat}(h:s≤s'){x:Nat}(hx:x∈(l.drop s).take (s'-s)):x∈l.take s':=by
 have:l.take s'=l.take s++(l.drop s).take (s'-s):=by
  conv=>lhs;rw[show s'=s+(s'-s) by omega]
  rw[List.take_add]
 rw[this]
 exact AkU _ hx
theorem Zd{l:List Nat}{s s' b:Nat}(h:b≤s){x:Nat}(hx:x∈(l.drop s).take (s'-s)):x∈l.drop b:=by
 have h1:=AlH hx
 have:l.drop s=(l.drop b).drop (s-b):=by rw[List.drop_drop];congr 1;omega
 rw[this] at h1
 exact Amf h1
end
def wid (cl:List (List Nat))(ac:Nat):List (List Nat):=cl.map fun t=>(List.replicate ac t).flatten
def til (cl:List (List Nat))(ac al:Nat):List (List Nat):=(List.replicate al (wid cl ac)).flatten
def Sq3 (c:Nat):Prop:=c=35∨c=46∨c=63
structure Hc (cl:List (List Nat)) (m n:Nat):Prop where
 hn:cl.length=n
 hm:∀ t∈cl,t.length=m
 sg:∀ t∈cl,∀ c∈t,Sq3 c
 m2:2≤m
 m40:m≤40
 n2:2≤n
 n40:n≤40
def sg2 (cl:List (List Nat))(p e:Nat):Nat:=(cl.getD p []).getD e 0
def Up (N:Int)(ks:List Int):Prop:=(∀(i:Nat) (a b:Int),ks[i]?=some a→ks[i+1]?=some b→a<b)∧∀ k∈ks,0≤k∧k<N
def Air (N:Int)(ks:List Int):Prop:=ks≠[]∧Up N ks
def Ajc (cl:List (List Nat))(m e:Nat)(k:Nat):List Int:=((List.range k).filter fun p=>decide (sg2 cl p e≠46)).map fun p=>(m:Int)+((p:Nat):Int)
def lowP(t:List Nat)(k:Nat):List Int:=((List.range k).filter fun e=>decide (t.getD e 0≠35)).map fun e=>((e:Nat):Int)
def lows(cl:List (List Nat))(m:Nat):List (List Int):=((List.range m).map fun e=>Ajc cl m e cl.length)++cl.map fun t=>lowP t m
def AjN (cl:List (List Nat))(m n:Nat)(ks:List Int):Prop:=∀(s:Nat) (l:List Int),s<m+n→(s:Int)∉ks→(lows cl m)[s]?=some l→∀ r∈l,r∉ks
def CutAt(cl:List (List Nat))(m:Nat)(ks:List Int)(p e:Nat):Prop:=((e:Int)∈ks→((m:Int)+(p:Int))∉ks→sg2 cl p e=35)∧(((m:Int)+(p:Int))∈ks→(e:Int)∉ks→sg2 cl p e=46)
inductive Wy (tss:List (List Int)) (s:Nat):Nat→Nat→Prop where
 | nil:Wy tss s 0 s
 | snoc {v w L:Nat} (h:Wy tss s L v) (e:(w:Int)∈tss.getD v []):Wy tss s (L+1) w
structure Bf (tss:List (List Int)) (s:Nat) (ps:List (Nat × Option Nat)) (dp:List Nat):Prop where
 len:dp.length=ps.length
 st:ps[0]?=some (s,none)∧dp[0]?=some 0
 nd:∀(i j v:Nat) (a b:Option Nat),ps[i]?=some (v,a)→ps[j]?=some (v,b)→i=j
 lt:∀(v:Nat) (a:Option Nat),(v,a)∈ps→v<tss.length
 par:∀(i v:Nat) (a:Option Nat),0<i→ps[i]?=some (v,a)→∃(j u:Nat) (b:Option Nat) (d:Nat),a=some u∧j<i∧ps[j]?=some (u,b)∧dp[j]?=some d∧dp[i]?=some (d+1)∧(v:Int)∈tss.getD u []
 mono:∀(i j a b:Nat),i≤j→dp[i]?=some a→dp[j]?=some b→a≤b
def Dn (tss:List (List Int))(ps:List (Nat × Option Nat))(dp:List Nat)(pl:Nat):Prop :=
 ∀(i u:Nat) (b:Option Nat) (a:Nat),i<pl→ps[i]?=some (u,b)→dp[i]?=some a→∀ w:Nat,(w:Int)∈tss.getD u []→∃(j:Nat) (c:Option Nat) (x:Nat),ps[j]?=some (w,c)∧dp[j]?=some x∧x≤a+1
def Pth (tss:List (List Int))(l:List Nat):Prop:=∀(i a b:Nat),l[i]?=some a→l[i+1]?=some b→(b:Int)∈tss.getD a []
structure NS (N:Nat) (ws:List Nat):Prop where
 ne:ws≠[]
 up:ws.Pairwise (·<·)
 lt:∀ v∈ws,v<N
def cI (ws:List Nat):List Int:=ws.map fun v=>((v:Nat):Int)
theorem K5:∀(l ws:List Nat),l.Nodup→(∀ v∈l,v∈ws)→l.length≤ws.length
 | [],ws,_,_=>AkD _
 | a::l,ws,nd,h=>by
  obtain⟨na,nl⟩:=List.nodup_cons.mp nd
  have ha:=h a AkM
  have:=K5 l (ws.erase a) nl fun v hv=>by
   refine(Am0 (fun(e:v=a)=>na (by rw[← e];exact hv))).mpr (h v (AkN _ hv))
  rw[Am1 ha] at this
  have:0<ws.length:=Am2 ha
  rw[AkR]
  omega
def Ajd (tss:List (List Int))(ws:List Nat)(v:Nat):List Int:=(tss.getD v []).filter fun z=>decide (z∈cI ws)
def Aje (tss:List (List Int))(ws us:List Nat):List (List Int):=(List.range tss.length).map fun v=>if v∈us then Ajd tss ws v else []
def nar (tss:List (List Int))(ws:List Nat):List (List Int):=Aje tss ws ws
def Ak3 (tss:List (List Int))(ws:List Nat):Prop:=∀ u∈ws,∀ v∈ws,∃ L,Wy (nar tss ws) u L v
structure Lf (tss:List (List Int)) (ws fs:List Nat):Prop where
 ne:fs≠[]
 len:fs.length<ws.length
 sub:∀ v∈fs,v∈ws
 up:fs.Pairwise (·<·)
 off:∀ o∈ws,o∉fs→∀ v∈fs,(v:Int)∉tss.getD o []
structure Rd (tss:List (List Int)) (ws found:List Nat):Prop where
 fst:found[0]?=ws[0]?
 ins:∀ v∈found,v∈ws
 all:∀ v∈ws,v∈found
 len:found.length≤ws.length*ws.length
 one:ws.length=1→found=ws
 nxt:1<ws.length→∀ i a b:Nat,found[i]?=some a→found[(i+1)%found.length]?=some b→(b:Int)∈tss.getD a []
structure Wk (tss:List (List Int)) (ws:List Nat) (f i:Nat) (as bs:List Nat) (c:Nat):Prop where
 e:as=bs++[c]
 fst:as[0]?=some f
 ins:∀ v∈as,v∈ws
 has:∀ v∈ws.take (i+1),v∈as
 pth:Pth (nar tss ws) as
 len:as.length≤1+i*(ws.length-1)
 lst:(i=0∧as=[f])∨(0<i∧c≠f)
theorem Afi{f:Nat→Nat}{c:Nat}:∀{l:List Nat},(∀ x∈l,f x≤c)→sm f l≤l.length*c
 | [],_=>AkD _
 | z::l,h=>by
  have h1:=h z AkM
  have h2:=Afi fun x hx=>h x (AkN z hx)
  show f z+sm f l≤(l.length+1)*c
  rw[AlA]
  omega
theorem Afj{f:Nat→Nat}{c:Nat}:∀{l:List Nat},(∀ x∈l,c≤f x)→l.length*c≤sm f l
 | [],_=>by show 0*c≤0;omega
 | z::l,h=>by
  have h1:=h z AkM
  have h2:=Afj fun x hx=>h x (AkN z hx)
  show(l.length+1)*c≤f z+sm f l
  rw[AlA]
  omega
theorem Ze(f:Nat→Nat)(p:Nat→Bool)(l:List Nat):sm f l=sm f (l.filter p)+sm f (l.filter fun x=>!p x)∧l.length=(l.filter p).length+(l.filter fun x=>!p x).length:=by
 have h:=List.filter_append_perm p l
 refine⟨?_,?_⟩
 ·rw[← Jb f h,Ld]
 ·rw[← h.length_eq,AkE]
theorem Ord.best{key:Nat→Nat}{N:Nat}{l:List Nat}(o:Ord key N l){S:List Nat}(nd:S.Nodup)(sub:∀ x∈S,x<N):sm key S≤sm key (l.take S.length):=by
 have hl:=o.len
 have hs:S.length≤N:=by
  have:=K5 S (List.range N) nd fun x hx=>List.mem_range.mpr (sub x hx)
  rwa [AkC] at this
 by_cases h0:S.length=0
 ·rw[List.length_eq_zero_iff.mp h0]
  exact AkD _
 have hk:S.length-1<l.length:=by omega
 have pw:=List.pairwise_iff_getElem.mp o.ord
 have hi:∀ x∈l.take S.length,key l[S.length-1]≤key x:=fun x hx=>by
  obtain⟨i,hi,e⟩:=AkW hx
  rw[AkO] at hi
  rw[List.getElem_take] at e
  rw[← e]
  by_cases e2:i=S.length-1
  ·subst e2;exact Ak8 _
  ·have:=pw i (S.length-1) (by omega) hk (by omega)
   omega
 have lo:∀ x∈l,x∉l.take S.length→key x≤key l[S.length-1]:=fun x hx hn=>by
  obtain⟨i,hi,e⟩:=AkW hx
  have:¬i<S.length:=fun h=>hn (by rw[← e];exact List.mem_take_iff_getElem.mpr ⟨i,by omega,rfl⟩)
  have q:=pw (S.length-1) i hk hi (by omega)
  rw[← e]
  omega
 obtain⟨a1,a2⟩:=Ze key (fun x=>decide (x∈l.take S.length)) S
 obtain⟨b1,b2⟩:=Ze key (fun x=>decide (x∈S)) (l.take S.length)
 have ndP:(l.take S.length).Nodup:=o.nd.sublist (Al9 _ _)
 have pm:(S.filter fun x=>decide (x∈l.take S.length)).Perm ((l.take S.length).filter fun x=>decide (x∈S)) :=
  (AlN (nd.filter _) (ndP.filter _)).mpr fun x=>by
   rw[Alo,Alo,decide_eq_true_iff,decide_eq_true_iff]
   exact And.comm
 have e1:=Jb key pm
 have e2:=pm.length_eq
 have lt:(l.take S.length).length=S.length:=by rw[AkO];omega
 have u1:=Afi (f:=key) (c:=key l[S.length-1]) (l:=S.filter fun x=>!decide (x∈l.take S.length)) fun x hx=>by
  obtain⟨h1,h2⟩:=List.mem_filter.mp hx
  refine lo x (o.perm.mem_iff.mpr (List.mem_range.mpr (sub x h1))) fun z=>?_
  rw[decide_eq_true z] at h2
  cases h2
 have u2:=Afj (f:=key) (c:=key l[S.length-1]) (l:=(l.take S.length).filter fun x=>!decide (x∈S)) fun x hx=>hi x (List.mem_filter.mp hx).1
 have e3:(S.filter fun x=>!decide (x∈l.take S.length)).length=((l.take S.length).filter fun x=>!decide (x∈S)).length:=by omega
 rw[e3] at u1
 omega
theorem Aam(up:Nat→Nat→Bool){m n:Nat}{S S' T T':List Nat}(hS:(S++S').Perm (List.range m))(hT:(T++T').Perm (List.range n))
  (h1:∀ x∈S,∀ y∈T',up x y=true) (h2:∀ y∈T,∀ x∈S',up x y=false):sm (aS up n) S+sm (bS up m) T+S.length*T.length=S.length*n+T.length*m:=by
 have hm:S.length+S'.length=m:=by have:=hS.length_eq;rwa [AkE,AkC] at this
 have hn:T.length+T'.length=n:=by have:=hT.length_eq;rwa [AkE,AkC] at this
 have g1:sm (aS up n) S=sm (fun e=>sm (fun p=>b2n (up e p)) T) S+S.length*T'.length:=by
  rw[← Eb,← Le]
  refine K4 fun e he=>?_
  unfold aS
  rw[← Jb _ hT,Ld]
  have:sm (fun p=>b2n (up e p)) T'=T'.length:=by
   rw[← Amd T'.length,← Eb]
   exact K4 fun p hp=>by rw[h1 e he p hp];rfl
  rw[this]
 have g2:sm (bS up m) T=sm (fun p=>sm (fun e=>b2n (!up e p)) S) T+T.length*S'.length:=by
  rw[← Eb,← Le]
  refine K4 fun p hp=>?_
  unfold bS
  rw[← Jb _ hS,Ld]
  have:sm (fun e=>b2n (!up e p)) S'=S'.length:=by
   rw[← Amd S'.length,← Eb]
   exact K4 fun e he=>by rw[h2 p hp e he];rfl
  rw[this]
 have g3:=cross up T S
 have e1:S.length*n=S.length*T.length+S.length*T'.length:=by rw[← hn,AlU]
 have e2:T.length*m=S.length*T.length+T.length*S'.length:=by rw[← hm,AlU,Ami T.length S.length]
 omega
theorem Wu{N:Nat}{S:List Nat}(nd:S.Nodup)(sub:∀ x∈S,x<N):(S++(List.range N).filter fun x=>decide (x∉S)).Perm (List.range N):=by
 refine(AlN ?_ AlX).mpr fun x=>?_
 ·rw[Am3]
  refine⟨nd,List.nodup_range.filter _,fun a ha b hb e=>?_⟩
  have:=of_decide_eq_true (List.mem_filter.mp hb).2
  rw[← e] at this
  exact this ha
 ·rw[Al5,Alo,Amp,decide_eq_true_iff]
  constructor
  ·rintro(h | h)
   ·exact sub x h
   ·exact h.1
  ·intro h
   by_cases hx:x∈S
   ·exact .inl hx
   ·exact .inr ⟨h,hx⟩
section
variable {up:Nat→Nat→Bool}{m n:Nat}{tss:List (List Int)}{zs:List (Nat × Nat)}{eo po:List Nat}
end
structure Ov (m N:Nat) (O:Nat→Nat→Prop):Prop where
 lt:∀{u v},O u v→u<N∧v<N
 kd:∀{u v},O u v→(u<m↔¬v<m)
 tot:∀{u v},u<N→v<N→(u<m↔¬v<m)→O u v∨O v u
 asy:∀{u v},O u v→¬O v u
def Clo (O:Nat→Nat→Prop)(X:List Nat):Prop:=∀ u v,v∈X→O u v→u∈X
def cE (m:Nat)(X:List Nat):Nat:=(X.filter fun x=>decide (x<m)).length
def cP (m:Nat)(X:List Nat):Nat:=(X.filter fun x=>!decide (x<m)).length
def cK (m b:Nat)(X:List Nat):Nat:=(X.filter fun x=>decide (x<m↔b<m)).length
def cO (m b:Nat)(X:List Nat):Nat:=(X.filter fun x=>!decide (x<m↔b<m)).length
structure Swp (O:Nat→Nat→Prop) (m N:Nat) (X X'':List Nat):Prop where
 nd:X''.Nodup
 lt:∀ x∈X'',x<N
 clo:Clo O X''
 e:cE m X''=cE m X
 p:cP m X''=cP m X
section
variable {m N:Nat}{O:Nat→Nat→Prop}
def turn(O:Nat→Nat→Prop)(a b u v:Nat):Prop:=(O u v∧¬(u=a∧v=b))∨(u=b∧v=a)
end
theorem AcO(key:Nat→Nat)(N:Nat):∃ l,Ord key N l:=by
 refine⟨(List.range N).mergeSort fun x y=>decide (key y<key x∨(key x=key y∧x≤y)),List.mergeSort_perm _ _,?_⟩
 have pw:=List.pairwise_mergeSort (le:=fun x y=>decide (key y<key x∨(key x=key y∧x≤y))) (fun a b c h1 h2=>by simp only [decide_eq_true_eq] at h1 h2 ⊢;omega) (fun a b=>by simp only [Bool.or_eq_true,decide_eq_true_eq];omega) (List.range N)
 have nd:((List.range N).mergeSort fun x y=>decide (key y<key x∨(key x=key y∧x≤y))).Nodup:=(List.mergeSort_perm _ _).nodup_iff.mpr AlX
 exact(pw.and nd).imp fun {x y} ⟨h1,h2⟩=>by simp only [decide_eq_true_eq] at h1;omega
def ovU (up:Nat→Nat→Bool)(m n u v:Nat):Prop:=(u<m∧m≤v∧v<m+n∧up u (v-m)=true)∨(m≤u∧u<m+n∧v<m∧up v (u-m)=false)
theorem AcP(up:Nat→Nat→Bool)(m n:Nat):Ov m (m+n) (ovU up m n):=by
 refine⟨fun {u v} h=>?_,fun {u v} h=>?_,fun {u v} h1 h2 h3=>?_,fun {u v} h h'=>?_⟩
 ·rcases h with h | h <;> omega
 ·rcases h with h | h
  ·exact⟨fun _=>by omega,fun _=>h.1⟩
  ·exact⟨fun z=>by omega,fun z=>absurd h.2.2.1 z⟩
 ·by_cases hu:u<m
  ·have hv:=h3.mp hu
   cases e:up u (v-m) with
   | true=>exact .inl (.inl ⟨hu,by omega,h2,e⟩)
   | false=>exact .inr (.inr ⟨by omega,h2,hu,e⟩)
  ·have hv:v<m:=Classical.byContradiction fun z=>hu (h3.mpr z)
   cases e:up v (u-m) with
   | true=>exact .inr (.inl ⟨hv,by omega,h1,e⟩)
   | false=>exact .inl (.inr ⟨by omega,h1,hv,e⟩)
 ·rcases h with ⟨a1,a2,a3,a4⟩ | ⟨a1,a2,a3,a4⟩ <;> rcases h' with ⟨b1,b2,b3,b4⟩ | ⟨b1,b2,b3,b4⟩
  ·omega
  ·rw[a4] at b4;cases b4
  ·rw[a4] at b4;cases b4
  ·omega
structure Tpz (up:Nat→Nat→Bool) (m n:Nat) (zs:List (Nat × Nat)) (eo po:List Nat):Prop where
 oE:Ord (aS up n) m eo
 oP:Ord (bS up m) n po
 mem:∀ s t,(s,t)∈zs↔s≤m∧t≤n∧sm (aS up n) (eo.take s)+sm (bS up m) (po.take t)+s*t=s*n+t*m
 lex:zs.Pairwise lexLt
 chn:∀ a b,a∈zs→b∈zs→lexLt a b→a.1≤b.1∧a.2≤b.2
def Qu (m:Nat)(eo po:List Nat)(s t:Nat):List Nat:=eo.take s++(po.take t).map (m+·)
section
variable {up:Nat→Nat→Bool}{m n:Nat}{zs:List (Nat × Nat)}{eo po:List Nat}
theorem Aan{x s t:Nat}(h:x<m):x∈Qu m eo po s t↔x∈eo.take s:=by
 unfold Qu
 rw[Al5]
 refine⟨fun z=>z.elim id fun z=>?_,.inl⟩
 obtain⟨y,_,e⟩:=List.mem_map.mp z
 omega
theorem Aao{y s t:Nat}(oE:Ord (aS up n) m eo):m+y∈Qu m eo po s t↔y∈po.take t:=by
 unfold Qu
 rw[Al5]
 refine⟨fun z=>z.elim (fun z=>?_) fun z=>?_,fun h=>.inr (List.mem_map.mpr ⟨y,h,rfl⟩)⟩
 ·have:=oE.lt (AlH z)
  omega
 ·obtain⟨y',h,e⟩:=List.mem_map.mp z
  rw[show y=y' by omega]
  exact h
theorem Tpz.X(T:Tpz up m n zs eo po){s t:Nat}(h:(s,t)∈zs):(Qu m eo po s t).Nodup∧(∀ x∈Qu m eo po s t,x<m+n)∧Clo (ovU up m n) (Qu m eo po s t)∧cE m (Qu m eo po s t)=s∧cP m (Qu m eo po s t)=t:=by
 obtain⟨h1,h2,h3⟩:=(T.mem s t).mp h
 have lE:=T.oE.len
 have lP:=T.oP.len
 have fE:∀ x∈eo.take s,x<m:=fun x hx=>T.oE.lt (AlH hx)
 have fP:∀ y∈(po.take t).map (m+·),¬y<m:=fun y hy=>by obtain⟨z,_,rfl⟩:=List.mem_map.mp hy;omega
 have ov:=AcL up (S:=eo.take s) (S':=eo.drop s) (T:=po.take t) (T':=po.drop t) (by rw[Alj];exact T.oE.perm) (by rw[Alj];exact T.oP.perm) (by
  rw[AkO,AkO,lE,lP,Alz h1,Alz h2]
  exact h3)
 refine⟨?_,fun x hx=>?_,fun u v hv ho=>?_,?_,?_⟩
 ·unfold Qu
  rw[Am3]
  refine⟨T.oE.nd.sublist (Al9 _ _),?_,fun x hx y hy e=>fP y hy (by rw[← e];exact fE x hx)⟩
  show List.Pairwise _ _
  rw[AkX]
  exact(T.oP.nd.sublist (Al9 _ _)).imp fun {a b} h e=>h (by omega)
 ·unfold Qu at hx
  rcases List.mem_append.mp hx with h | h
  ·have:=fE x h;omega
  ·obtain⟨y,hy,rfl⟩:=List.mem_map.mp h
   have:=T.oP.lt (AlH hy)
   omega
 ·rcases ho with ⟨a1,a2,a3,a4⟩ | ⟨a1,a2,a3,a4⟩
  ·have e:m+(v-m)=v:=by omega
   rw[← e,Aao T.oE] at hv
   rw[Aan a1]
   have hu:u∈eo:=T.oE.perm.mem_iff.mpr (List.mem_range.mpr a1)
   rw[← Alj s eo,Al5] at hu
   rcases hu with hu | hu
   ·exact hu
   ·rw[ov.2 _ hv _ hu] at a4;cases a4
  ·have e:m+(u-m)=u:=by omega
   rw[Aan a3] at hv
   rw[← e,Aao T.oE]
   have hu:u-m∈po:=T.oP.perm.mem_iff.mpr (List.mem_range.mpr (by omega))
   rw[← Alj t po,Al5] at hu
   rcases hu with hu | hu
   ·exact hu
   ·rw[ov.1 _ hv _ hu] at a4;cases a4
 ·unfold cE Qu
  rw[AlF,List.filter_eq_self.mpr (fun x hx=>decide_eq_true (fE x hx)),List.filter_eq_nil_iff.mpr (fun y hy z=>fP y hy (of_decide_eq_true z)),Alb,AkO]
  omega
 ·unfold cP Qu
  rw[AlF,List.filter_eq_nil_iff.mpr (fun x hx z=>by rw[decide_eq_true (fE x hx)] at z;cases z),List.filter_eq_self.mpr (fun y hy=>by rw[decide_eq_false (fP y hy)];rfl),AlB,AkA,AkO]
  omega
theorem Tpz.top(T:Tpz up m n zs eo po){X:List Nat}(nd:X.Nodup)(lt:∀ x∈X,x<m+n)(cl:Clo (ovU up m n) X):(cE m X,cP m X)∈zs:=by
 have hS:(X.filter fun x=>decide (x<m)).Nodup:=nd.filter _
 have hT:((X.filter fun x=>!decide (x<m)).map (·-m)).Nodup:=by
  show List.Pairwise _ _
  rw[AkX]
  refine(nd.filter _).imp_of_mem fun {a b} ha hb h e=>h ?_
  have h1:¬a<m:=by simpa using (List.mem_filter.mp ha).2
  have h2:¬b<m:=by simpa using (List.mem_filter.mp hb).2
  omega
 have inT:∀{y},y∈(X.filter fun x=>!decide (x<m)).map (·-m)↔m+y∈X:=fun {y}=>by
  rw[AlG]
  constructor
  ·rintro⟨x,hx,e⟩
   obtain⟨h1,h2⟩:=List.mem_filter.mp hx
   have h3:¬x<m:=by simpa using h2
   rw[show m+y=x by omega]
   exact h1
  ·exact fun h=>⟨m+y,List.mem_filter.mpr ⟨h,by simp⟩,by omega⟩
 have inS:∀{x},x∈(X.filter fun x=>decide (x<m))↔x∈X∧x<m:=fun {x}=>by rw[Alo,decide_eq_true_iff]
 have lS:(X.filter fun x=>decide (x<m)).length≤m:=by
  have:=K5 _ (List.range m) hS fun x hx=>List.mem_range.mpr (inS.mp hx).2
  rwa [AkC] at this
 have ltT:∀ y∈(X.filter fun x=>!decide (x<m)).map (·-m),y<n:=fun y hy=>by
  have:=lt _ (inT.mp hy)
  omega
 have lT:((X.filter fun x=>!decide (x<m)).map (·-m)).length≤n:=by
  have:=K5 _ (List.range n) hT fun y hy=>List.mem_range.mpr (ltT y hy)
  rwa [AkC] at this
 have h1:∀ x∈(X.filter fun x=>decide (x<m)),∀ y,y<n→y∉(X.filter fun x=>!decide (x<m)).map (·-m)→up x y=true:=fun x hx y hy hn=>by
  cases e:up x y with
  | true=>rfl
  | false=>exact absurd (inT.mpr (cl (m+y) x (inS.mp hx).1 (.inr ⟨by omega,by omega,(inS.mp hx).2,by rw[show m+y-m=y by omega];exact e⟩))) hn
 have h2:∀ y∈(X.filter fun x=>!decide (x<m)).map (·-m),∀ x,x<m→x∉(X.filter fun x=>decide (x<m))→up x y=false:=fun y hy x hx hn=>by
  have hyn:=ltT y hy
  cases e:up x y with
  | false=>rfl
  | true=>exact absurd (inS.mpr ⟨cl x (m+y) (inT.mp hy) (.inl ⟨hx,by omega,by omega,by rw[show m+y-m=y by omega];exact e⟩),hx⟩) hn
 have e:=Aam up (Wu hS fun x hx=>(inS.mp hx).2) (Wu hT ltT) (fun x hx y hy=>by
  obtain⟨q1,q2⟩:=List.mem_filter.mp hy
  exact h1 x hx y (List.mem_range.mp q1) (of_decide_eq_true q2)) (fun y hy x hx=>by
  obtain⟨q1,q2⟩:=List.mem_filter.mp hx
  exact h2 y hy x (List.mem_range.mp q1) (of_decide_eq_true q2))
 have b1:=T.oE.best hS fun x hx=>(inS.mp hx).2
 have b2:=T.oP.best hT ltT
 have lo:=AcF up (S:=eo.take (X.filter fun x=>decide (x<m)).length) (S':=eo.drop (X.filter fun x=>decide (x<m)).length) (T:=po.take ((X.filter fun x=>!decide (x<m)).map (·-m)).length) (T':=po.drop ((X.filter fun x=>!decide (x<m)).map (·-m)).length) (by rw[Alj];exact T.oE.perm) (by rw[Alj];exact T.oP.perm)
 rw[AkO,AkO,T.oE.len,T.oP.len,Alz lS,Alz lT] at lo
 have el:((X.filter fun x=>!decide (x<m)).map (·-m)).length=cP m X:=by rw[AkA];rfl
 rw[el] at lo b2 e lT
 have el2:(X.filter fun x=>decide (x<m)).length=cE m X:=rfl
 rw[el2] at lo b1 e lS
 exact(T.mem _ _).mpr ⟨lS,lT,by omega⟩
end
theorem lex_trans{a b c:Nat × Nat}(h1:lexLt a b)(h2:lexLt b c):lexLt a c:=by unfold lexLt at *;omega
theorem Aer(a b:Nat × Nat):lexLt a b∨a=b∨lexLt b a:=by
 obtain⟨a1,a2⟩:=a
 obtain⟨b1,b2⟩:=b
 unfold lexLt
 by_cases h:a1=b1
 ·by_cases h2:a2=b2
  ·exact .inr (.inl (by rw[h,h2]))
  ·dsimp only;omega
 ·dsimp only;omega
theorem Zf{l:List (Nat × Nat)}(pw:l.Pairwise lexLt)(p:Nat × Nat→Bool)(dn:∀ a b,lexLt a b→p b=true→p a=true):l=l.filter p++l.filter fun x=>!p x:=by
 induction l with
 | nil=>rfl
 | cons a l ih =>
  obtain⟨h1,h2⟩:=List.pairwise_cons.mp pw
  have ih':=ih h2
  cases hp:p a with
  | true =>
   rw[Am4 hp,Am5 (by rw[hp];decide),Amw,← ih']
  | false =>
   have none:l.filter p=[]:=List.filter_eq_nil_iff.mpr fun x hx z=>by
    have:=dn a x (h1 x hx) z
    rw[hp] at this
    cases this
   rw[none,AlB] at ih'
   rw[Am5 (by rw[hp];decide),Am4 (by rw[hp];rfl),none,AlB,← ih']
theorem Ti{l l':List (Nat × Nat)}(pw:l.Pairwise lexLt)(pw':l'.Pairwise lexLt)(h:∀ x,x∈l↔x∈l'):l=l':=by
 have nd:∀{l:List (Nat × Nat)},l.Pairwise lexLt→l.Nodup:=fun p=>p.imp fun {a b} h e=>by rw[e] at h;exact AaS h
 exact Th (fun a b h1 h2=>YZ h1 h2) ((AlN (nd pw) (nd pw')).mpr h) pw pw'
theorem AbL{l:List (Nat × Nat)}(pw:l.Pairwise lexLt){i:Nat}{z:Nat × Nat}(hz:l[i]?=some z)(x:Nat × Nat):x∈l.take (i+1)↔x∈l∧¬lexLt z x:=by
 constructor
 ·intro h
  obtain⟨j,hj,e⟩:=AkW h
  rw[AkO] at hj
  rw[List.getElem_take] at e
  refine⟨AlH h,fun lt=>?_⟩
  have:=Tg (j:=j) pw hz (by rw[Ak9 (show j<l.length by omega),e]) lt
  omega
 ·rintro⟨h1,h2⟩
  obtain⟨j,hj,e⟩:=AkW h1
  have e':l[j]?=some x:=by rw[Ak9 hj,e]
  have:j<i+1:=Classical.byContradiction fun hn=>by
   have hi:=(List.getElem?_eq_some_iff.mp hz)
   obtain⟨hi1,hi2⟩:=hi
   have:=List.pairwise_iff_getElem.mp pw i j hi1 hj (by omega)
   rw[hi2,e] at this
   exact h2 this
  exact List.mem_take_iff_getElem.mpr ⟨j,by omega,e⟩
theorem AbM{l:List (Nat × Nat)}(pw:l.Pairwise lexLt){i:Nat}{z:Nat × Nat}(hz:l[i]?=some z)(x:Nat × Nat):x∈l.drop i↔x∈l∧¬lexLt x z:=by
 obtain⟨hi1,hi2⟩:=List.getElem?_eq_some_iff.mp hz
 constructor
 ·intro h
  obtain⟨j,hj,e⟩:=AkW h
  rw[Alh] at hj
  rw[List.getElem_drop] at e
  refine⟨Amf h,fun lt=>?_⟩
  have:=Tg (i:=i+j) pw (by rw[Ak9 (show i+j<l.length by omega),e]) hz lt
  omega
 ·rintro⟨h1,h2⟩
  obtain⟨j,hj,e⟩:=AkW h1
  have:¬j<i:=fun hn=>by
   have:=List.pairwise_iff_getElem.mp pw j i hj hi1 hn
   rw[hi2,e] at this
   exact h2 this
  exact List.mem_drop_iff_getElem.mpr ⟨j-i,by omega,by rw[← e];congr 1;omega⟩
theorem agree{l l':List (Nat × Nat)}(pw:l.Pairwise lexLt)(pw':l'.Pairwise lexLt){i j:Nat}{u v:Nat × Nat}(hu:l[i]?=some u)(hv:l[j]?=some v)(huv:lexLt u v)(low:∀ x,¬lexLt u x→(x∈l'↔x∈l))(high:∀ x,¬lexLt x v→(x∈l'↔x∈l)) :
  ∃ mid,l'=l.take (i+1)++mid++l.drop j∧∀ x∈mid,x∈l'∧lexLt u x∧lexLt x v:=by
 have d1:∀ a b:Nat × Nat,lexLt a b→(fun x=>@decide (¬lexLt u x) (Classical.propDecidable _)) b=true→(fun x=>@decide (¬lexLt u x) (Classical.propDecidable _)) a=true:=fun a b h1 h2=>by
  have:=@of_decide_eq_true _ (Classical.propDecidable _) h2
  exact @decide_eq_true _ (Classical.propDecidable _) fun z=>this (lex_trans z h1)
 have d2:∀ a b:Nat × Nat,lexLt a b→(fun x=>@decide (lexLt x v) (Classical.propDecidable _)) b=true→(fun x=>@decide (lexLt x v) (Classical.propDecidable _)) a=true:=fun a b h1 h2=>by
  have:=@of_decide_eq_true _ (Classical.propDecidable _) h2
  exact @decide_eq_true _ (Classical.propDecidable _) (lex_trans h1 this)
 have s1:=Zf pw' _ d1
 have pw2:=pw'.filter fun x=>!(@decide (¬lexLt u x) (Classical.propDecidable _))
 have s2:=Zf pw2 _ d2
 refine⟨(l'.filter fun x=>!(@decide (¬lexLt u x) (Classical.propDecidable _))).filter fun x=>@decide (lexLt x v) (Classical.propDecidable _),?_,fun x hx=>?_⟩
 ·have e1:(l'.filter fun x=>@decide (¬lexLt u x) (Classical.propDecidable _))=l.take (i+1):=Ti (pw'.filter _) (pw.sublist (Al9 _ _)) fun x=>by
   rw[Alo,AbL pw hu,@decide_eq_true_iff _ (Classical.propDecidable _)]
   exact⟨fun h=>⟨(low x h.2).mp h.1,h.2⟩,fun h=>⟨(low x h.2).mpr h.1,h.2⟩⟩
  have e2:((l'.filter fun x=>!(@decide (¬lexLt u x) (Classical.propDecidable _))).filter fun x=>!(@decide (lexLt x v) (Classical.propDecidable _)))=l.drop j:=Ti (pw2.filter _) (pw.sublist (List.drop_sublist _ _)) fun x=>by
   rw[Alo,Alo,AbM pw hv]
   simp only [Bool.not_eq_true',@decide_eq_false_iff_not _ (Classical.propDecidable _),Classical.not_not]
   constructor
   ·rintro⟨⟨h1,h2⟩,h3⟩
    exact⟨(high x h3).mp h1,h3⟩
   ·rintro⟨h1,h2⟩
    refine⟨⟨(high x h2).mpr h1,?_⟩,h2⟩
    rcases Aer x v with h | h | h
    ·exact absurd h h2
    ·rw[h];exact huv
    ·exact lex_trans huv h
  rw[e1] at s1
  rw[e2] at s2
  rw[Alv,← s2]
  exact s1
 ·obtain⟨h1,h2⟩:=List.mem_filter.mp hx
  obtain⟨h3,h4⟩:=List.mem_filter.mp h1
  simp only [Bool.not_eq_true',@decide_eq_false_iff_not _ (Classical.propDecidable _),Classical.not_not] at h4
  exact⟨h3,h4,@of_decide_eq_true _ (Classical.propDecidable _) h2⟩
section
variable {up up':Nat→Nat→Bool}{m n:Nat}{tss:List (List Int)}{zs zs':List (Nat × Nat)}{eo po eo' po':List Nat}
theorem Lay.seg(L:Lay up m n tss zs eo po){j:Nat}(hj:j<tss.length):∃ a b,zs[j]?=some a∧zs[j+1]?=some b∧a.1≤b.1∧a.2≤b.2∧b.1≤m∧b.2≤n ∧
  (∀ x,x<m→(((x:Nat):Int)∈tss[j]↔x∈(eo.drop a.1).take (b.1-a.1)))∧∀ y,(((m+y:Nat):Int)∈tss[j]↔y∈(po.drop a.2).take (b.2-a.2)):=by
 obtain⟨a,b,ea,eb,x1,x2,x3,x4,_,pa,_⟩:=L.at hj
 refine⟨a,b,ea,eb,x1,x2,x3,x4,fun x hx=>?_,fun y=>?_⟩
 ·rw[pa.mem_iff,Al5]
  constructor
  ·rintro(h | h)
   ·obtain⟨k,hk,e⟩:=List.mem_map.mp h
    unfold cQ at e
    rw[show x=k by omega]
    exact hk
   ·obtain⟨k,hk,e⟩:=List.mem_map.mp h
    unfold cQ at e
    omega
  ·exact fun h=>.inl (List.mem_map.mpr ⟨x,h,by unfold cQ;omega⟩)
 ·rw[pa.mem_iff,Al5]
  constructor
  ·rintro(h | h)
   ·obtain⟨k,hk,e⟩:=List.mem_map.mp h
    have:=L.oE.lt (Amf (AlH hk))
    unfold cQ at e
    omega
   ·obtain⟨k,hk,e⟩:=List.mem_map.mp h
    unfold cQ at e
    rw[show y=k by omega]
    exact hk
  ·exact fun h=>.inr (List.mem_map.mpr ⟨y,h,rfl⟩)
theorem Zg{l:List Nat}{s s':Nat}(h:s≤s'){x:Nat}(hx:x∈l.take s):x∈l.take s':=by
 obtain⟨i,hi,e⟩:=List.mem_take_iff_getElem.mp hx
 exact List.mem_take_iff_getElem.mpr ⟨i,by omega,e⟩
theorem Zh{l:List Nat}(nd:l.Nodup){s x:Nat}(h1:x∈l.take s)(h2:x∈l.drop s):False:=by
 rw[← Alj s l,Am3] at nd
 exact nd.2.2 x h1 x h2 rfl
theorem Lay.inX(L:Lay up m n tss zs eo po){i j:Nat}{c:Nat × Nat}(hj:j<tss.length)(ec:zs[i]?=some c){x:Nat}(hx:((x:Nat):Int)∈tss[j]):x∈Qu m eo po c.1 c.2↔j<i:=by
 obtain⟨a,b,ea,eb,x1,x2,x3,x4,inE,inP⟩:=L.seg hj
 by_cases hm:x<m
 ·rw[Aan hm]
  have hs:=(inE x hm).mp hx
  constructor
  ·intro h
   refine Classical.byContradiction fun hn=>?_
   have:=(L.mono ec (j-i) a (by rw[show i+(j-i)=j by omega];exact ea)).1
   exact Zh L.oE.nd h (Zd this hs)
  ·intro h
   have:=(L.mono eb (i-(j+1)) c (by rw[show j+1+(i-(j+1))=i by omega];exact ec)).1
   exact Zg this (Zc x1 hs)
 ·have e:m+(x-m)=x:=by omega
  rw[← e] at hx ⊢
  rw[Aao L.oE]
  have hs:=(inP _).mp hx
  constructor
  ·intro h
   refine Classical.byContradiction fun hn=>?_
   have:=(L.mono ec (j-i) a (by rw[show i+(j-i)=j by omega];exact ea)).2
   exact Zh L.oP.nd h (Zd this hs)
  ·intro h
   have:=(L.mono eb (i-(j+1)) c (by rw[show j+1+(i-(j+1))=i by omega];exact ec)).2
   exact Zg this (Zc x2 hs)
end
def plc (os:List Int)(k:Nat):Nat:=(os.take k).count (os.getD k 0)
theorem Ij{os:List Int}{k:Nat}(h:k<os.length)(z:Int):(os.take (k+1)).count z=(os.take k).count z+if os.getD k 0=z then 1 else 0:=by
 rw[AlD,Amz,Ak9 h]
 have e:os.getD k 0=os[k]:=by simp[List.getD,h]
 rw[e]
 simp only [Option.toList_some,List.count_cons,List.count_nil,beq_iff_eq]
 simp
theorem count_le{os:List Int}(k:Nat)(z:Int):(os.take k).count z≤os.count z:=List.Sublist.count_le _ (Al9 _ _)
theorem UW{os:List Int}{k:Nat}(h:k<os.length):plc os k<os.count (os.getD k 0):=by
 have h1:=Ij h (os.getD k 0)
 rw[if_pos rfl] at h1
 have h2:=count_le (os:=os) (k+1) (os.getD k 0)
 unfold plc
 omega
def Ng (o e:Int)(own:List Nat)(p:Nat):Nat:=if o=e then own.getD p 0 else if e<o then 35 else 46
def FT (ps:List (List (List Nat)))(es:List Int)(o:Int)(b:Nat):List Nat:=(List.range es.length).map fun k=>Ng o (es.getD k 0) ((ps.getD o.toNat []).getD b []) (plc es k)
def lay (ps:List (List (List Nat)))(es os:List Int):List (List Nat):=(List.range os.length).map fun j=>FT ps es (os.getD j 0) (plc os j)
theorem Va(ps:List (List (List Nat)))(es:List Int)(o:Int)(b:Nat):(FT ps es o b).length=es.length:=by unfold FT;rw[AkA,AkC]
theorem Qv{ps:List (List (List Nat))}{es:List Int}{o:Int}{b k:Nat}(h:k<es.length):(FT ps es o b)[k]?=some (Ng o (es.getD k 0) ((ps.getD o.toNat []).getD b []) (plc es k)):=by
 unfold FT
 rw[AkG,Alr h]
 rfl
theorem AaV(ps:List (List (List Nat)))(es os:List Int):(lay ps es os).length=os.length:=by unfold lay;rw[AkA,AkC]
theorem Xm{ps:List (List (List Nat))}{es os:List Int}{j:Nat}(h:j<os.length):(lay ps es os)[j]?=some (FT ps es (os.getD j 0) (plc os j)):=by
 unfold lay
 rw[AkG,Alr h]
 rfl
structure Qw (ps:List (List (List Nat))) (es os:List Int):Prop where
 e:∀ z∈es,0≤z∧z<(ps.length:Int)
 o:∀ z∈os,0≤z∧z<(ps.length:Int)
 hn:∀ i,i<ps.length→(ps.getD i []).length=os.count (i:Int)
 hm:∀ i,i<ps.length→∀ t∈ps.getD i [],t.length=es.count (i:Int)∧∀ c∈t,Sg c
 e1:1≤es.length
 e40:es.length≤40
 o1:1≤os.length
 o40:os.length≤40
theorem getD_mem{os:List Int}{k:Nat}(h:k<os.length):os.getD k 0∈os:=by
 have e:os.getD k 0=os[k]:=by simp[List.getD,h]
 rw[e]
 exact AkI h
theorem Qw.own{ps:List (List (List Nat))}{es os:List Int}(C:Qw ps es os){j:Nat}(h:j<os.length):(os.getD j 0).toNat<ps.length∧plc os j<(ps.getD (os.getD j 0).toNat []).length:=by
 have h1:=C.o _ (getD_mem h)
 have h2:(os.getD j 0).toNat<ps.length:=by omega
 refine⟨h2,?_⟩
 rw[C.hn _ h2,show(((os.getD j 0).toNat:Nat):Int)=os.getD j 0 by omega]
 exact UW h
theorem Qw.row{ps:List (List (List Nat))}{es os:List Int}(C:Qw ps es os){i b:Nat}(h:i<ps.length)(hb:b<(ps.getD i []).length):((ps.getD i []).getD b []).length=es.count (i:Int):=by
 have e:(ps.getD i []).getD b []=(ps.getD i [])[b]:=by rw[AkH,Ak9 hb];rfl
 rw[e]
 exact(C.hm i h _ (AkI hb)).1
structure Own (es:List Int) (z:Int) (i:Nat) (ms:List Nat):Prop where
 len:ms.length=(es.take i).count z
 lt:∀ m∈ms,m<i
 at':∀ a m,ms[a]?=some m→es.getD m 0=z∧(es.take m).count z=a
theorem Own.nil(es:List Int)(z:Int):Own es z 0 []:=⟨rfl,fun _ h=>absurd h (by simp),fun a m h=>by simp at h⟩
theorem Own.take{es:List Int}{z:Int}{i:Nat}{ms:List Nat}(M:Own es z i ms)(hi:i<es.length)(h:es.getD i 0=z):Own es z (i+1) (ms++[i]):=by
 refine⟨?_,fun m hm=>?_,fun a m ha=>?_⟩
 ·rw[AkE,M.len,Ij hi,if_pos h]
  rfl
 ·rcases List.mem_append.mp hm with h1 | h1
  ·have:=M.lt m h1;omega
  ·rw[List.mem_singleton.mp h1];omega
 ·by_cases hl:a<ms.length
  ·rw[Alm hl] at ha
   exact M.at' a m ha
  ·have hlt:=(List.getElem?_eq_some_iff.mp ha).1
   rw[AkE] at hlt
   have hlt:a<ms.length+1:=hlt
   have e:a=ms.length:=by omega
   subst e
   rw[Alk (Ak8 _),Alu] at ha
   cases ha
   exact⟨h,M.len.symm⟩
theorem Own.skip{es:List Int}{z:Int}{i:Nat}{ms:List Nat}(M:Own es z i ms)(hi:i<es.length)(h:¬es.getD i 0=z):Own es z (i+1) ms:=by
 refine⟨?_,fun m hm=>?_,M.at'⟩
 ·rw[M.len,Ij hi,if_neg h]
  rfl
 ·have:=M.lt m hm;omega
structure Blk (up:Nat→Nat→Bool) (m n q:Nat) (ow:Nat→Nat):Prop where
 lt:∀ x,x<m+n→ow x<q
 ov:∀ e p,e<m→p<n→(ow e<ow (m+p)→up e p=true)∧(ow (m+p)<ow e→up e p=false)
 hang:∀ X:Nat→Prop,(∀ u v,ovU up m n u v→X v→X u)→∀ x y,x<m+n→y<m+n→ow x=ow y→X x→X y
 AcQ:∀ j,j<q→∃ e,e<m∧ow e=j
 Aes:∀ j,j<q→∃ p,p<n∧ow (m+p)=j
section
variable {up:Nat→Nat→Bool}{m n q:Nat}{ow:Nat→Nat}{zs:List (Nat × Nat)}{eo po:List Nat}{tss:List (List Int)}
def Ec (m:Nat)(ow:Nat→Nat)(t:Nat):Nat:=((List.range m).filter fun e=>decide (ow e<t)).length
def Pct (m n:Nat)(ow:Nat→Nat)(t:Nat):Nat:=((List.range n).filter fun p=>decide (ow (m+p)<t)).length
theorem Blk.down(B:Blk up m n q ow){X:Nat→Prop}(cX:∀ u v,ovU up m n u v→X v→X u){x:Nat}(hx:x<m+n)(h:X x){y:Nat}(hy:y<m+n)(le:ow y≤ow x):X y:=by
 rcases Al6 (ow y) (ow x) with lt | ge
 ·have hq:=B.lt y hy
  by_cases hm:x<m
  ·obtain⟨p,hp,ep⟩:=B.Aes (ow y) hq
   have:=(B.ov x p hm hp).2 (by omega)
   have h2:X (m+p):=cX (m+p) x (.inr ⟨by omega,by omega,hm,by rw[Al0];exact this⟩) h
   exact B.hang X cX (m+p) y (by omega) hy ep h2
  ·obtain⟨e,he,ee⟩:=B.AcQ (ow y) hq
   have:=(B.ov e (x-m) he (by omega)).1 (by rw[show m+(x-m)=x by omega];omega)
   have h2:X e:=cX e x (.inl ⟨he,by omega,hx,this⟩) h
   exact B.hang X cX e y (by omega) hy ee h2
 ·exact B.hang X cX x y hx hy (by omega) h
theorem Blk.cut(B:Blk up m n q ow){X:List Nat}(cX:Clo (ovU up m n) X)(lX:∀ x∈X,x<m+n):∃ t,t≤q∧∀ x,x<m+n→(x∈X↔ow x<t):=by
 have key:∀ t,(∀ x∈X,ow x<t)→∃ t',t'≤t∧∀ x,x<m+n→(x∈X↔ow x<t'):=by
  intro t
  induction t with
  | zero=>exact fun h=>⟨0,Ak8 _,fun x hx=>⟨h x,fun z=>absurd z (Nat.not_lt_zero _)⟩⟩
  | succ t ih =>
   intro h
   by_cases hc:∃ x∈X,ow x=t
   ·obtain⟨x,hx,e⟩:=hc
    exact⟨t+1,Ak8 _,fun y hy=>⟨h y,fun z=>B.down (X:=(·∈X)) (fun u v o hv=>cX u v hv o) (lX x hx) hx hy (by omega)⟩⟩
   ·obtain⟨t',h1,h2⟩:=ih fun x hx=>by
     have:=h x hx
     rcases Al6 (ow x) t with z | z
     ·exact z
     ·exact absurd ⟨x,hx,by omega⟩ hc
    exact⟨t',by omega,h2⟩
 obtain⟨t,h1,h2⟩:=key q fun x hx=>B.lt x (lX x hx)
 exact⟨t,h1,h2⟩
theorem Aap{X:List Nat}(nd:X.Nodup)(lX:∀ x∈X,x<m+n){t:Nat}(h:∀ x,x<m+n→(x∈X↔ow x<t)):cE m X=Ec m ow t∧cP m X=Pct m n ow t:=by
 constructor
 ·unfold cE Ec
  refine List.Perm.length_eq ((AlN (nd.filter _) (List.nodup_range.filter _)).mpr fun x=>?_)
  rw[Alo,Alo,Amp,decide_eq_true_iff,decide_eq_true_iff]
  constructor
  ·rintro⟨h1,h2⟩
   exact⟨h2,(h x (by omega)).mp h1⟩
  ·rintro⟨h1,h2⟩
   exact⟨(h x (by omega)).mpr h2,h1⟩
 ·unfold cP Pct
  have e:((List.range n).filter fun p=>decide (ow (m+p)<t)).length=(((List.range n).filter fun p=>decide (ow (m+p)<t)).map (m+·)).length:=by rw[AkA]
  rw[e]
  refine List.Perm.length_eq ((AlN (nd.filter _) ?_).mpr fun x=>?_)
  ·show List.Pairwise _ _
   rw[AkX]
   exact(List.nodup_range.filter _).imp fun {a b} hn z=>hn (by omega)
  ·rw[Alo,AlG]
   constructor
   ·rintro⟨h1,h2⟩
    have hx:=lX x h1
    have hm:¬x<m:=by simpa using h2
    refine⟨x-m,List.mem_filter.mpr ⟨List.mem_range.mpr (by omega),decide_eq_true ?_⟩,by omega⟩
    rw[show m+(x-m)=x by omega]
    exact(h x hx).mp h1
   ·rintro⟨p,hp,rfl⟩
    obtain⟨h1,h2⟩:=List.mem_filter.mp hp
    have:=List.mem_range.mp h1
    exact⟨(h (m+p) (by omega)).mpr (of_decide_eq_true h2),by simp⟩
theorem Xn(B:Blk up m n q ow){t t':Nat}(h:t<t')(hq:t'≤q):Ec m ow t<Ec m ow t':=by
 obtain⟨e,he,ee⟩:=B.AcQ t (by omega)
 unfold Ec
 have sub:=K5 (e::(List.range m).filter fun e=>decide (ow e<t)) ((List.range m).filter fun e=>decide (ow e<t')) (List.nodup_cons.mpr ⟨fun z=>by
  have:=of_decide_eq_true (List.mem_filter.mp z).2
  omega,List.nodup_range.filter _⟩) fun x hx=>by
  rcases List.mem_cons.mp hx with rfl | hx
  ·exact List.mem_filter.mpr ⟨List.mem_range.mpr he,decide_eq_true (by omega)⟩
  ·obtain⟨h1,h2⟩:=List.mem_filter.mp hx
   have:=of_decide_eq_true h2
   exact List.mem_filter.mpr ⟨h1,decide_eq_true (by omega)⟩
 rw[AkR] at sub
 exact sub
def upto(m n:Nat)(ow:Nat→Nat)(t:Nat):List Nat:=(List.range (m+n)).filter fun x=>decide (ow x<t)
theorem Blk.tops(B:Blk up m n q ow)(T:Tpz up m n zs eo po):zs=(List.range (q+1)).map fun t=>(Ec m ow t,Pct m n ow t):=by
 refine Ti T.lex ?_ fun x=>?_
 ·rw[AkX]
  refine List.pairwise_lt_range.imp_of_mem fun {a b} ha hb lt=>.inl ?_
  have:=List.mem_range.mp hb
  exact Xn B lt (by omega)
 ·rw[AlG]
  constructor
  ·intro hx
   obtain⟨nd,lt,cl,e1,e2⟩:=T.X (hx:(x.1,x.2)∈zs)
   obtain⟨t,ht,h⟩:=B.cut cl lt
   obtain⟨c1,c2⟩:=Aap nd lt h
   exact⟨t,List.mem_range.mpr (by omega),Prod.ext (by rw[← c1,e1]) (by rw[← c2,e2])⟩
  ·rintro⟨t,ht,rfl⟩
   have nd:(upto m n ow t).Nodup:=List.nodup_range.filter _
   have lt:∀ x∈upto m n ow t,x<m+n:=fun x hx=>List.mem_range.mp (List.mem_filter.mp hx).1
   have mem:∀ x,x<m+n→(x∈upto m n ow t↔ow x<t):=fun x hx=>by unfold upto;rw[Alo,Amp,decide_eq_true_iff];exact⟨fun z=>z.2,fun z=>⟨hx,z⟩⟩
   have cl:Clo (ovU up m n) (upto m n ow t):=fun u v hv o=>by
    obtain⟨hu,hv'⟩:=(AcP up m n).lt o
    rw[mem u hu]
    have hvt:=(mem v hv').mp hv
    refine Classical.byContradiction fun z=>?_
    rcases o with ⟨o1,o2,o3,o4⟩ | ⟨o1,o2,o3,o4⟩
    ·have:=(B.ov u (v-m) o1 (by omega)).2 (by rw[show m+(v-m)=v by omega];omega)
     rw[this] at o4
     cases o4
    ·have:=(B.ov v (u-m) o3 (by omega)).1 (by rw[show m+(u-m)=u by omega];omega)
     rw[this] at o4
     cases o4
   have:=T.top nd lt cl
   obtain⟨c1,c2⟩:=Aap nd lt mem
   rw[c1,c2] at this
   exact this
def VH (m:Nat)(ow:Nat→Nat)(j:Nat):List Nat:=(List.range m).filter fun e=>decide (ow e=j)
def Xo (m n:Nat)(ow:Nat→Nat)(j:Nat):List Nat:=(List.range n).filter fun p=>decide (ow (m+p)=j)
theorem Blk.layers(B:Blk up m n q ow)(L:Lay up m n tss zs eo po)(T:Tpz up m n zs eo po):tss=(List.range q).map fun j=>(VH m ow j).map (cQ 0)++(Xo m n ow j).map (cQ m):=by
 have ez:=B.tops T
 have ll:=L.len
 have zl:zs.length=q+1:=by rw[ez,AkA,AkC]
 have tl:tss.length=q:=by omega
 have zg:∀ i,i≤q→zs[i]?=some (Ec m ow i,Pct m n ow i):=fun i hi=>by rw[ez,AkG,Alr (by omega)];rfl
 have tops:∀ i,i≤q→∀ x,x<m+n→(x∈Qu m eo po (Ec m ow i) (Pct m n ow i)↔ow x<i):=fun i hi=>by
  obtain⟨nd,lt,cl,e1,e2⟩:=T.X (AkQ (zg i hi))
  obtain⟨t,ht,h⟩:=B.cut cl lt
  obtain⟨c1,c2⟩:=Aap nd lt h
  have:t=i:=by
   rcases AlL t i with z | z | z
   ·have:=Xn B z hi;omega
   ·exact z
   ·have:=Xn B z ht;omega
  subst this
  exact h
 have own:∀{j:Nat} (hj:j<tss.length) {x:Nat},((x:Nat):Int)∈tss[j]→x<m+n∧ow x=j:=fun {j} hj {x} hx=>by
  have hl:=(L.mem hj hx).2
  have hx':x<m+n:=by omega
  refine⟨hx',?_⟩
  have f:∀ i,i≤q→(ow x<i↔j<i):=fun i hi=>by rw[← tops i hi x hx'];exact L.inX hj (zg i hi) hx
  have h1:=(f (j+1) (by omega)).mpr (by omega)
  have h2:¬ow x<j:=fun z=>Alf _ ((f j (by omega)).mp z)
  omega
 refine Al3 (by rw[AkA,AkC,tl]) fun j h1 h2=>?_
 rw[Al4,AlW]
 refine Th (R:=(·<·)) (fun a b h1 h2=>by omega) ?_ (L.inc h1) ?_
 ·have nd2:((VH m ow j).map (cQ 0)++(Xo m n ow j).map (cQ m)).Nodup:=by
   refine List.nodup_append.mpr ⟨AcM (List.nodup_range.filter _),AcM (List.nodup_range.filter _),fun a ha b hb e=>?_⟩
   obtain⟨x,hx,rfl⟩:=List.mem_map.mp ha
   obtain⟨y,hy,rfl⟩:=List.mem_map.mp hb
   have:=List.mem_range.mp (List.mem_filter.mp hx).1
   unfold cQ at e
   omega
  refine(AlN (AcN h1 L.nd) nd2).mpr fun z=>?_
  rw[Al5,AlG,AlG]
  constructor
  ·intro hz
   obtain⟨z0,z1⟩:=L.mem h1 hz
   obtain⟨x,rfl⟩:∃ x:Nat,z=(x:Int):=⟨z.toNat,by omega⟩
   obtain⟨hx,e⟩:=own h1 hz
   by_cases hm:x<m
   ·exact .inl ⟨x,List.mem_filter.mpr ⟨List.mem_range.mpr hm,decide_eq_true e⟩,by unfold cQ;omega⟩
   ·exact .inr ⟨x-m,List.mem_filter.mpr ⟨List.mem_range.mpr (by omega),decide_eq_true (by rw[show m+(x-m)=x by omega];exact e)⟩,by unfold cQ;omega⟩
  ·intro hz
   have fin:∀ x,x<m+n→ow x=j→((x:Nat):Int)∈tss[j]:=fun x hx e=>by
    obtain⟨i,hi,h⟩:=L.has hx
    have:=(own hi h).2
    have:i=j:=by omega
    subst this
    exact h
   rcases hz with ⟨x,hx,rfl⟩ | ⟨p,hp,rfl⟩
   ·obtain⟨g1,g2⟩:=List.mem_filter.mp hx
    have:=List.mem_range.mp g1
    have r:=fin x (by omega) (of_decide_eq_true g2)
    unfold cQ
    rw[Alx]
    exact r
   ·obtain⟨g1,g2⟩:=List.mem_filter.mp hp
    have:=List.mem_range.mp g1
    exact fin (m+p) (by omega) (of_decide_eq_true g2)
 ·rw[List.pairwise_append,AkX,AkX]
  refine⟨(List.pairwise_lt_range.filter _).imp fun {a b} h=>by unfold cQ;omega,(List.pairwise_lt_range.filter _).imp fun {a b} h=>by unfold cQ;omega,fun a ha b hb=>?_⟩
  obtain⟨x,hx,rfl⟩:=List.mem_map.mp ha
  obtain⟨y,hy,rfl⟩:=List.mem_map.mp hb
  have:=List.mem_range.mp (List.mem_filter.mp hx).1
  unfold cQ
  omega
end
def Hng (P:List (List Nat))(w h:Nat):Prop:=∀ S:Nat→Prop,(∀ u v,ovU (upC P) w h u v→S v→S u)→∀ x y,x<w+h→y<w+h→S x→S y
def owN (es os:List Int)(x:Nat):Nat:=if x<es.length then (es.getD x 0).toNat else (os.getD (x-es.length) 0).toNat
theorem Xp{es:List Int}{z:Int}:∀(i:Nat),i≤es.length→∀{a:Nat},a<(es.take i).count z→∃ k,k<i∧es.getD k 0=z∧plc es k=a
 | 0,_,a,h=>by simp at h
 | i+1,hi,a,h=>by
  rw[Ij (by omega)] at h
  by_cases hc:es.getD i 0=z
  ·rw[if_pos hc] at h
   rcases Al6 a ((es.take i).count z) with g | g
   ·obtain⟨k,h1,h2⟩:=Xp i (by omega) g
    exact⟨k,by omega,h2⟩
   ·refine⟨i,by omega,hc,?_⟩
    unfold plc
    rw[hc]
    omega
  ·rw[if_neg hc] at h
   obtain⟨k,h1,h2⟩:=Xp i (by omega) h
   exact⟨k,by omega,h2⟩
theorem AaW{es:List Int}{k l:Nat}(hk:k<es.length)(hl:l<es.length)(e:es.getD k 0=es.getD l 0)(h:plc es k=plc es l):k=l:=by
 have mono:∀{k l:Nat},k<l→l<es.length→es.getD k 0=es.getD l 0→plc es k<plc es l:=fun {k l} lt hl e=>by
  unfold plc
  rw[← e]
  have h1:=Ij (os:=es) (k:=k) (by omega) (es.getD k 0)
  rw[if_pos rfl] at h1
  have h2:(es.take (k+1)).count (es.getD k 0)≤(es.take l).count (es.getD k 0):=by
   have:es.take (k+1)=(es.take l).take (k+1):=by rw[List.take_take,Alz (by omega)]
   rw[this]
   exact List.Sublist.count_le _ (Al9 _ _)
  omega
 rcases AlL k l with z | z | z
 ·have:=mono z hl e;omega
 ·exact z
 ·have:=mono z hk e.symm;omega
section
variable {ps:List (List (List Nat))}{es os:List Int}
theorem Aaq(C:Qw ps es os){e p:Nat}(he:e<es.length)(hp:p<os.length):upC (lay ps es os) e p=(Ng (os.getD p 0) (es.getD e 0) ((ps.getD (os.getD p 0).toNat []).getD (plc os p) []) (plc es e) == 35):=by
 unfold upC
 rw[AkH (l:=lay ps es os),Xm hp]
 show((FT ps es (os.getD p 0) (plc os p)).getD e 0 == 35)=_
 rw[AkH,Qv he]
 rfl
theorem M7{x:Nat}(h:x<es.length):owN es os x=(es.getD x 0).toNat:=by unfold owN;rw[if_pos h]
theorem Nh(p:Nat):owN es os (es.length+p)=(os.getD p 0).toNat:=by unfold owN;rw[if_neg (by omega),Al0]
theorem Aet(C:Qw ps es os)(big:∀ j,j<ps.length→1≤es.count (j:Int)∧1≤os.count (j:Int))(hg:∀ j,j<ps.length→Hng (ps.getD j []) (es.count (j:Int)) (os.count (j:Int))) :
  Blk (upC (lay ps es os)) es.length os.length ps.length (owN es os):=by
 have zE:∀{e:Nat},e<es.length→((es.getD e 0).toNat:Int)=es.getD e 0∧(es.getD e 0).toNat<ps.length:=fun {e} he=>by have:=C.e _ (getD_mem he);omega
 have zP:∀{p:Nat},p<os.length→((os.getD p 0).toNat:Int)=os.getD p 0∧(os.getD p 0).toNat<ps.length:=fun {p} hp=>by have:=C.o _ (getD_mem hp);omega
 have AcQ:∀ j,j<ps.length→∀ a,a<es.count (j:Int)→∃ e,e<es.length∧es.getD e 0=(j:Int)∧plc es e=a:=fun j hj a ha=>by
  obtain⟨k,h1,h2,h3⟩:=Xp (es:=es) (z:=(j:Int)) es.length (Ak8 _) (a:=a) (by rw[Al7];exact ha)
  exact⟨k,h1,h2,h3⟩
 have Aes:∀ j,j<ps.length→∀ a,a<os.count (j:Int)→∃ e,e<os.length∧os.getD e 0=(j:Int)∧plc os e=a:=fun j hj a ha=>by
  obtain⟨k,h1,h2,h3⟩:=Xp (es:=os) (z:=(j:Int)) os.length (Ak8 _) (a:=a) (by rw[Al7];exact ha)
  exact⟨k,h1,h2,h3⟩
 refine⟨fun x hx=>?_,fun e p he hp=>⟨fun lt=>?_,fun lt=>?_⟩,fun X cX x y hx hy e hX=>?_,fun j hj=>?_,fun j hj=>?_⟩
 ·by_cases h:x<es.length
  ·rw[M7 h];exact(zE h).2
  ·have:=Nh (es:=es) (os:=os) (x-es.length)
   rw[show es.length+(x-es.length)=x by omega] at this
   rw[this]
   exact(zP (by omega)).2
 ·rw[M7 he,Nh] at lt
  have h1:=(zE he).1
  have h2:=(zP hp).1
  rw[Aaq C he hp]
  unfold Ng
  rw[if_neg (by omega),if_pos (by omega)]
  rfl
 ·rw[M7 he,Nh] at lt
  have h1:=(zE he).1
  have h2:=(zP hp).1
  rw[Aaq C he hp]
  unfold Ng
  rw[if_neg (by omega),if_neg (by omega)]
  rfl
 ·
  obtain⟨j,hj⟩:∃ j,j=owN es os x:=⟨_,rfl⟩
  have jq:j<ps.length:=by
   rw[hj]
   by_cases h:x<es.length
   ·rw[M7 h];exact(zE h).2
   ·have:=Nh (es:=es) (os:=os) (x-es.length)
    rw[show es.length+(x-es.length)=x by omega] at this
    rw[this]
    exact(zP (by omega)).2
  obtain⟨w,hw⟩:∃ w,w=es.count (j:Int):=⟨_,rfl⟩
  obtain⟨h,hh⟩:∃ h,h=os.count (j:Int):=⟨_,rfl⟩
  let pl:Nat→Nat:=fun x=>if x<es.length then plc es x else w+plc os (x-es.length)
  have plE:∀{x},x<es.length→pl x=plc es x:=fun {x} hx=>if_pos hx
  have plP:∀ p,pl (es.length+p)=w+plc os p:=fun p=>by
   show(if es.length+p<es.length then _ else w+plc os (es.length+p-es.length))=_
   rw[if_neg (by omega),Al0]
  have Wv:∀{x},x<es.length+os.length→owN es os x=j→pl x<w+h∧(pl x<w↔x<es.length):=fun {x} hx e=>by
   by_cases hm:x<es.length
   ·rw[M7 hm] at e
    have:=UW hm
    rw[← (zE hm).1,e,← hw] at this
    rw[plE hm]
    omega
   ·obtain⟨p,rfl⟩:∃ p,x=es.length+p:=⟨x-es.length,by omega⟩
    rw[Nh] at e
    have hp:p<os.length:=by omega
    have:=UW hp
    rw[← (zP hp).1,e,← hh] at this
    rw[plP]
    omega
  have Agl:∀{x y},x<es.length+os.length→y<es.length+os.length→owN es os x=j→owN es os y=j→pl x=pl y→x=y:=fun {x y} hx hy ex ey e=>by
   have a1:=Wv hx ex
   have a2:=Wv hy ey
   by_cases hm:x<es.length
   ·have hm':y<es.length:=by have:=a1.2.mpr hm;rw[e] at this;exact a2.2.mp this
    rw[plE hm,plE hm'] at e
    rw[M7 hm] at ex
    rw[M7 hm'] at ey
    have b1:=(zE hm).1
    have b2:=(zE hm').1
    exact AaW hm hm' (by omega) e
   ·have hm':¬y<es.length:=fun z=>by have:=a2.2.mpr z;rw[← e] at this;exact hm (a1.2.mp this)
    obtain⟨p,rfl⟩:∃ p,x=es.length+p:=⟨x-es.length,by omega⟩
    obtain⟨p',rfl⟩:∃ p,y=es.length+p:=⟨y-es.length,by omega⟩
    rw[plP,plP] at e
    rw[Nh] at ex ey
    have b1:=(zP (show p<os.length by omega)).1
    have b2:=(zP (show p'<os.length by omega)).1
    rw[AaW (es:=os) (k:=p) (l:=p') (by omega) (by omega) (by omega) (by omega)]
  have AhB:∀{i},i<w+h→∃ x,x<es.length+os.length∧owN es os x=j∧pl x=i:=fun {i} hi=>by
   rcases Al6 i w with c | c
   ·obtain⟨e,h1,h2,h3⟩:=AcQ j jq i (by omega)
    refine⟨e,by omega,?_,?_⟩
    ·rw[M7 h1,h2];omega
    ·rw[plE h1,h3]
   ·obtain⟨p,h1,h2,h3⟩:=Aes j jq (i-w) (by omega)
    refine⟨es.length+p,by omega,?_,?_⟩
    ·rw[Nh,h2];omega
    ·rw[plP,h3];omega
  have Afk:∀{e p},e<es.length→p<os.length→owN es os e=j→owN es os (es.length+p)=j→upC (lay ps es os) e p=upC (ps.getD j []) (plc es e) (plc os p):=fun {e p} he hp e1 e2=>by
   rw[M7 he] at e1
   rw[Nh] at e2
   have b1:=(zE he).1
   have b2:=(zP hp).1
   rw[Aaq C he hp]
   unfold Ng upC
   rw[if_pos (by omega),e2]
  have AhC:∀{u v},u<es.length+os.length→v<es.length+os.length→owN es os u=j→owN es os v=j→ovU (upC (ps.getD j [])) w h (pl u) (pl v)→ovU (upC (lay ps es os)) es.length os.length u v:=fun {u v} hu hv eu ev o=>by
   have a1:=Wv hu eu
   have a2:=Wv hv ev
   rcases o with ⟨o1,o2,o3,o4⟩ | ⟨o1,o2,o3,o4⟩
   ·have hum:=a1.2.mp o1
    have hvm:¬v<es.length:=fun z=>by have:=a2.2.mpr z;omega
    obtain⟨p,rfl⟩:∃ p,v=es.length+p:=⟨v-es.length,by omega⟩
    rw[plE hum,plP,Al0] at o4
    exact .inl ⟨hum,by omega,hv,by rw[Al0,Afk hum (by omega) eu ev];exact o4⟩
   ·have hvm:=a2.2.mp o3
    have hum:¬u<es.length:=fun z=>by have:=a1.2.mpr z;omega
    obtain⟨p,rfl⟩:∃ p,u=es.length+p:=⟨u-es.length,by omega⟩
    rw[plE hvm,plP,Al0] at o4
    exact .inr ⟨by omega,hu,hvm,by rw[Al0,Afk hvm (by omega) ev eu];exact o4⟩
  have hgj:=hg j jq
  rw[← hw,← hh] at hgj
  have res:=hgj (fun i=>∃ x,x<es.length+os.length∧owN es os x=j∧pl x=i∧X x) (fun u v o hv=>by
   obtain⟨xv,v1,v2,v3,v4⟩:=hv
   have hu:=((AcP (upC (ps.getD j [])) w h).lt o).1
   obtain⟨xu,u1,u2,u3⟩:=AhB hu
   refine⟨xu,u1,u2,u3,cX xu xv (AhC u1 v1 u2 v2 ?_) v4⟩
   rw[u3,v3]
   exact o) (pl x) (pl y) (Wv hx hj.symm).1 (Wv hy (by rw[← e];exact hj.symm)).1 ⟨x,hx,hj.symm,rfl,hX⟩
  obtain⟨y',y1,y2,y3,y4⟩:=res
  rw[← Agl y1 hy y2 (by rw[← e];exact hj.symm) y3]
  exact y4
 ·obtain⟨e,h1,h2,_⟩:=AcQ j hj 0 (big j hj).1
  exact⟨e,h1,by rw[M7 h1,h2];omega⟩
 ·obtain⟨p,h1,h2,_⟩:=Aes j hj 0 (big j hj).2
  exact⟨p,h1,by rw[Nh,h2];omega⟩
end
def UpC (P:List (List Nat))(w h:Nat)(S:Nat→Prop):Prop:=∀ u v,ovU (upC P) w h u v→S v→S u
section
variable {P:List (List Nat)}{w h:Nat}
theorem UpC.e{S:Nat→Prop}(c:UpC P w h S){k j:Nat}(hk:k<w)(hj:j<h)(u:upC P k j=true)(s:S (w+j)):S k:=c k (w+j) (.inl ⟨hk,by omega,by omega,by rw[Al0];exact u⟩) s
theorem UpC.p{S:Nat→Prop}(c:UpC P w h S){k j:Nat}(hk:k<w)(hj:j<h)(u:upC P k j=false)(s:S k):S (w+j):=c (w+j) k (.inr ⟨by omega,by omega,hk,by rw[Al0];exact u⟩) s
theorem AcR{one two first last:Nat}(w1:one<w)(w2:two<w)(ne:one≠two)(f1:first<h)(f2:last<h)(nf:first≠last)(h1:∀ k,k<w→upC P k first=!decide (k=two))(h2:∀ k,k<w→upC P k last=decide (k=two))
  (h3:∀ j,j<h→j≠first→j≠last→upC P one j=false∧upC P two j=true):Hng P w h:=by
 intro S c x y hx hy s
 have c:UpC P w h S:=c
 have kA:S (w+first)→∀ k,k<w→k≠two→S k:=fun s k hk hn=>c.e hk f1 (by rw[h1 k hk,decide_eq_false hn];rfl) s
 have kB:S two→S (w+first):=fun s=>c.p w2 f1 (by rw[h1 two w2,decide_eq_true rfl];rfl) s
 have kC:S (w+last)→S two:=fun s=>c.e w2 f2 (by rw[h2 two w2,decide_eq_true rfl]) s
 have kD:∀ k,k<w→k≠two→S k→S (w+last):=fun k hk hn s=>c.p hk f2 (by rw[h2 k hk,decide_eq_false hn]) s
 have kE:∀ j,j<h→j≠first→j≠last→S (w+j)→S two:=fun j hj n1 n2 s=>c.e w2 hj (h3 j hj n1 n2).2 s
 have kF:∀ j,j<h→j≠first→j≠last→S one→S (w+j):=fun j hj n1 n2 s=>c.p w1 hj (h3 j hj n1 n2).1 s
 have s2:S two:=by
  by_cases hw:x<w
  ·by_cases e:x=two
   ·rw[← e];exact s
   ·exact kC (kD x hw e s)
  ·obtain⟨j,rfl⟩:∃ j,x=w+j:=⟨x-w,by omega⟩
   by_cases e1:j=first
   ·rw[e1] at s
    exact kC (kD one w1 ne (kA s one w1 ne))
   ·by_cases e2:j=last
    ·rw[e2] at s;exact kC s
    ·exact kE j (by omega) e1 e2 s
 have sf:=kB s2
 have so:=kA sf one w1 ne
 by_cases hw:y<w
 ·by_cases e:y=two
  ·rw[e];exact s2
  ·exact kA sf y hw e
 ·obtain⟨j,rfl⟩:∃ j,y=w+j:=⟨y-w,by omega⟩
  by_cases e1:j=first
  ·rw[e1];exact sf
  ·by_cases e2:j=last
   ·rw[e2];exact kD one w1 ne so
   ·exact kF j (by omega) e1 e2 so
structure Rch (P:List (List Nat)) (w h:Nat) (M8:Bool) (seen:List Bool):Prop where
 len:seen.length=w+h
 ok:∀ S,UpC P w h S→∀ y:Nat,seen[y]?=some true→(M8=true→S y→S 0)∧(M8=false→S 0→S y)
theorem Rch.zero(P:List (List Nat))(w h:Nat)(M8:Bool):Rch P w h M8 ((List.range (w+h)).map fun x=>decide (x=0)):=by
 refine⟨by rw[AkA,AkC],fun S c y e=>?_⟩
 rw[AkG] at e
 obtain⟨x,hx,e⟩:=Option.map_eq_some_iff.mp e
 have:y=x:=by
  obtain⟨h1,h2⟩:=List.getElem?_eq_some_iff.mp hx
  rw[AlW] at h2
  exact h2
 have e0:=of_decide_eq_true e
 subst this
 rw[e0]
 exact⟨fun _ s=>s,fun _ s=>s⟩
theorem Rch.down{M8:Bool}{seen:List Bool}(R:Rch P w h M8 seen){k j:Nat}(hk:k<w)(hj:j<h)(al:upC P k j=M8)(sk:seen[k]?=some true):Rch P w h M8 (seen.set (w+j) true):=by
 refine⟨by rw[AlR];exact R.len,fun S c y e=>?_⟩
 by_cases hy:w+j=y
 ·subst hy
  obtain⟨r1,r2⟩:=R.ok S c k sk
  exact⟨fun f s=>r1 f (c.e hk hj (by rw[al,f]) s),fun f s=>c.p hk hj (by rw[al,f]) (r2 f s)⟩
 ·rw[AlP hy] at e
  exact R.ok S c y e
theorem Rch.up{M8:Bool}{seen:List Bool}(R:Rch P w h M8 seen){k j:Nat}(hk:k<w)(hj:j<h)(al:¬upC P k j=M8)(sj:seen[w+j]?=some true):Rch P w h M8 (seen.set k true):=by
 refine⟨by rw[AlR];exact R.len,fun S c y e=>?_⟩
 by_cases hy:k=y
 ·subst hy
  obtain⟨r1,r2⟩:=R.ok S c (w+j) sj
  refine⟨fun f s=>r1 f (c.p hk hj ?_ s),fun f s=>c.e hk hj ?_ (r2 f s)⟩
  ·rw[f] at al;exact Bool.not_eq_true _▸al
  ·rw[f] at al
   cases hu:upC P k j with
   | true=>rfl
   | false=>exact absurd hu al
 ·rw[AlP hy] at e
  exact R.ok S c y e
theorem Rch.hng{s1 s2:List Bool}(R1:Rch P w h true s1)(R2:Rch P w h false s2)(a1:s1.all id=true)(a2:s2.all id=true):Hng P w h:=by
 intro S c x y hx hy s
 have g:∀{l:List Bool},l.all id=true→l.length=w+h→∀ x,x<w+h→l[x]?=some true:=fun {l} ha hl x hx=>by
  have hx':x<l.length:=by omega
  rw[Ak9 hx']
  have:=List.all_eq_true.mp ha _ (AkI hx')
  rw[show l[x]=true from this]
 exact(R2.ok S c y (g a2 R2.len y hy)).2 rfl ((R1.ok S c x (g a1 R1.len x hx)).1 rfl s)
end
theorem Vb(es:List Int)(z:Int):∀ i,i≤es.length→Own es z i ((List.range i).filter fun k=>decide (es.getD k 0=z))
 | 0,_=>Own.nil es z
 | i+1,hi=>by
  have ih:=Vb es z i (by omega)
  rw[Aln,AlF]
  by_cases h:es.getD i 0=z
  ·rw[Am4 (by simpa using h),List.filter_nil]
   exact ih.take (by omega) h
  ·rw[Am5 (by simpa using h),List.filter_nil,Alb]
   exact ih.skip (by omega) h
section
variable {ps:List (List (List Nat))}{es os:List Int}
theorem AaX(C:Qw ps es os){j:Nat}(hj:j<ps.length):VH es.length (owN es os) j=(List.range es.length).filter fun k=>decide (es.getD k 0=(j:Int)):=by
 unfold VH
 refine List.filter_congr fun x hx=>?_
 have hx:=List.mem_range.mp hx
 rw[M7 hx]
 have:=C.e _ (getD_mem hx)
 exact decide_eq_decide.mpr (by omega)
theorem AaY(C:Qw ps es os){j:Nat}(hj:j<ps.length):Xo es.length os.length (owN es os) j=(List.range os.length).filter fun k=>decide (os.getD k 0=(j:Int)):=by
 unfold Xo
 refine List.filter_congr fun x hx=>?_
 have hx:=List.mem_range.mp hx
 rw[Nh]
 have:=C.o _ (getD_mem hx)
 exact decide_eq_decide.mpr (by omega)
theorem AcS(C:Qw ps es os){j:Nat}(hj:j<ps.length):((Xo es.length os.length (owN es os) j).map fun p=>(VH es.length (owN es os) j).map fun e=>((lay ps es os).getD p []).getD e 0)=ps.getD j []:=by
 have oE:=Vb es (j:Int) es.length (Ak8 _)
 have oP:=Vb os (j:Int) os.length (Ak8 _)
 rw[AaX C hj,AaY C hj]
 have lP:=oP.len
 have lE:=oE.len
 rw[Al7] at lP lE
 have hn:=C.hn j hj
 refine Al3 (by rw[AkA,lP,hn]) fun b h1 h2=>?_
 rw[Al4]
 rw[AkA] at h1
 obtain⟨g1,g2⟩:=oP.at' b _ (Ak9 h1)
 have g3:=oP.lt _ (AkI h1)
 generalize ((List.range os.length).filter fun k=>decide (os.getD k 0=(j:Int)))[b]=p at g1 g2 g3
 have hm:=C.hm j hj _ (AkI h2)
 refine Al3 (by rw[AkA,lE,hm.1]) fun a h3 h4=>?_
 rw[Al4]
 rw[AkA] at h3
 obtain⟨k1,k2⟩:=oE.at' a _ (Ak9 h3)
 have k3:=oE.lt _ (AkI h3)
 generalize ((List.range es.length).filter fun k=>decide (es.getD k 0=(j:Int)))[a]=e at k1 k2 k3
 rw[AkH (l:=lay ps es os),Xm g3]
 show(FT ps es (os.getD p 0) (plc os p)).getD e 0=_
 rw[AkH,Qv k3]
 show Ng _ _ _ _=_
 unfold Ng plc
 rw[if_pos (by rw[g1,k1]),g1,k1,k2,g2,AkJ]
 rw[AkH (l:=ps.getD j []),Ak9 h2]
 show((ps.getD j [])[b]).getD a 0=_
 rw[AkH,Ak9 h4]
 rfl
end
end Mine
namespace L2
open PySem PySem.Spec PyProof.Rows
section
variable {X:Cx}{K:PySem.W.Frag}
def Ak4 (K:PySem.W.Frag):R2:=fun x y H Q=>∃ p q xs,x=.ref p∧y=.ref q∧SqT K H p xs∧SqT K H q xs∧(∀ x∈xs,Ea x=true)∧Q (.bl false) H
end
open PySem PySem.Spec PyProof.Rows
section
variable {X:Cx}{K:PySem.W.Frag}
def AjO (K:PySem.W.Frag):R2:=fun x y H Q=>∃(p q:Addr) (xs ys:List V),x=.ref p∧y=.ref q∧SqT K H p xs∧SqT K H q ys∧xs.length=ys.length∧(∀(i:Nat) (x y:V),xs[i]?=some x→ys[i]?=some y→VG K H 50 x y)∧Q (.bl true) H
end
open PySem PySem.Spec PyProof.Rows
def Itv (K:PySem.W.Frag)(a:Addr)(n:Nat):It :=
 ⟨fun i H=>∃ xs x,SqL K H a xs∧xs.length=n∧i<n∧xs.reverse[i]?=some x,fun i H x H'=>H'=H∧∀ xs,SqL K H a xs→xs.reverse[i]?=some x,fun i H=>n=i⟩
section
variable {X:Cx}{tg:Expr}
def AjP (K:PySem.W.Frag)(ta:TA):TI:=fun σ H R=>ta σ H fun vs H1=>∃ a xs,vs=[.ref a]∧SqL K H1 a xs∧R (Itv K a xs.length) H1
end
open PySem PySem.Spec PyProof.Rows
namespace SetW
theorem Vc:Slot "set_iterator" "__next__" "set_iterator.__next__" := .of (owner := "set_iterator") (n := "__next__") (by rw[typeLookup_type,builtinLookup_eq_fast];kernel_rfl) (by decide +kernel) (by decide +kernel) (by decide +kernel) (by first | exact .inl (by decide +kernel) | exact .inr (by decide +kernel)) (by rw[isSubtype_type];kernel_rfl)
theorem Afl:Slot "set_iterator" "__iter__" "set_iterator.__iter__" := .of (owner := "set_iterator") (n := "__iter__") (by rw[typeLookup_type,builtinLookup_eq_fast];kernel_rfl) (by decide +kernel) (by decide +kernel) (by decide +kernel) (by first | exact .inl (by decide +kernel) | exact .inr (by decide +kernel)) (by rw[isSubtype_type];kernel_rfl)
theorem Afm:entryFor table "set_iterator.__next__" = some Builtin.«set_iterator.__next__»:=entryFor_of_fast (by kernel_rfl)
theorem AhD:entryFor table "set_iterator.__iter__" = some Builtin.«dict_keyiterator.__iter__»:=entryFor_alias (id' := "dict_keyiterator.__iter__") (by kernel_rfl) rfl (by decide +kernel) (by kernel_rfl)
theorem AhE:entryFor table "set.__iter__" = some Builtin.«frozenset.__iter__»:=entryFor_alias (id' := "frozenset.__iter__") (by kernel_rfl) rfl (by decide +kernel) (by kernel_rfl)
theorem Afn(a:Value):argsOk "set_iterator.__next__" ⟨[a],[]⟩:=by unfold argsOk;kernel_rfl
theorem AhF(a:Value):argsOk "set_iterator.__iter__" ⟨[a],[]⟩:=by unfold argsOk;kernel_rfl
theorem Agm:typeLookup (.type "set") "__len__" = pure (some (.builtin "set.__len__")):=by rw[typeLookup_type,builtinLookup_eq_fast];kernel_rfl
end SetW
open PySem PySem.Spec PyProof.Rows
namespace SetW
theorem AaZ{α:Type}(next:Nat→Nat):∀(fuel k:Nat) (left:List α) (out:Array α),left.length≤fuel→(pickOrder.go next fuel k left out).toList.Perm (out.toList++left)
 | 0,k,left,out,h=>by
  have:left=[]:=List.length_eq_zero_iff.mp (by omega)
  subst this
  simp[pickOrder.go]
 | fuel+1,k,left,out,h=>by
  unfold pickOrder.go
  by_cases e:left=[]
  ·subst e
   simp
  ·have l0:0<left.length:=List.length_pos_iff.mpr e
   have l1:next k%left.length<left.length:=AlI _ l0
   rw[Ak9 l1]
   dsimp only
   refine(AaZ next fuel (k+1) _ _ (by rw[List.length_eraseIdx,if_pos l1];omega)).trans ?_
   rw[Array.toList_push,Alv]
   refine List.Perm.append_left _ ?_
   rw[AmA]
   have e2:left=left.take (next k%left.length)++left[next k%left.length]::left.drop (next k%left.length+1):=by
    rw[List.getElem_cons_drop,Alj]
   exact(Am6 (a:=left[next k%left.length]) (l₁:=left.take (next k%left.length)) (l₂:=left.drop (next k%left.length+1))).symm.trans (.of_eq e2.symm)
theorem AbN{α:Type}(next:Nat→Nat)(xs:Array α):(pickOrder next xs).toList.Perm xs.toList:=by
 have:=AaZ next xs.size 0 xs.toList #[] (by simp)
 simpa [pickOrder] using this
def Py (xs:Array Nat):Prop:=∀ i k,i<k→k<xs.size→xs.getD i 0<xs.getD k 0
theorem Vd(xs:Array Nat)(j:Nat)(hR:Py xs):∀(fuel lo hi:Nat),lo≤hi→hi≤xs.size→hi-lo≤fuel→(∀ i,i<lo→xs.getD i 0<j)→(∀ i,hi≤i→i<xs.size→j≤xs.getD i 0) →
  SetTable.below.go xs j fuel lo hi≤xs.size∧(∀ i,i<SetTable.below.go xs j fuel lo hi→xs.getD i 0<j)∧(∀ i,SetTable.below.go xs j fuel lo hi≤i→i<xs.size→j≤xs.getD i 0)
 | 0,lo,hi,h1,h2,h3,h4,h5=>by
  have:lo=hi:=by omega
  subst this
  unfold SetTable.below.go
  exact⟨h2,h4,h5⟩
 | fuel+1,lo,hi,h1,h2,h3,h4,h5=>by
  unfold SetTable.below.go
  by_cases c:lo<hi
  ·rw[if_pos c]
   have hm:(lo+hi) / 2<xs.size:=by omega
   have e:xs.getD ((lo+hi) / 2) j=xs.getD ((lo+hi) / 2) 0:=by simp[Array.getD,hm]
   dsimp only
   by_cases c2:xs.getD ((lo+hi) / 2) j<j
   ·rw[if_pos c2]
    refine Vd xs j hR fuel _ hi (by omega) h2 (by omega) (fun i hi'=>?_) h5
    rw[e] at c2
    by_cases c3:i=(lo+hi) / 2
    ·rw[c3];exact c2
    ·have:=hR i ((lo+hi) / 2) (by omega) hm
     omega
   ·rw[if_neg c2]
    refine Vd xs j hR fuel lo _ (by omega) (by omega) (by omega) h4 (fun i hi' hs=>?_)
    rw[e] at c2
    by_cases c3:i=(lo+hi) / 2
    ·rw[c3];omega
    ·have:=hR ((lo+hi) / 2) i (by omega) hs
     omega
  ·rw[if_neg c]
   have:lo=hi:=by omega
   subst this
   exact⟨h2,h4,h5⟩
theorem K6{xs:Array Nat}(hR:Py xs)(j:Nat):SetTable.below xs j≤xs.size∧(∀ i,i<SetTable.below xs j→xs.getD i 0<j)∧(∀ i,SetTable.below xs j≤i→i<xs.size→j≤xs.getD i 0) :=
 Vd xs j hR xs.size 0 xs.size (AkD _) (Ak8 _) (by omega) (fun i h=>by omega) (fun i h1 h2=>by omega)
theorem Aar{xs:Array Nat}(hR:Py xs):SetTable.below xs 0=0:=by
 obtain⟨h1,h2,h3⟩:=K6 hR 0
 by_cases c:SetTable.below xs 0=0
 ·exact c
 ·have:=h2 0 (by omega);omega
theorem Aas{xs:Array Nat}(hR:Py xs){i:Nat}(hi:i<xs.size):SetTable.below xs (xs.getD i 0+1)=i+1:=by
 obtain⟨h1,h2,h3⟩:=K6 hR (xs.getD i 0+1)
 rcases AlL (SetTable.below xs (xs.getD i 0+1)) (i+1) with c | c | c
 ·have:=h3 i (by omega) hi;omega
 ·exact c
 ·have a:=h2 (i+1) c
  have:=hR i (i+1) (by omega) (by omega)
  omega
structure Wk (w:World) (o:Obj) (es:Array (Int × Value)) (ep:Nat) (t:SetTable):Prop where
 ex:o.ExactSet
 d:o.data=.set es ep t
 f:t.fits es.size=true
 ok:w.params.followText "set-order" = true∨es.size=0∨(t.led=true∧(t.plain=true→Py t.place))
theorem Wk.rise{w:World}{o:Obj}{es:Array (Int × Value)}{ep:Nat}{t:SetTable}(W:Wk w o es ep t)(hb:w.params.followText "set-order" = false) (hp:t.plain=true∨es.size≤1):Py t.place:=by
 have hf:t.place.size=es.size:=by
  have:=W.f
  unfold SetTable.fits at this
  simp at this
  exact this.1
 rcases W.ok with e | e | ⟨_,e⟩
 ·rw[hb] at e;cases e
 ·intro i k h1 h2;omega
 ·rcases hp with hp | hp
  ·exact e hp
  ·intro i k h1 h2;omega
def Md (w:World)(a:Addr)(es:Array (Int × Value))(ep:Nat)(t:SetTable)(h:Heap)(T:Addr)(xl:List (Int × Value))(i:Nat)(f:Value):Prop :=
 (∃ slot:Nat,f=.int slot 0∧((w.params.followText "set-order" = true∧xl=(pickOrder (w.params.setOrder a ep) es).toList)∨(w.params.followText "set-order" = false∧(t.plain=true∨es.size≤1)∧xl=es.toList∧SetTable.below t.place slot=i))) ∨
 (∃ pm:List Nat,f=.ref T∧h.get? T=some (seqObj "tuple" (pm.map fun k:Nat=>rawInt (k:Int)).toArray 0)∧pm.Perm (List.range es.size)∧xl=pm.map fun k=>es.toList.getD k (0,.none))
theorem Md.perm{w:World}{a T:Addr}{es:Array (Int × Value)}{ep i:Nat}{t:SetTable}{h:Heap}{xl:List (Int × Value)}{f:Value}(m:Md w a es ep t h T xl i f):xl.Perm es.toList:=by
 rcases m with ⟨_,_,⟨_,e⟩ | ⟨_,_,e,_⟩⟩ | ⟨pm,_,_,hp,e⟩
 ·rw[e];exact AbN _ _
 ·rw[e]
 ·rw[e]
  refine(hp.map _).trans (.of_eq ?_)
  refine Amq fun k=>?_
  rw[AkG]
  by_cases c:k<es.size
  ·rw[Alr c]
   simp[List.getD,c]
  ·rw[Aly (by simp;omega),Aly (by simp;omega)]
   rfl
theorem Md.len{w:World}{a T:Addr}{es:Array (Int × Value)}{ep i:Nat}{t:SetTable}{h:Heap}{xl:List (Int × Value)}{f:Value}(m:Md w a es ep t h T xl i f):xl.length=es.size:=by
 rw[m.perm.length_eq,Array.length_toList]
def StI (w:World)(I a T:Addr)(o:Obj)(es:Array (Int × Value))(ep:Nat)(t:SetTable)(xl:List (Int × Value))(i:Nat)(h:Heap):Prop :=
 ∃ f oi,h.get? I=some oi∧oi.cls=.type "set_iterator" ∧ oi.data=.fields #[f,.int i 0,.ref a,.int es.size 0,.int ep 0]∧Md w a es ep t h T xl i f∧h.get? a=some o
section
variable {prog:Program}{w:World}{A:Around}{E:Value→Shared→Prop}{s:Shared}{a T:Addr}{o:Obj}{es:Array (Int × Value)}{ep:Nat}{t:SetTable}{xl:List (Int × Value)}
theorem StI.typeIs{I:Addr}{i:Nat}(x:StI w I a T o es ep t xl i s.heap):s.TypeIs (.ref I) "set_iterator" := let ⟨_,oi,ho,hc,_⟩:=x;⟨oi,ho,hc⟩
theorem typ(W:Wk w o es ep t)(ho:s.heap.get? a=some o):s.TypeIs (.ref a) "set" := ⟨o,ho,W.ex.1⟩
theorem Tj{Q:Bool→Shared→Prop}(h:Q (w.params.followText "set-order") s):wpAny (model prog w) A setsByText Q E s:=by
 unfold setsByText
 exact wpAny_bind (wpAny_askSetting (wpAny_pure h))
theorem AcT(W:Wk w o es ep t)(ho:s.heap.get? a=some o){Q:Bool→Shared→Prop}(h:Q (!w.params.followText "set-order" && (!t.plain && decide (es.size>1))) s):wpAny (model prog w) A (setDrawn a) Q E s:=by
 unfold setDrawn
 exact wpAny_bind (wpAny_setState_of ho W.d W.f (wpAny_bind (Tj (wpAny_pure h))))
theorem Zi(W:Wk w o es ep t)(ho:s.heap.get? a=some o){Q:Nat→Shared→Prop}(h:Q ep s):wpAny (model prog w) A (setEpoch a) Q E s:=by
 unfold setEpoch
 exact wpAny_bind (wpAny_setState_of ho W.d W.f (wpAny_pure h))
theorem Xq(W:Wk w o es ep t)(ho:s.heap.get? a=some o){Q:Array (Int × Value)→Shared→Prop}(h:Q es s):wpAny (model prog w) A (setEntries a) Q E s:=by
 unfold setEntries
 exact wpAny_bind (wpAny_setState_of ho W.d W.f (wpAny_pure h))
theorem AbO{M:Model}{n:Nat}(hn:0<n){Q:Nat→Shared→Prop}(h:∀ i d,i<n→Q i { s with drawn:=d }):wpAny M A (choose .order n) Q E s:=fun Γ p _=>by
 show Sem.wp M Γ (.choose .order n .pure) _ _ p s
 rw[Sem.wp_choose]
 exact⟨by omega,h _ _ (AlI _ hn)⟩
theorem Zj{α:Type}{M:Model}:∀(n:Nat) (l:List α) {s:Shared} {Q:List α→Shared→Prop},l.length≤n→(∀ l' d,l'.Perm l→Q l' { s with drawn:=d })→wpAny M A (drawOrder n l) Q E s
 | 0,l,s,Q,hl,h=>by
  have:l=[]:=List.length_eq_zero_iff.mp (by omega)
  subst this
  unfold drawOrder
  exact wpAny_pure (h [] s.drawn (.refl _))
 | n+1,[],s,Q,hl,h=>by
  unfold drawOrder
  exact wpAny_pure (h [] s.drawn (.refl _))
 | n+1,x::l,s,Q,hl,h=>by
  unfold drawOrder
  refine wpAny_bind (AbO (by simp) fun i d hi=>?_)
  rw[Ak9 hi]
  dsimp only
  refine wpAny_bind (Zj n ((x::l).eraseIdx i) (by rw[List.length_eraseIdx,if_pos hi];omega) fun l' d' hp=>wpAny_pure (h _ d' ?_))
  refine(hp.cons _).trans ?_
  rw[AmA]
  have e2:(x::l)=(x::l).take i++(x::l)[i]::(x::l).drop (i+1):=by rw[List.getElem_cons_drop,Alj]
  exact(Am6 (a:=(x::l)[i]) (l₁:=(x::l).take i) (l₂:=(x::l).drop (i+1))).symm.trans (.of_eq e2.symm)
theorem Agn(W:Wk w o es ep t)(ho:s.heap.get? a=some o)(hz:es.size≤sizeLine){Q:Value→Shared→Prop}
  (hQ:∀(h':Heap) d I T xl,I≠a→T≠I→s.heap.objs.size≤I→(T=a∨s.heap.objs.size≤T)→(∀ b o,s.heap.get? b=some o→h'.get? b=some o)→StI w I a T o es ep t xl 0 h'→Q (.ref I) { s with heap:=h',drawn:=d }):wpAny (model prog w) A (pyIter (.ref a)) Q E s:=by
 have hT:=typ W ho
 have ha:a<s.heap.objs.size:=Heap.lt_size ho
 refine wpAny_pyIter_slot hT F.slot_set_iter (wpAny_call_entry F.slot_set_iter hT AhE ?_ (F.args_set_iter_1 _))
 unfold Builtin.«frozenset.__iter__»
 refine wpAny_bind (m:=Builtin.Frozenset.slot0 "__iter__" ⟨[.ref a],[]⟩) (wpAny_of_eq (a:=a) rfl ?_)
 refine wpAny_bind (wpAny_bind (Xq W ho (wpAny_pure ?_)))
 refine wpAny_bind (AcT W ho ?_)
 dsimp only
 by_cases c:(!w.params.followText "set-order" && (!t.plain && decide (es.size>1)))=true
 ·rw[if_pos c]
  refine wpAny_bind (Zj es.size (List.range es.size) (by simp) fun pm d hp=>?_)
  have hl:pm.length=es.size:=by rw[hp.length_eq,AkC]
  unfold newTuple
  refine wpAny_bind (wpAny_newObj_type ?_ (by show(List.map _ pm).toArray.size≤_+1;rw[AkB,AkA,hl];have:=sizeLine_eq;omega))
  have k1:∀ b ob,s.heap.get? b=some ob→(s.heap.push { cls:=.type "tuple", data:=.seq (pm.map fun k:Nat=>rawInt (k:Int)).toArray }).get? b=some ob:=fun b ob e=>Heap.get?_push_of_some _ e
  refine wpAny_bind (Zi W (k1 _ _ ho) (wpAny_bind (wpAny_newObj_type (wpAny_pure ⟨_,rfl, "set_iterator", _,⟨_,Heap.get?_push_size _ rfl,rfl⟩,Vc.lookup,?_⟩))))
  refine hQ _ d _ s.heap.objs.size (pm.map fun k=>es.toList.getD k (0,.none)) ?_ ?_ ?_ (.inr (Ak8 _)) (fun b ob e=>Heap.get?_push_of_some _ (k1 _ _ e)) ?_
  ·show(s.heap.push _).objs.size≠a
   rw[Heap.size_push];exact Alp (AlT ha)
  ·show s.heap.objs.size≠(s.heap.push _).objs.size
   rw[Heap.size_push];exact AkF (AlC _)
  ·show s.heap.objs.size≤(s.heap.push _).objs.size
   rw[Heap.size_push];exact Alq _
  ·exact⟨.ref s.heap.objs.size,_,Heap.get?_push_size _ rfl,rfl,rfl,.inr ⟨pm,rfl,Heap.get?_push_of_some _ (Heap.get?_push_size _ rfl),hp,rfl⟩,Heap.get?_push_of_some _ (k1 _ _ ho)⟩
 ·rw[if_neg c]
  refine wpAny_bind (wpAny_pure (wpAny_bind (Zi W ho (wpAny_bind (wpAny_newObj_type (wpAny_pure ⟨_,rfl, "set_iterator", _,⟨_,Heap.get?_push_size _ rfl,rfl⟩,Vc.lookup,?_⟩))))))
  have k:∀ b ob,s.heap.get? b=some ob→(s.heap.push { cls:=.type "set_iterator", data:=.fields [rawInt 0,rawInt 0,.ref a,rawInt es.size,rawInt ep].toArray }).get? b=some ob:=fun b ob e=>Heap.get?_push_of_some _ e
  refine hQ _ s.drawn s.heap.objs.size a (if w.params.followText "set-order" = true then (pickOrder (w.params.setOrder a ep) es).toList else es.toList) (Alp ha) (AkF ha) (Ak8 _) (.inl rfl) k ?_
  refine⟨rawInt 0,_,Heap.get?_push_size _ rfl,rfl,rfl,.inl ⟨0,rfl,?_⟩,k _ _ ho⟩
  by_cases hb:w.params.followText "set-order" = true
  ·exact .inl ⟨hb,by rw[if_pos hb]⟩
  ·have hb':w.params.followText "set-order" = false:=by simpa using hb
   rw[hb'] at c
   have hpl:t.plain=true∨es.size≤1:=by
    by_cases z:t.plain=true
    ·exact .inl z
    ·have z':t.plain=false:=by simpa using z
     rw[z'] at c
     simp at c
     exact .inr c
   exact .inr ⟨hb',hpl,by rw[if_neg hb],Aar (W.rise hb' hpl)⟩
theorem Aba(W:Wk w o es ep t)(ho:s.heap.get? a=some o){slot i:Nat}
  (hm:(w.params.followText "set-order" = true∧xl=(pickOrder (w.params.setOrder a ep) es).toList)∨(w.params.followText "set-order" = false∧(t.plain=true∨es.size≤1)∧xl=es.toList∧SetTable.below t.place slot=i)) {Q:Option (Value × Nat)→Shared→Prop}
  (h:∀ next,(i<es.size→(w.params.followText "set-order" = true∧xl=(pickOrder (w.params.setOrder a ep) es).toList)∨(w.params.followText "set-order" = false∧(t.plain=true∨es.size≤1)∧xl=es.toList∧SetTable.below t.place next=i+1)) →
   Q ((xl[i]?).map fun e=>(e.2,next)) s):wpAny (model prog w) A (setNext a slot i ep) Q E s:=by
 unfold setNext
 refine wpAny_bind (wpAny_setState_of ho W.d W.f (wpAny_bind (Tj ?_)))
 dsimp only
 rcases hm with ⟨hb,hx⟩ | ⟨hb,hp,hx,hs⟩
 ·rw[hb,if_pos rfl,if_neg (by simp)]
  unfold setWalk
  refine wpAny_bind (wpAny_bind (wpAny_setState_of ho W.d W.f (wpAny_bind (Tj ?_))))
  rw[hb,if_pos rfl]
  refine wpAny_bind (wpAny_askSetting (wpAny_pure (wpAny_pure ?_)))
  have:=h slot fun _=>.inl ⟨hb,hx⟩
  rw[hx,Array.getElem?_toList] at this
  exact this
 ·rw[hb,if_neg (by decide)]
  have hR:=W.rise hb hp
  have hf:t.place.size=es.size:=by
   have:=W.f
   unfold SetTable.fits at this
   simp at this
   exact this.1
  have nd:(!t.plain && decide (es.size>1))=false:=by
   rcases hp with e | e
   ·rw[e];simp
   ·rw[decide_eq_false (by omega)];simp
  have nl:(!t.led && !es.isEmpty)=false:=by
   rcases W.ok with e | e | ⟨e,_⟩
   ·rw[hb] at e;cases e
   ·simp[Array.isEmpty,e]
   ·rw[e];simp
  split
  ·rename_i hd
   have hd':(!t.plain && decide (es.size>1))=true:=hd
   rw[nd] at hd'
   cases hd'
  ·refine wpAny_bind ?_
   show wpAny _ _ (if (!t.led && !es.isEmpty)=true then unsupported "set:maker-not-led" else pure ()) _ _ _
   rw[nl,if_neg (by decide)]
   refine wpAny_pure (wpAny_pure ?_)
   rw[hs]
   by_cases hi:i<es.size
   ·have:=h (t.place[i]'(by omega)+1) fun _=>.inr ⟨hb,hp,hx,by
     have:=Aas hR (i:=i) (by omega)
     rwa [show t.place.getD i 0=t.place[i]'(by omega) by simp[Array.getD,show i<t.place.size by omega]] at this⟩
    rw[hx,Array.getElem?_toList,Array.getElem?_eq_getElem hi] at this
    rw[Array.getElem?_eq_getElem hi,Array.getElem?_eq_getElem (show i<t.place.size by omega)]
    exact this
   ·have:=h 0 fun z=>absurd z hi
    rw[hx,Array.getElem?_toList,Array.getElem?_eq_none (by omega)] at this
    rw[Array.getElem?_eq_none (by omega)]
    exact this
theorem Aeu(W:Wk w o es ep t){I:Addr}{i:Nat}{x:Int × Value}{Q:Option Value→Shared→Prop}(hne:a≠I)(hnT:T≠I)(st:StI w I a T o es ep t xl i s.heap)(hx:xl[i]?=some x)
  (hQ:∀ h',StI w I a T o es ep t xl (i+1) h'→(∀ b o,b≠I→s.heap.get? b=some o→h'.get? b=some o)→Q (some x.2) { s with heap:=h' }):wpAny (model prog w) A (pyNext (.ref I)) Q E s:=by
 have hT:=st.typeIs
 obtain⟨f,oi,hoi,hci,hdi,hm,ho⟩:=st
 have hi:i<es.size:=by rw[← hm.len];exact(List.getElem?_eq_some_iff.mp hx).1
 unfold pyNext
 refine wpAny_bind (wpAny_attempt (wpAny_callSpecial?_slot (name:=Str.ofString "__next__") hT Vc (wpAny_call_entry Vc hT Afm ?_ (Afn _))))
 unfold Builtin.«set_iterator.__next__»
 refine wpAny_bind (m:=slotArgs "__next__" 0 ⟨[.ref I],[]⟩) (wpAny_of_eq (a:=(Value.ref I,[])) rfl ?_)
 refine wpAny_bind (wpAny_fieldsOf hoi hdi ?_)
 dsimp only
 refine wpAny_bind (Xq W ho ?_)
 rw[if_neg (by simp)]
 rcases hm with ⟨slot,rfl,hm⟩ | ⟨pm,rfl,hT2,hp,hxl⟩
 ·simp only [AkJ]
  refine wpAny_bind (Aba W ho hm fun next hn=>?_)
  rw[hx]
  dsimp only [Option.map]
  refine wpAny_bind (wpAny_setField hoi hdi (by simp) ?_)
  have ho1:=Heap.get?_update_self (Obj.mapFields (·.setIfInBounds 0 (rawInt (next:Int)))) hoi (Obj.isFreed_of_fields (Obj.data_mapFields hdi _))
  have hd1:=Obj.data_mapFields hdi (·.setIfInBounds 0 (rawInt (next:Int)))
  refine wpAny_bind (wpAny_setField ho1 hd1 (by simp) (wpAny_pure ⟨_,rfl,wpAny_pure (hQ _ ⟨.int next 0,_,Heap.get?_update_self _ ho1 (Obj.isFreed_of_fields (Obj.data_mapFields hd1 _)),?_,?_,.inl ⟨next,rfl,hn hi⟩,?_⟩ fun b o' hb e=>?_)⟩))
  ·exact(Obj.cls_mapFields ..).trans ((Obj.cls_mapFields ..).trans hci)
  ·rw[Obj.data_mapFields hd1];simp[rawInt]
  ·exact(Heap.get?_update_other _ _ (Ne.symm hne)).trans ((Heap.get?_update_other _ _ (Ne.symm hne)).trans ho)
  ·exact(Heap.get?_update_other _ _ (Ne.symm hb)).trans ((Heap.get?_update_other _ _ (Ne.symm hb)).trans e)
 ·have hpi:i<pm.length:=by rw[hp.length_eq,AkC];exact hi
  have hk:pm[i]<es.size:=by
   have:=hp.mem_iff.mp (AkI hpi)
   simpa using this
  have e1:es[pm[i]]?=some x:=by
   rw[hxl,AkG,Ak9 hpi] at hx
   have:=Option.some.inj hx
   rw[Array.getElem?_eq_getElem hk]
   simp[List.getD,hk] at this
   rw[this]
  simp only [AkJ]
  refine wpAny_bind (wpAny_seqItems hT2 rfl ?_)
  dsimp only
  rw[show((pm.map fun k:Nat=>rawInt (k:Int)).toArray)[i]?=some (.int (pm[i]:Int) 0) by simp[hpi,rawInt]]
  dsimp only
  unfold setNextDrawn
  refine wpAny_bind (wpAny_bind (wpAny_setState_of ho W.d W.f ?_))
  dsimp only
  rw[if_neg (by simp)]
  simp only [AkJ]
  rw[e1]
  refine wpAny_pure (wpAny_bind (wpAny_setField hoi hdi (by simp) (wpAny_pure ⟨_,rfl,wpAny_pure (hQ _ ⟨.ref T,_,Heap.get?_update_self _ hoi (Obj.isFreed_of_fields (Obj.data_mapFields hdi _)),?_,?_,.inr ⟨pm,rfl,?_,hp,hxl⟩,?_⟩ fun b o' hb e=>?_)⟩)))
  ·exact(Obj.cls_mapFields ..).trans hci
  ·rw[Obj.data_mapFields hdi];simp[rawInt]
  ·exact(Heap.get?_update_other _ _ (Ne.symm hnT)).trans hT2
  ·exact(Heap.get?_update_other _ _ (Ne.symm hne)).trans ho
  ·exact(Heap.get?_update_other _ _ (Ne.symm hb)).trans e
theorem stops(hh:A.handled=none){Q:Option Value→Shared→Prop}(hQ:∀ h',(∀ b o,s.heap.get? b=some o→h'.get? b=some o)→Q none { s with heap:=h' }) :
  wpAny (model prog w) A.in1 (do raiseNew (← newExc (.type "StopIteration") []):Sem Fin) (fun fin s'=>∃ v,fin=Fin.done (Flow.ret v)∧wpAny (model prog w) A (pure (some v)) Q E s')
   (fun e s'=>wpAny (model prog w) A (do if ← isInstance e (.type "StopIteration") then pure none else throw e) Q E s') s:=by
 refine wpAny_bind ?_
 simp only [newExc,newTuple]
 refine wpAny_bind (wpAny_newObj_type (wpAny_bind (m:=firstArgMember _ _) (wpAny_of_eq (a:=Value.none) (by first | rfl | (simp only [firstArgMember];rfl)) (wpAny_newObj_type ?_ (by size_fits)))) (by size_fits))
 simp only [raiseNew]
 refine wpAny_bind (wpAny_handled ?_)
 rw[show A.in1.handled=none from hh]
 refine wpAny_bind (wpAny_pure (wpAny_throw ?_))
 refine wpAny_bind (wpAny_isInstance (T := "StopIteration") (b:=true) ⟨_,Heap.get?_push_size _ rfl,rfl⟩ isSubtype_stop (wpAny_pure (hQ _ fun b o' e=>?_)))
 exact Heap.get?_push_of_some _ (Heap.get?_push_of_some _ e)
theorem Ago(W:Wk w o es ep t){I:Addr}{Q:Option Value→Shared→Prop}(hh:A.handled=none)(st:StI w I a T o es ep t xl es.size s.heap)
  (hQ:∀ h',(∀ b o,b≠I→s.heap.get? b=some o→h'.get? b=some o)→Q none { s with heap:=h' }):wpAny (model prog w) A (pyNext (.ref I)) Q E s:=by
 have hT:=st.typeIs
 obtain⟨f,oi,hoi,hci,hdi,hm,ho⟩:=st
 have hx:xl[es.size]?=none:=Aly (by rw[hm.len];exact Ak8 _)
 unfold pyNext
 refine wpAny_bind (wpAny_attempt (wpAny_callSpecial?_slot (name:=Str.ofString "__next__") hT Vc (wpAny_call_entry Vc hT Afm ?_ (Afn _))))
 unfold Builtin.«set_iterator.__next__»
 refine wpAny_bind (m:=slotArgs "__next__" 0 ⟨[.ref I],[]⟩) (wpAny_of_eq (a:=(Value.ref I,[])) rfl ?_)
 refine wpAny_bind (wpAny_fieldsOf hoi hdi ?_)
 dsimp only
 refine wpAny_bind (Xq W ho ?_)
 rw[if_neg (by simp)]
 rcases hm with ⟨slot,rfl,hm⟩ | ⟨pm,rfl,hT2,hp,hxl⟩
 ·simp only [AkJ]
  refine wpAny_bind (Aba W ho hm fun next hn=>?_)
  rw[hx]
  dsimp only [Option.map]
  refine wpAny_bind (wpAny_setField hoi hdi (by simp) (stops hh fun h' k=>hQ h' fun b o' hb e=>k _ _ ?_))
  exact(Heap.get?_update_other _ _ (Ne.symm hb)).trans e
 ·simp only [AkJ]
  refine wpAny_bind (wpAny_seqItems hT2 rfl ?_)
  dsimp only
  rw[show((pm.map fun k:Nat=>rawInt (k:Int)).toArray)[es.size]?=none by
   rw[List.getElem?_toArray]
   exact Aly (by rw[AkA,hp.length_eq,AkC];exact Ak8 _)]
  dsimp only
  refine wpAny_bind (wpAny_setField hoi hdi (by simp) ?_)
  have ho1:=Heap.get?_update_self (Obj.mapFields (·.setIfInBounds 0 (rawInt 0))) hoi (Obj.isFreed_of_fields (Obj.data_mapFields hdi _))
  have hd1:=Obj.data_mapFields hdi (·.setIfInBounds 0 (rawInt 0))
  refine wpAny_bind (wpAny_setField ho1 hd1 (by simp) (stops hh fun h' k=>hQ h' fun b o' hb e=>k _ _ ?_))
  exact(Heap.get?_update_other _ _ (Ne.symm hb)).trans ((Heap.get?_update_other _ _ (Ne.symm hb)).trans e)
theorem Aev{I:Addr}{i:Nat}{Q:Value→Shared→Prop}(st:StI w I a T o es ep t xl i s.heap)(h:Q (.ref I) s):wpAny (model prog w) A (pyIter (.ref I)) Q E s:=by
 have hT:=st.typeIs
 refine wpAny_pyIter_slot hT Afl (wpAny_call_entry Afl hT AhD ?_ (AhF _))
 show wpAny _ _ (ret (.ref I)) _ _ s
 exact wpAny_pure ⟨_,rfl, "set_iterator", _,hT,Vc.lookup,h⟩
theorem walks(W:Wk w o es ep t)(hh:A.handled=none){I:Addr}(hne:a≠I)(hnT:T≠I):Walks prog w A I [I,a,T] [I] es.size (fun i v=>∃ x,xl[i]?=some x∧v=x.2) (StI w I a T o es ep t xl) where
 sub:=fun b hb=>by rw[List.mem_singleton.mp hb];exact AkM
 frame:=fun i h h' ⟨f,oi,h1,h2,h3,hm,h4⟩ hk=>⟨f,oi,hk I (by simp) _ h1,h2,h3,by
  rcases hm with m | ⟨pm,m1,m2,m3⟩
  ·exact .inl m
  ·exact .inr ⟨pm,m1,hk T (by simp) _ m2,m3⟩,hk a (by simp) _ h4⟩
 item:=fun i s Q E hi st hQ=>by
  obtain⟨x,hx⟩:∃ x,xl[i]?=some x:=⟨_,Ak9 (by
   obtain⟨_,_,_,_,_,hm,_⟩:=id st
   rw[hm.len];exact hi)⟩
  exact Aeu W hne hnT st hx fun h' st' hk=>hQ _ h' s.toks ⟨x,hx,rfl⟩ st' fun b o hb e=>hk b o (fun z=>hb (by simp[z])) e
 done:=fun s Q E st hQ=>Ago W hh st fun h' hk=>hQ h' s.toks fun b o hb e=>hk b o (fun z=>hb (by simp[z])) e
 self:=fun i s Q E st hQ=>Aev st hQ
end
end SetW
open PySem PySem.Spec PyProof.Rows
namespace SetW
section
variable {prog:Program}{w:World}{A:Around}{E:Value→Shared→Prop}{s:Shared}{a:Addr}{o:Obj}{es:Array (Int × Value)}{ep:Nat}{t:SetTable}
theorem Agp:isSubtype (.type "set") (.type "set")=pure true:=by rw[isSubtype_type];kernel_rfl
theorem Aew(W:Wk w o es ep t)(ho:s.heap.get? a=some o)(hh:A.handled=none)(hn:es.size≤sizeLine){Q:List Value→Shared→Prop}
  (hQ:∀(xl:List (Int × Value)) s',xl.Perm es.toList→(∀ b o,s.heap.get? b=some o→s'.heap.get? b=some o)→s'.gens=s.gens→s'.os=s.os→s.heap.objs.size≤s'.heap.objs.size→Q (xl.map (·.2)) s'):wpAny (model prog w) A (collect (.ref a)) Q E s:=by
 have ha:a<s.heap.objs.size:=Heap.lt_size ho
 unfold collect
 refine wpAny_bind (wpAny_runValue (codeAny_builtin F.entry_proto_collect ?_))
 rw[Around.under_plainId F.plain_proto_collect _]
 show wpAny _ A.in1 (newList [] >>= fun l=>again (.builtin "list.__iadd__" ⟨[l,.ref a],[]⟩)) _ _ s
 refine wpAny_bind (wpAny_newObj_type (wpAny_pure ⟨plainId_quiet F.plain_list_iadd _,codeAny_builtin F.entry_list_iadd ?_⟩))
 rw[Around.under_plainId F.plain_list_iadd _]
 obtain⟨h1,eh1⟩:∃ h1,h1=s.heap.push { cls:=.type "list", data:=.seq ([]:List Value).toArray }:=⟨_,rfl⟩
 have hS1:h1.get? s.heap.objs.size=some { cls:=.type "list", data:=.seq ([]:List Value).toArray }:=by rw[eh1];exact Heap.get?_push_size _ rfl
 have k1:∀ b o,s.heap.get? b=some o→h1.get? b=some o:=fun b o e=>by rw[eh1];exact Heap.get?_push_of_some _ e
 have z1:h1.objs.size=s.heap.objs.size+1:=by rw[eh1,Heap.size_push]
 show wpAny _ A.in1 (Builtin.List.listExtendWith (.ref s.heap.objs.size) (.ref a) (.ref s.heap.objs.size)) _ _ { s with heap:=s.heap.push { cls:=.type "list", data:=.seq ([]:List Value).toArray } }
 rw[← eh1]
 unfold Builtin.List.listExtendWith
 have ho1:=k1 _ _ ho
 refine wpAny_bind (wpAny_typeOf (typ (s:={ s with heap:=h1 }) W ho1) ?_)
 have e1:Builtin.List.listSameRef (.ref s.heap.objs.size) (.ref a)=false:=by
  have:s.heap.objs.size≠a:=Alp ha
  simp[Builtin.List.listSameRef,this]
 rw[if_neg (by rw[e1];decide)]
 refine wpAny_bind (Agn (s:={ s with heap:=h1 }) W ho1 hn ?_)
 intro h2 d I T xl nIa nTI sI sT k2 st2
 have hxp:xl.Perm es.toList:=by
  obtain⟨_,_,_,_,_,hm,_⟩:=st2
  exact hm.perm
 have sI':s.heap.objs.size<I:=AkK (by rw[z1];exact AlC _) sI
 show wpAny _ A.in1 _ _ _ { s with heap:=h2,drawn:=d }
 refine wpAny_bind (wpAny_holding ?_)
 unfold Builtin.List.listLengthHint
 have ho2:=k2 _ _ ho1
 refine wpAny_bind (wpAny_specialOf (typ (s:={ s with heap:=h2,drawn:=d }) W ho2) Agm ?_)
 generalize hid:("set.__len__" : String)=ln0
 wp_delta
 rw[show splitId ln0=some ("set", "__len__") by subst hid;decide +kernel]
 subst hid
 refine wpAny_bind (wpAny_isInstance (b:=true) (typ (s:={ s with heap:=h2,drawn:=d }) W ho2) Agp ?_)
 rw[if_neg (by decide)]
 split
 case isFalse hn1=>exact absurd (by decide +kernel) hn1
 refine wpAny_bind (wpAny_typeOf (typ (s:={ s with heap:=h2,drawn:=d }) W ho2) (wpAny_pure ?_))
 rw[if_pos (by decide +kernel)]
 refine wpAny_bind (wpAny_rule (wpAny_bind ?_))
 have hS2:=k2 _ _ hS1
 show wpAny _ A.in1 (updateSeq s.heap.objs.size (·.push .none) >>= fun _=>updateSeq s.heap.objs.size (·.pop)) _ _ _
 refine wpAny_bind (wpAny_updateSeq hS2 rfl ?_)
 have hS3:=Heap.get?_update_self (Obj.mapSeq (·.push Value.none)) hS2 rfl
 refine wpAny_updateSeq hS3 rfl ?_
 have hS4:=Heap.get?_update_self (Obj.mapSeq (·.pop)) hS3 rfl
 obtain⟨h4,eh4⟩:∃ h4,h4=(h2.update s.heap.objs.size (Obj.mapSeq (·.push Value.none))).update s.heap.objs.size (Obj.mapSeq (·.pop)):=⟨_,rfl⟩
 have k4:∀ b o,b≠s.heap.objs.size→h2.get? b=some o→h4.get? b=some o:=fun b o hb e=>by rw[eh4];exact(Heap.get?_update_other _ _ (Ne.symm hb)).trans ((Heap.get?_update_other _ _ (Ne.symm hb)).trans e)
 have nT:T≠s.heap.objs.size:=by
  rcases sT with e | e
  ·rw[e];exact AkF ha
  ·exact Alp (AkK (by rw[z1];exact AlC _) e)
 have WK:=walks (prog:=prog) (T:=T) (xl:=xl) (A:=A.in1) W hh nIa.symm nTI
 have st4:StI w I a T o es ep t xl 0 h4:=WK.frame 0 h2 h4 st2 fun b hb ob e=>k4 b ob (by
  simp only [AkV,Ala,or_false] at hb
  rcases hb with e | e | e
  ·rw[e];exact Alp sI'
  ·rw[e];exact AkF ha
  ·rw[e];exact nT) e
 show wpAny _ A.in1 (again (.builtin "list.extend.loop" ⟨[.ref s.heap.objs.size,.ref I,.ref s.heap.objs.size],[]⟩)) _ _ { s with heap:=(h2.update s.heap.objs.size (Obj.mapSeq (·.push Value.none))).update s.heap.objs.size (Obj.mapSeq (·.pop)),drawn:=d }
 rw[← eh4]
 rw[← eh4] at hS4
 refine wpAny_pure ⟨plainId_quiet F.plain_extend_loop _,codeAny_extend_loopS (WK.toS) hn s.heap.objs.size ?_ _ es.size 0 _ _ _ rfl (AkD _) st4 hS4 (ItemsOf.nil _) fun s' acc' c' hm hS' hacc=>?_⟩
 ·simp only [AkV,Ala,or_false,not_or]
  exact⟨AkF sI',Alp ha,nT.symm⟩
 show wpAny _ A (load s.heap.objs.size >>= _) _ _ s'
 refine wpAny_bind (wpAny_load hS' (wpAny_pure ?_))
 have Agq:xl.length=es.size:=by rw[hxp.length_eq,Array.length_toList]
 have ea:acc'.toList=xl.map (·.2):=by
  refine Amq fun i=>?_
  rw[AkG,Array.getElem?_toList]
  by_cases hi:i<es.size
  ·have hi2:i<acc'.size:=by rw[hacc.1];exact hi
   obtain⟨x,g1,g2⟩:=hacc.2 i acc'[i] (Array.getElem?_eq_getElem hi2)
   rw[g1,Array.getElem?_eq_getElem hi2,g2]
   rfl
  ·rw[Array.getElem?_eq_none (by rw[hacc.1];omega),Aly (by rw[Agq];omega)]
   rfl
 rw[ea]
 refine hQ xl s' hxp (fun b ob e=>hm.heap b ob ?_ (k4 _ _ (AkF (Heap.lt_size e)) (k2 _ _ (k1 _ _ e)))) hm.gens hm.os (Al8 (Heap.lt_size hS'))
 have:=Heap.lt_size e
 simp only [AkV,Ala,or_false,not_or]
 exact⟨AkF this,AkF (Nat.lt_trans this sI')⟩
end
end SetW
open PySem PySem.Spec PyProof.Rows
namespace SetW
theorem Ve{xs:Array Nat}:Py xs↔xs.toList.Pairwise (·<·):=by
 rw[Amx]
 constructor
 ·intro h i j hi hj hij
  have:=h i j hij (by simpa using hj)
  have hi':i<xs.size:=by simpa using hi
  have hj':j<xs.size:=by simpa using hj
  simpa [Array.getD,hi',hj'] using this
 ·intro h i k hik hk
  have:=h i k (by simp;omega) (by simpa using hk) hik
  have hi':i<xs.size:=by omega
  simpa [Array.getD,hi',hk] using this
theorem AcU{xs:Array Nat}{j:Nat}(hR:Py xs)(hn:xs[SetTable.below xs j]?≠some j):Py (SetTable.insertAt xs (SetTable.below xs j) j):=by
 obtain⟨h1,h2,h3⟩:=K6 hR j
 have hP:=Ve.mp hR
 rw[Ve]
 generalize SetTable.below xs j=p at h1 h2 h3 hn
 have e:(SetTable.insertAt xs p j).toList=xs.toList.take p++j::xs.toList.drop p:=by
  unfold SetTable.insertAt
  simp[Array.toList_extract,AkZ]
 rw[e]
 have g:∀ i,i<xs.size→xs.getD i 0=xs.toList.getD i 0:=fun i hi=>by simp[Array.getD,List.getD,hi]
 have lo:∀ y∈xs.toList.take p,y<j:=fun y hy=>by
  obtain⟨i,hi,rfl⟩:=List.mem_take_iff_getElem.mp hy
  have hi':i<p∧i<xs.size:=by simpa using (Nat.lt_min.mp hi)
  have:=h2 i hi'.1
  simpa [Array.getD,hi'.2] using this
 have hi:∀ y∈xs.toList.drop p,j<y:=fun y hy=>by
  obtain⟨i,hi,rfl⟩:=List.mem_drop_iff_getElem.mp hy
  have hi':i+p<xs.size:=by simpa using hi
  have a:=h3 (i+p) (by omega) hi'
  have b:xs.getD (i+p) 0=xs[i+p]:=by simp[Array.getD,hi']
  rw[b] at a
  have ne:xs[i+p]≠j:=fun z=>by
   by_cases c:i=0
   ·subst c
    apply hn
    rw[Array.getElem?_eq_getElem (by omega)]
    simp at z
    rw[z]
   ·have c1:=h3 p (Ak8 _) (by omega)
    have c2:=hR p (i+p) (by omega) hi'
    rw[b,z] at c2
    omega
  have:(xs.toList)[i+p]'(by simpa using hi')=xs[i+p]:=by simp
  simp only [Nat.add_comm] at *
  omega
 rw[List.pairwise_append]
 refine⟨hP.sublist (Al9 _ _),?_,fun a ha b hb=>?_⟩
 ·rw[List.pairwise_cons]
  exact⟨hi,hP.sublist (List.drop_sublist _ _)⟩
 ·rcases List.mem_cons.mp hb with e | hb
  ·rw[e];exact lo a ha
  ·exact Nat.lt_trans (lo a ha) (hi b hb)
def TOk (t t':SetTable):Prop:=t'.led=t.led∧((t.plain=true→Py t.place)→t'.plain=true→Py t'.place)
theorem Aex{mask finger moves:Nat}{led plain:Bool}{hs:Array Int}{t':SetTable}{order:Array Nat}(e:SetTable.laid mask finger moves led plain hs=some (t',order)):t'.led=led∧t'.plain=plain∧Py t'.place:=by
 unfold SetTable.laid at e
 cases ho:SetTable.layClean mask hs with
 | none=>rw[ho] at e;cases e
 | some owner =>
  rw[ho] at e
  have e':some (_,_)=some (t',order):=e
  injection e' with e'
  injection e' with e1 e2
  subst e1
  refine⟨rfl,rfl,?_⟩
  rw[Ve]
  dsimp only
  refine List.Pairwise.map (R:=fun a b:Nat × Nat=>a.1<b.1) _ (fun a b h=>h) ?_
  refine List.Pairwise.filterMap (R:=(·<·)) _ (fun a a' haa b hb b' hb'=>?_) List.pairwise_lt_range
  cases h1:owner.getD a none with
  | none=>rw[h1] at hb;cases hb
  | some u =>
   cases h2:owner.getD a' none with
   | none=>rw[h2] at hb';cases hb'
   | some u' =>
    rw[h1] at hb;rw[h2] at hb'
    cases hb;cases hb'
    exact haa
section
variable {prog:Program}{w:World}{A:Around}{E:Value→Shared→Prop}{s:Shared}{a:Addr}
def ky (e:Int × Value):Int:=match e.2 with | .int i _=>i | _=>0
structure IS (w:World) (o:Obj) (es:Array (Int × Value)) (ep:Nat) (t:SetTable):Prop where
 ex:o.ExactSet
 d:o.data=.set es ep t
 f:t.fits es.size=true
 ok:w.params.followText "set-order" = true∨(t.led=true∧(t.plain=true→Py t.place))
 el:∀ e∈es.toList,(∃ k tk,e=(hashInt k,.int k tk))
 nd:(es.toList.map ky).Nodup
theorem Abb{o:Obj}{es es':Array (Int × Value)}{ep:Nat}{t t':SetTable}(ho:s.heap.get? a=some o)(hd:o.data=.set es ep t):(s.heap.update a (Obj.putSet es' t')).get? a=some { o with data:=.set es' (ep+1) t' }:=by
 have:=Heap.get?_update_self (Obj.putSet es' t') ho (by rw[putSet_of es' t' hd];rfl)
 rw[putSet_of es' t' hd] at this
 exact this
end
end SetW
open PySem PySem.Spec PyProof.Rows
namespace SetW
section
variable {prog:Program}{w:World}{A:Around}{E:Value→Shared→Prop}{s:Shared}
end
end SetW
open PySem PySem.Spec PyProof.Rows
namespace SetW
section
variable {prog:Program}{w:World}{A:Around}{E:Value→Shared→Prop}{s:Shared}
def frs (w:World):Obj:={ cls:=.type "set", dict:=none,data:=.set #[] 0 (.fresh 0 0 (!w.params.followText "set-order")) }
theorem Agr(v:Value){Q₁:Value→Shared→Prop}(h:Q₁ (.ref s.heap.objs.size) { s with heap:=s.heap.push (frs w) }):codeAny (model prog w) A (.call (.builtin "set.__new__") ⟨[.type "set", v],[]⟩) (wants Q₁ E) s:=by
 refine codeAny_of_tree ?_
 show wpAny _ A.in1 (do checkBuiltinCall "set.__new__" ⟨[.type "set", v],[]⟩;again (.builtin "set.__new__" ⟨[.type "set", v],[]⟩)) _ _ s
 refine wpAny_bind (wpAny_of_eq (PySem.F.newCall_set_1 v) (wpAny_pure ⟨plainId_quiet PySem.F.plain_set_new _,codeAny_builtin PySem.F.entry_set_new ?_⟩))
 rw[Around.under_plainId PySem.F.plain_set_new _]
 unfold Builtin.«set.__new__» Builtin.Frozenset.newClass
 have hsub:=sub_set_self
 obtain⟨hp,g,d,tk,os⟩:=s
 dsimp only
 wp_walk
 refine wpAny_askSetting (wpAny_pure ?_)
 dsimp only
 simp only [newObj]
 exact wpAny_bind (wpAny_alloc (wpAny_pure (wpAny_pure h)))
end
end SetW
open PySem PySem.Spec PyProof.Rows
section
variable {X:Cx}{K:PySem.W.Frag}{p1 p2 pos1 pos2:Pos}{e:Expr}{te:TE}
theorem Inv.drew{X:Cx}{pins:List (Addr × Obj)}{σ:St}{H:Hp}{s:Shared}{d:Drawn}(I:Inv X pins σ H s):Inv X pins σ H { s with drawn:=d }:=⟨I.ok,I.os,I.bare,I.base,I.loc,I.cell,I.free,I.Ku,I.pin,I.hok,I.len⟩
def AhG (K:PySem.W.Frag)(te:TE):TE:=fun σ H Q=>te σ H fun x H1=>∃ a ns,x=.ref a∧SqL K H1 a (vI ns)∧ns.length≤4000∧(∀ ds:List Int,ds.Nodup→(∀ z∈ds,z∈ns)→ds.length<64) ∧
 ∀ l ns',(∀ z,z∈ns'↔z∈ns)→ns'.Pairwise (·<·)→H1 l=none→Q (.ref l) (upd H1 l (.lst (vI ns')))
end
open PySem PySem.Spec PyProof.Rows
namespace SetW
def pth (t:SetTable)(h:Int):Nat→SetTable.Probe
 | 0=>t.probeStart h
 | n+1=>t.advance (pth t h n)
def trn (mask:Nat)(b:Nat):Nat→Nat × Nat
 | 0=>(b%(mask+1),b)
 | k+1=>SetTable.leap mask (trn mask b k).1 (trn mask b k).2
theorem Ags(mask i:Nat):SetTable.runEnd mask i-i≤9:=by unfold SetTable.runEnd;split <;> omega
theorem Zk(mask b:Nat):∀ k,(trn mask b k).2=b / 32 ^ k
 | 0=>by simp[trn]
 | k+1=>by
  show(trn mask b k).2 / 32=_
  rw[Zk mask b k,Nat.div_div_eq_div_mul,← Nat.pow_succ]
theorem AcV(mask b:Nat):∀ k,(trn mask b k).1≤mask
 | 0=>Amr (AlI _ (Amg _))
 | k+1=>Amr (AlI _ (Amg _))
def nxt (N i:Nat):Nat:=(i*5+1)%N
def itr (N:Nat):Nat→Nat→Nat
 | 0,i=>i
 | m+1,i=>itr N m (nxt N i)
theorem Abd(N:Nat):∀(m i:Nat),itr N (m+1) i=nxt N (itr N m i)
 | 0,i=>rfl
 | m+1,i=>Abd N m (nxt N i)
def orb (N:Nat):Nat→Nat→List Nat
 | 0,_=>[]
 | m+1,i=>i::orb N m (nxt N i)
theorem Xr{N j:Nat}:∀{m i:Nat},j∈orb N m i→∃ k,k<m∧itr N k i=j
 | 0,i,h=>by simp[orb] at h
 | m+1,i,h=>by
  rcases List.mem_cons.mp h with e | e
  ·exact⟨0,Amg _,e.symm⟩
  ·obtain⟨k,hk,e⟩:=Xr e
   exact⟨k+1,by omega,e⟩
def O9 (N:Nat):Bool:=((List.range N).all fun j=>(orb N N 0).contains j) && itr N N 0 == 0
theorem Ajf:O9 8=true:=by decide +kernel
theorem AhH:O9 32=true:=by decide +kernel
theorem Agt:O9 128=true:=by decide +kernel
def Msk (mask:Nat):Prop:=mask=7∨mask=31∨mask=127
theorem Msk.cov{mask:Nat}(h:Msk mask):O9 (mask+1)=true:=by
 rcases h with h | h | h <;> subst h
 ·exact Ajf
 ·exact AhH
 ·exact Agt
theorem Uv(N:Nat):∀(k m i:Nat),itr N (k+m) i=itr N m (itr N k i)
 | 0,m,i=>by rw[Alx];rfl
 | k+1,m,i=>by rw[show k+1+m=(k+m)+1 by omega];exact Uv N k m (nxt N i)
theorem Agu{N i j:Nat}(h:O9 N=true)(hi:i<N)(hj:j<N):∃ k,k<N∧itr N k i=j:=by
 unfold O9 at h
 rw[Amb,Amk] at h
 obtain⟨h1,h2⟩:=h
 have e0:itr N N 0=0:=by simpa using h2
 obtain⟨a,ha,ea⟩:=Xr (List.contains_iff_mem.mp (h1 i (List.mem_range.mpr hi)))
 obtain⟨b,hb,eb⟩:=Xr (List.contains_iff_mem.mp (h1 j (List.mem_range.mpr hj)))
 by_cases c:a≤b
 ·refine⟨b-a,by omega,?_⟩
  rw[← ea,← Uv,show a+(b-a)=b by omega]
  exact eb
 ·refine⟨N-a+b,by omega,?_⟩
  rw[← ea,← Uv,show a+(N-a+b)=N+b by omega,Uv,e0]
  exact eb
theorem AcW{mask b:Nat}(hb:b<2 ^ 64)(m:Nat):(trn mask b (13+m)).1=itr (mask+1) m (trn mask b 13).1:=by
 induction m with
 | zero=>rfl
 | succ m ih =>
  rw[Abd,← ih]
  show((trn mask b (13+m)).1*5+1+(trn mask b (13+m)).2 / 32)%(mask+1)=_
  have e0:(trn mask b (13+m)).2 / 32=0:=by
   rw[Zk]
   have:b / 32 ^ (13+m)=0:=by
    refine Nat.div_eq_of_lt (AkK hb ?_)
    have e1:(2:Nat) ^ 64≤32 ^ 13:=by decide
    exact AkS e1 (Nat.pow_le_pow_right (by decide) (by omega))
   rw[this]
  rw[e0]
  rfl
theorem Abe{mask b j:Nat}(hm:Msk mask)(hb:b<2 ^ 64)(hj:j≤mask):∃ k,k<mask+14∧(trn mask b k).1=j:=by
 obtain⟨m,h1,h2⟩:=Agu hm.cov (Nat.lt_succ_of_le (AcV mask b 13)) (Nat.lt_succ_of_le hj)
 exact⟨13+m,by omega,by rw[AcW hb];exact h2⟩
theorem Abf(h:Int):SetTable.bits h<2 ^ 64:=by
 unfold SetTable.bits
 have h1:=Alc h (show(0:Int)<2 ^ 64 by decide)
 have h2:=Ald h (show(2 ^ 64:Int)≠0 by decide)
 omega
theorem Xu(t:SetTable)(h:Int){n i q:Nat}(e:pth t h n={ j:=i,more:=SetTable.runEnd t.mask i-i,i:=i,perturb:=q,dummy:=none }):∀ r,r≤SetTable.runEnd t.mask i-i→pth t h (n+r)={ j:=i+r,more:=SetTable.runEnd t.mask i-i-r,i:=i,perturb:=q,dummy:=none }
 | 0,_=>e
 | r+1,hr=>by
  show t.advance (pth t h (n+r))=_
  rw[Xu t h e r (by omega)]
  unfold SetTable.advance
  rw[if_pos (show SetTable.runEnd t.mask i-i-r>0 by omega)]
  rfl
def idx (t:SetTable)(h:Int):Nat→Nat
 | 0=>0
 | k+1=>idx t h k+(SetTable.runEnd t.mask (trn t.mask (SetTable.bits h) k).1-(trn t.mask (SetTable.bits h) k).1)+1
theorem AcX(t:SetTable)(h:Int):∀ k,idx t h k≤10*k
 | 0=>Ak8 _
 | k+1=>by
  have:=AcX t h k
  have:=Ags t.mask (trn t.mask (SetTable.bits h) k).1
  show idx t h k+_+1≤_
  omega
theorem Vf(t:SetTable)(h:Int):∀ k,pth t h (idx t h k)={ j:=(trn t.mask (SetTable.bits h) k).1,more:=SetTable.runEnd t.mask (trn t.mask (SetTable.bits h) k).1-(trn t.mask (SetTable.bits h) k).1,i:=(trn t.mask (SetTable.bits h) k).1,perturb:=(trn t.mask (SetTable.bits h) k).2,dummy:=none }
 | 0=>rfl
 | k+1=>by
  have e:=Xu t h (Vf t h k) _ (Ak8 _)
  show t.advance (pth t h (idx t h k+_))=_
  rw[e]
  unfold SetTable.advance
  rw[if_neg (by show ¬(_-_>0);omega)]
  rfl
theorem Aey{t:SetTable}{h:Int}{j:Nat}(hm:Msk t.mask)(hj:j≤t.mask):∃ n,n<10*SetTable.turns t.mask∧(pth t h n).j=j:=by
 obtain⟨k,h1,h2⟩:=Abe hm (Abf h) hj
 refine⟨idx t h k,?_,by rw[Vf];exact h2⟩
 have:=AcX t h k
 unfold SetTable.turns
 omega
theorem Tn(t:SetTable)(h:Int):∀ n,(pth t h n).dummy=none
 | 0=>rfl
 | n+1=>by
  show(t.advance (pth t h n)).dummy=none
  unfold SetTable.advance
  split
  ·exact Tn t h n
  ·exact Tn t h n
theorem K7{t t':SetTable}(e:t'.mask=t.mask)(h:Int):∀ n,pth t' h n=pth t h n
 | 0=>by unfold pth SetTable.probeStart;rw[e]
 | n+1=>by
  show t'.advance (pth t' h n)=t.advance (pth t h n)
  rw[K7 e h n]
  unfold SetTable.advance
  rw[e]
end SetW
open PySem PySem.Spec PyProof.Rows
namespace SetW
theorem sub_len:∀{l r:List Nat},l.Nodup→(∀ x∈l,x∈r)→l.length≤r.length
 | [],r,_,_=>AkD _
 | a::l,r,n,h=>by
  have n1:=List.nodup_cons.mp n
  have ha:=h a AkM
  have:=sub_len (l:=l) (r:=r.erase a) n1.2 fun x hx=>by
   have ne:x≠a:=fun e=>n1.1 (by rw[← e];exact hx)
   rw[Am0 ne]
   exact h x (AkN _ hx)
  rw[Am1 ha] at this
  have:0<r.length:=Am2 ha
  rw[AkR]
  omega
theorem Aez{xs:Array Nat}{m:Nat}(h:xs.size≤m):∃ j,j≤m∧∀ i:Nat,xs[i]?≠some j:=by
 refine Classical.byContradiction fun z=>?_
 have all:∀ j∈List.range (m+1),j∈xs.toList:=fun j hj=>Classical.byContradiction fun c=>z ⟨j,by have:=List.mem_range.mp hj;omega,fun i e=>c (by
  rw[← Array.getElem?_toList] at e
  exact AkQ e)⟩
 have:=sub_len AlX all
 rw[AkC,Array.length_toList] at this
 omega
theorem Rg{α:Type}(xs:Array α)(p:Nat)(x:α):(SetTable.insertAt xs p x).toList=xs.toList.take p++x::xs.toList.drop p:=by
 unfold SetTable.insertAt
 simp[Array.toList_extract,AkZ]
theorem O4{α:Type}(xs:Array α){p:Nat}(hp:p≤xs.size)(x:α)(i:Nat):(SetTable.insertAt xs p x)[i]?=if i<p then xs[i]? else if i=p then some x else xs[i-1]?:=by
 rw[← Array.getElem?_toList,Rg]
 have tl:(xs.toList.take p).length=p:=by rw[AkO,Array.length_toList];omega
 by_cases h1:i<p
 ·rw[if_pos h1,Alm (by omega),Amu h1,Array.getElem?_toList]
 ·rw[if_neg h1,Alk (by omega),tl]
  by_cases h2:i=p
  ·rw[if_pos h2,h2,Alu];rfl
  ·rw[if_neg h2,show i-p=(i-p-1)+1 by omega,List.getElem?_cons_succ,Am7,Array.getElem?_toList]
   congr 1
   omega
theorem Rh{α:Type}(xs:Array α)(p:Nat)(x:α):(SetTable.insertAt xs p x).size=xs.size+1:=by
 rw[← Array.length_toList,Rg,AkE,AkR]
 have:=Alj p xs.toList
 have e:(xs.toList.take p).length+(xs.toList.drop p).length=xs.toList.length:=by rw[← AkE,this]
 have e2:xs.toList.length=xs.size:=Array.length_toList
 omega
theorem slot_of{t:SetTable}(R:Py t.place){i j:Nat}(h:t.place[i]?=some j):t.slot j=.live i:=by
 obtain⟨h1,h2,h3⟩:=K6 R j
 obtain⟨hi,e⟩:=Array.getElem?_eq_some_iff.mp h
 have g:t.place.getD i 0=j:=by simp[Array.getD,hi,e]
 have eb:SetTable.below t.place j=i:=by
  rcases AlL (SetTable.below t.place j) i with c | c | c
  ·have a:=h3 (SetTable.below t.place j) (Ak8 _) (by omega)
   have b:=R _ i c hi
   omega
  ·exact c
  ·have:=h2 i c
   omega
 unfold SetTable.slot
 dsimp only
 rw[eb,if_pos (by rw[h];simp)]
theorem Xv{t:SetTable}{i j:Nat}(h:t.slot j=.live i):t.place[i]?=some j:=by
 unfold SetTable.slot at h
 dsimp only at h
 split at h
 ·rename_i c
  injection h with h
  rw[h] at c
  exact eq_of_beq c
 ·split at h <;> cases h
theorem Abg{t:SetTable}(nd:t.dummies=#[]){j:Nat}(h:∀ i:Nat,t.place[i]?≠some j):t.slot j=.empty:=by
 unfold SetTable.slot
 dsimp only
 have hn:(t.place[SetTable.below t.place j]? == some j)=false:=by
  cases c:(t.place[SetTable.below t.place j]? == some j) with
  | false=>rfl
  | true=>exact absurd (eq_of_beq c) (h _)
 rw[hn,nd]
 rfl
theorem Vg{t:SetTable}(nd:t.dummies=#[])(j:Nat):t.slot j=.empty∨∃ i,t.slot j=.live i:=by
 by_cases h:∃ i,t.slot j=.live i
 ·exact .inr h
 ·by_cases c:∃ i:Nat,t.place[i]?=some j
  ·unfold SetTable.slot at h ⊢
   dsimp only at h ⊢
   split
   ·rename_i c2
    exact absurd ⟨_,if_pos c2⟩ h
   ·rename_i c2
    rw[nd]
    exact .inl rfl
  ·exact .inl (Abg nd fun i e=>c ⟨i,e⟩)
inductive Meets (t:SetTable) (g:Nat→Int) (h:Int) (n:Nat):Option SetTable.Met→Prop
 | empty (m:Nat):n≤m→t.slot (pth t h m).j=.empty→(∀ n',n≤n'→n'<m→∃ i,t.slot (pth t h n').j=.live i∧g i≠h)→Meets t g h n (some (.empty (pth t h m).j none))
 | Ae0 (m i:Nat):n≤m→t.slot (pth t h m).j=.live i→g i=h→(∀ n',n≤n'→n'<m→∃ i,t.slot (pth t h n').j=.live i∧g i≠h)→Meets t g h n (some (.candidate (pth t h m).j i (pth t h (m+1))))
theorem Meets.back{t:SetTable}{g:Nat→Int}{h:Int}{n:Nat}{r:Option SetTable.Met}(hn:∃ i,t.slot (pth t h n).j=.live i∧g i≠h)(m:Meets t g h (n+1) r):Meets t g h n r:=by
 have ext:∀{k:Nat},n+1≤k→(∀ n',n+1≤n'→n'<k→∃ i,t.slot (pth t h n').j=.live i∧g i≠h)→∀ n',n≤n'→n'<k→∃ i,t.slot (pth t h n').j=.live i∧g i≠h:=fun {k} hk f n' h1 h2=>by
  by_cases c:n'=n
  ·rw[c];exact hn
  ·exact f n' (by omega) h2
 cases m with
 | empty m h1 h2 h3=>exact .empty m (by omega) h2 (ext h1 h3)
 | Ae0 m i h1 h2 h3 h4=>exact .Ae0 m i (by omega) h2 h3 (ext h1 h4)
theorem Zm{t:SetTable}(nd:t.dummies=#[])(g:Nat→Int)(h:Int){N:Nat}(hN:t.slot (pth t h N).j=.empty):∀(fuel n:Nat),n≤N→N-n<fuel→Meets t g h n (SetTable.probe.go t g h fuel (pth t h n))
 | 0,n,_,hf=>by omega
 | fuel+1,n,hn,hf=>by
  unfold SetTable.probe.go
  rcases Vg nd (pth t h n).j with e | ⟨i,e⟩
  ·rw[e]
   dsimp only
   rw[Tn]
   exact .empty n (Ak8 _) e fun n' h1 h2=>by omega
  ·rw[e]
   dsimp only
   have hlt:n<N:=by
    rcases Al6 n N with c | c
    ·exact c
    ·have:n=N:=by omega
     rw[this,hN] at e;cases e
   by_cases c:g i=h
   ·rw[if_pos (by rw[c];simp)]
    exact .Ae0 n i (Ak8 _) e c fun n' h1 h2=>by omega
   ·rw[if_neg (by simpa using c)]
    exact(Zm nd g h hN fuel (n+1) (by omega) (by omega)).back ⟨i,e,c⟩
structure Tb (t:SetTable) (es:Array (Int × Value)):Prop where
 sz:t.place.size=es.size
 rise:Py t.place
 nod:t.dummies=#[]
 le:∀ i j:Nat,t.place[i]?=some j→j≤t.mask
 msk:Msk t.mask
 few:es.size≤t.mask
 way:∀(i j:Nat) (e:Int × Value),t.place[i]?=some j→es[i]?=some e→∃ n,(pth t e.1 n).j=j∧∀ n',n'<n→t.slot (pth t e.1 n').j≠.empty
theorem Tb.stop{t:SetTable}{es:Array (Int × Value)}(B:Tb t es)(h:Int):∃ N,N<10*SetTable.turns t.mask∧t.slot (pth t h N).j=.empty:=by
 obtain⟨j,hj,hn⟩:=Aez (xs:=t.place) (m:=t.mask) (by rw[B.sz];exact B.few)
 obtain⟨n,h1,h2⟩:=Aey (h:=h) B.msk hj
 exact⟨n,h1,by rw[h2];exact Abg B.nod hn⟩
theorem Aat(t:SetTable)(h:Int):∀ n,(pth t h n).j+(pth t h n).more≤t.mask∧(pth t h n).i≤t.mask
 | 0=>by
  have a:SetTable.bits h%(t.mask+1)≤t.mask:=Amr (AlI _ (Amg _))
  refine⟨?_,a⟩
  show _+(SetTable.runEnd t.mask _-_)≤_
  unfold SetTable.runEnd
  split <;> (show SetTable.bits h%(t.mask+1)+_≤_) <;> omega
 | n+1=>by
  obtain⟨h1,h2⟩:=Aat t h n
  show(t.advance (pth t h n)).j+(t.advance (pth t h n)).more≤t.mask∧(t.advance (pth t h n)).i≤t.mask
  unfold SetTable.advance
  split
  ·exact⟨by show(pth t h n).j+1+((pth t h n).more-1)≤_;omega,h2⟩
  ·have a:(SetTable.leap t.mask (pth t h n).i (pth t h n).perturb).1≤t.mask:=Amr (AlI _ (Amg _))
   refine⟨?_,a⟩
   show(SetTable.leap t.mask (pth t h n).i (pth t h n).perturb).1+(SetTable.runEnd t.mask (SetTable.leap t.mask (pth t h n).i (pth t h n).perturb).1-(SetTable.leap t.mask (pth t h n).i (pth t h n).perturb).1)≤_
   unfold SetTable.runEnd
   split <;> omega
theorem Tb.put{t:SetTable}{es:Array (Int × Value)}(B:Tb t es){h:Int}{x:Value}{n:Nat}(he:t.slot (pth t h n).j=.empty)(hb:∀ n',n'<n→t.slot (pth t h n').j≠.empty)(hf:es.size+1≤t.mask)(pl:Bool) :
  Tb { (t.put (pth t h n).j).1 with plain:=pl } (SetTable.insertAt es (t.put (pth t h n).j).2 (h,x)):=by
 obtain⟨J,hJ⟩:∃ J,J=(pth t h n).j:=⟨_,rfl⟩
 have hJm:J≤t.mask:=by have:=Aat t h n;omega
 rw[← hJ] at he ⊢
 have hne:∀ i:Nat,t.place[i]?≠some J:=fun i z=>by rw[slot_of B.rise z] at he;cases he
 obtain⟨b1,b2,b3⟩:=K6 B.rise J
 have pe:(t.put J).2=SetTable.below t.place J:=rfl
 have pp:(t.put J).1.place=SetTable.insertAt t.place (SetTable.below t.place J) J:=rfl
 have pm:(t.put J).1.mask=t.mask:=rfl
 have pd:(t.put J).1.dummies=#[]:=by
  show(if SetTable.has t.dummies J then _ else t.dummies)=#[]
  rw[B.nod]
  rfl
 obtain⟨p,hp⟩:∃ p,p=SetTable.below t.place J:=⟨_,rfl⟩
 obtain⟨t',ht'⟩:∃ t':SetTable,t'={ (t.put J).1 with plain:=pl }:=⟨_,rfl⟩
 have tp:t'.place=SetTable.insertAt t.place p J:=by rw[ht',hp];rfl
 have tm:t'.mask=t.mask:=by rw[ht'];rfl
 have td:t'.dummies=#[]:=by rw[ht'];exact pd
 rw[pe,← hp,← ht']
 rw[← hp] at b1
 have R':Py t'.place:=by rw[tp,hp];exact AcU B.rise (hne _)
 have gp:=fun i:Nat=>O4 t.place b1 J i
 have ge:=fun i:Nat=>O4 es (p:=p) (by rw[← B.sz];exact b1) (h,x) i
 have live:∀ j,t.slot j≠.empty→t'.slot j≠.empty:=fun j hj=>by
  rcases Vg B.nod j with e | ⟨i,e⟩
  ·exact absurd e hj
  ·have hi:=Xv e
   have:∃ i':Nat,t'.place[i']?=some j:=by
    by_cases c:i<p
    ·exact⟨i,by rw[tp,gp,if_pos c];exact hi⟩
    ·exact⟨i+1,by rw[tp,gp,if_neg (by omega),if_neg (by omega)];exact hi⟩
   obtain⟨i',hi'⟩:=this
   rw[slot_of R' hi']
   exact fun z=>by cases z
 refine⟨?_,R',td,fun i j hij=>?_,by rw[tm];exact B.msk,by rw[tm,Rh];exact hf,fun i j e hij hie=>?_⟩
 ·rw[tp,Rh,Rh,B.sz]
 ·rw[tm]
  rw[tp,gp] at hij
  split at hij
  ·exact B.le _ _ hij
  ·split at hij
   ·injection hij with hij;rw[← hij];exact hJm
   ·exact B.le _ _ hij
 ·rw[tp,gp] at hij
  rw[ge] at hie
  have old:∀ i0:Nat,t.place[i0]?=some j→es[i0]?=some e→∃ n,(pth t' e.1 n).j=j∧∀ n',n'<n→t'.slot (pth t' e.1 n').j≠.empty:=fun i0 q1 q2=>by
   obtain⟨n0,a1,a2⟩:=B.way i0 j e q1 q2
   refine⟨n0,by rw[K7 tm];exact a1,fun n' hn'=>?_⟩
   rw[K7 tm]
   exact live _ (a2 n' hn')
  by_cases c1:i<p
  ·rw[if_pos c1] at hij hie
   exact old i hij hie
  ·rw[if_neg c1] at hij hie
   by_cases c2:i=p
   ·rw[if_pos c2] at hij hie
    injection hij with hij
    injection hie with hie
    subst hie
    refine⟨n,by rw[K7 tm,← hJ];exact hij,fun n' hn'=>?_⟩
    rw[K7 tm]
    exact live _ (hb n' hn')
   ·rw[if_neg c2] at hij hie
    exact old (i-1) hij hie
end SetW
open PySem PySem.Spec PyProof.Rows
namespace SetW
def T0 (mask:Nat):SetTable:={ mask:=mask,place:=#[],dummies:=#[],finger:=0,led:=true,moves:=0,plain:=true }
structure Ly (mask:Nat) (hs:List Int) (ow:Array (Option Nat)) (k:Nat):Prop where
 sz:ow.size=mask+1
 lt:∀ j o:Nat,ow.getD j none=some o→o<k
 all:∀ o:Nat,o<k→∃ j:Nat,ow.getD j none=some o
 inj:∀ j j' o:Nat,ow.getD j none=some o→ow.getD j' none=some o→j=j'
 way:∀(j o:Nat) (h:Int),ow.getD j none=some o→hs[o]?=some h→∃ n,(pth (T0 mask) h n).j=j∧∀ n',n'<n→ow.getD (pth (T0 mask) h n').j none≠none
theorem Afo{ow:Array (Option Nat)}{j o:Nat}(h:ow.getD j none=some o):j<ow.size:=by
 rcases Al6 j ow.size with c | c
 ·exact c
 ·rw[Array.getD_eq_getD_getElem?,Array.getElem?_eq_none c] at h;cases h
theorem AcY{ow:Array (Option Nat)}{j:Nat}(h:j<ow.size):ow.getD j (some 0)=ow.getD j none:=by
 rw[Array.getD_eq_getD_getElem?,Array.getD_eq_getD_getElem?,Array.getElem?_eq_getElem h]
 rfl
theorem Ly.free{mask:Nat}{hs:List Int}{ow:Array (Option Nat)}{k:Nat}(L:Ly mask hs ow k)(hk:k≤mask):∃ j,j≤mask∧ow.getD j none=none:=by
 refine Classical.byContradiction fun z=>?_
 have own:∀ j,j≤mask→∃ o,ow.getD j none=some o:=fun j hj=>by
  cases e:ow.getD j none with
  | none=>exact absurd ⟨j,hj,e⟩ z
  | some o=>exact⟨o,rfl⟩
 have n:((List.range (mask+1)).map fun j=>(ow.getD j none).getD 0).Nodup:=by
  rw[List.Nodup,AkX]
  refine List.nodup_range.imp_of_mem fun {a b} ha hb ne e=>ne ?_
  obtain⟨o,ho⟩:=own a (by have:=List.mem_range.mp ha;omega)
  obtain⟨o',ho'⟩:=own b (by have:=List.mem_range.mp hb;omega)
  rw[ho,ho'] at e
  have e:o=o':=e
  subst e
  exact L.inj _ _ _ ho ho'
 have:=sub_len n (r:=List.range k) fun x hx=>by
  obtain⟨j,hj,e⟩:=List.mem_map.mp hx
  obtain⟨o,ho⟩:=own j (by have:=List.mem_range.mp hj;omega)
  rw[ho] at e
  have e:o=x:=e
  rw[← e]
  exact List.mem_range.mpr (L.lt j o ho)
 rw[AkA,AkC,AkC] at this
 omega
theorem Abh{mask:Nat}{ow:Array (Option Nat)}(h:Int)(sz:ow.size=mask+1):∀(fuel k:Nat),(∃ K,k≤K∧K<k+fuel∧ow.getD (trn mask (SetTable.bits h) K).1 none=none)→(∀ n',n'<idx (T0 mask) h k→ow.getD (pth (T0 mask) h n').j none≠none) →
  ∃ n,SetTable.layClean.free mask ow fuel (trn mask (SetTable.bits h) k).1 (trn mask (SetTable.bits h) k).2=some (pth (T0 mask) h n).j∧ow.getD (pth (T0 mask) h n).j none=none∧∀ n',n'<n→ow.getD (pth (T0 mask) h n').j none≠none
 | 0,k,⟨K,h1,h2,_⟩,_=>by omega
 | fuel+1,k,⟨K,h1,h2,h3⟩,hb=>by
  have run:=Xu (T0 mask) h (Vf (T0 mask) h k)
  have il:(trn mask (SetTable.bits h) k).1≤mask:=AcV _ _ _
  have re:SetTable.runEnd mask (trn mask (SetTable.bits h) k).1≤mask∧(trn mask (SetTable.bits h) k).1≤SetTable.runEnd mask (trn mask (SetTable.bits h) k).1:=by unfold SetTable.runEnd;split <;> omega
  have run:∀ r,r≤SetTable.runEnd mask (trn mask (SetTable.bits h) k).1-(trn mask (SetTable.bits h) k).1→(pth (T0 mask) h (idx (T0 mask) h k+r)).j=(trn mask (SetTable.bits h) k).1+r:=fun r hr=>by rw[run r hr];rfl
  have ix:idx (T0 mask) h (k+1)=idx (T0 mask) h k+(SetTable.runEnd mask (trn mask (SetTable.bits h) k).1-(trn mask (SetTable.bits h) k).1)+1:=rfl
  have nx:trn mask (SetTable.bits h) (k+1)=SetTable.leap mask (trn mask (SetTable.bits h) k).1 (trn mask (SetTable.bits h) k).2:=rfl
  have hK0:K=k→ow.getD (trn mask (SetTable.bits h) k).1 none=none:=fun e=>by rw[← e];exact h3
  unfold SetTable.layClean.free
  generalize (trn mask (SetTable.bits h) k).1=i at il re run ix nx hK0 ⊢
  have ih:=Abh h sz fuel (k+1)
  rw[nx] at ih
  have hKk:K=k∨k+1≤K:=by omega
  cases hf:(List.range (SetTable.runEnd mask i+1-i)).find? fun r=>(ow.getD (i+r) (some 0)).isNone with
  | some r =>
   obtain⟨f1,f2,f3⟩:=List.find?_range_eq_some.mp hf
   have hr:=List.mem_range.mp f2
   dsimp only
   refine⟨idx (T0 mask) h k+r,by rw[run r (by omega)],?_,fun n' hn'=>?_⟩
   ·rw[run r (by omega),← AcY (by omega)]
    exact Option.isNone_iff_eq_none.mp f1
   ·by_cases c:n'<idx (T0 mask) h k
    ·exact hb n' c
    ·obtain⟨r',rfl⟩:∃ r',n'=idx (T0 mask) h k+r':=⟨n'-idx (T0 mask) h k,by omega⟩
     have:=f3 r' (by omega)
     rw[run r' (by omega),← AcY (by omega)]
     intro z
     rw[z] at this
     cases this
  | none =>
   have f:=List.find?_range_eq_none.mp hf
   have nn:∀ r,r≤SetTable.runEnd mask i-i→ow.getD (i+r) none≠none:=fun r hr=>by
    have:=f r (by omega)
    rw[← AcY (by omega)]
    intro z
    rw[z] at this
    cases this
   dsimp only
   refine ih ⟨K,?_,by omega,h3⟩ fun n' hn'=>?_
   ·rcases hKk with e | e
    ·exact absurd (hK0 e) (nn 0 (AkD _))
    ·exact e
   ·by_cases c:n'<idx (T0 mask) h k
    ·exact hb n' c
    ·obtain⟨r',rfl⟩:∃ r',n'=idx (T0 mask) h k+r':=⟨n'-idx (T0 mask) h k,by omega⟩
     rw[run r' (by omega)]
     exact nn r' (by omega)
theorem Ae1{ow:Array (Option Nat)}{J k:Nat}(hJ:J<ow.size)(j:Nat):(ow.setIfInBounds J (some k)).getD j none=if j=J then some k else ow.getD j none:=by
 rw[Array.getD_eq_getD_getElem?,Array.getElem?_setIfInBounds,Array.getD_eq_getD_getElem?]
 by_cases e:J=j
 ·rw[if_pos e,if_pos hJ,if_pos e.symm];rfl
 ·rw[if_neg e,if_neg fun z=>e z.symm]
theorem Ly.next{mask:Nat}{hs:List Int}{ow:Array (Option Nat)}(L:Ly mask hs ow hs.length){h:Int}{n:Nat}(he:ow.getD (pth (T0 mask) h n).j none=none)(hb:∀ n',n'<n→ow.getD (pth (T0 mask) h n').j none≠none):Ly mask (hs++[h]) (ow.setIfInBounds (pth (T0 mask) h n).j (some hs.length)) (hs++[h]).length:=by
 obtain⟨J,hJ⟩:∃ J,J=(pth (T0 mask) h n).j:=⟨_,rfl⟩
 have hJm:J≤mask:=by
  have:=(Aat (T0 mask) h n).1
  have:(pth (T0 mask) h n).j+(pth (T0 mask) h n).more≤mask:=this
  omega
 rw[← hJ] at he ⊢
 have hJs:J<ow.size:=by rw[L.sz];omega
 have g:=fun j=>Ae1 (k:=hs.length) hJs j
 have keep:∀ j,ow.getD j none≠none→(ow.setIfInBounds J (some hs.length)).getD j none≠none:=fun j hj=>by
  rw[g j]
  split
  ·exact fun z=>by cases z
  ·exact hj
 have ll:(hs++[h]).length=hs.length+1:=by rw[AkE];rfl
 refine⟨by rw[Array.size_setIfInBounds];exact L.sz,fun j o ho=>?_,fun o ho=>?_,fun j j' o h1 h2=>?_,fun j o h' ho hh=>?_⟩
 ·rw[g j] at ho
  rw[ll]
  split at ho
  ·injection ho with ho;omega
  ·have:=L.lt j o ho;omega
 ·rw[ll] at ho
  by_cases c:o=hs.length
  ·exact⟨J,by rw[g J,if_pos rfl,c]⟩
  ·obtain⟨j,hj⟩:=L.all o (by omega)
   refine⟨j,?_⟩
   rw[g j,if_neg fun z=>?_]
   ·exact hj
   ·rw[z,he] at hj;cases hj
 ·rw[g j] at h1
  rw[g j'] at h2
  split at h1
  ·rename_i c
   injection h1 with h1
   split at h2
   ·rename_i c';rw[c,c']
   ·have:=L.lt j' o h2;omega
  ·split at h2
   ·injection h2 with h2
    have:=L.lt j o h1;omega
   ·exact L.inj j j' o h1 h2
 ·rw[g j] at ho
  split at ho
  ·rename_i c
   injection ho with ho
   rw[← ho,Alk (Ak8 _),Alu] at hh
   injection hh with hh
   subst hh
   exact⟨n,by rw[c,hJ],fun n' hn'=>keep _ (hb n' hn')⟩
  ·have ol:=L.lt j o ho
   rw[Alm ol] at hh
   obtain⟨n0,a1,a2⟩:=L.way j o h' ho hh
   exact⟨n0,a1,fun n' hn'=>keep _ (a2 n' hn')⟩
theorem Ly.new(mask:Nat):Ly mask [] (Array.replicate (mask+1) none) 0:=by
 have g:∀ j,(Array.replicate (mask+1) (none:Option Nat)).getD j none=none:=fun j=>by
  rw[Array.getD_eq_getD_getElem?,Array.getElem?_replicate]
  split <;> rfl
 exact⟨Array.size_replicate,fun j o h=>(by rw[g j] at h;cases h),fun o h=>(by omega),fun j j' o h _=>(by rw[g j] at h;cases h),fun j o h' h _=>(by rw[g j] at h;cases h)⟩
def Zn (mask:Nat)(acc:Option (Array (Option Nat) × Nat))(h:Int):Option (Array (Option Nat) × Nat):=do
 let (owner,k) ← acc
 let j ← SetTable.layClean.free mask owner (SetTable.turns mask) (SetTable.bits h%(mask+1)) (SetTable.bits h)
 pure (owner.setIfInBounds j (some k),k+1)
theorem AcZ{mask:Nat}(hm:Msk mask){hs:List Int}{ow:Array (Option Nat)}(L:Ly mask hs ow hs.length)(hk:hs.length≤mask)(h:Int):∃ ow',Zn mask (some (ow,hs.length)) h=some (ow',(hs++[h]).length)∧Ly mask (hs++[h]) ow' (hs++[h]).length:=by
 obtain⟨j,hj,e⟩:=L.free hk
 obtain⟨K,h1,h2⟩:=Abe hm (Abf h) hj
 obtain⟨n,f1,f2,f3⟩:=Abh h L.sz (SetTable.turns mask) 0 ⟨K,AkD _,by unfold SetTable.turns;omega,by rw[h2];exact e⟩ fun n' hn'=>(by cases hn')
 refine⟨_,?_,L.next f2 f3⟩
 have f1:SetTable.layClean.free mask ow (SetTable.turns mask) (SetTable.bits h%(mask+1)) (SetTable.bits h)=some (pth (T0 mask) h n).j:=f1
 unfold Zn
 show(SetTable.layClean.free mask ow (SetTable.turns mask) (SetTable.bits h%(mask+1)) (SetTable.bits h)).bind _=_
 rw[f1,AkE]
 rfl
theorem Zo{mask:Nat}(hm:Msk mask):∀(rest hs:List Int) (ow:Array (Option Nat)),Ly mask hs ow hs.length→(hs++rest).length≤mask→∃ ow',rest.foldl (Zn mask) (some (ow,hs.length))=some (ow',(hs++rest).length)∧Ly mask (hs++rest) ow' (hs++rest).length
 | [],hs,ow,L,_=>⟨ow,by rw[Alb];rfl,by rw[Alb];exact L⟩
 | h::rest,hs,ow,L,hk=>by
  obtain⟨ow1,e1,L1⟩:=AcZ hm L (by rw[AkE] at hk;omega) h
  have ap:hs++h::rest=hs++[h]++rest:=by rw[Alv];rfl
  obtain⟨ow2,e2,L2⟩:=Zo hm rest (hs++[h]) ow1 L1 (by rw[← ap];exact hk)
  refine⟨ow2,?_,by rw[ap];exact L2⟩
  rw[List.foldl_cons,e1,ap]
  exact e2
theorem AbP{mask:Nat}(hm:Msk mask){hs:Array Int}(hk:hs.size≤mask):∃ ow,SetTable.layClean mask hs=some ow∧Ly mask hs.toList ow hs.toList.length:=by
 obtain⟨ow,e,L⟩:=Zo hm hs.toList [] (Array.replicate (mask+1) none) (Ly.new mask) (by rw[AlB,Array.length_toList];exact hk)
 rw[AlB] at e L
 refine⟨ow,?_,L⟩
 have:hs.foldl (Zn mask) (some (Array.replicate (mask+1) none,0))=some (ow,hs.toList.length):=by rw[← Array.foldl_toList];exact e
 show(hs.foldl (Zn mask) (some (Array.replicate (mask+1) none,0))).map (·.1)=some ow
 rw[this]
 rfl
def lvs (mask:Nat)(ow:Array (Option Nat)):List (Nat × Nat):=(List.range (mask+1)).filterMap fun j=>(ow.getD j none).map (j,·)
theorem Lg{mask:Nat}{ow:Array (Option Nat)}{j o:Nat}:(j,o)∈lvs mask ow↔j≤mask∧ow.getD j none=some o:=by
 unfold lvs
 rw[List.mem_filterMap]
 constructor
 ·rintro⟨j',hj,e⟩
  cases h:ow.getD j' none with
  | none=>rw[h] at e;cases e
  | some o' =>
   rw[h] at e
   have e:some (j',o')=some (j,o):=e
   injection e with e
   injection e with e1 e2
   subst e1 e2
   exact⟨by have:=List.mem_range.mp hj;omega,h⟩
 ·rintro⟨h1,h2⟩
  exact⟨j,List.mem_range.mpr (by omega),by rw[h2];rfl⟩
theorem AbQ{mask:Nat}{hs:List Int}{ow:Array (Option Nat)}{k:Nat}(L:Ly mask hs ow k):((lvs mask ow).map (·.2)).Nodup:=by
 have pw:(lvs mask ow).Pairwise (fun a b=>a.1<b.1):=by
  unfold lvs
  refine List.Pairwise.filterMap (R:=(·<·)) _ (fun a a' haa b hb b' hb'=>?_) List.pairwise_lt_range
  cases h1:ow.getD a none with
  | none=>rw[h1] at hb;cases hb
  | some u =>
   cases h2:ow.getD a' none with
   | none=>rw[h2] at hb';cases hb'
   | some u' =>
    rw[h1] at hb;rw[h2] at hb'
    cases hb;cases hb'
    exact haa
 rw[List.Nodup,AkX]
 refine pw.imp_of_mem fun {a b} ha hb lt e=>?_
 have h1:=(Lg (j:=a.1) (o:=a.2)).mp ha
 have h2:=(Lg (j:=b.1) (o:=b.2)).mp hb
 have:=L.inj a.1 b.1 a.2 h1.2 (by rw[e];exact h2.2)
 omega
theorem Ada{mask:Nat}{hs:List Int}{ow:Array (Option Nat)}{k:Nat}(L:Ly mask hs ow k):((lvs mask ow).map (·.2)).Perm (List.range k):=by
 refine(AlN (AbQ L) AlX).mpr fun o=>?_
 rw[Amp]
 constructor
 ·intro h
  obtain⟨⟨j,o'⟩,hq,e⟩:=List.mem_map.mp h
  have e:o'=o:=e
  subst e
  exact L.lt _ _ (Lg.mp hq).2
 ·intro h
  obtain⟨j,hj⟩:=L.all o h
  exact List.mem_map.mpr ⟨(j,o),Lg.mpr ⟨by have:=Afo hj;rw[L.sz] at this;omega,hj⟩,rfl⟩
theorem Abi{α β:Type}{f:α→Option β}{g:α→β}:∀{l:List α},(∀ x∈l,f x=some (g x))→l.filterMap f=l.map g
 | [],_=>rfl
 | x::l,h=>by
  rw[Amh,h x AkM]
  dsimp only
  rw[Abi fun y hy=>h y (AkN _ hy)]
  rfl
theorem Ae2{mask finger moves:Nat}{led plain:Bool}(hm:Msk mask){es:Array (Int × Value)}(hk:es.size≤mask):∃ t' order,SetTable.laid mask finger moves led plain (es.map (·.1))=some (t',order)∧(order.filterMap (es[·]?)).size=es.size∧(order.filterMap (es[·]?)).toList.Perm es.toList∧Tb t' (order.filterMap (es[·]?))∧t'.mask=mask∧t'.led=led∧t'.plain=plain∧t'.finger=finger∧t'.moves=moves:=by
 obtain⟨ow,e,L⟩:=AbP hm (hs:=es.map (·.1)) (by rw[Array.size_map];exact hk)
 have hl:(es.map (·.1)).toList.length=es.size:=by rw[Array.length_toList,Array.size_map]
 rw[hl] at L
 have eL:SetTable.laid mask finger moves led plain (es.map (·.1))=some ({ mask:=mask,place:=((lvs mask ow).map (·.1)).toArray,dummies:=#[],finger:=finger,led:=led,moves:=moves,plain:=plain },((lvs mask ow).map (·.2)).toArray):=by
  unfold SetTable.laid
  rw[e]
  rfl
 refine⟨_,_,eL,?_⟩
 have R:=(Aex eL).2.2
 have P:=Ada L
 have gt:∀ o,o∈(lvs mask ow).map (·.2)→es[o]?=some (es.getD o (0,.none)):=fun o ho=>by
  have:=List.mem_range.mp (P.mem_iff.mp ho)
  rw[Array.getD_eq_getD_getElem?,Array.getElem?_eq_getElem this]
  rfl
 have el:(((lvs mask ow).map (·.2)).toArray.filterMap (es[·]?)).toList=((lvs mask ow).map (·.2)).map fun o=>es.getD o (0,.none):=by
  rw[Array.toList_filterMap]
  exact Abi gt
 have perm:(((lvs mask ow).map (·.2)).toArray.filterMap (es[·]?)).toList.Perm es.toList:=by
  rw[el]
  refine(P.map _).trans (List.Perm.of_eq ?_)
  refine Al3 (by rw[AkA,AkC,Array.length_toList]) fun i h1 h2=>?_
  have hi:i<es.size:=by rw[AkA,AkC] at h1;exact h1
  rw[Al4,AlW,Array.getD_eq_getD_getElem?,Array.getElem?_eq_getElem hi,Array.getElem_toList]
  rfl
 have size:(((lvs mask ow).map (·.2)).toArray.filterMap (es[·]?)).size=es.size:=by rw[← Array.length_toList,perm.length_eq,Array.length_toList]
 have len:(lvs mask ow).length=es.size:=by
  have:=P.length_eq
  rw[AkA,AkC] at this
  exact this
 obtain⟨es',ees⟩:∃ es',es'=((lvs mask ow).map (·.2)).toArray.filterMap (es[·]?):=⟨_,rfl⟩
 rw[← ees] at el perm size ⊢
 refine⟨size,perm,?_,rfl,rfl,rfl,rfl,rfl⟩
 have pl:∀ i:Nat,(((lvs mask ow).map (·.1)).toArray)[i]?=((lvs mask ow)[i]?).map (·.1):=fun i=>by rw[List.getElem?_toArray,AkG]
 refine⟨?_,R,rfl,fun i j hij=>?_,hm,by rw[size];exact hk,fun i j e' hij hie=>?_⟩
 ·show(((lvs mask ow).map (·.1)).toArray).size=es'.size
  rw[AkB,AkA,len,size]
 ·have hij:(((lvs mask ow).map (·.1)).toArray)[i]?=some j:=hij
  rw[pl] at hij
  cases hq:(lvs mask ow)[i]? with
  | none=>rw[hq] at hij;cases hij
  | some q =>
   rw[hq] at hij
   have hij:some q.1=some j:=hij
   injection hij with hij
   have:=(Lg (j:=q.1) (o:=q.2)).mp (AkQ hq)
   show j≤mask
   omega
 ·have hij:(((lvs mask ow).map (·.1)).toArray)[i]?=some j:=hij
  rw[pl] at hij
  cases hq:(lvs mask ow)[i]? with
  | none=>rw[hq] at hij;cases hij
  | some q =>
   rw[hq] at hij
   have hij:some q.1=some j:=hij
   injection hij with hij
   obtain⟨q1,q2⟩:=(Lg (j:=q.1) (o:=q.2)).mp (AkQ hq)
   rw[← Array.getElem?_toList,el,AkG,AkG,hq] at hie
   have hie:some (es.getD q.2 (0,.none))=some e':=hie
   injection hie with hie
   have ho:=gt q.2 (List.mem_map.mpr ⟨q,AkQ hq,rfl⟩)
   have hh:(es.map (·.1)).toList[q.2]?=some e'.1:=by
    rw[Array.getElem?_toList,Array.getElem?_map,ho,← hie]
    rfl
   obtain⟨n,a1,a2⟩:=L.way q.1 q.2 e'.1 q2 hh
   have pm:∀ n,pth { mask:=mask,place:=((lvs mask ow).map (·.1)).toArray,dummies:=#[],finger:=finger,led:=led,moves:=moves,plain:=plain } e'.1 n=pth (T0 mask) e'.1 n:=fun n=>K7 (t:=T0 mask) (t':={ mask:=mask,place:=((lvs mask ow).map (·.1)).toArray,dummies:=#[],finger:=finger,led:=led,moves:=moves,plain:=plain }) rfl e'.1 n
   refine⟨n,by rw[pm,a1];exact hij,fun n' hn'=>?_⟩
   rw[pm]
   have b:=a2 n' hn'
   cases hb:ow.getD (pth (T0 mask) e'.1 n').j none with
   | none=>exact absurd hb b
   | some o' =>
    have mb:=(Lg (mask:=mask)).mpr ⟨(by have:=Afo hb;rw[L.sz] at this;omega),hb⟩
    obtain⟨i',hi',ei'⟩:=AkW mb
    have:(((lvs mask ow).map (·.1)).toArray)[i']?=some (pth (T0 mask) e'.1 n').j:=by rw[pl,Ak9 hi',ei'];rfl
    rw[slot_of (t:={ mask:=mask,place:=((lvs mask ow).map (·.1)).toArray,dummies:=#[],finger:=finger,led:=led,moves:=moves,plain:=plain }) R this]
    exact fun z=>by cases z
end SetW
open PySem PySem.Spec PyProof.Rows
namespace SetW
abbrev KS:=Int ⊕ Str
def isK:KS→Value→Bool
 | .inl i,v=>Value.isInt i v
 | .inr x,v=>Value.isStrOf x v
theorem Gm{i:Int}{v:Value}(h:isK (.inl i) v=true):∃ t,v=.int i t:=Value.isInt_shape h
theorem HJ{x:Str}{v:Value}(h:isK (.inr x) v=true):∃ t,v=.str x t:=Value.isStrOf_shape h
def BW (prog:Program)(w:World):KeyKind prog w KS where
 is:=isK
 hash:=fun k=>match k with | .inl i=>hashInt i | .inr x=>hashStr w x
 inj:=fun v a b ha hb=>by
  cases a with
  | inl i =>
   obtain⟨t,rfl⟩:=Gm ha
   cases b with
   | inl i'=>obtain⟨t',e⟩:=Gm hb;injection e with e;rw[e]
   | inr x=>obtain⟨t',e⟩:=HJ hb;cases e
  | inr x =>
   obtain⟨t,rfl⟩:=HJ ha
   cases b with
   | inl i'=>obtain⟨t',e⟩:=Gm hb;cases e
   | inr x'=>obtain⟨t',e⟩:=HJ hb;injection e with e;rw[e]
 byValue:=fun k v h=>by
  cases k with
  | inl i=>obtain⟨t,rfl⟩:=Gm h;rfl
  | inr x=>obtain⟨t,rfl⟩:=HJ h;rfl
 pyHash:=fun {A E s k v Q} hv h=>by
  cases k with
  | inl i=>exact(intKind prog w).pyHash (k:=i) hv h
  | inr x=>exact(strKind prog w).pyHash (k:=x) hv h
 eqBool:=fun {A E s a b u v Q} hu hv h=>by
  cases a with
  | inl i =>
   obtain⟨t,rfl⟩:=Gm hu
   cases b with
   | inl i'=>obtain⟨t',rfl⟩:=Gm hv;exact wpAny_eqBool_int (by have e:decide ((Sum.inl i:KS)=.inl i')=(i == i'):=by { rw[AlJ];simp };rw[← e];exact h)
   | inr x=>obtain⟨t',rfl⟩:=HJ hv;exact SeqAt.EqAt.int_str i t x t' prog w E Q (by simpa using h)
  | inr x =>
   obtain⟨t,rfl⟩:=HJ hu
   cases b with
   | inl i'=>obtain⟨t',rfl⟩:=Gm hv;exact SeqAt.EqAt.str_int x t i' t' prog w E Q (by simpa using h)
   | inr x'=>obtain⟨t',rfl⟩:=HJ hv;exact wpAny_eqBool_str (by simpa [Sum.inr.injEq] using h)
 «strs»:=fun k x t v h=>by
  cases k with
  | inl i=>obtain⟨t',e⟩:=Gm h;cases e
  | inr y=>exact(strKind prog w).«strs» y x t v h
section
variable {prog:Program}{w:World}{A:Around}{E:Value→Shared→Prop}{s:Shared}
abbrev TK (prog:Program) (w:World) (h:Heap) (ks:List KS) (a:Addr):Prop:=IsTupleKey (BW prog w) h ks a
theorem Adb{ks:List KS}{a:Addr}(hk:TK prog w s.heap ks a){Q:Bool→Shared→Prop}(h:Q false s):wpAny (model prog w) A (ofAClassStatement 8 (.ref a)) Q E s:=by
 have hT:=hk.typeIs
 obtain⟨o,items,n,ho,hc,hd,hi⟩:=hk
 unfold ofAClassStatement
 refine wpAny_bind (wpAny_typeOf hT ?_)
 dsimp only
 rw[if_pos (by decide)]
 refine wpAny_bind (wpAny_pure ?_)
 rw[if_neg (by decide)]
 refine wpAny_bind (wpAny_seqItems ho hd ?_)
 dsimp only
 refine wpAny_bind ?_
 rw[← Array.forIn_toList]
 refine wpAny_forIn_list _ (fun rest r s'=>r.1=none∧s'=s∧∀ v∈rest,carriedByValue v=true) _ ?_ ?_ _ _ ⟨rfl,rfl,hi.byValue⟩
 ·rintro v rest r s' ⟨hr,rfl,hall⟩
  have e7:ofAClassStatement 7 v=pure false:=by
   have:=hall v AkM
   cases v with
   | ref b=>simp[carriedByValue] at this
   | _=>rfl
  rw[e7]
  refine wpAny_bind (wpAny_pure ?_)
  rw[if_neg (by decide)]
  exact wpAny_pure ⟨rfl,rfl,fun u hu'=>hall u (AkN _ hu')⟩
 ·rintro⟨r1,r2⟩ s' ⟨hr,rfl,_⟩
  simp only at hr
  subst hr
  exact wpAny_pure h
theorem Ae3{ks:List KS}{a:Addr}(hk:TK prog w s.heap ks a){Q:Bool→Shared→Prop}(h:Q false s){l:List Value}(hl:∀ y∈l,∃ b ks',y=.ref b∧TK prog w s.heap ks' b):wpAny (model prog w) A (searchCouldBeSeen (.ref a) l) Q E s:=by
 unfold searchCouldBeSeen
 refine wpAny_bind ?_
 refine wpAny_forIn_list _ (fun rest r s'=>r.1=none∧s'=s∧∀ y∈rest,∃ b ks',y=.ref b∧TK prog w s.heap ks' b) _ ?_ ?_ _ _ ⟨rfl,rfl,hl⟩
 ·rintro y rest r s' ⟨hr,rfl,hall⟩
  obtain⟨b,ks',rfl,hb⟩:=hall y AkM
  have nx:∀ u∈rest,∃ b ks',u=.ref b∧TK prog w s'.heap ks' b:=fun u hu=>hall u (AkN _ hu)
  dsimp only
  split
  ·exact wpAny_pure ⟨rfl,rfl,nx⟩
  ·refine wpAny_bind (wpAny_eqIsQuiet_tuple hk ?_)
   rw[if_neg (by decide)]
   refine wpAny_bind (wpAny_eqIsQuiet_tuple hb ?_)
   rw[if_neg (by decide)]
   refine wpAny_bind (Adb hk ?_)
   rw[if_neg (by decide)]
   refine wpAny_bind (Adb hb ?_)
   rw[if_neg (by decide)]
   exact wpAny_pure ⟨rfl,rfl,nx⟩
 ·rintro⟨r1,r2⟩ s' ⟨hr,rfl,_⟩
  simp only at hr
  subst hr
  exact wpAny_pure h
def EK (prog:Program)(w:World)(h:Heap)(e:Int × Value)(ks:List KS):Prop:=∃ a,e.2=.ref a∧TK prog w h ks a∧e.1=tupleKeyHash (BW prog w) ks
structure TS (prog:Program) (w:World) (h:Heap) (o:Obj) (es:Array (Int × Value)) (ep:Nat) (t:SetTable) (kl:List (List KS)):Prop where
 ex:o.ExactSet
 d:o.data=.set es ep t
 tb:Tb t es
 few:es.size*5<t.mask*3
 ok:w.params.followText "set-order" = true∨t.led=true
 len:kl.length=es.size
 el:∀(i:Nat) (e:Int × Value),es[i]?=some e→∃ ks,kl[i]?=some ks∧EK prog w h e ks
 nd:kl.Nodup
theorem Tb.fits{t:SetTable}{es:Array (Int × Value)}(B:Tb t es):t.fits es.size=true:=by
 unfold SetTable.fits SetTable.fill
 rw[B.nod,B.sz]
 have:=B.few
 simp
 exact this
theorem Agv{α:Type}{M:Model}{b:Bool}{c:Sem Bool}{X Y:Sem α}{Q:α→Shared→Prop}(hc:b=false→∀ Q':Bool→Shared→Prop,Q' false s→wpAny M A c Q' E s)(k:wpAny M A Y Q E s):wpAny M A (if (!b)=true then do
  let z ← c
  if z=true then X else Y
 else Y) Q E s:=by
 cases b with
 | true=>exact k
 | false =>
  show wpAny M A (c >>= fun z=>if z=true then X else Y) Q E s
  refine wpAny_bind (hc rfl _ ?_)
  rw[if_neg (by decide)]
  exact k
theorem Ww{S a:Addr}{o:Obj}{es:Array (Int × Value)}{ep:Nat}{t:SetTable}{kl:List (List KS)}{ks:List KS}(T:TS prog w s.heap o es ep t kl)(ho:s.heap.get? S=some o)(hu:A.units<cLine)(ha:TK prog w s.heap ks a){Q:SetFound→Shared→Prop}{N:Nat}(hN:t.slot (pth t (tupleKeyHash (BW prog w) ks) N).j=.empty)(hNl:N<10*SetTable.turns t.mask)
  (free:ks∉kl→∀ n,t.slot (pth t (tupleKeyHash (BW prog w) ks) n).j=.empty→(∀ n',n'<n→t.slot (pth t (tupleKeyHash (BW prog w) ks) n').j≠.empty)→Q (.free (pth t (tupleKeyHash (BW prog w) ks) n).j false) s)
  (there:ks∈kl→Q (.there none) s):∀(fuel n:Nat) (stand:Option SetTable.Probe),n≤N→N-n<fuel→stand.getD (t.probeStart (tupleKeyHash (BW prog w) ks))=pth t (tupleKeyHash (BW prog w) ks) n →
   (∀ n',n'<n→∃ i,t.slot (pth t (tupleKeyHash (BW prog w) ks) n').j=.live i∧∀ ks',kl[i]?=some ks'→ks'≠ks)→wpAny (model prog w) A (setSearchFrom S (.ref a) (tupleKeyHash (BW prog w) ks) true fuel stand) Q E s
 | 0,n,_,_,hf,_,_=>by omega
 | fuel+1,n,stand,hn,hf,hst,hb=>by
  have ih:=Ww T ho hu ha hN hNl free there fuel
  unfold setSearchFrom
  refine wpAny_bind (wpAny_setState_of ho T.d T.tb.fits ?_)
  dsimp only
  have gw:t.gaveWay=false:=by
   unfold SetTable.gaveWay
   rcases T.tb.msk with e | e | e <;> rw[e] <;> rfl
  rw[gw,if_neg (by decide),hst]
  obtain⟨hh,ehh⟩:∃ hh,hh=tupleKeyHash (BW prog w) ks:=⟨_,rfl⟩
  rw[← ehh] at hN free hb ih ⊢
  have M:=Zm T.tb.nod (fun i:Nat=>(es[i]?.map (·.1)).getD 0) hh hN (10*SetTable.turns t.mask) n hn (by omega)
  generalize hR:t.probe _ hh (pth t hh n)=R
  have hR':SetTable.probe.go t (fun i:Nat=>(es[i]?.map (·.1)).getD 0) hh (10*SetTable.turns t.mask) (pth t hh n)=R:=hR
  rw[hR'] at M
  clear hR hR'
  have dead:∀ m,t.slot (pth t hh m).j=.empty→(∀ n',n≤n'→n'<m→∃ i,t.slot (pth t hh n').j=.live i∧(es[i]?.map (·.1)).getD 0≠hh)→ks∉kl:=fun m h2 h3 hmem=>by
   obtain⟨i,hi,ei⟩:=AkW hmem
   have hie:i<es.size:=by rw[← T.len];exact hi
   obtain⟨ks',q1,a',q2,q3,q4⟩:=T.el i es[i] (Array.getElem?_eq_getElem hie)
   rw[Ak9 hi,ei] at q1
   injection q1 with q1
   subst q1
   have hip:i<t.place.size:=by rw[T.tb.sz];exact hie
   obtain⟨n0,w1,w2⟩:=T.tb.way i t.place[i] es[i] (Array.getElem?_eq_getElem hip) (Array.getElem?_eq_getElem hie)
   rw[q4,← ehh] at w1 w2
   have sl:t.slot (pth t hh n0).j=.live i:=by rw[w1];exact slot_of T.tb.rise (Array.getElem?_eq_getElem hip)
   rcases AlL n0 m with c | c | c
   ·by_cases c2:n0<n
    ·obtain⟨i',z1,z2⟩:=hb n0 c2
     rw[sl] at z1
     injection z1 with z1
     subst z1
     exact z2 ks (by rw[Ak9 hi,ei]) rfl
    ·obtain⟨i',z1,z2⟩:=h3 n0 (by omega) c
     rw[sl] at z1
     injection z1 with z1
     subst z1
     apply z2
     rw[Array.getElem?_eq_getElem hie]
     show es[i].1=hh
     rw[q4,ehh]
   ·rw[c,h2] at sl;cases sl
   ·exact w2 m c h2
  have alive:∀ m,(∀ n',n≤n'→n'<m→∃ i,t.slot (pth t hh n').j=.live i∧(es[i]?.map (·.1)).getD 0≠hh)→∀ n',n'<m→t.slot (pth t hh n').j≠.empty:=fun m h3 n' hn'=>by
   by_cases c2:n'<n
   ·obtain⟨i',z1,_⟩:=hb n' c2
    rw[z1];exact fun z=>by cases z
   ·obtain⟨i',z1,_⟩:=h3 n' (by omega) hn'
    rw[z1];exact fun z=>by cases z
  cases M with
  | empty m h1 h2 h3=>exact wpAny_pure (free (dead m h2 h3) m h2 (alive m h3))
  | Ae0 m i h1 h2 h3 h4 =>
   have hmN:m<N:=by
    rcases Al6 m N with c | c
    ·exact c
    ·exfalso
     by_cases c2:m=N
     ·rw[c2,hN] at h2;cases h2
     ·exact alive m h4 N (by omega) hN
   have hip:=Xv h2
   have hie:i<es.size:=by rw[← T.tb.sz];exact(Array.getElem?_eq_some_iff.mp hip).1
   obtain⟨ks',q1,b,q2,q3,q4⟩:=T.el i es[i] (Array.getElem?_eq_getElem hie)
   have ee:es[i]?=some (es[i].1,.ref b):=by rw[Array.getElem?_eq_getElem hie,← q2]
   dsimp only
   refine Agv (fun _ Q' hq'=>Ae3 ha hq' fun y hy=>?_) ?_
   ·obtain⟨e0,he0,rfl⟩:=List.mem_map.mp hy
    have he1:e0∈es:=(Array.mem_filter.mp (Array.mem_toList_iff.mp he0)).1
    obtain⟨i0,hi0,rfl⟩:=Array.mem_iff_getElem.mp he1
    obtain⟨ks0,_,b0,r2,r3,_⟩:=T.el i0 es[i0] (Array.getElem?_eq_getElem hi0)
    exact⟨b0,ks0,r2,r3⟩
   rw[ee]
   dsimp only
   refine wpAny_bind (wpAny_holding (wpAny_eqBool_tuple hu q3 ha ?_))
   refine wpAny_bind (wpAny_setState_of ho T.d T.tb.fits ?_)
   dsimp only
   by_cases hk:ks'=ks
   ·subst hk
    rw[if_pos (by simp)]
    exact wpAny_pure (there (AkQ q1))
   ·rw[if_neg (by simp[hk])]
    have sm:t.sameMemory t.moves t.mask=some true:=by unfold SetTable.sameMemory;rw[if_pos (by simp)]
    rw[sm]
    dsimp only
    rw[if_pos rfl,h2]
    dsimp only
    rw[ee]
    dsimp only
    have is:isSame (.ref b) (.ref b)=pure true:=by unfold isSame;simp
    rw[is]
    refine wpAny_bind (wpAny_pure (wpAny_bind (wpAny_pure ?_)))
    rw[if_pos rfl]
    dsimp only
    rw[if_neg (by simp[hk])]
    refine ih (m+1) _ (by omega) (by omega) rfl fun n' hn'=>?_
    by_cases c:n'<n
    ·exact hb n' c
    ·by_cases c2:n'=m
     ·subst c2
      exact⟨i,h2,fun ks2 z=>by rw[q1] at z;injection z with z;rw[← z];exact hk⟩
     ·obtain⟨i',z1,z2⟩:=h4 n' (by omega) (by omega)
      refine⟨i',z1,fun ks2 z3 z4=>z2 ?_⟩
      have Ajg:=Xv z1
      have AhI:i'<es.size:=by rw[← T.tb.sz];exact(Array.getElem?_eq_some_iff.mp Ajg).1
      obtain⟨ks3,r1,b3,r2,r3,r4⟩:=T.el i' es[i'] (Array.getElem?_eq_getElem AhI)
      rw[z3] at r1
      injection r1 with r1
      rw[Array.getElem?_eq_getElem AhI]
      show es[i'].1=hh
      rw[r4,← r1,z4,ehh]
end
end SetW
open PySem PySem.Spec PyProof.Rows
namespace SetW
section
variable {prog:Program}{w:World}{A:Around}{E:Value→Shared→Prop}{s:Shared}
theorem Agw{ks:List KS}{a:Addr}(hk:TK prog w s.heap ks a){Q:Bool→Shared→Prop}(h:∀ b,Q b s):wpAny (model prog w) A (hashByValue 8 (.ref a)) Q E s:=by
 have hT:=hk.typeIs
 obtain⟨o,items,n,ho,hc,hd,hi⟩:=hk
 unfold hashByValue
 refine wpAny_bind (wpAny_specialOf hT F.slot_tuple_hash.lookup ?_)
 dsimp only
 refine wpAny_bind (wpAny_seqItems ho hd ?_)
 refine wpAny_bind ?_
 show wpAny _ _ (forIn items _ _) _ _ s
 rw[← Array.forIn_toList]
 refine wpAny_forIn_list _ (fun rest r s'=>s'=s∧∀ v∈rest,carriedByValue v=true∧∃ k,isK k v=true) _ ?_ ?_ _ _ ⟨rfl,?_⟩
 ·rintro v rest r s' ⟨rfl,hall⟩
  obtain⟨_,k,hk⟩:=hall v AkM
  have nx:∀ u∈rest,carriedByValue u=true∧∃ k,isK k u=true:=fun u hu=>hall u (AkN _ hu)
  cases k with
  | inl i =>
   obtain⟨t,rfl⟩:=Gm hk
   refine wpAny_bind (wpAny_of_eq (a:=true) rfl ?_)
   rw[if_neg (by decide)]
   exact wpAny_pure ⟨rfl,nx⟩
  | inr x =>
   obtain⟨t,rfl⟩:=HJ hk
   refine wpAny_bind (wpAny_of_eq (a:=false) rfl ?_)
   rw[if_pos (by decide)]
   exact wpAny_pure (wpAny_pure (h _))
 ·rintro⟨r1,r2⟩ s' ⟨rfl,_⟩
  cases r1 with
  | none=>exact wpAny_pure (h _)
  | some b=>exact wpAny_pure (h _)
 ·clear hd ho
  generalize items.toList=vs at hi
  induction hi with
  | nil=>intro v hv;cases hv
  | @cons k v ks vs h1 _ ih =>
   intro u hu
   rcases List.mem_cons.mp hu with rfl | hu
   ·exact⟨(BW prog w).byValue _ _ h1,k,h1⟩
   ·exact ih u hu
theorem Adc{M:Model}{es:Array (Int × Value)}{t':SetTable}{order:Array Nat}{Q:Array (Int × Value) × SetTable→Shared→Prop}(hs:(order.filterMap (es[·]?)).size=es.size)(g:Sem (Array (Int × Value) × SetTable))
  (hg:g=(do
   let some (t,order):=(some (t',order):Option (SetTable × Array Nat)) | unsupported "internal:set-table-without-room"
   let es':=order.filterMap (es[·]?)
   if es'.size != es.size then unsupported "internal:set-table-lost-an-element"
   pure (es',t))) (h:Q (order.filterMap (es[·]?),t') s):wpAny M A g Q E s:=by
 subst hg
 dsimp only
 rw[if_neg (by rw[hs];simp)]
 exact wpAny_pure h
theorem Ae4{m n:Nat}(hm:Msk m)(h1:n*5<m*3)(h2:m*3≤(n+1)*5)(hb:n+1≤64):Msk (SetTable.sizeAbove (SetTable.grown (n+1))-1)∧n+1≤SetTable.sizeAbove (SetTable.grown (n+1))-1∧(n+1)*5<(SetTable.sizeAbove (SetTable.grown (n+1))-1)*3∧¬SetTable.sizeAbove (SetTable.grown (n+1))>sizeLine:=by
 rcases hm with e | e | e
 ·obtain rfl:n=4:=by omega
  refine⟨.inr (.inl (by decide)),by decide,by decide,?_⟩
  rw[sizeLine_eq];decide
 ·obtain rfl:n=18:=by omega
  refine⟨.inr (.inr (by decide)),by decide,by decide,?_⟩
  rw[sizeLine_eq];decide
 ·omega
theorem Aau{S:Addr}{o:Obj}{es:Array (Int × Value)}{ep:Nat}{t:SetTable}{h h':Heap}(ho:h.get? S=some o)(hd:o.data=.set es ep t)(sb:Heap.SameBut S h h'):∀ ks a,TK prog w h ks a→TK prog w h' ks a:=by
 rintro ks a ⟨o',items,n,ho',hc,hd',hi⟩
 have ne:a≠S:=fun e=>by
  rw[e,ho] at ho'
  injection ho' with ho'
  rw[ho',hd'] at hd
  cases hd
 exact⟨o',items,n,(sb.2 a ne).trans ho',hc,hd',hi⟩
open Classical in
noncomputable def kyT (prog:Program) (w:World) (h:Heap) (e:Int × Value):List KS:=if hx:∃ ks,EK prog w h e ks then Classical.choose hx else []
theorem EK.one{h:Heap}{e:Int × Value}{ks ks':List KS}(a:EK prog w h e ks)(b:EK prog w h e ks'):ks=ks':=by
 obtain⟨x,e1,t1,_⟩:=a
 obtain⟨y,e2,t2,_⟩:=b
 rw[e1] at e2
 injection e2 with e2
 subst e2
 exact IsTupleKey.inj t1 t2
theorem Aav{h:Heap}{e:Int × Value}{ks:List KS}(a:EK prog w h e ks):kyT prog w h e=ks:=by
 have hx:∃ ks,EK prog w h e ks:=⟨ks,a⟩
 unfold kyT
 rw[dif_pos hx]
 exact EK.one (Classical.choose_spec hx) a
theorem Afp{h:Heap}{es:Array (Int × Value)}{kl:List (List KS)}(len:kl.length=es.size)(el:∀(i:Nat) (e:Int × Value),es[i]?=some e→∃ ks,kl[i]?=some ks∧EK prog w h e ks):kl=es.toList.map (kyT prog w h):=by
 refine Al3 (by rw[AkA,Array.length_toList];exact len) fun i h1 h2=>?_
 have hi:i<es.size:=by rw[← len];exact h1
 obtain⟨ks,q1,q2⟩:=el i es[i] (Array.getElem?_eq_getElem hi)
 rw[Ak9 h1] at q1
 injection q1 with q1
 rw[Al4]
 show kl[i]=kyT prog w h es[i]
 rw[Aav q2,q1]
theorem Ae5{h:Heap}{es es':Array (Int × Value)}{kl:List (List KS)}(len:kl.length=es.size)(el:∀(i:Nat) (e:Int × Value),es[i]?=some e→∃ ks,kl[i]?=some ks∧EK prog w h e ks)(nd:kl.Nodup)(p:es'.toList.Perm es.toList) :
  ∃ kl':List (List KS),kl'.length=es'.size∧(∀(i:Nat) (e:Int × Value),es'[i]?=some e→∃ ks,kl'[i]?=some ks∧EK prog w h e ks)∧kl'.Nodup∧∀ z,z∈kl'↔z∈kl:=by
 have e0:=Afp len el
 refine⟨es'.toList.map (kyT prog w h),by rw[AkA,Array.length_toList],fun i e he=>?_,?_,fun z=>?_⟩
 ·have hm:e∈es.toList:=p.mem_iff.mp (AkQ (by rw[Array.getElem?_toList];exact he))
  obtain⟨i0,hi0,ei0⟩:=AkW hm
  obtain⟨ks,_,q⟩:=el i0 e (by rw[← Array.getElem?_toList,Ak9 hi0,ei0])
  refine⟨ks,?_,q⟩
  rw[AkG,Array.getElem?_toList,he]
  show some (kyT prog w h e)=some ks
  rw[Aav q]
 ·refine(p.map _).nodup_iff.mpr ?_
  rw[← e0];exact nd
 ·rw[(p.map _).mem_iff,← e0]
theorem Agx{kl:List (List KS)}{p:Nat}{ks:List KS}(nd:kl.Nodup)(h:ks∉kl):(kl.take p++ks::kl.drop p).Nodup∧∀ z,z∈kl.take p++ks::kl.drop p↔z∈kl∨z=ks:=by
 have pm:(kl.take p++ks::kl.drop p).Perm (ks::kl):=by
  refine(Am6).trans ?_
  rw[Alj]
 refine⟨pm.nodup_iff.mpr (List.nodup_cons.mpr ⟨h,nd⟩),fun z=>?_⟩
 rw[pm.mem_iff,AkV]
 exact Or.comm
theorem Agy{S a:Addr}{o:Obj}{es:Array (Int × Value)}{ep:Nat}{t:SetTable}{kl:List (List KS)}{ks:List KS}(T:TS prog w s.heap o es ep t kl)(ho:s.heap.get? S=some o)(hu:A.units<cLine)(ha:TK prog w s.heap ks a)(hb:es.size+1≤64){Q:Bool→Shared→Prop}
  (hQ:∀ h' o' es' ep' t' kl' b,Heap.SameBut S s.heap h'→h'.get? S=some o'→TS prog w h' o' es' ep' t' kl'→(∀ z,z∈kl'↔z∈kl∨z=ks)→es'.size≤es.size+1→(∀ e∈es'.toList,e∈es.toList∨e.2=.ref a)→Q b { s with heap:=h' }) :
  wpAny (model prog w) A (setAddHashed S (.ref a) (tupleKeyHash (BW prog w) ks)) Q E s:=by
 obtain⟨N,hNl,hN⟩:=T.tb.stop (tupleKeyHash (BW prog w) ks)
 unfold setAddHashed setAddHashedIn
 refine wpAny_holding (wpAny_bind (wpAny_setState_of ho T.d T.tb.fits ?_))
 dsimp only
 rw[if_neg (by show ¬(false && _ && _)=true;simp)]
 have turns:10*SetTable.turns t.mask≤5000:=by
  unfold SetTable.turns
  rcases T.tb.msk with e | e | e <;> rw[e] <;> decide
 refine wpAny_bind ?_
 unfold setSearch
 refine Ww T ho hu ha hN hNl (fun hnk n he Ajh=>?_) (fun hk=>?_) 100000 0 none (AkD _) (by omega) rfl (fun n' h=>by omega)
 ·obtain⟨J,hJ⟩:∃ J,J=(pth t (tupleKeyHash (BW prog w) ks) n).j:=⟨_,rfl⟩
  have hf1:es.size+1≤t.mask:=by
   have:=T.few
   rcases T.tb.msk with e | e | e <;> rw[e] at this ⊢ <;> omega
  have put:=fun pl=>T.tb.put (x:=.ref a) he Ajh hf1 pl
  rw[← hJ] at put ⊢
  obtain⟨hh,ehh⟩:∃ hh,hh=tupleKeyHash (BW prog w) ks:=⟨_,rfl⟩
  rw[← ehh] at put ⊢
  obtain⟨p,hp⟩:∃ p,p=(t.put J).2:=⟨_,rfl⟩
  have pl0:p≤es.size:=by
   rw[hp,← T.tb.sz]
   exact(K6 T.tb.rise J).1
  obtain⟨es1,e1⟩:∃ es1,es1=SetTable.insertAt es (t.put J).2 (hh,.ref a):=⟨_,rfl⟩
  have sz1:es1.size=es.size+1:=by rw[e1];exact Rh _ _ _
  have g1:∀ i:Nat,es1[i]?=if i<p then es[i]? else if i=p then some (hh,.ref a) else es[i-1]?:=fun i=>by rw[e1,← hp];exact O4 es pl0 _ i
  obtain⟨nd1,mm1⟩:=Agx (p:=p) T.nd hnk
  obtain⟨kl1,ekl⟩:∃ kl1,kl1=kl.take p++ks::kl.drop p:=⟨_,rfl⟩
  rw[← ekl] at nd1 mm1
  have Ade:kl1.length=es1.size:=by
   rw[ekl,sz1,AkE,AkR,AkO,Alh,T.len]
   omega
  have k1:∀ i:Nat,kl1[i]?=if i<p then kl[i]? else if i=p then some ks else kl[i-1]?:=fun i=>by
   have:=O4 kl.toArray (p:=p) (by rw[AkB,T.len];exact pl0) ks i
   rw[← Array.getElem?_toList,Rg] at this
   rw[ekl]
   simpa using this
  have el1:∀(h':Heap),(∀ ks a,TK prog w s.heap ks a→TK prog w h' ks a)→∀(i:Nat) (e:Int × Value),es1[i]?=some e→∃ ks,kl1[i]?=some ks∧EK prog w h' e ks:=fun h' kp i e hie=>by
   have old:∀ i0:Nat,es[i0]?=some e→∃ ks,kl[i0]?=some ks∧EK prog w h' e ks:=fun i0 q=>by
    obtain⟨ks0,q1,a0,q2,q3,q4⟩:=T.el i0 e q
    exact⟨ks0,q1,a0,q2,kp _ _ q3,q4⟩
   rw[g1] at hie
   rw[k1]
   by_cases c1:i<p
   ·rw[if_pos c1] at hie ⊢
    exact old i hie
   ·rw[if_neg c1] at hie ⊢
    by_cases c2:i=p
    ·rw[if_pos c2] at hie ⊢
     injection hie with hie
     subst hie
     exact⟨ks,rfl,a,rfl,kp _ _ ha,ehh⟩
    ·rw[if_neg c2] at hie ⊢
     exact old (i-1) hie
  have AhJ:∀ e∈es1.toList,e∈es.toList∨e.2=.ref a:=fun e hm=>by
   rw[e1,Rg] at hm
   rcases List.mem_append.mp hm with h | h
   ·exact .inl (AlH h)
   ·rcases List.mem_cons.mp h with h | h
    ·rw[h];exact .inr rfl
    ·exact .inl (Amf h)
  have fin:∀ t1:SetTable,(∃ pl,t1={ (t.put J).1 with plain:=pl })→wpAny (model prog w) A (do
    storeSet S es1 t1
    if !false && t1.tooFull then setRelay S (SetTable.grown (es.size+1))
    return true) Q E s:=by
   rintro t1 ⟨pl,et1⟩
   have tb1:Tb t1 es1:=by rw[et1,e1];exact put pl
   have m1:t1.mask=t.mask:=by rw[et1];rfl
   have l1:t1.led=t.led:=by rw[et1];rfl
   have ok1:w.params.followText "set-order" = true∨t1.led=true:=by rw[l1];exact T.ok
   refine wpAny_bind (wpAny_storeSet_of ho T.d ?_ (fits_of_scanBound (by rw[sz1];show _<4096;omega)))
   have gg:=Abb (es':=es1) (t':=t1) ho T.d
   have sb1:=Heap.SameBut.update s.heap S (Obj.putSet es1 t1)
   have kp1:=Aau (prog:=prog) (w:=w) ho T.d sb1
   by_cases tf:t1.tooFull=true
   ·rw[if_pos (by rw[tf];rfl)]
    have Aji:t.mask*3≤(es.size+1)*5:=by
     unfold SetTable.tooFull SetTable.fill at tf
     rw[tb1.nod,tb1.sz,m1,sz1] at tf
     have tf:=of_decide_eq_true tf
     have tf:(es.size+1+0)*5 ≥ t.mask*3:=tf
     omega
    obtain⟨gm,gk,gf,gs⟩:=Ae4 T.tb.msk T.few Aji hb
    obtain⟨t2,order,eL,hsz,hpm,tb2,tm2,tl2,_,_,_⟩:=Ae2 (finger:=t1.finger) (moves:=t1.movedTo (SetTable.sizeAbove (SetTable.grown (es.size+1))-1)) (led:=t1.led) (plain:=t1.plain) gm (es:=es1) (by rw[sz1];exact gk)
    have eR:t1.relaid (es1.map (·.1)) (SetTable.grown (es.size+1))=some (t2,order):=eL
    refine wpAny_bind ?_
    unfold setRelay
    refine wpAny_bind (wpAny_setState_of (s:={ s with heap:=s.heap.update S (Obj.putSet es1 t1) }) gg rfl tb1.fits ?_)
    dsimp only
    rw[if_neg gs,eR]
    refine wpAny_bind (Adc hsz _ rfl ?_)
    dsimp only
    obtain⟨es2,e2⟩:∃ es2,es2=order.filterMap (es1[·]?):=⟨_,rfl⟩
    rw[← e2] at hsz hpm tb2 ⊢
    refine wpAny_storeSet_of (s:={ s with heap:=s.heap.update S (Obj.putSet es1 t1) }) gg rfl ?_ (fits_of_scanBound (by rw[hsz,sz1];show _<4096;omega))
    have gg2:=Abb (s:={ s with heap:=s.heap.update S (Obj.putSet es1 t1) }) (es':=es2) (t':=t2) gg rfl
    have sb2:=sb1.trans (Heap.SameBut.update _ S (Obj.putSet es2 t2))
    have kp2:=Aau (prog:=prog) (w:=w) ho T.d sb2
    obtain⟨kl2,Ae6,el2,nd2,mm2⟩:=Ae5 Ade (el1 _ kp2) nd1 hpm
    exact wpAny_pure (hQ _ _ es2 (ep+1+1) t2 kl2 true sb2 gg2 ⟨T.ex,rfl,tb2,by rw[hsz,sz1,tm2];exact gf,by rw[tl2];exact ok1,Ae6,el2,nd2⟩ (fun z=>by rw[mm2 z];exact mm1 z) (by rw[hsz,sz1];exact Ak8 _) fun e he=>AhJ e (hpm.mem_iff.mp he))
   ·rw[if_neg (by simpa using tf)]
    have Ajj:es1.size*5<t1.mask*3:=by
     have:¬(t1.fill*5 ≥ t1.mask*3):=fun z=>tf (by unfold SetTable.tooFull;exact decide_eq_true z)
     unfold SetTable.fill at this
     rw[tb1.nod,tb1.sz] at this
     have:¬((es1.size+0)*5 ≥ t1.mask*3):=this
     omega
    exact wpAny_pure (hQ _ _ es1 (ep+1) t1 kl1 true sb1 gg ⟨T.ex,rfl,tb1,Ajj,ok1,Ade,el1 _ kp1,nd1⟩ mm1 (by rw[sz1];exact Ak8 _) AhJ)
  dsimp only
  refine wpAny_bind (wpAny_setState_of ho T.d T.tb.fits ?_)
  dsimp only
  rw[← e1]
  split
  ·refine wpAny_bind (Agw ha fun b=>?_)
   cases b with
   | true=>exact fin _ ⟨(t.put J).1.plain,rfl⟩
   | false=>exact fin _ ⟨false,rfl⟩
  ·exact fin _ ⟨(t.put J).1.plain,rfl⟩
 ·dsimp only
  have:=hQ s.heap o es ep t kl false (Heap.SameBut.refl S s.heap) ho T (fun z=>⟨.inl,fun q=>q.elim id fun e=>e▸hk⟩) (Alq _) fun e h=>.inl h
  exact wpAny_pure this
end
end SetW
open PySem PySem.Spec PyProof.Rows
namespace SetW
section
variable {prog:Program}{w:World}{A:Around}{E:Value→Shared→Prop}{s:Shared}
theorem Tb.fresh(led:Bool):Tb (.fresh 0 0 led) #[]:=by
 refine⟨rfl,fun i k h1 h2=>?_,rfl,fun i j h=>?_,.inl rfl,(by show 0≤7;decide),fun i j e h=>?_⟩
 ·simp[SetTable.fresh] at h2
 ·simp[SetTable.fresh] at h
 ·simp[SetTable.fresh] at h
theorem TS.fresh(h:Heap):TS prog w h (frs w) #[] 0 (.fresh 0 0 (!w.params.followText "set-order")) []:=by
 refine⟨⟨rfl,rfl,rfl⟩,rfl,Tb.fresh _,by show 0*5<7*3;decide,?_,rfl,fun i e he=>?_,List.nodup_nil⟩
 ·by_cases h:w.params.followText "set-order" = true
  ·exact .inl h
  ·exact .inr (by simpa [SetTable.fresh] using h)
 ·simp at he
theorem TS.wk{h:Heap}{o:Obj}{es:Array (Int × Value)}{ep:Nat}{t:SetTable}{kl:List (List KS)}(T:TS prog w h o es ep t kl):Wk w o es ep t:=⟨T.ex,T.d,T.tb.fits,T.ok.elim .inl fun z=>.inr (.inr ⟨z,fun _=>T.tb.rise⟩)⟩
theorem Ae7{I:Addr}{fp wr:List Addr}{G:Array GenState→Array GenState→Prop}{n:Nat}{P:Nat→Value→Prop}{St:Nat→Shared→Prop}{R:Result→Shared→Prop}(W:WalksS prog w A.in1 I fp wr G n P St)(hu:A.in1.units<cLine)(S:Addr)(hSf:S∉fp)
  (val:Nat→Addr) (key:Nat→List KS) (hval:∀ i v,P i v→v=.ref (val i)) (hvw:∀ i,i<n→val i∉wr) (h64:∀ l:List (List KS),l.Nodup→(∀ z∈l,∃ j,j<n∧key j=z)→l.length<64):∀(k i:Nat) (s:Shared) (o:Obj) (es:Array (Int × Value)) (ep:Nat) (t:SetTable) (kl:List (List KS)),n-i=k→i≤n→St i s→s.heap.get? S=some o→TS prog w s.heap o es ep t kl →
   (∀ j,j<n→TK prog w s.heap (key j) (val j))→(∀ z,z∈kl↔∃ j,j<i∧key j=z)→(∀ e∈es.toList,∃ j,j<n∧e.2=.ref (val j)) →
   (∀ s' o' es' ep' t' kl',Moved (S::wr) G s s'→s'.heap.get? S=some o'→TS prog w s'.heap o' es' ep' t' kl'→(∀ z,z∈kl'↔∃ j,j<n∧key j=z)→(∀ e∈es'.toList,∃ j,j<n∧e.2=.ref (val j))→R (.ok (.ret .none)) s') →
   codeAny (model prog w) A (.builtin "set.update.loop" ⟨[.ref S,.ref I],[]⟩) R s:=by
 have hSw:S∉wr:=fun h=>hSf (W.sub _ h)
 have hsub:∀ b∈wr,b∈S::wr:=fun b hb=>AkN _ hb
 have mvT:∀{s s':Shared},Moved wr G s s'→∀ ks a,a∉wr→TK prog w s.heap ks a→TK prog w s'.heap ks a:=fun mv ks a hw ⟨o',items,n',ho',r⟩=>⟨o',items,n',mv.heap a _ hw ho',r⟩
 intro k
 induction k with
 | zero =>
  intro i s o es ep t kl hk hi hst ho hS hT hm hp hR
  obtain rfl:i=n:=by omega
  refine codeAny_builtin PyProof.Rows.F.entry_set_update_loop ?_
  rw[Around.under_plainId PyProof.Rows.F.plain_set_update_loop _]
  show wpAny _ A.in1 (pyNext (.ref I) >>= _) _ _ s
  refine wpAny_bind (W.done s _ _ hst fun s' mv=>?_)
  show wpAny _ A.in1 (ret Value.none) _ _ s'
  refine wpAny_pure (hR s' o es ep t kl (mv.mono hsub) (mv.heap S _ hSw ho) ?_ hm hp)
  refine⟨hS.ex,hS.d,hS.tb,hS.few,hS.ok,hS.len,fun i e he=>?_,hS.nd⟩
  obtain⟨ks,q1,a,q2,q3,q4⟩:=hS.el i e he
  obtain⟨j,hj,ej⟩:=hp e (AkQ (by rw[Array.getElem?_toList];exact he))
  rw[q2] at ej
  injection ej with ej
  exact⟨ks,q1,a,q2,mvT mv _ _ (by rw[ej];exact hvw j hj) q3,q4⟩
 | succ k ih =>
  intro i s o es ep t kl hk hi hst ho hS hT hm hp hR
  have hlt:i<n:=by omega
  refine codeAny_builtin PyProof.Rows.F.entry_set_update_loop ?_
  rw[Around.under_plainId PyProof.Rows.F.plain_set_update_loop _]
  show wpAny _ A.in1 (pyNext (.ref I) >>= _) _ _ s
  refine wpAny_bind (W.item i s _ _ hlt hst fun v s' hP hst' mv=>?_)
  obtain rfl:=hval i v hP
  have hS1:TS prog w s'.heap o es ep t kl:=by
   refine⟨hS.ex,hS.d,hS.tb,hS.few,hS.ok,hS.len,fun i e he=>?_,hS.nd⟩
   obtain⟨ks,q1,a,q2,q3,q4⟩:=hS.el i e he
   obtain⟨j,hj,ej⟩:=hp e (AkQ (by rw[Array.getElem?_toList];exact he))
   rw[q2] at ej
   injection ej with ej
   exact⟨ks,q1,a,q2,mvT mv _ _ (by rw[ej];exact hvw j hj) q3,q4⟩
  have hT1:∀ j,j<n→TK prog w s'.heap (key j) (val j):=fun j hj=>mvT mv _ _ (hvw j hj) (hT j hj)
  have ho1:=mv.heap S _ hSw ho
  have Ak5:es.size<64:=by
   rw[← hS.len]
   exact h64 kl hS.nd fun z hz=>by
    obtain⟨j,hj,e⟩:=(hm z).mp hz
    exact⟨j,by omega,e⟩
  show wpAny _ A.in1 (holding [Value.ref (val i)] (setAdd S (.ref (val i))) >>= _) _ _ s'
  refine wpAny_bind (wpAny_holding ?_)
  unfold setAdd
  refine wpAny_holding (wpAny_bind (wpAny_pyHash_tuple hu (hT1 i hlt) ?_))
  refine Agy (s:={ s' with toks:=s'.toks+((key i).length+1) }) hS1 ho1 hu (hT1 i hlt) (by omega) fun h' o' es' ep' t' kl' b sb ho' hS' hm' hz' hp'=>?_
  have sbk:=Aau (prog:=prog) (w:=w) ho1 hS.d sb
  refine wpAny_pure ⟨plainId_quiet PyProof.Rows.F.plain_set_update_loop _,ih (i+1) _ o' es' ep' t' kl' (by omega) hlt (W.frame _ s' _ _ hst' (Nat.le_add_right _ _) fun b hb ob e=>?_) ho' hS' (fun j hj=>sbk _ _ (hT1 j hj)) (fun z=>?_) (fun e he=>?_) fun s'' o2 es2 ep2 t2 kl2 mv2 ho2 hS2 hm2 hp2=>?_⟩
  ·rw[sb.2 b (fun h:b=S=>hSf (by rw[← h];exact hb))];exact e
  ·rw[hm' z,hm z]
   constructor
   ·rintro(⟨j,hj,e⟩ | e)
    ·exact⟨j,by omega,e⟩
    ·exact⟨i,by omega,e.symm⟩
   ·rintro⟨j,hj,e⟩
    by_cases c:j=i
    ·exact .inr (by rw[← e,c])
    ·exact .inl ⟨j,by omega,e⟩
  ·rcases hp' e he with h | h
   ·exact hp e h
   ·exact⟨i,hlt,h⟩
  ·refine hR s'' o2 es2 ep2 t2 kl2 (Moved.trans W.gtrans ((mv.mono hsub).then_heap (Nat.le_add_right _ _) fun b ob hb e=>?_) mv2) ho2 hS2 hm2 hp2
   rw[sb.2 b (fun h:b=S=>hb (by rw[h];exact AkM))];exact e
end
end SetW
open PySem PySem.Spec PyProof.Rows
namespace SetW
section
variable {prog:Program}{w:World}{A:Around}{E:Value→Shared→Prop}{s:Shared}
set_option maxHeartbeats 4000000 in
theorem Ae8{l:Addr}{items:Array Value}{val:Nat→Addr}{key:Nat→List KS}{Q:Value→Shared→Prop}(hh:A.handled=none)(hu:A.units+100<cLine)(hl:s.heap.IsList l items)(hi:∀(i:Nat) (v:Value),items[i]?=some v→v=.ref (val i))(hk:∀ j,j<items.size→TK prog w s.heap (key j) (val j))(h64:∀ l:List (List KS),l.Nodup→(∀ z∈l,∃ j,j<items.size∧key j=z)→l.length<64)
  (h:∀(h':Heap) (tk:Nat) o es ep t kl,h'.get? s.heap.objs.size=some o→TS prog w h' o es ep t kl→(∀ z,z∈kl↔∃ j,j<items.size∧key j=z)→(∀ e∈es.toList,∃ j,j<items.size∧e.2=.ref (val j)) →
   (∀ b o,s.heap.get? b=some o→h'.get? b=some o)→Q (.ref s.heap.objs.size) { s with heap:=h',toks:=tk }):wpAny (model prog w) A (call (.type "set") [.ref l]) Q E s:=by
 obtain⟨c,tl,hmro⟩:=PySem.F.called_set.mro
 have hmade:=PySem.F.called_set.made
 have hsub:=PySem.F.called_set.sub
 refine wpAny_call (codeAny_of_tree ?_)
 show wpAny _ _ (callAny (.type "set") _) _ _ _
 refine wpAny_pure ⟨Code.quiet_builtin _ (by decide +kernel),codeAny_builtin PySem.F.entry_type_call ?_⟩
 rw[Around.under_plain (weight_type_call_type "set" [.ref l] []) rfl]
 have h1:=PySem.F.called_set.notType
 have h2:=PySem.F.called_set.canCreate
 have hct:=PySem.F.typeCall_set_1 (.ref l)
 repeat (any_goals (first | assumption | wp_step))
 refine codeAny_mono (Agr (.ref l) (E:=E) (Q₁:=fun obj s₁=>obj=.ref s.heap.objs.size∧s₁={ s with heap:=s.heap.push (frs w) }) ⟨rfl,rfl⟩) fun r s₁ hr=>?_
 cases r with
 | error e=>exact hr
 | ok fl =>
  cases fl with
  | ret obj =>
   obtain⟨rfl,rfl⟩:=hr
   have hS:(s.heap.push (frs w)).get? s.heap.objs.size=some (frs w):=Heap.get?_push_size _ rfl
   have hT:Shared.TypeIs { s with heap:=s.heap.push (frs w) } (.ref s.heap.objs.size) "set" := ⟨_,hS,rfl⟩
   have hli:=PySem.F.called_set.init.lookup
   have hbi:=PySem.F.called_set.init.bind (.ref s.heap.objs.size)
   repeat (any_goals (first | assumption | wp_step))
   refine codeAny_mono (codeAny_call_builtin (R:=wants (fun r s₂=>r=.none∧∃ h' tk o es ep t kl,s₂={ s with heap:=h',toks:=tk }∧h'.get? s.heap.objs.size=some o∧TS prog w h' o es ep t kl∧(∀ z,z∈kl↔∃ j,j<items.size∧key j=z)∧(∀ e∈es.toList,∃ j,j<items.size∧e.2=.ref (val j)) ∧
     (∀ b o,s.heap.get? b=some o→h'.get? b=some o)) E) PySem.F.called_set.init.plain PySem.F.entry_set_init (check_set_init_1 hT ?_)) fun r₂ s₂ hr₂=>?_
   ·obtain⟨ol,hol,hcl,nl,hdl⟩:=hl
    obtain⟨ocls,odict,odata,oslots⟩:=ol
    simp only at hcl hdl
    subst hcl hdl
    have hlS:l<s.heap.objs.size:=Heap.lt_size hol
    obtain⟨h1,eh1⟩:∃ h1,h1=s.heap.push (frs w):=⟨_,rfl⟩
    have z1:h1.objs.size=s.heap.objs.size+1:=by rw[eh1,Heap.size_push]
    have k1:∀ b ob,s.heap.get? b=some ob→h1.get? b=some ob:=fun b ob e=>by rw[eh1];exact Heap.get?_push_of_some _ e
    rw[← eh1] at hS hT ⊢
    have hol':=k1 _ _ hol
    have hl1:h1.IsList l items:=⟨_,hol',rfl,nl,rfl⟩
    have hsls:=PySem.F.sub_list_set
    have hslf:=PySem.F.sub_list_frozenset
    have hne:(Value.type "list" == Value.type "dict")=false:=by decide
    have hS':h1.get? s.heap.objs.size=some { cls:=.type "set", dict:=none,data:=.set #[] 0 (.fresh 0 0 (!w.params.followText "set-order")) }:=hS
    unfold Builtin.«set.__init__» noKeywords Builtin.Frozenset.updateFrom
    generalize hPI:pyIter=PI
    wp_walk
    subst hPI
    refine wpAny_pyIter_list hl1 ?_
    obtain⟨h2,eh2⟩:∃ h2,h2=h1.push { cls:=.type "list_iterator", data:=.fields #[.ref l,.int 0 0] }:=⟨_,rfl⟩
    show wpAny _ _ _ _ _ { s with heap:=h1.push { cls:=.type "list_iterator", data:=.fields #[.ref l,.int 0 0] } }
    rw[← eh2]
    have k2:∀ b ob,h1.get? b=some ob→h2.get? b=some ob:=fun b ob e=>by rw[eh2];exact Heap.get?_push_of_some _ e
    have hit2:h2.IsListIter h1.objs.size l 0:=by rw[eh2];exact⟨_,Heap.get?_push_size _ rfl,rfl,rfl⟩
    have hl2:h2.IsList l items:=⟨_,k2 _ _ hol',rfl,nl,rfl⟩
    refine wpAny_bind (wpAny_runValue ?_)
    have hh3:A.in1.in1.in1.handled=none:=by simp[hh]
    have hneI:l≠h1.objs.size:=by rw[z1];exact AkF (AlT hlS)
    have hSf:s.heap.objs.size∉[h1.objs.size,l]:=by
     simp only [AkV,Ala,or_false,not_or]
     exact⟨by rw[z1];exact AkF (AlC _),Alp hlS⟩
    have tk2:∀ j,j<items.size→TK prog w h2 (key j) (val j):=fun j hj=>by
     obtain⟨o',its',n',q1,r⟩:=hk j hj
     exact⟨o',its',n',k2 _ _ (k1 _ _ q1),r⟩
    have vw:∀ j,j<items.size→val j∉[h1.objs.size]:=fun j hj=>by
     obtain⟨o',its',n',q1,r⟩:=hk j hj
     have:=Heap.lt_size q1
     simp only [AkV,Ala,or_false]
     rw[z1]
     exact AkF (AlT this)
    refine Ae7 ((Walks.list hh3 h1.objs.size l hneI items).toS) (by show A.units+1+1+1<cLine;omega) s.heap.objs.size hSf val key (fun i v hv=>hi i v hv) vw h64 (items.size-0) 0 _ _ #[] 0 _ [] (by omega) (AkD _) ⟨hit2,hl2⟩ (k2 _ _ hS') (TS.fresh _) tk2 (fun z=>by simp) (fun e he=>by simp at he) fun s' o es ep t kl mv ho hI hm hp=>?_
    obtain⟨h',g',d',tk',os'⟩:=s'
    have eg:g'=s.gens:=mv.gens
    have ed:d'=s.drawn:=mv.drawn
    have eo:os'=s.os:=mv.os
    subst eg ed eo
    show wpAny _ _ _ _ _ _
    refine wpAny_pure ?_
    show wpAny _ _ (ret Value.none) _ _ _
    refine wpAny_pure ⟨rfl,h',tk',o,es,ep,t,kl,rfl,ho,hI,hm,hp,fun b ob e=>?_⟩
    have lb:=Heap.lt_size e
    refine mv.heap b ob ?_ (k2 _ _ (k1 _ _ e))
    simp only [AkV,Ala,or_false,not_or]
    exact⟨AkF lb,by rw[z1];exact AkF (AlT lb)⟩
   ·cases r₂ with
    | error e=>exact hr₂
    | ok fl₂ =>
     cases fl₂ with
     | ret r =>
      obtain⟨rfl,h',tk,o,es,ep,t,kl,rfl,a1,a2,a3,a4,a5⟩:=hr₂
      repeat (any_goals (first | assumption | wp_step))
      exact h _ _ o es ep t kl a1 a2 a3 a4 a5
     | _=>exact hr₂.elim
  | _=>exact hr.elim
end
end SetW
open PySem PySem.W PySem.Spec PyProof.Rows
namespace SetW
def Up (lt:Nat→Nat→Bool)(p:Array Nat)(k:Nat):Prop:=∀ i j,i<j→j<k→lt (p.getD i 0) (p.getD j 0)=true
def Pm (n:Nat)(p:Array Nat):Prop:=p.toList.Perm (List.range n)
theorem Pm.size{n:Nat}{p:Array Nat}(h:Pm n p):p.size=n:=by rw[← Array.length_toList,h.length_eq,AkC]
theorem Pm.lt{n i:Nat}{p:Array Nat}(h:Pm n p)(hi:i<n):p.getD i 0<n:=by
 have hs:i<p.size:=by rw[h.size];exact hi
 have e:p.getD i 0=p[i]:=by simp[Array.getD,hs]
 rw[e]
 exact List.mem_range.mp (h.mem_iff.mp (by rw[Array.mem_toList_iff];exact Array.getElem_mem hs))
theorem Pm.ne{n i j:Nat}{p:Array Nat}(h:Pm n p)(hi:i<n)(hj:j<n)(ne:i≠j):p.getD i 0≠p.getD j 0:=fun e=>by
 have nd:p.toList.Nodup:=h.nodup_iff.mpr AlX
 have hs:=h.size
 have e1:p.getD i 0=p.toList[i]'(by rw[Array.length_toList,hs];exact hi):=by simp[Array.getD,hs,hi]
 have e2:p.getD j 0=p.toList[j]'(by rw[Array.length_toList,hs];exact hj):=by simp[Array.getD,hs,hj]
 rw[e1,e2] at e
 exact ne ((List.getElem_inj nd).mp e)
structure Cp (n:Nat) (lt:Nat→Nat→Bool) (cmp:Nat→Nat→(Bool→Shared→Prop)→Shared→Prop) (I:Shared→Prop):Prop where
 ans:∀ i j C s,i<n→j<n→i≠j→I s→C (lt i j) s→cmp i j C s
 tr:∀ i j k,lt i j=true→lt j k=true→lt i k=true
 tot:∀ i j,i<n→j<n→i≠j→lt i j=!lt j i
section
variable {n:Nat}{lt:Nat→Nat→Bool}{cmp:Nat→Nat→(Bool→Shared→Prop)→Shared→Prop}{I:Shared→Prop}{s:Shared}
theorem Ae9{p:Array Nat}{k:Nat}(C:Cp n lt cmp I)(P:Pm n p)(hk:k<n)(k1:1≤k)(U:Up lt p k)(h:lt (p.getD k 0) (p.getD (k-1) 0)=false):Up lt p (k+1):=fun i j hij hj=>by
 by_cases c:j<k
 ·exact U i j hij c
 ·have e:j=k:=by omega
  subst e
  have l:lt (p.getD (j-1) 0) (p.getD j 0)=true:=by
   rw[C.tot _ _ (P.lt (by omega)) (P.lt hk) (P.ne (by omega) hk (by omega)),h];rfl
  by_cases c2:i=j-1
  ·rw[c2];exact l
  ·exact C.tr _ _ _ (U i (j-1) (by omega) (by omega)) l
theorem Aaw(C:Cp n lt cmp I)(hs:I s){p:Array Nat}(P:Pm n p){Q:Nat→Shared→Prop}:∀(f k:Nat),1≤k→k+f=n→Up lt p k→(∀ m,k≤m→m≤n→Up lt p m→(m<n→lt (p.getD m 0) (p.getD (m-1) 0)=true)→Q m s)→(kas_asc p f k).kasWp cmp Q s
 | 0,k,k1,e,U,h=>h k (Ak8 _) (by omega) U fun z=>by omega
 | f+1,k,k1,e,U,h=>by
  show cmp (p.getD k 0) (p.getD (k-1) 0) _ s
  refine C.ans _ _ _ s (P.lt (by omega)) (P.lt (by omega)) (P.ne (by omega) (by omega) (by omega)) hs ?_
  cases c:lt (p.getD k 0) (p.getD (k-1) 0) with
  | true=>exact h k (Ak8 _) (by omega) U fun _=>c
  | false=>exact Aaw C hs P f (k+1) (by omega) (by omega) (Ae9 C P (by omega) k1 U c) fun m m1 m2 m3 m4=>h m (by omega) m2 m3 m4
def Dn (lt:Nat→Nat→Bool)(p:Array Nat)(k:Nat):Prop:=∀ i j,i<j→j<k→lt (p.getD j 0) (p.getD i 0)=true
theorem Abj{p:Array Nat}{k:Nat}(C:Cp n lt cmp I)(U:Dn lt p k)(k1:1≤k)(h:lt (p.getD k 0) (p.getD (k-1) 0)=true):Dn lt p (k+1):=fun i j hij hj=>by
 by_cases c:j<k
 ·exact U i j hij c
 ·have e:j=k:=by omega
  subst e
  by_cases c2:i=j-1
  ·rw[c2];exact h
  ·exact C.tr _ _ _ h (U i (j-1) (by omega) (by omega))
theorem Abk(C:Cp n lt cmp I)(hs:I s){p:Array Nat}(P:Pm n p){Q:Array Nat × Nat × Nat→Shared→Prop}:∀(f k:Nat),1≤k→k+f=n→Dn lt p k→(∀ m,k≤m→m≤n→Dn lt p m→Q (p,m,0) s)→(kas_desc f p k 0).kasWp cmp Q s
 | 0,k,k1,e,U,h=>h k (Ak8 _) (by omega) U
 | f+1,k,k1,e,U,h=>by
  show cmp (p.getD k 0) (p.getD (k-1) 0) _ s
  have ne:=P.ne (i:=k) (j:=k-1) (by omega) (by omega) (by omega)
  refine C.ans _ _ _ s (P.lt (by omega)) (P.lt (by omega)) ne hs ?_
  cases c:lt (p.getD k 0) (p.getD (k-1) 0) with
  | true=>exact Abk C hs P f (k+1) (by omega) (by omega) (Abj C U k1 c) fun m m1 m2 m3=>h m (by omega) m2 m3
  | false =>
   show cmp (p.getD (k-1) 0) (p.getD k 0) _ s
   refine C.ans _ _ _ s (P.lt (by omega)) (P.lt (by omega)) ne.symm hs ?_
   have d:lt (p.getD (k-1) 0) (p.getD k 0)=true:=by
    rw[C.tot _ _ (P.lt (by omega)) (P.lt (by omega)) ne.symm,c];rfl
   rw[d]
   exact h k (Ak8 _) (by omega) U
theorem Uw{p q:Array Nat}{i j:Nat}(h:p[i]?=q[j]?):p.getD i 0=q.getD j 0:=by rw[Array.getD_eq_getD_getElem?,Array.getD_eq_getD_getElem?,h]
theorem Adf{p:Array Nat}{m:Nat}(P:Pm n p):Pm n (kas_rev p 0 m):=(Array.perm_iff_toList_perm.mp (mirror_perm p 0 m _)).trans P
theorem Agz{p:Array Nat}{m:Nat}(P:Pm n p)(hm:m≤n)(D:Dn lt p m):Up lt (kas_rev p 0 m) m:=fun i j hij hj=>by
 have g:∀ k,k<m→(kas_rev p 0 m).getD k 0=p.getD (m-1-k) 0:=fun k hk=>by
  have e:=getElem?_mirror_all (xs:=p) (i:=0) (j:=m) (by rw[P.size];exact hm) k
  rw[if_pos ⟨AkD _,hk⟩,Alx] at e
  exact Uw e
 rw[g i (by omega),g j hj]
 exact D _ _ (by omega) (by omega)
theorem AeA(C:Cp n lt cmp I)(hs:I s){p:Array Nat}(P:Pm n p){m:Nat}(m1:1≤m)(hm:m≤n)(D:Dn lt p m){Q:Nat × Array Nat→Shared→Prop}(h:∀ k q,1≤k→k≤n→Pm n q→Up lt q k→Q (k,q) s):(kas_tail3 m n p).kasWp cmp Q s:=by
 unfold kas_tail3
 rw[KasT.kasWp_bind]
 exact Aaw C hs (Adf P) (n-m) m m1 (by omega) (Agz P hm D) fun k k1 k2 k3 _=>h k _ (by omega) k2 (Adf P) k3
theorem Adg(C:Cp n lt cmp I)(hs:I s)(n2:2≤n){p:Array Nat}(P:Pm n p){Q:Nat × Array Nat→Shared→Prop}(h:∀ k q,1≤k→k≤n→Pm n q→Up lt q k→Q (k,q) s):(kas_count n p).kasWp cmp Q s:=by
 unfold kas_count
 rw[KasT.kasWp_bind]
 refine Aaw C hs P (n-1) 1 (Ak8 _) (by omega) (fun i j h1 h2=>by omega) fun m m1 m2 m3 m4=>?_
 by_cases e:m=n
 ·subst e
  rw[if_pos (by simp)]
  exact h m p m1 (Ak8 _) P m3
 ·rw[if_neg (by simpa using e)]
  by_cases c:m>1
  ·rw[if_pos c]
   show cmp (p.getD 0 0) (p.getD (m-1) 0) _ s
   refine C.ans _ _ _ s (P.lt (by omega)) (P.lt (by omega)) (P.ne (by omega) (by omega) (by omega)) hs ?_
   rw[m3 0 (m-1) (by omega) (by omega)]
   exact h m p m1 m2 P m3
  ·rw[if_neg c]
   have e1:m=1:=by omega
   subst e1
   unfold kas_descPart
   rw[KasT.kasWp_bind]
   have d2:Dn lt p (1+1):=Abj C (fun i j h1 h2=>by omega) (Ak8 _) (m4 (by omega))
   refine Abk C hs P (n-(1+1)) (1+1) (by omega) (by omega) d2 fun k k1 k2 k3=>?_
   show KasT.kasWp cmp (if 0>0 then _ else kas_tail3 k n p) Q s
   rw[if_neg (by decide)]
   exact AeA C hs P (by omega) k2 k3 h
theorem Vh(C:Cp n lt cmp I)(hs:I s){p:Array Nat}(P:Pm n p){k:Nat}(hk:k<n)(U:Up lt p k){Q:Nat→Shared→Prop}(h:∀ l,l≤k→(∀ i,i<l→lt (p.getD i 0) (p.getD k 0)=true)→(∀ i,l≤i→i<k→lt (p.getD k 0) (p.getD i 0)=true)→Q l s) :
  ∀(f l r:Nat),l≤r→r≤k→r-l≤f→(∀ i,i<l→lt (p.getD i 0) (p.getD k 0)=true)→(∀ i,r≤i→i<k→lt (p.getD k 0) (p.getD i 0)=true)→(kas_place p k f l r).kasWp cmp Q s
 | 0,l,r,h1,h2,h3,a,b=>h l (by omega) a fun i q1 q2=>b i (by omega) q2
 | f+1,l,r,h1,h2,h3,a,b=>by
  unfold kas_place
  by_cases c:l ≥ r
  ·rw[if_pos c]
   exact h l (by omega) a fun i q1 q2=>b i (by omega) q2
  ·rw[if_neg c]
   show cmp (p.getD k 0) (p.getD ((l+r) / 2) 0) _ s
   have hm:(l+r) / 2<k:=by omega
   have ne:=P.ne (i:=k) (j:=(l+r) / 2) hk (by omega) (by omega)
   refine C.ans _ _ _ s (P.lt hk) (P.lt (by omega)) ne hs ?_
   cases d:lt (p.getD k 0) (p.getD ((l+r) / 2) 0) with
   | true =>
    refine Vh C hs P hk U h f l ((l+r) / 2) (by omega) (by omega) (by omega) a fun i q1 q2=>?_
    by_cases e:i=(l+r) / 2
    ·rw[e];exact d
    ·exact C.tr _ _ _ d (U _ i (by omega) q2)
   | false =>
    have d':lt (p.getD ((l+r) / 2) 0) (p.getD k 0)=true:=by
     rw[C.tot _ _ (P.lt (by omega)) (P.lt hk) ne.symm,d];rfl
    refine Vh C hs P hk U h f ((l+r) / 2+1) r (by omega) h2 (by omega) (fun i q1=>?_) b
    by_cases e:i=(l+r) / 2
    ·rw[e];exact d'
    ·exact C.tr _ _ _ (U i _ (by omega) hm) d'
theorem Ag0{p:Array Nat}{k d:Nat}(P:Pm n p):Pm n (bubble p k d):=(Array.perm_iff_toList_perm.mp (bubble_perm p k d)).trans P
theorem Ag1{p:Array Nat}{k l:Nat}(P:Pm n p)(hk:k<n)(hl:l≤k)(U:Up lt p k)(a:∀ i,i<l→lt (p.getD i 0) (p.getD k 0)=true)(b:∀ i,l≤i→i<k→lt (p.getD k 0) (p.getD i 0)=true):Up lt (bubble p k (k-l)) (k+1):=by
 have g:∀ i,i≤k→(bubble p k (k-l)).getD i 0=if i<l then p.getD i 0 else if i=l then p.getD k 0 else p.getD (i-1) 0:=fun i hi=>by
  have e:=getElem?_bubble (xs:=p) (src:=k) (by rw[P.size];exact hk) (k-l) (by omega) i
  by_cases c1:i<l
  ·rw[if_pos c1]
   rw[if_neg (by omega),if_neg (by omega)] at e
   exact Uw e
  ·rw[if_neg c1]
   by_cases c2:i=l
   ·rw[if_pos c2]
    rw[if_pos (by omega)] at e
    exact Uw e
   ·rw[if_neg c2]
    rw[if_neg (by omega),if_pos (by omega)] at e
    exact Uw e
 intro i j hij hj
 rw[g i (by omega),g j (by omega)]
 by_cases c1:j<l
 ·rw[if_pos (by omega),if_pos c1];exact U i j hij (by omega)
 ·rw[if_neg c1]
  by_cases c2:j=l
  ·rw[if_pos c2,if_pos (by omega)];exact a i (by omega)
  ·rw[if_neg c2]
   by_cases c3:i<l
   ·rw[if_pos c3];exact U i (j-1) (by omega) (by omega)
   ·rw[if_neg c3]
    by_cases c4:i=l
    ·rw[if_pos c4];exact b (j-1) (by omega) (by omega)
    ·rw[if_neg c4];exact U (i-1) (j-1) (by omega) (by omega)
theorem Adh(C:Cp n lt cmp I)(hs:I s){Q:Array Nat→Shared→Prop}(h:∀ q,Pm n q→Up lt q n→Q q s):∀(f:Nat) (p:Array Nat) (k:Nat),k+f=n→Pm n p→Up lt p k→(kas_bin f p k).kasWp cmp Q s
 | 0,p,k,e,P,U=>h p P (by rw[← e];exact U)
 | f+1,p,k,e,P,U=>by
  unfold kas_bin
  rw[KasT.kasWp_bind]
  refine Vh C hs P (by omega) U (fun l hl a b=>?_) k 0 k (AkD _) (Ak8 _) (by omega) (fun i q=>by omega) (fun i q1 q2=>by omega)
  exact Adh C hs h f _ (k+1) (by omega) (Ag0 P) (Ag1 P (by omega) hl U a b)
theorem AeB(C:Cp n lt cmp I)(hs:I s)(n2:2≤n){Q:Array Nat→Shared→Prop}(h:∀ q,Pm n q→Up lt q n→Q q s):(kas_sort n).kasWp cmp Q s:=by
 unfold kas_sort
 rw[KasT.kasWp_bind]
 refine Adg C hs n2 (List.Perm.refl _) fun k q k1 k2 P U=>?_
 dsimp only
 by_cases c:k<n
 ·rw[if_pos c,Nat.max_eq_left k1]
  exact Adh C hs h (n-k) q k (by omega) P U
 ·rw[if_neg c]
  have e:k=n:=by omega
  subst e
  exact h q P U
end
end SetW
end L2
set_option maxHeartbeats 1000000
namespace L2
open PySem PySem.W PySem.Calls PySem.Spec PyProof.Rows
namespace SetW
section
variable {prog:Program}{w:World}{A:Around}{E:Value→Shared→Prop}{s:Shared}
theorem Xw{a:Addr}{n:Nat}{vs:List Value}{lt:Nat→Nat→Bool}{κ:SortKind}{P:PySem.Fin→Shared→Prop}(ho:s.heap.get? a=some (seqObj "list" vs.toArray n)) (h2:2≤vs.length) (h64:vs.length<64)
  (hkind:∀ h':Heap,(∀ b o,b≠a→s.heap.get? b=some o→h'.get? b=some o)→∀ Q:SortKind→Shared→Prop,Q κ { s with heap:=h' }→wpAny (model prog w) A (keyKind' vs.toArray) Q (fun _ _=>False) { s with heap:=h' })
  (hcmp:∀ h':Heap,(∀ b o,b≠a→s.heap.get? b=some o→h'.get? b=some o)→∀(i j:Nat) (C:Bool→Shared→Prop),i<vs.length→j<vs.length→i≠j→C (lt i j) { s with heap:=h' }→kas_ask prog w A κ vs i j C { s with heap:=h' })
  (tr:∀ i j k,lt i j=true→lt j k=true→lt i k=true) (tot:∀ i j,i<vs.length→j<vs.length→i≠j→lt i j=!lt j i)
  (h:∀(h':Heap) (e:Nat) (q:Array Nat),(∀ b o,b≠a→s.heap.get? b=some o→h'.get? b=some o)→s.heap.objs.size≤h'.objs.size→Pm vs.length q→Up lt q vs.length→h'.get? a=some (seqObj "list" (List.toArray (q.toList.map fun i=>vs.getD i Value.none)) e)→P (.done (.ret .none)) { s with heap:=h' }) :
  wpAny (model prog w) A (Builtin.«list.sort» ⟨[.ref a],[]⟩) P E s:=by
 have ha:a<s.heap.objs.size:=Heap.lt_size ho
 have s1:=Heap.SameBut.update s.heap a (Obj.mapSeq fun _=>(#[]:Array Value))
 obtain⟨e1,ho1⟩:∃ e1,(s.heap.update a (Obj.mapSeq fun _=>(#[]:Array Value))).get? a=some (seqObj "list" #[] e1):=⟨_,get?_update_seq ho fun _=>#[]⟩
 obtain⟨H,eH⟩:∃ H,H=((s.heap.update a (Obj.mapSeq fun _=>(#[]:Array Value))).push (seqObj "tuple" vs.toArray 0)).push (seqObj "list" #[] 0):=⟨_,rfl⟩
 have keep:∀ b o,b≠a→s.heap.get? b=some o→H.get? b=some o:=fun b o hb e=>by rw[eH];exact Heap.get?_push_of_some _ (Heap.get?_push_of_some _ ((s1.2 b hb).trans e))
 have hoH:H.get? a=some (seqObj "list" #[] e1):=by rw[eH];exact Heap.get?_push_of_some _ (Heap.get?_push_of_some _ ho1)
 have szH:s.heap.objs.size≤H.objs.size:=by
  rw[eH,Heap.size_push,Heap.size_push,Heap.size_update];omega
 rw[list_sort_plain]
 refine wpAny_bind (listItems_at ho rfl ?_)
 refine wpAny_bind (listUpdate_at ho rfl ?_ (by rw[AkB,sizeLine_eq];omega) (AkD _))
 refine wpAny_bind (seqEpoch_at ho1 rfl ?_)
 refine wpAny_bind (wpAny_newTuple ?_ (by show vs.length≤_;rw[sizeLine_eq];omega))
 refine wpAny_bind (wpAny_newList ?_ (AkD _))
 refine wpAny_holding ?_
 show wpAny (model prog w) A _ P E { s with heap:=((s.heap.update a (Obj.mapSeq fun _=>(#[]:Array Value))).push (seqObj "tuple" vs.toArray 0)).push (seqObj "list" #[] 0) }
 rw[← eH]
 dsimp only
 have hn2:¬vs.toArray.size<2:=by rw[AkB];omega
 rw[if_neg hn2,if_neg hn2]
 refine wpAny_bind (wpAny_mono (hkind H keep (fun κ' s'=>κ'=κ∧s'={ s with heap:=H }) ⟨rfl,rfl⟩) (fun κ' s0 hk=>?_) fun _ _ x=>x.elim)
 obtain⟨rfl,rfl⟩:=hk
 have sorted:(kas_sort vs.length).kasWp (kas_ask prog w A κ' vs) (fun p s'=>s'={ s with heap:=H }∧Pm vs.length p∧Up lt p vs.length) { s with heap:=H } :=
  AeB (lt:=lt) (I:=fun s'=>s'={ s with heap:=H }) ⟨fun i j C s' hi hj ne hs hC=>by subst hs;exact hcmp H keep i j C hi hj ne hC,tr,tot⟩ rfl h2 fun q P U=>⟨rfl,P,U⟩
 refine wpAny_bind (wpAny_mono (kat_run (Q:=fun st' s'=>∃ p:Array Nat,p.size=vs.length∧arrOf st'=p.map (kas_item (vs.toArray.zip vs.toArray))∧failedOf st'=none∧s'={ s with heap:=H }∧Pm vs.length p∧Up lt p vs.length)
  rfl h2 h64 (fun p' st' s' a1 a2 a3 a4=>⟨p',a1,a2,a3,a4⟩) sorted) ?_ fun _ _ e=>e)
 rintro⟨⟨⟩,st'⟩ s' ⟨p,hp,har,hf,rfl,Pp,Up'⟩
 dsimp only
 have hout:=kat_snds rfl har
 have hsz:(List.toArray (p.toList.map fun i=>vs.getD i Value.none)).size=vs.length:=by rw[AkB,AkA,Array.length_toList,hp]
 rw[hout]
 have s2:=Heap.SameBut.update H a (Obj.mapSeq fun _=>List.toArray (p.toList.map fun i=>vs.getD i Value.none))
 obtain⟨c2,hc2⟩:∃ c2,(H.update a (Obj.mapSeq fun _=>List.toArray (p.toList.map fun i=>vs.getD i Value.none))).get? a=some (seqObj "list" (List.toArray (p.toList.map fun i=>vs.getD i Value.none)) c2):=⟨_,get?_update_seq hoH fun _=>List.toArray (p.toList.map fun i=>vs.getD i Value.none)⟩
 refine wpAny_bind (seqEpoch_at hoH rfl ?_)
 refine wpAny_bind (listUpdate_at hoH rfl ?_ (AkD _) (AkS (AlS hsz) (by rw[sizeLine_eq];omega)))
 rw[hf]
 simp only [bne_self_eq_false,Ali,if_false]
 exact wpAny_pure (h _ c2 p (fun b o hb e=>(s2.2 b hb).trans (keep b o hb e)) (by rw[Heap.size_update];exact szH) Pp Up' hc2)
end
end SetW
open PySem PySem.W PySem.Calls PySem.Spec PyProof.Rows
namespace SetW
section
variable {prog:Program}{w:World}{A:Around}{E:Value→Shared→Prop}{s:Shared}
abbrev T3:=Int × Int × Str
def G6 (x:T3):List KS:=[.inl x.1,.inl x.2.1,.inr x.2.2]
theorem Vi{x y:T3}(h:G6 x=G6 y):x=y:=by
 obtain⟨a,b,c⟩:=x
 obtain⟨a',b',c'⟩:=y
 unfold G6 at h
 simp only [List.cons.injEq,Sum.inl.injEq,Sum.inr.injEq,and_true] at h
 obtain⟨h1,h2,h3⟩:=h
 rw[h1,h2,h3]
def lt3 (x y:T3):Bool:=if x.1=y.1 then (if x.2.1=y.2.1 then decide (x.2.2.cps.toList<y.2.2.cps.toList) else decide (x.2.1<y.2.1)) else decide (x.1<y.1)
theorem Aax{x:T3}{vs:List Value}(h:PySem.ItemsAre (BW prog w) (G6 x) vs):∃ t u v,vs=[.int x.1 t,.int x.2.1 u,.str x.2.2 v]:=by
 unfold G6 at h
 cases h with
 | cons h1 h =>
  cases h with
  | cons h2 h =>
   cases h with
   | cons h3 h =>
    cases h
    obtain⟨t,rfl⟩:=Gm h1
    obtain⟨u,rfl⟩:=Gm h2
    obtain⟨v,rfl⟩:=HJ h3
    exact⟨t,u,v,rfl⟩
theorem Ag2{x y:T3}{a b:Addr}(hx:TK prog w s.heap (G6 x) a)(hy:TK prog w s.heap (G6 y) b){Q:Bool→Shared→Prop}(h:Q (lt3 x y) s):wpAny (model prog w) A (keyLt' (tuples' true) (.ref a) (.ref b)) Q E s:=by
 obtain⟨o,xs,n,ho,hc,hd,hi⟩:=hx
 obtain⟨o',ys,n',ho',hc',hd',hi'⟩:=hy
 obtain⟨t,u,v,e⟩:=Aax hi
 obtain⟨t',u',v',e'⟩:=Aax hi'
 refine kat_lt ho hd ho' hd' ?_
 have sz:xs.size=3:=by rw[← Array.length_toList,e];rfl
 have sz':ys.size=3:=by rw[← Array.length_toList,e'];rfl
 rw[e,e',sz,sz']
 unfold lt3 at h
 refine kat_cons (wpAny_eqBool_int (kat_go (fun q=>kat_yes ?_) fun q=>kat_no ?_))
 ·have q:x.1=y.1:=by simpa using q
  rw[if_pos q] at h
  refine kat_cons (wpAny_eqBool_int (kat_go (fun q2=>kat_yes ?_) fun q2=>kat_no ?_))
  ·have q2:x.2.1=y.2.1:=by simpa using q2
   rw[if_pos q2] at h
   refine kat_cons (wpAny_eqBool_str (kat_go (fun q3=>kat_yes (kat_nil ?_)) fun q3=>kat_no ?_))
   ·have q3:x.2.2=y.2.2:=by simpa using q3
    rw[q3,decide_eq_false (List.lt_irrefl _)] at h
    exact h
   ·exact kat_one _ _ (PyProof.Rows.lt_str h)
  ·have q2:¬x.2.1=y.2.1:=by simpa using q2
   rw[if_neg q2] at h
   exact kat_one _ _ (PyProof.Rows.lt_int h)
 ·have q:¬x.1=y.1:=by simpa using q
  rw[if_neg q] at h
  exact oneLt_int h
theorem Ux{x y:T3}:lt3 x y=true↔x.1<y.1∨(x.1=y.1∧(x.2.1<y.2.1∨(x.2.1=y.2.1∧x.2.2.cps.toList<y.2.2.cps.toList))):=by
 unfold lt3
 by_cases h1:x.1=y.1
 ·rw[if_pos h1]
  by_cases h2:x.2.1=y.2.1
  ·rw[if_pos h2,decide_eq_true_eq]
   constructor
   ·exact fun z=>.inr ⟨h1,.inr ⟨h2,z⟩⟩
   ·rintro(z | ⟨_,z | ⟨_,z⟩⟩)
    ·omega
    ·omega
    ·exact z
  ·rw[if_neg h2,decide_eq_true_eq]
   constructor
   ·exact fun z=>.inr ⟨h1,.inl z⟩
   ·rintro(z | ⟨_,z | ⟨z,_⟩⟩)
    ·omega
    ·exact z
    ·exact absurd z h2
 ·rw[if_neg h1,decide_eq_true_eq]
  constructor
  ·exact fun z=>.inl z
  ·rintro(z | ⟨z,_⟩)
   ·exact z
   ·exact absurd z h1
theorem Adi{x y z:T3}(h1:lt3 x y=true)(h2:lt3 y z=true):lt3 x z=true:=by
 rw[Ux] at *
 rcases h1 with a | ⟨a,b | ⟨b,c⟩⟩
 ·rcases h2 with a' | ⟨a',_⟩
  ·exact .inl (by omega)
  ·exact .inl (by omega)
 ·rcases h2 with a' | ⟨a',b' | ⟨b',_⟩⟩
  ·exact .inl (by omega)
  ·exact .inr ⟨by omega,.inl (by omega)⟩
  ·exact .inr ⟨by omega,.inl (by omega)⟩
 ·rcases h2 with a' | ⟨a',b' | ⟨b',c'⟩⟩
  ·exact .inl (by omega)
  ·exact .inr ⟨by omega,.inl (by omega)⟩
  ·exact .inr ⟨by omega,.inr ⟨by omega,List.lt_trans c c'⟩⟩
theorem Abl(x:T3):lt3 x x=false:=by
 cases h:lt3 x x with
 | false=>rfl
 | true =>
  rcases Ux.mp h with a | ⟨_,a | ⟨_,a⟩⟩
  ·omega
  ·omega
  ·exact absurd a (List.lt_irrefl _)
theorem AeC{x y:T3}(ne:x≠y):lt3 x y=!lt3 y x:=by
 cases h:lt3 x y with
 | true =>
  cases h':lt3 y x with
  | false=>rfl
  | true =>
   have:=Adi h h'
   rw[Abl] at this
   cases this
 | false =>
  cases h':lt3 y x with
  | true=>rfl
  | false =>
   exfalso
   have n1:¬_:=fun z=>by rw[Ux.mpr z] at h;cases h
   have n2:¬_:=fun z=>by rw[Ux.mpr z] at h';cases h'
   have e1:x.1=y.1:=by
    rcases Int.lt_trichotomy x.1 y.1 with c | c | c
    ·exact absurd (.inl c) n1
    ·exact c
    ·exact absurd (.inl c) n2
   have e2:x.2.1=y.2.1:=by
    rcases Int.lt_trichotomy x.2.1 y.2.1 with c | c | c
    ·exact absurd (.inr ⟨e1,.inl c⟩) n1
    ·exact c
    ·exact absurd (.inr ⟨e1.symm,.inl c⟩) n2
   have e3:x.2.2.cps.toList=y.2.2.cps.toList:=List.le_antisymm (List.not_lt.mp fun z=>n2 (.inr ⟨e1.symm,.inr ⟨e2.symm,z⟩⟩)) (List.not_lt.mp fun z=>n1 (.inr ⟨e1,.inr ⟨e2,z⟩⟩))
   apply ne
   obtain⟨a,b,⟨c⟩⟩:=x
   obtain⟨a',b',⟨c'⟩⟩:=y
   have e3:c=c':=Array.toList_inj.mp e3
   dsimp only at e1 e2
   rw[e1,e2,e3]
end
end SetW
open PySem PySem.W PySem.Calls PySem.Spec PyProof.Rows
namespace SetW
section
variable {prog:Program}{w:World}{A:Around}{E:Value→Shared→Prop}{s:Shared}
theorem Adj{a:Addr}{n:Nat}{vs:List Value}{P:PySem.Fin→Shared→Prop}(ho:s.heap.get? a=some (seqObj "list" vs.toArray n)) (h2:vs.length<2)
  (h:∀(h':Heap) (e:Nat),(∀ b o,b≠a→s.heap.get? b=some o→h'.get? b=some o)→s.heap.objs.size≤h'.objs.size→h'.get? a=some (seqObj "list" vs.toArray e)→P (.done (.ret .none)) { s with heap:=h' }) :
  wpAny (model prog w) A (Builtin.«list.sort» ⟨[.ref a],[]⟩) P E s:=by
 have s1:=Heap.SameBut.update s.heap a (Obj.mapSeq fun _=>(#[]:Array Value))
 obtain⟨e1,ho1⟩:∃ e1,(s.heap.update a (Obj.mapSeq fun _=>(#[]:Array Value))).get? a=some (seqObj "list" #[] e1):=⟨_,get?_update_seq ho fun _=>#[]⟩
 obtain⟨H,eH⟩:∃ H,H=((s.heap.update a (Obj.mapSeq fun _=>(#[]:Array Value))).push (seqObj "tuple" vs.toArray 0)).push (seqObj "list" #[] 0):=⟨_,rfl⟩
 have keep:∀ b o,b≠a→s.heap.get? b=some o→H.get? b=some o:=fun b o hb e=>by rw[eH];exact Heap.get?_push_of_some _ (Heap.get?_push_of_some _ ((s1.2 b hb).trans e))
 have hoH:H.get? a=some (seqObj "list" #[] e1):=by rw[eH];exact Heap.get?_push_of_some _ (Heap.get?_push_of_some _ ho1)
 have szH:s.heap.objs.size≤H.objs.size:=by
  rw[eH,Heap.size_push,Heap.size_push,Heap.size_update];omega
 rw[list_sort_plain]
 refine wpAny_bind (listItems_at ho rfl ?_)
 refine wpAny_bind (listUpdate_at ho rfl ?_ (by rw[AkB,sizeLine_eq];omega) (AkD _))
 refine wpAny_bind (seqEpoch_at ho1 rfl ?_)
 refine wpAny_bind (wpAny_newTuple ?_ (by show vs.length≤_;rw[sizeLine_eq];omega))
 refine wpAny_bind (wpAny_newList ?_ (AkD _))
 refine wpAny_holding ?_
 show wpAny (model prog w) A _ P E { s with heap:=((s.heap.update a (Obj.mapSeq fun _=>(#[]:Array Value))).push (seqObj "tuple" vs.toArray 0)).push (seqObj "list" #[] 0) }
 rw[← eH]
 dsimp only
 have hn2:vs.toArray.size<2:=by rw[AkB];omega
 rw[if_pos hn2,if_pos hn2]
 refine wpAny_bind (wpAny_pure (wpAny_bind (wpAny_pure ?_)))
 dsimp only
 have hout:(arrOf (SortSt.mk' general' (vs.toArray.zip vs.toArray) #[] 7 none)).map (·.2)=vs.toArray:=by
  show(vs.toArray.zip vs.toArray).map (·.2)=vs.toArray
  apply Array.toList_inj.mp
  rw[Array.toList_map,Array.toList_zip]
  exact List.map_snd_zip (Ak8 _)
 have hf:failedOf (SortSt.mk' general' (vs.toArray.zip vs.toArray) #[] 7 none)=none:=rfl
 rw[hout]
 have s2:=Heap.SameBut.update H a (Obj.mapSeq fun _=>vs.toArray)
 obtain⟨c2,hc2⟩:∃ c2,(H.update a (Obj.mapSeq fun _=>vs.toArray)).get? a=some (seqObj "list" vs.toArray c2):=⟨_,get?_update_seq hoH fun _=>vs.toArray⟩
 refine wpAny_bind (seqEpoch_at hoH rfl ?_)
 refine wpAny_bind (listUpdate_at hoH rfl ?_ (AkD _) (by rw[AkB,sizeLine_eq];omega))
 simp only [bne_self_eq_false,Ali,if_false]
 exact wpAny_pure (h _ c2 (fun b o hb e=>(s2.2 b hb).trans (keep b o hb e)) (by rw[Heap.size_update];exact szH) hc2)
theorem kat_tups{h:Heap}:∀{l:List (Addr × T3)},(∀ q∈l,TK prog w h (G6 q.2) q.1)→∃ fs:List Value,KatTups h (l.map fun q=>Value.ref q.1) fs∧fs.length=l.length∧∀ v∈fs,∃ i t,v=Value.int i t
 | [],_=>⟨[],KatTups.nil,rfl,fun v hv=>(by cases hv)⟩
 | q::l,hq=>by
  obtain⟨fs,h1,h2,h3⟩:=kat_tups (l:=l) fun z hz=>hq z (AkN _ hz)
  obtain⟨o,xs,n,ho,hc,hd,hi⟩:=hq q AkM
  obtain⟨t,u,v,e⟩:=Aax hi
  refine⟨.int q.2.1 t::fs,KatTups.cons ho hc hd ?_ h1,by rw[AkR,AkR,h2],fun z hz=>?_⟩
  ·rw[← Array.getElem?_toList,e];rfl
  ·rcases List.mem_cons.mp hz with e | e
   ·exact⟨_,_,e⟩
   ·exact h3 z e
theorem AeD{a:Addr}{n:Nat}{l:List (Addr × T3)}{P:PySem.Fin→Shared→Prop}(ho:s.heap.get? a=some (seqObj "list" (List.toArray (l.map fun q=>Value.ref q.1)) n)) (h64:l.length<64) (hT:∀ q∈l,TK prog w s.heap (G6 q.2) q.1) (nd:(l.map (·.2)).Nodup)
  (h:∀(h':Heap) (e:Nat) (l':List (Addr × T3)),(∀ b o,b≠a→s.heap.get? b=some o→h'.get? b=some o)→s.heap.objs.size≤h'.objs.size→l'.Perm l→l'.Pairwise (fun x y=>lt3 x.2 y.2=true)→h'.get? a=some (seqObj "list" (List.toArray (l'.map fun q=>Value.ref q.1)) e)→P (.done (.ret .none)) { s with heap:=h' }) :
  wpAny (model prog w) A (Builtin.«list.sort» ⟨[.ref a],[]⟩) P E s:=by
 have len:(l.map fun q=>Value.ref q.1).length=l.length:=AkA _
 by_cases h2:l.length<2
 ·refine Adj ho (by rw[len];exact h2) fun h' e k sz g=>h h' e l k sz (List.Perm.refl _) ?_ g
  match l,h2 with
  | [],_=>exact List.Pairwise.nil
  | [q],_=>exact List.pairwise_singleton _ _
  | _::_::_,z=>simp at z;omega
 ·have ne:∀ q∈l,q.1≠a:=fun q hq e=>by
   obtain⟨o,xs,n',q1,q2,q3,_⟩:=hT q hq
   rw[e,ho] at q1
   injection q1 with q1
   rw[← q1] at q2
   have q2:Value.type "list" = Value.type "tuple" := q2
   exact absurd q2 (by decide)
  have Wm:∀ h':Heap,(∀ b o,b≠a→s.heap.get? b=some o→h'.get? b=some o)→∀ q∈l,TK prog w h' (G6 q.2) q.1:=fun h' k q hq=>by
   obtain⟨o,xs,n',q1,r⟩:=hT q hq
   exact⟨o,xs,n',k _ _ (ne q hq) q1,r⟩
  obtain⟨d0⟩:Nonempty (Addr × T3):=⟨((0:Nat),(0:Int),(0:Int),⟨#[]⟩)⟩
  have at':∀ i,i<l.length→(l.map fun q=>Value.ref q.1).getD i Value.none=Value.ref (l.getD i d0).1:=fun i hi=>by simp[List.getD,hi]
  have mem:∀ i,i<l.length→l.getD i d0∈l:=fun i hi=>by simp[List.getD,hi]
  refine Xw (lt:=fun i j=>lt3 (l.getD i d0).2 (l.getD j d0).2) (κ:=tuples' true) ho (by rw[len];omega) (by rw[len];exact h64) (fun h' k Q hq=>?_) (fun h' k i j C hi hj nij hC=>?_) (fun i j k=>Adi) (fun i j hi hj nij=>?_) fun h' e q k sz Pq Uq g=>?_
  ·obtain⟨fs,f1,f2,f3⟩:=kat_tups (Wm h' k)
   refine kat_kind (T:=Value.type "int") f1 (by omega) (fun v hv=>?_) (by decide) hq
   obtain⟨i,t,rfl⟩:=f3 v hv
   exact fun A Q E s _ q=>wpAny_typeOf (typeIs_int s i t) q
  ·rw[len] at hi hj
   unfold kas_ask
   rw[at' i hi,at' j hj]
   exact Ag2 (Wm h' k _ (mem i hi)) (Wm h' k _ (mem j hj)) hC
  ·rw[len] at hi hj
   refine AeC fun e=>nij ?_
   have e1:(l.map (·.2))[i]?=some (l.getD i d0).2:=by simp[List.getD,hi]
   have e2:(l.map (·.2))[j]?=some (l.getD j d0).2:=by simp[List.getD,hj]
   exact(List.getElem?_inj (by rw[AkA];exact hi) nd).mp (by rw[e1,e2,e])
  ·rw[len] at Pq Uq
   have ql:∀ i∈q.toList,i<l.length:=fun i hi=>List.mem_range.mp (Pq.mem_iff.mp hi)
   refine h h' e (q.toList.map fun i=>l.getD i d0) k sz ?_ ?_ ?_
   ·refine(Pq.map _).trans (List.Perm.of_eq ?_)
    refine Al3 (by rw[AkA,AkC]) fun i h1 h2=>?_
    rw[Al4,AlW]
    simp[List.getD,h2]
   ·rw[AkX,Amx]
    intro i j hi hj hij
    have hs:=Pq.size
    rw[Array.length_toList] at hi hj
    have:=Uq i j hij (by rw[← hs];exact hj)
    simpa [Array.getD,hi,hj] using this
   ·rw[g,Alw]
    congr 2
    refine congrArg List.toArray (AlM fun i hi=>?_)
    rw[at' i (ql i hi)]
    rfl
end
end SetW
open PySem PySem.W PySem.Calls PySem.Spec PyProof.Rows
namespace SetW
section
variable {prog:Program}{w:World}{A:Around}{E:Value→Shared→Prop}{s:Shared}
theorem AbR{a:Addr}{o:Obj}{es:Array (Int × Value)}{ep:Nat}{t:SetTable}{kl:List (List KS)}(T:TS prog w s.heap o es ep t kl)(ho:s.heap.get? a=some o)(hh:A.handled=none)(h64:es.size<64)(h3:∀ ks∈kl,∃ x,ks=G6 x){Q:Value→Shared→Prop}
  (hQ:∀(h':Heap) d (tk l e:Nat) (out:List (Addr × T3)),(∀ b o,s.heap.get? b=some o→h'.get? b=some o)→s.heap.objs.size≤l→h'.get? l=some (seqObj "list" (List.toArray (out.map fun q=>Value.ref q.1)) e)→out.Pairwise (fun x y=>lt3 x.2 y.2=true) →
   (∀ q∈out,TK prog w s.heap (G6 q.2) q.1∧∃ e∈es.toList,e.2=.ref q.1)→(∀ x,G6 x∈kl↔x∈out.map (·.2))→out.length=es.size→Q (.ref l) { s with heap:=h',drawn:=d,toks:=tk }):wpAny (model prog w) A (call (.builtin "sorted") [.ref a]) Q E s:=by
 have klE:=Afp T.len T.el
 have ex:∀ e,e∈es.toList→∃ q:Addr × T3,e.2=.ref q.1∧TK prog w s.heap (G6 q.2) q.1∧kyT prog w s.heap e=G6 q.2:=fun e he=>by
  obtain⟨i,hi,rfl⟩:=AkW he
  obtain⟨ks,q1,a',q2,q3,q4⟩:=T.el i es.toList[i] (by rw[← Array.getElem?_toList,Ak9 hi])
  obtain⟨x,rfl⟩:=h3 ks (AkQ q1)
  exact⟨(a',x),q2,q3,Aav ⟨a',q2,q3,q4⟩⟩
 classical
 obtain⟨f,hf⟩:∃ f:Int × Value→Addr × T3,∀ e,e∈es.toList→e.2=.ref (f e).1∧TK prog w s.heap (G6 (f e).2) (f e).1∧kyT prog w s.heap e=G6 (f e).2 :=
  ⟨fun e=>if h:e∈es.toList then Classical.choose (ex e h) else ((0:Nat),(0:Int),(0:Int),⟨#[]⟩),fun e he=>by dsimp only;rw[dif_pos he];exact Classical.choose_spec (ex e he)⟩
 refine Calls.call_function_entry kind_sorted plain_sorted entry_sorted (args_sorted1 _) ?_
 unfold Builtin.«sorted»
 refine wpAny_bind (m:=checkCount "sorted" 1 1 _) (wpAny_pure (wpAny_bind (Aew (A:=A.in1) T.wk ho hh (by rw[sizeLine_eq];omega) fun xl s' hxp k hg hos hz=>?_)))
 obtain⟨h',g',d',tk',os'⟩:=s'
 dsimp only at k hg hos hz
 subst hg hos
 have Agq:xl.length=es.size:=by rw[hxp.length_eq,Array.length_toList]
 have mx:∀ e∈xl,e∈es.toList:=fun e he=>hxp.mem_iff.mp he
 have Ajk:xl.map (·.2)=(xl.map f).map fun q=>Value.ref q.1:=by
  rw[Alw]
  exact AlM fun e he=>(hf e (mx e he)).1
 have Ag3:xl.map (kyT prog w s.heap)=((xl.map f).map (·.2)).map G6:=by
  rw[Alw,Alw]
  exact AlM fun e he=>(hf e (mx e he)).2.2
 have nd:((xl.map f).map (·.2)).Nodup:=by
  have n1:(xl.map (kyT prog w s.heap)).Nodup:=(hxp.map _).nodup_iff.mpr (by rw[← klE];exact T.nd)
  rw[Ag3,List.Nodup,AkX] at n1
  exact n1.imp fun h e=>h (by rw[e])
 have hT:∀ q∈xl.map f,TK prog w s.heap (G6 q.2) q.1∧∃ e∈es.toList,e.2=.ref q.1:=fun q hq=>by
  obtain⟨e,he,rfl⟩:=List.mem_map.mp hq
  exact⟨(hf e (mx e he)).2.1,e,mx e he,(hf e (mx e he)).1⟩
 rw[Ajk]
 obtain⟨l0,el0⟩:∃ l0,l0=xl.map f:=⟨_,rfl⟩
 rw[← el0] at nd hT Ag3 ⊢
 have len0:l0.length=es.size:=by rw[el0,AkA,Agq]
 have hoL:(h'.push (seqObj "list" (List.toArray (l0.map fun q=>Value.ref q.1)) 0)).get? h'.objs.size=some (seqObj "list" (List.toArray (l0.map fun q=>Value.ref q.1)) 0):=Heap.get?_push_size _ rfl
 have kp:∀ b ob,s.heap.get? b=some ob→(h'.push (seqObj "list" (List.toArray (l0.map fun q=>Value.ref q.1)) 0)).get? b=some ob:=fun b ob e=>Heap.get?_push_of_some _ (k _ _ e)
 refine wpAny_bind (wpAny_newList (hsz:=by rw[AkA,len0,sizeLine_eq];omega) ?_)
 show wpAny _ _ _ _ _ { s with heap:=h'.push (seqObj "list" (List.toArray (l0.map fun q=>Value.ref q.1)) 0),drawn:=d',toks:=tk' }
 refine wpAny_bind (wpAny_holding (wpAny_call_entry slot_list_sort ⟨_,hoL,rfl⟩ entry_list_sort (AeD (s:={ s with heap:=h'.push (seqObj "list" (List.toArray (l0.map fun q=>Value.ref q.1)) 0),drawn:=d',toks:=tk' }) hoL (by rw[len0];exact h64) (fun q hq=>?_) nd fun h2 e l' k2 sz2 P2 U2 g2=>⟨_,rfl,wpAny_pure ⟨_,rfl,?_⟩⟩) (args_list_sort _)))
 ·obtain⟨o',its,n',q1,r⟩:=(hT q hq).1
  exact⟨o',its,n',kp _ _ q1,r⟩
 ·refine hQ h2 d' tk' h'.objs.size e l' (fun b ob eb=>?_) hz g2 U2 (fun q hq=>hT q (P2.mem_iff.mp hq)) (fun x=>?_) (by rw[P2.length_eq,len0])
  ·exact k2 _ _ (AkF (Heap.lt_size (k _ _ eb))) (kp _ _ eb)
  ·rw[(P2.map (·.2)).mem_iff,klE,← (hxp.map (kyT prog w s.heap)).mem_iff,Ag3]
   constructor
   ·intro h
    obtain⟨y,hy,e⟩:=List.mem_map.mp h
    rw[← Vi e];exact hy
   ·exact fun h=>List.mem_map.mpr ⟨x,h,rfl⟩
end
end SetW
open PySem PySem.Spec PyProof.Rows
section
variable {X:Cx}{K:PySem.W.Frag}{p1 p2 pos1 pos2:Pos}{e:Expr}{te:TE}
def v3 (x:SetW.T3):List V:=[.int x.1,.int x.2.1,.str x.2.2]
theorem Inv.tk{pins:List (Addr × Obj)}{σ:St}{H:Hp}{s:Shared}(I:Inv X pins σ H s){a:Addr}{x:SetW.T3}(h:SqT X.K H a (v3 x))(prog:Program)(w:World):SetW.TK prog w s.heap (SetW.G6 x) a:=by
 obtain⟨its,r,⟨o,ho,hc,n,hd⟩,_⟩:=I.tuple h
 refine⟨o,its.toArray,n,ho,hc,hd,?_⟩
 unfold v3 at r
 cases r with
 | cons r1 r =>
  cases r with
  | cons r2 r =>
   cases r with
   | cons r3 r =>
    cases r
    obtain⟨t1,rfl⟩:=r1
    obtain⟨t2,rfl⟩:=r2
    obtain⟨t3,rfl⟩:=r3
    have k1:(SetW.BW prog w).is (.inl x.1) (.int x.1 t1)=true:=intKind_is prog w x.1 t1
    have k2:(SetW.BW prog w).is (.inl x.2.1) (.int x.2.1 t2)=true:=intKind_is prog w x.2.1 t2
    have k3:(SetW.BW prog w).is (.inr x.2.2) (.str x.2.2 t3)=true:=strKind_is prog w x.2.2 t3
    exact .cons k1 (.cons k2 (.cons k3 .nil))
def AbS (K:PySem.W.Frag)(te:TE):TE:=fun σ H Q=>te σ H fun x H1=>∃(a:Addr) (l:List (Addr × SetW.T3)),x=.ref a∧SqL K H1 a (l.map fun q=>V.ref q.1)∧(∀ q∈l,SqT K H1 q.1 (v3 q.2))∧(∀ ds:List SetW.T3,ds.Nodup→(∀ z∈ds,z∈l.map (·.2))→ds.length<64) ∧
 ∀(b:Addr) (l':List (Addr × SetW.T3)),(∀ q∈l',q∈l)→l'.Pairwise (fun x y=>SetW.lt3 x.2 y.2=true)→(∀ z,z∈l'.map (·.2)↔z∈l.map (·.2))→H1 b=none→Q (.ref b) (upd H1 b (.lst (l'.map fun q=>V.ref q.1)))
theorem Zq(hg1:Gl X "sorted") (hm1:X.mg "sorted" = none) (hg2:Gl X "set") (hm2:X.mg "set" = none) (hu:X.A.units+100<cLine) (he:PE X e te) (hK:X.K=K:=by rfl) (hc:X.calm=true:=by rfl)
  (hs2:starEach [e] X.env=(false,eval e X.env)::starEach [] X.env:=by rfl)
  (hs1:starEach [.Call (.Name "set" p2) [e] [] pos2] X.env=(false,eval (.Call (.Name "set" p2) [e] [] pos2) X.env)::starEach [] X.env:=by rfl)
  (hq1:(backTo pos1 (starEach [] X.env)).any (·.1)=false:=by rfl) (hq2:(backTo pos2 (starEach [] X.env)).any (·.1)=false:=by rfl) :
  PE X (.Call (.Name "sorted" p1) [.Call (.Name "set" p2) [e] [] pos2] [] pos1) (AbS K te):=by
 subst hK
 intro pins s σ H Q I h
 have hsz:sizeLine=16777216:=sizeLine_eq
 refine wpAny_Call_Name_kw (HY I hg1 hm1 O8 ?_ (by decide) (by decide))
 refine PyProof.Rows.callWith_builtin1 ?_ hs1 hq1
 rw[hs1]
 show wpAny _ _ (spliced ((false,eval (.Call (.Name "set" p2) [e] [] pos2) X.env)::backTo pos1 (starEach [] X.env))) _ _ s
 refine Calls.spliced_cons ?_
 refine wpAny_Call_Name_kw (HY I hg2 hm2 AfX ?_ (by decide) (by decide))
 refine PyProof.Rows.callWith_type1 ?_ hs2 hq2
 rw[hs2]
 show wpAny _ _ (spliced ((false,eval e X.env)::backTo pos2 (starEach [] X.env))) _ _ s
 refine Calls.spliced_cons (thn (he pins s σ H _ I h) fun u s1 ⟨x,H1,I1,r1,a,l,ex,hq,ht,h64,q⟩=>?_)
 subst ex
 cases r1
 refine Calls.spliced_nil ?_
 obtain⟨its,r,pl,hz⟩:=I1.list hq
 have hlen:its.length=l.length:=by have:=r.length;rw[AkA] at this;omega
 obtain⟨d0⟩:Nonempty (Addr × SetW.T3):=⟨((0:Nat),(0:Int),(0:Int),⟨#[]⟩)⟩
 have lg:∀ i,i<l.length→l[i]?=some (l.getD i d0):=fun i hi=>by simp[List.getD,hi]
 have mem:∀ i,i<l.length→l.getD i d0∈l:=fun i hi=>AkQ (lg i hi)
 have hi:∀(i:Nat) (v:Value),its.toArray[i]?=some v→v=.ref (l.getD i d0).1:=fun i v hv=>by
  have hv':its[i]?=some v:=by simpa using hv
  have hil:i<l.length:=by rw[← hlen];exact(List.getElem?_eq_some_iff.mp hv').1
  obtain⟨u,e1,e2⟩:=r.get (i:=i) (x:=V.ref (l.getD i d0).1) (by rw[AkG,lg i hil];rfl)
  rw[hv'] at e1
  injection e1 with e1
  rw[e1]
  exact e2
 have hsz2:its.toArray.size=l.length:=by rw[AkB,hlen]
 have l64:∀ L:List (List SetW.KS),L.Nodup→(∀ z∈L,∃ j,j<its.toArray.size∧SetW.G6 (l.getD j d0).2=z)→L.length<64:=fun L nL hL=>by
  have ex:∀ z∈L,∃ x:SetW.T3,SetW.G6 x=z∧x∈l.map (·.2):=fun z hz=>by
   obtain⟨j,hj,e⟩:=hL z hz
   exact⟨_,e,List.mem_map.mpr ⟨_,mem j (by rw[← hsz2];exact hj),rfl⟩⟩
  have:∃ ds:List SetW.T3,ds.map SetW.G6=L∧∀ x∈ds,x∈l.map (·.2):=by
   clear nL hL
   induction L with
   | nil=>exact⟨[],rfl,fun x hx=>by cases hx⟩
   | cons z L ih =>
    obtain⟨ds,d1,d2⟩:=ih fun y hy=>ex y (AkN _ hy)
    obtain⟨x,x1,x2⟩:=ex z AkM
    exact⟨x::ds,by rw[AkT,d1,x1],fun y hy=>(List.mem_cons.mp hy).elim (fun e=>by rw[e];exact x2) (d2 y)⟩
  obtain⟨ds,d1,d2⟩:=this
  rw[← d1,AkA]
  refine h64 ds ?_ d2
  rw[← d1,List.Nodup,AkX] at nL
  exact nL.imp fun h e=>h (by rw[e])
 refine SetW.Ae8 (items:=its.toArray) (val:=fun i=>(l.getD i d0).1) (key:=fun i=>SetW.G6 (l.getD i d0).2) (I.ok.hd hc) hu pl.isList hi (fun j hj=>I1.tk (ht _ (mem j (by rw[← hsz2];exact hj))) _ _) l64 fun h' tk o es ep t kl go gT gm gp gk=>?_
 refine Calls.spliced_nil ?_
 have e64:es.size<64:=by
  rw[← gT.len]
  exact l64 kl gT.nd fun z hz=>(gm z).mp hz
 refine SetW.AbR (s:={ s1 with heap:=h',toks:=tk }) gT go (I.ok.hd hc) e64 (fun ks hks=>?_) fun h2 d tk2 b ep2 out k2 hl2 hg2 hU hT hM hL=>?_
 ·obtain⟨j,_,e⟩:=(gm ks).mp hks
  exact⟨_,e.symm⟩
 ·have hb1:s1.heap.objs.size≤b:=Al8 (AkK (Heap.lt_size go) hl2)
  have sub:∀ q∈out,q∈l:=fun q hq=>by
   obtain⟨q1,e,he,e2⟩:=hT q hq
   obtain⟨j,hj,ej⟩:=gp e he
   rw[hsz2] at hj
   rw[e2] at ej
   injection ej with ej
   have tk1:=I1.tk (ht _ (mem j hj)) X.prog X.w
   have AhK:SetW.TK X.prog X.w h' (SetW.G6 (l.getD j d0).2) (l.getD j d0).1:=by
    obtain⟨o',xs',n',z1,z2⟩:=tk1
    exact⟨o',xs',n',gk _ _ z1,z2⟩
   rw[← ej] at AhK
   have:=SetW.Vi (IsTupleKey.inj q1 AhK)
   have e3:q=l.getD j d0:=by
    obtain⟨qa,qx⟩:=q
    exact Prod.ext ej this
   rw[e3];exact mem j hj
  have same:∀ z,z∈out.map (·.2)↔z∈l.map (·.2):=fun z=>by
   rw[← hM z,gm]
   constructor
   ·rintro⟨j,hj,e⟩
    rw[hsz2] at hj
    rw[← SetW.Vi e]
    exact List.mem_map.mpr ⟨_,mem j hj,rfl⟩
   ·intro hz
    obtain⟨q,hq,e⟩:=List.mem_map.mp hz
    obtain⟨j,hj,ej⟩:=AkW hq
    refine⟨j,by rw[hsz2];exact hj,?_⟩
    have:l.getD j d0=q:=by rw[← ej];simp[List.getD,hj]
    show SetW.G6 (l.getD j d0).2=SetW.G6 z
    rw[this,e]
  refine⟨.ref b,_,(I1.laid (t':=tk2) (h':=h2) (a:=b) (o:=.lst (out.map fun q=>V.ref q.1)) (fun c u e=>k2 _ _ (gk _ _ e)) hb1 ?_).drew,rfl,q b out sub hU same (I1.hok.fresh hb1)⟩
  refine⟨by rw[AkA,hL];omega,out.map fun q=>Value.ref q.1,ep2,?_,?_⟩
  ·clear hg2 hU hT hM hL sub same
   induction out with
   | nil=>exact .nil
   | cons q out ih=>exact .cons rfl ih
  ·rw[hg2]
end
open PySem PySem.Spec PyProof.Rows
inductive Ho (K:PySem.W.Frag) (H:Hp):V→V→Bool→Prop
 | tup {a b:Addr} {xs ys:List V}:SqT K H a xs→SqT K H b ys→xs.all Ea=true→ys.all Ea=true→Ho K H (.ref a) (.ref b) (eqL xs ys)
 | lst {a b:Addr} {xs ys:List V}:SqL K H a xs→SqL K H b ys→xs.all Ea=true→ys.all Ea=true→Ho K H (.ref a) (.ref b) (eqL xs ys)
 | flat {x y:V}:Ea x=true→Ea y=true→Ho K H x y (eqV x y)
section
variable {X:Cx}{K:PySem.W.Frag}{pins:List (Addr × Obj)}{σ:St}{H:Hp}{s:Shared}
theorem Zr{x:V}{a:Addr}(h:Ea x=true)(r:RelV x (.ref a)):False:=by
 cases x with
 | non=>cases r
 | bl b=>cases r
 | int i=>obtain⟨t,e⟩:=r;cases e
 | str z=>obtain⟨t,e⟩:=r;cases e
 | ref a=>cases h
 | byt b=>cases h
 | flt b=>cases h
 | ty n=>cases h
theorem Ho.uniq(I:Inv X pins σ H s){x y:V}{b c:Bool}(h:Ho X.K H x y b)(h':Ho X.K H x y c):b=c:=by
 cases h with
 | tup h1 h2 f1 f2 =>
  cases h' with
  | tup g1 g2 _ _=>rw[I.S7 h1 g1,I.S7 h2 g2]
  | lst g1 g2 _ _ =>
   obtain⟨_,_,⟨o,e,c,_⟩,_⟩:=I.tuple h1
   obtain⟨_,_,⟨o',_,e',c',_⟩,_⟩:=I.list g1
   rw[e] at e'
   cases e'
   rw[c] at c'
   exact absurd c' (by decide)
  | flat g1 _=>cases g1
 | lst h1 h2 f1 f2 =>
  cases h' with
  | lst g1 g2 _ _=>rw[I.Ia h1 g1,I.Ia h2 g2]
  | tup g1 g2 _ _ =>
   obtain⟨_,_,⟨o,e,c,_⟩,_⟩:=I.tuple g1
   obtain⟨_,_,⟨o',_,e',c',_⟩,_⟩:=I.list h1
   rw[e] at e'
   cases e'
   rw[c] at c'
   exact absurd c' (by decide)
  | flat g1 _=>cases g1
 | flat f1 f2 =>
  cases h' with
  | tup _ _ _ _=>cases f1
  | lst _ _ _ _=>cases f1
  | flat _ _=>rfl
theorem Zt{A:Around}{xs ys:List V}{its its2:List Value}(r:Vals xs its)(r2:Vals ys its2)(fx:xs.all Ea=true)(fy:ys.all Ea=true)(j:Nat)(h1:j<its.toArray.size)(h2:j<its2.toArray.size) :
  SeqAt.EqAt A s its.toArray[j] its2.toArray[j] (eqV (xs.getD j .non) (ys.getD j .non)):=by
 have l1:=r.length
 have l2:=r2.length
 have j1:j<xs.length:=by simp only [AkB] at h1;omega
 have j2:j<ys.length:=by simp only [AkB] at h2;omega
 obtain⟨w1,e1,q1⟩:=r.get (i:=j) (x:=xs[j]) (by simp[j1])
 obtain⟨w2,e2,q2⟩:=r2.get (i:=j) (x:=ys[j]) (by simp[j2])
 have g1:its.toArray[j]=w1:=by
  have:its.toArray[j]?=some w1:=by simpa using e1
  exact Option.some.inj ((Array.getElem?_eq_getElem h1).symm.trans this)
 have g2:its2.toArray[j]=w2:=by
  have:its2.toArray[j]?=some w2:=by simpa using e2
  exact Option.some.inj ((Array.getElem?_eq_getElem h2).symm.trans this)
 rw[g1,g2]
 have d1:xs.getD j .non=xs[j]:=by simp[List.getD,j1]
 have d2:ys.getD j .non=ys[j]:=by simp[List.getD,j2]
 rw[d1,d2]
 exact ZZ q1 q2 (List.all_eq_true.mp fx _ (AkI j1)) (List.all_eq_true.mp fy _ (AkI j2))
theorem Zu{A:Around}(I:Inv X pins σ H s){x y:V}{b:Bool}{v u:Value}(c:Ho X.K H x y b)(rx:RelV x v)(ry:RelV y u)(hu:A.units<cLine):SeqAt.EqAt A s v u b:=by
 cases c with
 | flat f1 f2=>exact ZZ rx ry f1 f2
 | @tup a b xs ys h1 h2 f1 f2 =>
  cases rx
  cases ry
  by_cases e:a=b
  ·subst e
   rw[I.S7 h1 h2,QX f2]
   exact SeqAt.EqAt.same _
  ·refine SeqAt.EqAt.of_refs e ?_
   obtain⟨its,r,pl,_⟩:=I.tuple h1
   obtain⟨its2,r2,pl2,_⟩:=I.tuple h2
   have l1:=r.length
   have l2:=r2.length
   have key:=SeqAt.RcAt.tuples (A:=A) (s:=s) (e:=fun j=>eqV (xs.getD j .non) (ys.getD j .non)) pl pl2 hu (fun j h1 h2=>Zt r r2 f1 f2 j h1 h2)
   have e1:((List.range (min its.toArray.size its2.toArray.size)).all (fun j=>eqV (xs.getD j .non) (ys.getD j .non)) && its.toArray.size == its2.toArray.size)=eqL xs ys:=by
    simp only [AkB]
    rw[← l1,← l2]
    by_cases hl:xs.length=ys.length
    ·rw[← hl,Aml,SN hl]
     simp
    ·have:(xs.length == ys.length)=false:=by simp[hl]
     rw[this,Bool.and_false,WT hl]
   rw[e1] at key
   exact key
 | @lst a b xs ys h1 h2 f1 f2 =>
  cases rx
  cases ry
  by_cases e:a=b
  ·subst e
   rw[I.Ia h1 h2,QX f2]
   exact SeqAt.EqAt.same _
  ·refine SeqAt.EqAt.of_refs e ?_
   obtain⟨its,r,pl,_⟩:=I.list h1
   obtain⟨its2,r2,pl2,_⟩:=I.list h2
   have l1:=r.length
   have l2:=r2.length
   by_cases hl:xs.length=ys.length
   ·have key:=SeqAt.RcAt.lists (A:=A) (s:=s) (e:=fun j=>eqV (xs.getD j .non) (ys.getD j .non)) pl.isList pl2.isList (by simp only [AkB];omega) hu (fun j h1 h2=>Zt r r2 f1 f2 j h1 h2)
    rw[AkB,← l1,SN hl] at key
    exact key
   ·have key:=SeqAt.RcAt.lists_lengths (A:=A) (s:=s) pl.isList pl2.isList (by simp only [AkB,bne_iff_ne];omega) hu
    rw[WT hl]
    exact key
theorem AeE{x y:V}{u:Value}(h:RelV x u)(h':RelV y u)(fx:Ea x=true∨∃ a,x=.ref a)(fy:Ea y=true∨∃ a,y=.ref a):x=y:=by
 rcases fx with fx | ⟨a,rfl⟩
 ·rcases fy with fy | ⟨b,rfl⟩
  ·cases x with
   | non =>
    cases h
    cases y with
    | non=>rfl
    | bl b=>cases h'
    | int i=>obtain⟨t,e⟩:=h';cases e
    | str z=>obtain⟨t,e⟩:=h';cases e
    | _=>cases fy
   | bl b =>
    cases h
    cases y with
    | non=>cases h'
    | bl c=>cases h';rfl
    | int i=>obtain⟨t,e⟩:=h';cases e
    | str z=>obtain⟨t,e⟩:=h';cases e
    | _=>cases fy
   | int i =>
    obtain⟨t,rfl⟩:=h
    cases y with
    | non=>cases h'
    | bl c=>cases h'
    | int j=>obtain⟨t,e⟩:=h';cases e;rfl
    | str z=>obtain⟨t,e⟩:=h';cases e
    | _=>cases fy
   | str z =>
    obtain⟨t,rfl⟩:=h
    cases y with
    | non=>cases h'
    | bl c=>cases h'
    | int j=>obtain⟨t,e⟩:=h';cases e
    | str z=>obtain⟨t,e⟩:=h';cases e;rfl
    | _=>cases fy
   | _=>cases fx
  ·cases h'
   exact absurd (Zr fx h) id
 ·rcases fy with fy | ⟨b,rfl⟩
  ·cases h
   exact absurd (Zr fy h') id
  ·cases h
   cases h'
   rfl
theorem Ho.left{K:PySem.W.Frag}{H:Hp}{x y:V}{b:Bool}(h:Ho K H x y b):Ea x=true∨∃ a,x=.ref a:=by
 cases h with
 | tup _ _ _ _=>exact .inr ⟨_,rfl⟩
 | lst _ _ _ _=>exact .inr ⟨_,rfl⟩
 | flat h _=>exact .inl h
theorem Abm{xs:List V}{us:List Value}(r:Vals xs us){j:Nat}{u:Value}(h:us[j]?=some u):∃ x,xs[j]?=some x∧RelV x u:=by
 have hj:=(List.getElem?_eq_some_iff.mp h).1
 have l:=r.length
 have hx:j<xs.length:=by omega
 obtain⟨u',e,q⟩:=r.get (Ak9 hx)
 rw[h] at e
 cases e
 exact⟨xs[j],Ak9 hx,q⟩
def AhL (K:PySem.W.Frag)(no:Bool):R2:=fun x y H Q=>∃(q:Addr) (xs:List V),y=.ref q∧SqL K H q xs ∧
 (((∀(i:Nat) (z:V),xs[i]?=some z→∃ b,Ho K H z x b)∧(∃(i:Nat) (z:V),xs[i]?=some z∧Ho K H z x true)∧Q (.bl (!no)) H)∨((∀(i:Nat) (z:V),xs[i]?=some z→Ho K H z x false)∧Q (.bl no) H))
open Classical in
theorem Xx(hu:X.A.units+100<cLine)(I:Inv X pins σ H s){x:V}{v:Value}{q:Addr}{xs:List V}{its:List Value}(rx:RelV x v)(r:Vals xs its)
  (h:((∀(i:Nat) (z:V),xs[i]?=some z→∃ b,Ho X.K H z x b)∧∃(i:Nat) (z:V),xs[i]?=some z∧Ho X.K H z x true)∨∀(i:Nat) (z:V),xs[i]?=some z→Ho X.K H z x false) :
  ∃ e:Value→Bool,(∀ y,y∈its.toArray→SeqAt.EqAt X.A.in1 s y v (e y))∧((∃(i:Nat) (z:V),xs[i]?=some z∧Ho X.K H z x true)→its.toArray.any e=true)∧((∀(i:Nat) (z:V),xs[i]?=some z→Ho X.K H z x false)→its.toArray.any e=false):=by
 have hu1:X.A.in1.units<cLine:=by show X.A.units+1<cLine;omega
 rcases h with ⟨hall,i,z,hz,hc⟩ | hall
 ·refine⟨fun w=>decide (∃(i:Nat) (z:V),xs[i]?=some z∧RelV z w∧Ho X.K H z x true),fun y hy=>?_,fun _=>?_,fun hn=>?_⟩
  ·have hy:y∈its:=by simpa using hy
   obtain⟨j,hj⟩:=Ame hy
   obtain⟨a,ha,ra⟩:=Abm r hj
   obtain⟨b,cb⟩:=hall j a ha
   have e:b=decide (∃(i:Nat) (z:V),xs[i]?=some z∧RelV z y∧Ho X.K H z x true):=by
    cases b with
    | true=>exact(decide_eq_true ⟨j,a,ha,ra,cb⟩).symm
    | false =>
     symm
     refine decide_eq_false fun⟨i',z',_,rz,cz⟩=>?_
     have:=AeE ra rz cb.left cz.left
     subst this
     exact absurd (cb.uniq I cz) AkL
   show SeqAt.EqAt X.A.in1 s y v (decide _)
   rw[← e]
   exact Zu I cb ra rx hu1
  ·obtain⟨u,hu',ru⟩:=r.get hz
   rw[show its.toArray.any (fun w=>decide (∃(i:Nat) (z:V),xs[i]?=some z∧RelV z w∧Ho X.K H z x true))=its.any (fun w=>decide (∃(i:Nat) (z:V),xs[i]?=some z∧RelV z w∧Ho X.K H z x true)) by simp,List.any_eq_true]
   exact⟨u,AkQ hu',decide_eq_true ⟨i,z,hz,ru,hc⟩⟩
  ·exact absurd ((hn i z hz).uniq I hc) AkL
 ·refine⟨fun _=>false,fun y hy=>?_,fun⟨i,z,hz,hc⟩=>absurd ((hall i z hz).uniq I hc) AkL,fun _=>by simp⟩
  have hy:y∈its:=by simpa using hy
  obtain⟨j,hj⟩:=Ame hy
  obtain⟨a,ha,ra⟩:=Abm r hj
  exact Zu I (hall j a ha) ra rx hu1
theorem Ag4(hu:X.A.units+100<cLine)(hK:X.K=K:=by rfl):OpR X (compareOp .In) (AhL K false):=by
 subst hK
 intro pins s σ H x y v u Q I rx ry h
 obtain⟨q,xs,rfl,hq,h⟩:=h
 cases ry
 obtain⟨its,r,pl,hz⟩:=I.list hq
 rcases h with ⟨h1,h2,k⟩ | ⟨h1,k⟩
 ·obtain⟨e,he,a1,_⟩:=Xx (q:=q) hu I rx r (.inl ⟨h1,h2⟩)
  exact SeqAt.in_listAt e pl.isList he ⟨.bl true,H,I,by rw[a1 h2];rfl,k⟩
 ·obtain⟨e,he,_,a2⟩:=Xx (q:=q) hu I rx r (.inr h1)
  exact SeqAt.in_listAt e pl.isList he ⟨.bl false,H,I,by rw[a2 h1];rfl,k⟩
theorem AbT(hu:X.A.units+100<cLine)(hK:X.K=K:=by rfl):OpR X (compareOp .NotIn) (AhL K true):=by
 subst hK
 intro pins s σ H x y v u Q I rx ry h
 obtain⟨q,xs,rfl,hq,h⟩:=h
 cases ry
 obtain⟨its,r,pl,hz⟩:=I.list hq
 rcases h with ⟨h1,h2,k⟩ | ⟨h1,k⟩
 ·obtain⟨e,he,a1,_⟩:=Xx (q:=q) hu I rx r (.inl ⟨h1,h2⟩)
  exact SeqAt.notIn_listAt e pl.isList he ⟨.bl false,H,I,by rw[a1 h2];rfl,k⟩
 ·obtain⟨e,he,_,a2⟩:=Xx (q:=q) hu I rx r (.inr h1)
  exact SeqAt.notIn_listAt e pl.isList he ⟨.bl true,H,I,by rw[a2 h1];rfl,k⟩
def AjQ (K:PySem.W.Frag):V→List V→Hp→VK→Prop:=fun x vs H Q=>∃(l:Addr) (xs:List V) (v:V) (j:Nat),x=.ref l∧vs=[v]∧H l=some (.lst xs)∧j<xs.length∧xs.length≤1000 ∧
 (∀(i:Nat) (z:V),xs[i]?=some z→∃ b,Ho K H z v b∧(i<j→b=false)∧(i=j→b=true))∧Q (.int (j:Int)) H
end
end L2
namespace HT
open PySem PyProof.Rows L2
theorem Adk(A:Around)(s:Shared)(a:Str)(t:Tok)(c:Str)(u:Tok)(prog:Program)(w:World)(E:Value→Shared→Prop)(Q:Value→Shared→Prop)(h:Q (.bool (decide (a.cps.toList<c.cps.toList))) s) :
  wpAny (model prog w) A (richCompare .Lt (.str a t) (.str c u)) Q E s :=
 (PyProof.Rows.lt_str h:wpAny (model prog w) A (compareOp .Lt (.str a t) (.str c u)) Q E s)
theorem Adl(A:Around)(s:Shared)(a:Str)(t:Tok)(c:Str)(u:Tok):∃ e,SeqAt.EqAt A s (.str a t) (.str c u) e∧(e=true↔a=c) :=
 ⟨(a == c),SeqAt.EqAt.str_str a t c u,by simp⟩
section
open PySem.SeqAt
open PySem.AutoSeq1 (wpAny_loadPart')
open PySem.MeetsSeq PySem.MeetsSeq2 PySem.MeetsSeq3
theorem AbU(l b:Addr)(n n2:Nat)(dd dd2:Option Addr)(sl sl2:Array (Option Value))(x y:SetW.T3)(t1 t2 t3 u1 u2 u3:Tok) :
    Meets (Builtin.«tuple.__lt__» ⟨[.ref l,.ref b],[]⟩)
      (fun _ R s=>s.heap.get? l=some { cls:=.type "tuple", dict:=dd,data:=.seq #[.int x.1 t1,.int x.2.1 t2,.str x.2.2 t3] n,slots:=sl }∧s.heap.get? b=some { cls:=.type "tuple", dict:=dd2,data:=.seq #[.int y.1 u1,.int y.2.1 u2,.str y.2.2 u3] n2,slots:=sl2 } ∧
        R (.ok (.ret (.bool (SetW.lt3 x y)))) s) :=
  .of_wp fun prog w A R s h=>by
    obtain⟨hp,g,d,tk,os⟩:=s;obtain⟨hl,hb,h⟩:=h
    have f2:=AutoSeq1.sub_tuple_tuple
    wp_walk using wpAny_loadPart' hl,wpAny_loadPart' hb,wpAny_forIn_list _ (fun rest b s'=>b.1=none∧s'=⟨hp,g,d,tk,os⟩ ∧
      (rest=[(Value.int x.1 t1,Value.int y.1 u1),(.int x.2.1 t2,.int y.2.1 u2),(.str x.2.2 t3,.str y.2.2 u3)]∨(rest=[(Value.int x.2.1 t2,Value.int y.2.1 u2),(.str x.2.2 t3,.str y.2.2 u3)]∧x.1=y.1) ∨
       (rest=[(Value.str x.2.2 t3,Value.str y.2.2 u3)]∧x.1=y.1∧x.2.1=y.2.1)∨(rest=[]∧x.1=y.1∧x.2.1=y.2.1∧x.2.2=y.2.2))) _
    case turn =>
      rintro⟨p,q⟩ rest b s' ⟨hb',rfl,(hz | ⟨hz,e1⟩ | ⟨hz,e1,e2⟩ | ⟨hz,_⟩)⟩
      · injection hz with hyx hrest
        injection hyx with hy hx
        subst hy hx
        obtain⟨e,he,Aay⟩:=Y0 A.in1 ⟨hp,g,d,tk,os⟩ x.1 t1 y.1 u1
        refine wpAny_bind (he prog w _ _ ?_)
        cases e with
        | true =>
          wp_walk
          exact⟨rfl,rfl,.inr (.inl ⟨hrest,Aay.mp rfl⟩)⟩
        | false =>
          have ne:¬x.1=y.1:=fun q=>absurd (Aay.mpr q) AkL
          have hri:=Y4 A.in1 ⟨hp,g,d,tk,os⟩ x.1 t1 y.1 u1 prog w
          unfold SetW.lt3 at h
          rw[if_neg ne] at h
          wp_walk using hri
          exact⟨_,rfl,by simpa using h⟩
      · injection hz with hyx hrest
        injection hyx with hy hx
        subst hy hx
        obtain⟨e,he,Aay⟩:=Y0 A.in1 ⟨hp,g,d,tk,os⟩ x.2.1 t2 y.2.1 u2
        refine wpAny_bind (he prog w _ _ ?_)
        cases e with
        | true =>
          wp_walk
          exact⟨rfl,rfl,.inr (.inr (.inl ⟨hrest,e1,Aay.mp rfl⟩))⟩
        | false =>
          have ne:¬x.2.1=y.2.1:=fun q=>absurd (Aay.mpr q) AkL
          have hri:=Y4 A.in1 ⟨hp,g,d,tk,os⟩ x.2.1 t2 y.2.1 u2 prog w
          unfold SetW.lt3 at h
          rw[if_pos e1,if_neg ne] at h
          wp_walk using hri
          exact⟨_,rfl,by simpa using h⟩
      · injection hz with hyx hrest
        injection hyx with hy hx
        subst hy hx
        obtain⟨e,he,Aay⟩:=Adl A.in1 ⟨hp,g,d,tk,os⟩ x.2.2 t3 y.2.2 u3
        refine wpAny_bind (he prog w _ _ ?_)
        cases e with
        | true =>
          wp_walk
          exact⟨rfl,rfl,.inr (.inr (.inr ⟨hrest,e1,e2,Aay.mp rfl⟩))⟩
        | false =>
          have hri:=Adk A.in1 ⟨hp,g,d,tk,os⟩ x.2.2 t3 y.2.2 u3 prog w
          unfold SetW.lt3 at h
          rw[if_pos e1,if_pos e2] at h
          wp_walk using hri
          exact⟨_,rfl,by simpa using h⟩
      · cases hz
    case fin =>
      rintro⟨b1,b2⟩ s' ⟨hb',rfl,(hz | ⟨hz,e1⟩ | ⟨hz,e1,e2⟩ | ⟨_,e1,e2,e3⟩)⟩
      · cases hz
      · cases hz
      · cases hz
      · simp only at hb'
        subst hb'
        unfold SetW.lt3 at h
        rw[if_pos e1,if_pos e2,e3,decide_eq_false (List.lt_irrefl _)] at h
        wp_walk
        exact⟨_,rfl,by simpa [Builtin.Tuple.tupleCompareSizes] using h⟩
    case h =>
      exact⟨rfl,rfl,.inl rfl⟩
end
section
variable {prog:Program}{w:World}{A:Around}{E:Value→Shared→Prop}{s:Shared}
theorem AeF{l b:Addr}{x y:SetW.T3}{t1 t2 t3 u1 u2 u3:Tok}{Q:Value→Shared→Prop}(hl:IsTup s.heap l #[.int x.1 t1,.int x.2.1 t2,.str x.2.2 t3])(hb:IsTup s.heap b #[.int y.1 u1,.int y.2.1 u2,.str y.2.2 u3])
  (hu:A.units<cLine) (h:Q (.bool (SetW.lt3 x y)) s):wpAny (model prog w) A (compareOp .Lt (.ref l) (.ref b)) Q E s:=by
 obtain⟨⟨cls,dd,data,sl⟩,ho,hc,n,hd⟩:=id hl
 obtain⟨⟨cls2,dd2,data2,sl2⟩,ho2,hc2,n2,hd2⟩:=id hb
 simp only at hc hd hc2 hd2
 subst hc hd hc2 hd2
 exact richCompare_meets_room (op:=.Lt) ⟨_,ho,rfl⟩ ⟨_,ho2,rfl⟩ PySem.F.slot_tuple_lt PySem.F.entry_tuple_lt (PySem.F.args_tuple_lt_2 _ _) (AbU l b n n2 dd dd2 sl sl2 x y t1 t2 t3 u1 u2 u3)
  ⟨ho,ho2,show Value.bool (SetW.lt3 x y)≠Value.notImplemented∧Q (.bool (SetW.lt3 x y)) s from⟨(fun x=>nomatch x),h⟩⟩ hu
end
end HT
namespace L2
open PySem PySem.Spec PyProof.Rows
section
variable {X:Cx}{K:PySem.W.Frag}
def AhM (K:PySem.W.Frag):R2:=fun x y H Q=>∃(a b:Addr) (p q:SetW.T3),x=.ref a∧y=.ref b∧SqT K H a (v3 p)∧SqT K H b (v3 q)∧Q (.bl (SetW.lt3 p q)) H
theorem Abn{p:SetW.T3}{its:List Value}(r:Vals (v3 p) its):∃ t1 t2 t3,its=[.int p.1 t1,.int p.2.1 t2,.str p.2.2 t3]:=by
 unfold v3 at r
 cases r with
 | cons r1 r =>
  cases r with
  | cons r2 r =>
   cases r with
   | cons r3 r =>
    cases r
    obtain⟨t1,rfl⟩:=r1
    obtain⟨t2,rfl⟩:=r2
    obtain⟨t3,rfl⟩:=r3
    exact⟨_,_,_,rfl⟩
theorem AeG(hu:X.A.units<cLine)(hK:X.K=K:=by rfl):OpR X (compareOp .Lt) (AhM K):=by
 subst hK
 intro pins s σ H x y v u Q I rx ry h
 obtain⟨a,b,p,q,rfl,rfl,ha,hb,k⟩:=h
 cases rx
 cases ry
 obtain⟨its,r1,p1,_⟩:=I.tuple ha
 obtain⟨its2,r2,p2,_⟩:=I.tuple hb
 obtain⟨t1,t2,t3,rfl⟩:=Abn r1
 obtain⟨u1,u2,u3,rfl⟩:=Abn r2
 exact HT.AeF p1 p2 hu ⟨.bl (SetW.lt3 p q),H,I,rfl,k⟩
end
end L2
namespace Mine
open PySem L2
def mn2 (i j:Int):Int:=if j<i then j else i
def mx2 (i j:Int):Int:=if j>i then j else i
def sdW (k:Nat):Str:=if k%2=0 then "right" else "left"
def smA (th:List Int)(k:Nat):List SetW.T3:=if th.getD k 0=th.getD (k+1) 0 then [] else [(mn2 (th.getD k 0) (th.getD (k+1) 0),mx2 (th.getD k 0) (th.getD (k+1) 0),sdW k)]
def Qx (th:List Int)(k:Nat):List SetW.T3:=(List.range k).flatMap (smA th)
theorem Hq(th:List Int)(k:Nat):Qx th (k+1)=Qx th k++smA th k:=by
 unfold Qx
 rw[Aln,Amn]
 simp
theorem AeH(th:List Int)(k:Nat):(smA th k).length≤1:=by
 unfold smA
 split <;> simp
theorem Qy(th:List Int):∀ k,(Qx th k).length≤k
 | 0=>Ak8 _
 | k+1=>by
  rw[Hq,AkE]
  have:=Qy th k
  have:=AeH th k
  omega
def along(th:List Int):List SetW.T3:=Qx th (th.length-1)
theorem Wx(th:List Int):(along th).length≤th.length:=AkS (Qy _ _) (by omega)
def G4 (sh:List Int)(s:Int)(i:Nat):List Nat:=(List.range i).filter fun j=>decide (sh.getD j 0=s)
theorem AbV(sh:List Int)(s:Int)(i:Nat):G4 sh s (i+1)=G4 sh s i++(if sh.getD i 0=s then [i] else []):=by
 unfold G4
 rw[Aln,AlF]
 congr 1
 by_cases h:sh.getD i 0=s
 ·rw[if_pos h]
  exact List.filter_eq_self.mpr fun x hx=>by rw[List.mem_singleton.mp hx];exact decide_eq_true h
 ·rw[if_neg h]
  exact List.filter_eq_nil_iff.mpr fun x hx=>by rw[List.mem_singleton.mp hx,decide_eq_false h];decide
theorem Ri(sh:List Int)(s:Int)(i:Nat):(G4 sh s i).length≤i:=by
 have:=Amy (fun j=>decide (sh.getD j 0=s)) (List.range i)
 rw[AkC] at this
 exact this
theorem AeI{sh:List Int}{s:Int}{i j:Nat}(h:j∈G4 sh s i):j<i:=List.mem_range.mp (List.mem_filter.mp h).1
def Vj (ls sh:List Int)(s:Int):List Int:=(G4 sh s sh.length).map fun j=>ls.getD j 0
theorem Rj(ls sh:List Int)(s:Int):(Vj ls sh s).length=(G4 sh s sh.length).length:=AkA _
def JR (ls sh:List Int)(k:Nat):List SetW.T3:=(List.range k).flatMap fun s=>along (Vj ls sh ((s:Nat):Int))
theorem Ni(ls sh:List Int)(k:Nat):JR ls sh (k+1)=JR ls sh k++along (Vj ls sh (k:Int)):=by
 unfold JR
 rw[Aln,Amn]
 simp
theorem Zv{f:Nat→Int}{k:Nat}:∀ l:List Nat,(l.filter fun x=>decide (0≤f x∧f x<((k+1:Nat):Int))).length=(l.filter fun x=>decide (0≤f x∧f x<(k:Int))).length+(l.filter fun x=>decide (f x=(k:Int))).length
 | []=>rfl
 | x::l=>by
  have ih:=Zv (f:=f) (k:=k) l
  rw[AlY,AlY,AlY]
  by_cases h1:f x=(k:Int)
  ·rw[if_pos (decide_eq_true (by omega)),if_neg (by simp;omega),if_pos (decide_eq_true h1),AkR,AkR]
   omega
  ·by_cases h2:0≤f x∧f x<(k:Int)
   ·rw[if_pos (decide_eq_true (by omega)),if_pos (decide_eq_true h2),if_neg (by simp;omega),AkR,AkR]
    omega
   ·rw[if_neg (by simp;omega),if_neg (by simp;omega),if_neg (by simp;omega)]
    exact ih
theorem Vk(ls sh:List Int):∀ k,(JR ls sh k).length≤((List.range sh.length).filter fun x=>decide (0≤sh.getD x 0∧sh.getD x 0<(k:Int))).length
 | 0=>AkD _
 | k+1=>by
  rw[Ni,AkE,Zv (f:=fun x=>sh.getD x 0)]
  have h1:=Vk ls sh k
  have h2:=Wx (Vj ls sh (k:Int))
  rw[Rj] at h2
  unfold G4 at h2
  omega
theorem Lh(ls sh:List Int)(k:Nat):(JR ls sh k).length≤sh.length:=by
 have h1:=Vk ls sh k
 have h2:=Amy (fun x=>decide (0≤sh.getD x 0∧sh.getD x 0<(k:Int))) (List.range sh.length)
 rw[AkC] at h2
 omega
theorem Tp[DecidableEq α]:∀{ds l:List α},ds.Nodup→(∀ z∈ds,z∈l)→ds.length≤l.length
 | [],l,_,_=>AkD _
 | d::ds,l,nd,hs=>by
  have hd:=hs d AkM
  have n2:=List.nodup_cons.mp nd
  have:=Tp (ds:=ds) (l:=l.erase d) n2.2 fun z hz=>(Am0 (fun e:z=d=>n2.1 (by rw[← e];exact hz))).mpr (hs z (AkN _ hz))
  rw[Am1 hd] at this
  have:=Am2 hd
  rw[AkR]
  omega
def TT3 (H:Hp)(q:List (Addr × SetW.T3)):Prop:=∀ x∈q,H x.1=some (.tup (v3 x.2))
theorem TT3.same{H H':Hp}{q:List (Addr × SetW.T3)}(h:TT3 H q)(s:An H H'):TT3 H' q:=fun x hx=>s _ _ (h x hx)
theorem TT3.app{H:Hp}{q q':List (Addr × SetW.T3)}(h:TT3 H q)(h':TT3 H q'):TT3 H (q++q'):=fun x hx=>(List.mem_append.mp hx).elim (h x) (h' x)
def rf3 (q:List (Addr × SetW.T3)):List V:=q.map fun x=>V.ref x.1
theorem Xy(q q':List (Addr × SetW.T3)):rf3 (q++q')=rf3 q++rf3 q':=AkP
theorem Jc(q:List (Addr × SetW.T3)):(rf3 q).length=q.length:=AkA _
def top (i:Nat):Stmt:=PySem.Challenge.pw_heddle_k38_seams.main.body.getD i (.Pass ⟨0,0,0,0⟩)
abbrev Du:Stmt:=top 6
theorem Zw:Br ["cloth"] ["cloth"] (Ae Du):=⟨rfl,rfl,rfl,by decide +kernel,rfl,by decide +kernel,by decide +kernel⟩
abbrev Bg:Stmt:=top 7
theorem Gn:Br ["texts", "least", "signs", "ends", "text"] ["texts", "least", "signs"] (Ae Bg):=⟨rfl,rfl,rfl,by decide +kernel,rfl,by decide +kernel,by decide +kernel⟩
abbrev Ck:Stmt:=top 8
theorem Qa:Br ["text", "ends", "signs", "sign"] ["text", "ends", "signs"] (Ae Ck):=⟨rfl,rfl,rfl,by decide +kernel,rfl,by decide +kernel,by decide +kernel⟩
abbrev Cr:Stmt:=top 9
theorem Xz:Br ["cloth", "end"] ["cloth", "end"] (Ae Cr):=⟨rfl,rfl,rfl,by decide +kernel,rfl,by decide +kernel,by decide +kernel⟩
abbrev Cd:Stmt:=top 11
theorem Li:Br ["cloth", "size", "of_ends"] ["cloth"] (Ae Cd):=⟨rfl,rfl,rfl,by decide +kernel,rfl,by decide +kernel,by decide +kernel⟩
abbrev Ed:Stmt:=top 13
theorem DP:Br ["cloth", "size", "scores", "end_scores", "pick_scores", "tops", "ends", "picks", "crossings"] ["cloth"] (Ae Ed):=⟨rfl,rfl,rfl,by decide +kernel,rfl,by decide +kernel,by decide +kernel⟩
abbrev BL:Stmt:=top 14
theorem CJ:Br ["cloth", "size", "scores", "ends", "picks", "tops", "layers", "upper", "lower"] ["cloth"] (Ae BL):=⟨rfl,rfl,rfl,by decide +kernel,rfl,by decide +kernel,by decide +kernel⟩
abbrev Bc:Stmt:=top 15
theorem CZ:Br ["cloth", "layers", "numbers", "number", "layer", "strand"] ["cloth"] (Ae Bc):=⟨rfl,rfl,rfl,by decide +kernel,rfl,by decide +kernel,by decide +kernel⟩
abbrev Dc:Stmt:=top 18
theorem Gg:Br ["cloth", "shuttles", "size", "pick_layers", "seams", "shuttle", "thrown"] ["cloth", "shuttles"] (Ae Dc):=⟨rfl,rfl,rfl,by decide +kernel,rfl,by decide +kernel,by decide +kernel⟩
abbrev Bh:Stmt:=top 19
theorem Jd:Br ["shuttles", "picks", "shuttle"] ["shuttles", "picks"] (Ae Bh):=⟨rfl,rfl,rfl,by decide +kernel,rfl,by decide +kernel,by decide +kernel⟩
abbrev BX:Stmt:=top 20
theorem Gp:Br ["thrown", "seams", "k", "side"] ["thrown"] (Ae BX):=⟨rfl,rfl,rfl,by decide +kernel,rfl,by decide +kernel,by decide +kernel⟩
abbrev BZ:Stmt:=top 22
theorem Dd:Br ["script", "many", "found", "step", "k"] ["script", "many"] (Ae BZ):=⟨rfl,rfl,rfl,by decide +kernel,rfl,by decide +kernel,by decide +kernel⟩
abbrev CK:Stmt:=top 23
theorem DQ:Br ["numbers", "name", "wide", "high", "rows", "j", "row", "k", "at"] ["numbers", "name", "wide", "high"] (Ae CK):=⟨rfl,rfl,rfl,by decide +kernel,rfl,by decide +kernel,by decide +kernel⟩
abbrev Bx:Stmt:=top 24
theorem Dg:Br ["piece", "wide", "forth", "size", "seen", "turn", "j", "k", "along"] ["piece", "wide", "forth"] (Ae Bx):=⟨rfl,rfl,rfl,by decide +kernel,rfl,by decide +kernel,by decide +kernel⟩
abbrev CP:Stmt:=top 25
theorem X3:Br ["piece", "wide"] ["piece", "wide"] (Ae CP):=⟨rfl,rfl,rfl,by decide +kernel,rfl,by decide +kernel,by decide +kernel⟩
abbrev Cm:Stmt:=top 26
theorem Ba:Br ["piece", "wide", "numbers", "name", "one", "two", "first", "last", "rows", "j", "row", "k", "sign"] ["piece", "wide", "numbers", "name"] (Ae Cm):=⟨rfl,rfl,rfl,by decide +kernel,rfl,by decide +kernel,by decide +kernel⟩
abbrev Bj:Stmt:=top 27
theorem Je:Br ["numbers", "name", "wide", "high", "piece"] ["numbers", "name", "wide", "high"] (Ae Bj):=⟨rfl,rfl,rfl,by decide +kernel,rfl,by decide +kernel,by decide +kernel⟩
abbrev Ca:Stmt:=top 28
theorem Dh:Br ["counts", "numbers", "first", "row", "name", "k", "at", "kept"] ["counts", "numbers", "first"] (Ae Ca):=⟨rfl,rfl,rfl,by decide +kernel,rfl,by decide +kernel,by decide +kernel⟩
abbrev Dv:Stmt:=top 29
theorem Dl:Br ["pieces", "ends", "picks", "rows", "j", "row", "k", "rows_ahead", "sign"] ["pieces", "ends", "picks"] (Ae Dv):=⟨rfl,rfl,rfl,by decide +kernel,rfl,by decide +kernel,by decide +kernel⟩
abbrev Cu:Stmt:=top 30
theorem DR:Br ["layers", "shuttles", "made", "shuttle", "throws", "k", "one", "two"] ["layers", "shuttles"] (Ae Cu):=⟨rfl,rfl,rfl,by decide +kernel,rfl,by decide +kernel,by decide +kernel⟩
abbrev Az:Stmt:=top 31
theorem P0:Br ["found"] ["found"] (Ae Az):=⟨rfl,rfl,rfl,by decide +kernel,rfl,by decide +kernel,by decide +kernel⟩
abbrev Ay:Stmt:=top 32
theorem FW:Br ["found", "made", "seam", "k"] ["found", "made"] (Ae Ay):=⟨rfl,rfl,rfl,by decide +kernel,rfl,by decide +kernel,by decide +kernel⟩
abbrev Jf:Stmt:=top 33
theorem FZ:Br ["script", "numbers", "many", "most", "wides", "highs", "pieces", "ends", "picks", "given", "span", "shuttles", "handed", "found"] ["script"] (Ae Jf):=⟨rfl,rfl,rfl,by decide +kernel,rfl,by decide +kernel,by decide +kernel⟩
set_option genInjectivity false in
structure Adr where
 Di:Addr
 G7:FuncData
 BP:Addr
 G8:FuncData
 Dm:Addr
 Lj:FuncData
 Dw:Addr
 Nj:FuncData
 Dp:Addr
 Jg:FuncData
 Gh:Addr
 Tq:FuncData
 Dy:Addr
 Em:FuncData
 Ce:Addr
 Hs:FuncData
 En:Addr
 Qz:FuncData
 BR:Addr
 G9:FuncData
 CQ:Addr
 JS:FuncData
 CT:Addr
 JT:FuncData
 Dz:Addr
 Nk:FuncData
 CV:Addr
 JV:FuncData
 DG:Addr
 Nm:FuncData
 Dq:Addr
 Lk:FuncData
 BV:Addr
 GC:FuncData
 CW:Addr
 JW:FuncData
 Eo:Addr
 Q0:FuncData
 DK:Addr
 Np:FuncData
 Bq:Addr
 Ga:FuncData
 Bu:Addr
 Gq:FuncData
 Vl:Addr
 Afq:FuncData
 Bo:Addr
 Cw:Addr
 Bv:Addr
structure Txt (K:PySem.W.Frag) (mg:Str→Option Value) (t:Adr):Prop where
 measured:Df K mg "measured" Du ["cloth"] t.Di t.G7
 Gr:Df K mg "measured_texts" Bg ["texts", "least", "signs"] t.BP t.G8
 Ln:Df K mg "check_pick" Ck ["text", "ends", "signs"] t.Dm t.Lj
 OD:Df K mg "end_signs" Cr ["cloth", "end"] t.Dw t.Nj
 GD:Df K mg "scores_of" Cd ["cloth"] t.Dp t.Jg
 Uy:Df K mg "tops_of" Ed ["cloth"] t.Gh t.Tq
 OJ:Df K mg "layers_of" BL ["cloth"] t.Dy t.Em
 GR:Df K mg "layer_numbers" Bc ["cloth"] t.Ce t.Hs
 Rk:Df K mg "seams_of" Dc ["cloth", "shuttles"] t.En t.Qz
 Gs:Df K mg "check_shuttles" Bh ["shuttles", "picks"] t.BR t.G9
 Jh:Df K mg "seams_along" BX ["thrown"] t.CQ t.JS
 Ji:Df K mg "_law_numbers" BZ ["script", "many"] t.CT t.JT
 Pa:Df K mg "_law_piece" CK ["numbers", "name", "wide", "high"] t.Dz t.Nk
 Ep:Df K mg "_law_reached" Bx ["piece", "wide", "forth"] t.CV t.JV
 Pb:Df K mg "_law_hangs" CP ["piece", "wide"] t.DG t.Nm
 Lp:Df K mg "_law_ringed" Cm ["piece", "wide", "numbers", "name"] t.Dq t.Lk
 Gu:Df K mg "_law_hung_piece" Bj ["numbers", "name", "wide", "high"] t.BV t.GC
 Er:Df K mg "_law_mingled" Ca ["counts", "numbers", "first"] t.CW t.JW
 Rm:Df K mg "_law_laid" Dv ["pieces", "ends", "picks"] t.Eo t.Q0
 Pg:Df K mg "_law_seams" Cu ["layers", "shuttles"] t.DK t.Np
 Cj:Df K mg "_law_whole_number" Az ["found"] t.Bq t.Ga
 FJ:Df K mg "_law_seams_right" Ay ["found", "made"] t.Bu t.Gq
 law:Df K mg "law" Jf ["script"] t.Vl t.Afq
 Afr:mg "all" = none
 Ag5:mg "bool" = none
 Zx:mg "enumerate" = none
 Abo:mg "int" = none
 Gv:mg "isinstance" = none
 DN:mg "len" = none
 Aaz:mg "list" = none
 Afs:mg "max" = none
 Aft:mg "min" = none
 Be:mg "range" = none
 AhN:mg "set" = none
 K8:mg "sorted" = none
 AhO:mg "str" = none
 Adm:mg "sum" = none
 AeJ:mg "tuple" = none
 AhP:mg "zip" = none
 Nq:∃ tk,mg "MOST_STRANDS" = some (.int 40 tk)
 Vm:∃ tk,mg "SHUTTLES" = some (.int 8 tk)
 AeK:mg "WeaveError" = some (.ref t.Bo)
 AeL:Exn K t.Bo
 AgP:mg "NoCloth" = some (.ref t.Cw)
 AgQ:Exn K t.Cw
 Afu:mg "NoShuttle" = some (.ref t.Bv)
 Afv:Exn K t.Bv
theorem bl1{fd:FuncData}{ps:List Str}(h:∀ a0:Value,bindArgs fd ⟨[a0],[]⟩=pure (ps.zip [a0]))(us:List Value)(hl:us.length=1):bindArgs fd ⟨us,[]⟩=pure (ps.zip us):=by
 rcases us with _ | ⟨a0,us⟩
 ·cases hl
 rcases us with _ | ⟨b,us⟩
 ·exact h a0
 ·cases hl
theorem bl2{fd:FuncData}{ps:List Str}(h:∀ a0 a1:Value,bindArgs fd ⟨[a0,a1],[]⟩=pure (ps.zip [a0,a1]))(us:List Value)(hl:us.length=2):bindArgs fd ⟨us,[]⟩=pure (ps.zip us):=by
 rcases us with _ | ⟨a0,us⟩
 ·cases hl
 rcases us with _ | ⟨a1,us⟩
 ·cases hl
 rcases us with _ | ⟨b,us⟩
 ·exact h a0 a1
 ·cases hl
theorem bl3{fd:FuncData}{ps:List Str}(h:∀ a0 a1 a2:Value,bindArgs fd ⟨[a0,a1,a2],[]⟩=pure (ps.zip [a0,a1,a2]))(us:List Value)(hl:us.length=3):bindArgs fd ⟨us,[]⟩=pure (ps.zip us):=by
 rcases us with _ | ⟨a0,us⟩
 ·cases hl
 rcases us with _ | ⟨a1,us⟩
 ·cases hl
 rcases us with _ | ⟨a2,us⟩
 ·cases hl
 rcases us with _ | ⟨b,us⟩
 ·exact h a0 a1 a2
 ·cases hl
theorem bl4{fd:FuncData}{ps:List Str}(h:∀ a0 a1 a2 a3:Value,bindArgs fd ⟨[a0,a1,a2,a3],[]⟩=pure (ps.zip [a0,a1,a2,a3]))(us:List Value)(hl:us.length=4):bindArgs fd ⟨us,[]⟩=pure (ps.zip us):=by
 rcases us with _ | ⟨a0,us⟩
 ·cases hl
 rcases us with _ | ⟨a1,us⟩
 ·cases hl
 rcases us with _ | ⟨a2,us⟩
 ·cases hl
 rcases us with _ | ⟨a3,us⟩
 ·cases hl
 rcases us with _ | ⟨b,us⟩
 ·exact h a0 a1 a2 a3
 ·cases hl
section
variable {P:Program}{w:World}{K:PySem.W.Frag}{mg:Str→Option Value}{base:Heap}{t:Adr}
def AgR (z:Str):Sp:=fun vs H Q _=>∃ v,vs=[v]∧Q (.str z) H
end
section
variable {P:Program}{w:World}{K:PySem.W.Frag}{mg:Str→Option Value}{base:Heap}{t:Adr}
theorem z0(i:Nat):(0+(i:Int)).toNat=i:=by omega
theorem Rn(K:PySem.W.Frag)(n:String):PySem.W.kitOne K (.type n) (.type n)=some true:=if_pos (beq_self_eq_true _)
theorem AhQ{c d:Nat}:(V.str ⟨#[c]⟩:V)=V.str ⟨#[d]⟩↔c=d :=
 ⟨fun z=>by injection z with z;exact(List.cons.inj (AfT (a:=[c]) (b:=[d]) z)).1,fun z=>by rw[z]⟩
theorem e35:(V.str ⟨#[35]⟩:V)=V.str "#" := congrArg V.str (by decide +kernel)
theorem e46:(V.str ⟨#[46]⟩:V)=V.str "." := congrArg V.str (by decide +kernel)
theorem Jj{n:Nat}(h:n≤40):n≤sizeLine:=AkS h (by decide)
theorem occ{c:Nat}(h:Sg c):(!(!(Builtin.Str.occurrences "#." ⟨#[c]⟩ 0 (Str.length "#.") 1).isEmpty))=false:=by
 rcases h with h | h <;> subst h <;> decide +kernel
def VJ:Sp:=fun vs H Q _=>∃(t:List Nat),vs=[.str (tx t),.int (t.length:Int),.str "#."]∧(∀ c∈t,Sg c)∧t.length≤40∧Q .non H
theorem VL(T:Txt K mg t):BK P w K mg base CX0 1 t.Dm t.Lj ["text", "ends", "signs"] VJ:=by
 refine T.Ln.F.ok Qa (fun vs H Q E h=>?_) (fun cdv A outer s H vs Q E hr h=>?_)
 ·obtain⟨t,rfl,_⟩:=h
  rfl
 ·obtain⟨t,rfl,hsg,hl,k⟩:=h
  refine⟨_,(Ab (Fd (Bt Yy (Ao QW rfl T.DN Cq (Aa (pv 0) Ac)) (pv 1) (Bw _))
    (Ag Kv)
    Cv)
   (Ag (Ci PassesOwn.never rfl (AfS (pv 0)) (Bd (i:=3) Qa.nd rfl (Or.inl rfl))
    (Ag (Fd (Bt W3 (pv 3) (pv 2) rfl)
     (Ag Kv)
     Cv))))),?_⟩
  refine⟨_,rfl,_,rfl,(by rw[Ef];exact Jj hl),_,rfl,rfl,_,rfl,?_⟩
  refine AaO (by rw[Ef]) ?_
  refine⟨_,rfl,_,rfl,Aec (z:=tx t) (fun i σ H2=>∃ v,σ=[some (.str (tx t)),some (.int (t.length:Int)),some (.str "#."),v]∧H2=H) ⟨none,rfl,rfl⟩ ?_ ?_⟩
  ·rintro i c σ H2 hc ⟨v,rfl,rfl⟩
   rw[Acv] at hc
   refine⟨_,rfl,_,rfl,_,_,rfl,rfl,_,rfl,?_⟩
   rw[occ (hsg c (AkQ hc))]
   exact Px ⟨_,rfl,rfl⟩
  ·rintro σ H2 ⟨v,rfl,rfl⟩
   exact k
def Ro (K:PySem.W.Frag):Sp:=fun vs H Q _=>∃(a:Addr) (cl:List (List Nat)) (m n:Nat),vs=[.ref a,.int 1,.str "#."]∧SqL K H a (vS cl)∧Cl cl m n∧∀ p,H p=none→Q (.ref p) (upd H p (.tup [.int (m:Int),.int (n:Int)]))
theorem Rp(T:Txt K mg t):BK P w K mg base CX0 2 t.BP t.G8 ["texts", "least", "signs"] (Ro K):=by
 have X4:BK P w K mg base CX0 1 t.Dm t.Lj _ _:=VL T
 refine T.Gr.F.ok Gn (fun vs H Q E h=>?_) (fun cdv A outer s H vs Q E hr h=>?_)
 ·obtain⟨a,cl,m,n,rfl,_⟩:=h
  rfl
 ·obtain⟨a,cl,m,n,rfl,hS,C,k⟩:=h
  have hlen:(vS cl).length=n:=by rw[Ih,C.hn]
  have h0:0<cl.length:=by rw[C.hn];exact C.n1
  have hm0:=C.hm cl[0] (AkI h0)
  have c1:=C.n1
  have c2:=C.n40
  have c3:=C.m1
  have c4:=C.m40
  refine⟨_,(Ab (Fd (PW.pt (pw_or (Bt Acl (Ao (Ak (K:=K)) rfl T.DN Cq (Aa (pv 0) Ac)) (pv 1) (Bw _)) (pw_or1 (Bt AaL (Ao (Ak (K:=K)) rfl T.DN Cq (Aa (pv 0) Ac)) (Ut (v:=.int 40) rfl T.Nq.choose_spec ⟨_,rfl⟩) (Bw _)))))
    (Ag Kv)
    Cv)
   (Ab (Aj (i:=3) Gn.nd rfl (Or.inl rfl) (Ao QW rfl T.DN Cq (Aa (Aq (Ah (K:=K)) (pv 0) Af (fun _ _=>rfl)) Ac)))
   (Ab (Fd (PW.pt (pw_or (Bt Acl (pv 3) (pv 1) (Bw _)) (pw_or1 (Bt AaL (pv 3) (Ut (v:=.int 40) rfl T.Nq.choose_spec ⟨_,rfl⟩) (Bw _)))))
    (Ag Kv)
    Cv)
   (Ab (Ci PassesOwn.never rfl (Hn (K:=K) (pv 0)) (Bd (i:=4) Gn.nd rfl (Or.inl rfl))
    (Ag (Gi (Bl (X4.mono (by decide)) hr rfl T.Ln.m T.Ln.F.kp T.Ln.b .nil Dk (Aa (pv 4) (Aa (pv 3) (Aa (pv 2) Ac)))))))
   (Ag (Cg (W4 (Aa (pv 3) (Aa (Ao (Ak (K:=K)) rfl T.DN Cq (Aa (pv 0) Ac)) Ac))))))))),?_⟩
  refine⟨_,rfl,_,_,rfl,.inl hS,_,rfl,_,_,rfl,rfl,_,rfl,?_⟩
  refine Y9 (by rw[hlen];omega) ?_
  refine⟨_,rfl,_,_,rfl,.inl hS,_,_,rfl,rfl,_,rfl,?_⟩
  refine Y9 (by rw[hlen];omega) ?_
  refine⟨_,rfl,_,_,_,_,rfl,rfl,hS,Bb (by decide) (Aae (Ak9 h0)),_,rfl,(by rw[Ef,hm0];exact Jj c4),?_⟩
  rw[Ef,hm0]
  refine⟨_,rfl,_,rfl,_,_,rfl,rfl,_,rfl,?_⟩
  refine Y9 (by omega) ?_
  refine⟨_,rfl,_,_,rfl,rfl,_,rfl,?_⟩
  refine Y9 (by omega) ?_
  refine⟨_,rfl,_,rfl,⟨_,hS⟩,QT (K:=K) (a:=a) (xs:=vS cl) (fun i σ H2=>∃ v,σ=[some (.ref a),some (.int 1),some (.str "#."),some (.int (m:Int)),v]∧H2=H) ⟨none,rfl,rfl⟩ (fun i σ H2 _ ⟨_,_,e⟩=>e▸hS) ?_ ?_⟩
  ·rintro i x σ H2 hx ⟨v,rfl,rfl⟩
   obtain⟨t,ht,rfl⟩:=Xc hx
   have htm:=AkQ ht
   refine⟨_,rfl,_,rfl,_,rfl,t,?_,C.sg t htm,?_,⟨_,rfl,rfl⟩⟩
   ·rw[C.hm t htm];rfl
   ·rw[C.hm t htm];exact c4
  ·rintro σ H2 ⟨v,rfl,rfl⟩
   refine⟨_,rfl,_,rfl,_,_,rfl,.inl hS,(by show 2≤sizeLine;decide),fun p hp=>?_⟩
   rw[hlen]
   exact k p hp
def Zy (K:PySem.W.Frag):Sp:=fun vs H Q _=>∃(a:Addr) (cl:List (List Nat)) (m n:Nat),vs=[.ref a]∧SqL K H a (vS cl)∧Cl cl m n∧∀ p,H p=none→Q (.ref p) (upd H p (.tup [.int (m:Int),.int (n:Int)]))
theorem Jk(T:Txt K mg t):BK P w K mg base CX0 3 t.Di t.G7 ["cloth"] (Zy K):=by
 have Tr:BK P w K mg base CX0 2 t.BP t.G8 _ _:=Rp T
 refine T.measured.F.ok Zw (fun vs H Q E h=>?_) (fun cdv A outer s H vs Q E hr h=>?_)
 ·obtain⟨a,cl,m,n,rfl,_⟩:=h
  rfl
 ·obtain⟨a,cl,m,n,rfl,hS,C,k⟩:=h
  exact⟨_,(Ag (Cg (Bl (Tr.mono (by decide)) hr rfl T.Gr.m T.Gr.F.kp T.Gr.b .nil Dk (Aa (pv 0) (Aa Af (Aa Fe Ac)))))),_,rfl,a,cl,m,n,rfl,hS,C,k⟩
def X5 (K:PySem.W.Frag):Sp:=fun vs H Q _=>∃(a:Addr) (cl:List (List Nat)) (m n e:Nat),vs=[.ref a,.int (e:Int)]∧SqL K H a (vS cl)∧Cl cl m n∧e<m∧∀ H',An H H'→Q (.str (tx (col cl e))) H'
theorem X6(T:Txt K mg t):BK P w K mg base CX0 1 t.Dw t.Nj ["cloth", "end"] (X5 K):=by
 refine T.OD.F.ok Xz (fun vs H Q E h=>?_) (fun cdv A outer s H vs Q E hr h=>?_)
 ·obtain⟨a,cl,m,n,e,rfl,_⟩:=h
  rfl
 ·obtain⟨a,cl,m,n,e,rfl,hS,C,he,k⟩:=h
  have c2:=C.n40
  have c4:=C.m40
  refine⟨_,(Ag (Cg (Gk (K:=K) PySem.F.plainAttrs_str PySem.F.slot_str_join PySem.F.type_str_join (Ac0 (K:=K)) Fe (Aa (O5 (Ej.mk (BJ:=[1]) (Nc:=["text", "end"]) rfl (by decide +kernel) (by decide +kernel) (Fz (sc0:=Ae Cr) rfl (by decide +kernel)) rfl rfl rfl (by decide +kernel) (fun k j h=>match k,h with | 0,h=>by obtain rfl:=Option.some.inj h;exact⟨_,rfl,rfl,rfl⟩ | _+1,h=>by simp at h)) rfl (Hn (K:=K) (pv 0)) (fun _ _ _ _ _=>.nil) (fun _ _ _ _ _=>(Aq MT (pv 0) (pv 1) (fun _ _=>rfl)))) Ac)))),?_⟩
  refine⟨rfl,_,rfl,_,rfl,⟨_,hS⟩,O7 (K:=K) (a:=a) (xs:=vS cl) (fun i ys H2=>H2=H∧ys=vS ((cl.take i).map fun t=>[t.getD e 0])) ⟨rfl,rfl⟩ ?_ ?_ ?_ ?_⟩
  ·rintro i ys H2 hi ⟨rfl,rfl⟩
   refine⟨hS,?_⟩
   rw[Ih,AkA,AkO]
   omega
  ·rw[Ih,C.hn];exact Jj c2
  ·rintro i x ys H2 hi hx ⟨rfl,rfl⟩
   obtain⟨t,ht,rfl⟩:=Xc hx
   have htm:=AkQ ht
   have htl:=C.hm t htm
   have hel:e<t.length:=by omega
   refine Ig.no ?_
   refine⟨_,rfl,_,rfl,_,_,t[e],rfl,rfl,(by rw[Ef,htl];exact Jj c4),(by rw[AaP];exact AaN (Ak9 hel)),?_⟩
   refine CN.of hi ⟨rfl,?_⟩
   rw[La,Xf,AlD,ht,AkP]
   simp[List.getD,hel]
  ·rintro ys H2 p ⟨rfl,rfl⟩ hp
   rw[Ih,Al7]
   refine⟨_,_,((cl.map fun t=>[t.getD e 0]).map tx),rfl,rfl,SqL.of (by rw[Ad,AfY]),?_,?_⟩
   ·have e1:=Ahv (fun t:List Nat=>t.getD e 0) cl
    rw[e1,AkA,AkA,C.hn]
    have:n*(Str.length "")=0:=by rw[show Str.length "" = 0 from by decide +kernel];omega
    omega
   ·rw[show(("" : Str))=tx [] from by decide +kernel,Aee]
    have e2:(cl.map fun t=>[t.getD e 0]).flatten=col cl e:=Afe (fun t:List Nat=>t.getD e 0) cl
    rw[e2]
    exact k _ (.upd hp)
def AbW (K:PySem.W.Frag):Sp:=fun vs H Q _=>∃(a:Addr) (cl:List (List Nat)) (m n:Nat),vs=[.ref a]∧SqL K H a (vS cl)∧Cl cl m n∧∀ l H',An H H'→H l=none→H' l=some (.lst (vI (Dt cl m)))→Q (.ref l) H'
theorem Rq(T:Txt K mg t):BK P w K mg base CX0 4 t.Dp t.Jg ["cloth"] (AbW K):=by
 have Gb:BK P w K mg base CX0 3 t.Di t.G7 _ _:=Jk T
 have Zz:BK P w K mg base CX0 1 t.Dw t.Nj _ _:=X6 T
 refine T.GD.F.ok Li (fun vs H Q E h=>?_) (fun cdv A outer s H vs Q E hr h=>?_)
 ·obtain⟨a,cl,m,n,rfl,_⟩:=h
  rfl
 ·obtain⟨a,cl,m,n,rfl,hS,C,k⟩:=h
  have c2:=C.n40
  have c4:=C.m40
  refine⟨_,(Ab (Aj (i:=1) Li.nd rfl (Or.inl rfl) (Bl (Gb.mono (by decide)) hr rfl T.measured.m T.measured.F.kp T.measured.b .nil Dk (Aa (pv 0) Ac)))
   (Ab (O6 (i:=2) (Ej.mk (BJ:=[0]) (Nc:=["end", "cloth"]) rfl (by decide +kernel) (by decide +kernel) (Fz (sc0:=Ae Cd) rfl (by decide +kernel)) rfl rfl rfl (by decide +kernel) (fun k j h=>match k,h with | 0,h=>by obtain rfl:=Option.some.inj h;exact⟨_,rfl,rfl,rfl⟩ | _+1,h=>by simp at h)) rfl Li.nd rfl rfl (Aw rfl T.Be (Aa (Aq (CG (K:=K)) (pv 1) Af (fun _ _=>rfl)) Ac)) (fun _ _ _ _ _=>.nil) (fun _ _ _ _ _=>(Gk (K:=K) PySem.F.plainAttrs_str PySem.F.slot_str_count PySem.F.type_str_count YF (Bl (Zz.mono (by decide)) hr rfl T.OD.m T.OD.F.kp T.OD.b .nil Dk (Aa (pv 1) (Aa (pv 0) Ac))) (Aa Fe Ac))) rfl)
   (Ag (Cg (Ai Aaa (pv 2) (O5 (Ej.mk (BJ:=[]) (Nc:=["text"]) rfl (by decide +kernel) (by decide +kernel) (Fz (sc0:=Ae Cd) rfl (by decide +kernel)) rfl rfl rfl (by decide +kernel) (fun _ _ h=>by simp at h)) rfl (Hn (K:=K) (pv 0)) (fun _ _ _ _ _=>.nil) (fun _ _ _ _ _=>(Gk (K:=K) PySem.F.plainAttrs_str PySem.F.slot_str_count PySem.F.type_str_count YF (pv 0) (Aa Fe Ac))))))))),?_⟩
  refine⟨_,rfl,a,cl,m,n,rfl,hS,C,fun p hp=>?_⟩
  have s1:An H (upd H p (.tup [.int (m:Int),.int (n:Int)])):=.upd hp
  have gp:SqT K (upd H p (.tup [.int (m:Int),.int (n:Int)])) p [.int (m:Int),.int (n:Int)]:=SqT.of Ad
  refine⟨_,rfl,_,_,_,_,rfl,rfl,gp,Bb (by decide) rfl,_,rfl,(by omega),(by omega),?_⟩
  rw[AkJ]
  refine Ek (lo:=0) (n:=m) (fun i ys H2=>An H H2∧ys=vI ((List.range i).map fun e=>(((col cl e).count 35:Nat):Int))) ⟨s1,rfl⟩ ?_ ?_ ?_ ?_
  ·rintro i ys H2 hi ⟨s2,rfl⟩
   rw[Av,AkA,AkC]
   exact Ak8 _
  ·exact Jj c4
  ·rintro i ys H2 hi ⟨s2,rfl⟩
   refine Ig.no ?_
   refine⟨_,rfl,_,rfl,a,cl,m,n,i,(by rw[Al1] <;> rfl),s2.seq hS,C,hi,fun H3 s3=>?_⟩
   refine⟨rfl,col cl i,35,rfl,(by rw[e35]),?_⟩
   refine CN.of hi ⟨s2.trans s3,?_⟩
   rw[SQ,Aln,AkP]
   rfl
  ·rintro ys H2 q ⟨s2,rfl⟩ hq
   have s3:An H (upd H2 q (.lst (vI ((List.range m).map fun e=>(((col cl e).count 35:Nat):Int))))):=s2.new hq
   refine⟨_,rfl,_,rfl,_,rfl,⟨_,s3.seq hS⟩,O7 (K:=K) (a:=a) (xs:=vS cl) (fun i ys H4=>H4=upd H2 q (.lst (vI ((List.range m).map fun e=>(((col cl e).count 35:Nat):Int))))∧ys=vI ((cl.take i).map fun t=>((t.count 46:Nat):Int))) ⟨rfl,rfl⟩ ?_ ?_ ?_ ?_⟩
   ·rintro i ys H4 hi ⟨rfl,rfl⟩
    refine⟨s3.seq hS,?_⟩
    rw[Av,AkA,AkO]
    omega
   ·rw[Ih,C.hn];exact Jj c2
   ·rintro i x ys H4 hi hx ⟨rfl,rfl⟩
    obtain⟨t,ht,rfl⟩:=Xc hx
    refine Ig.no ?_
    refine⟨_,rfl,rfl,t,46,rfl,(by rw[e46]),?_⟩
    refine CN.of hi ⟨rfl,?_⟩
    rw[SQ,AlD,ht,AkP]
    rfl
   ·rintro ys H4 q2 ⟨rfl,rfl⟩ hq2
    rw[Ih,Al7]
    have hq4:(upd (upd H2 q (.lst (vI ((List.range m).map fun e=>(((col cl e).count 35:Nat):Int))))) q2 (.lst (vI (cl.map fun t=>((t.count 46:Nat):Int))))) q=some (.lst (vI ((List.range m).map fun e=>(((col cl e).count 35:Nat):Int)))):=(An.upd hq2) _ _ Ad
    refine⟨_,_,_,_,rfl,rfl,hq4,Ad,(by rw[Av,Av,AkA,AkA,AkC,C.hn,sizeLine_eq];omega),fun l hl=>?_⟩
    have e:vI ((List.range m).map fun e=>(((col cl e).count 35:Nat):Int))++vI (cl.map fun t=>((t.count 46:Nat):Int))=vI (Dt cl m):=by
     unfold vI Dt
     rw[AkP]
    rw[e]
    exact k l _ ((s3.new hq2).new hl) ((s3.new hq2).free hl) Ad
structure PL (H:Hp) (l:Addr) (ps:List Addr) (zs:List (Nat × Nat)):Prop where
 h:H l=some (.lst (ps.map V.ref))
 len:ps.length=zs.length
 at_:∀(i:Nat) (p:Addr) (z:Nat × Nat),ps[i]?=some p→zs[i]?=some z→H p=some (.tup [.int (z.1:Int),.int (z.2:Int)])
theorem PL.same{H H':Hp}{l:Addr}{ps:List Addr}{zs:List (Nat × Nat)}(N:PL H l ps zs)(s:An H H'):PL H' l ps zs:=⟨s _ _ N.h,N.len,fun i p z e1 e2=>s _ _ (N.at_ i p z e1 e2)⟩
theorem PL.app{H:Hp}{l tp:Addr}{ps:List Addr}{zs:List (Nat × Nat)}{z:Nat × Nat}(N:PL H l ps zs)(ht:H tp=some (.tup [.int (z.1:Int),.int (z.2:Int)])) :
  PL (upd H l (.lst (ps.map V.ref++[.ref tp]))) l (ps++[tp]) (zs++[z]):=by
 refine⟨by rw[Ad,AkP];rfl,by rw[AkE,AkE,N.len];rfl,fun i p y e1 e2=>?_⟩
 have pl:H p=some (.tup [.int (y.1:Int),.int (y.2:Int)]):=by
  by_cases hi:i<ps.length
  ·rw[Alm hi] at e1
   rw[Alm (by rw[← N.len];exact hi)] at e2
   exact N.at_ i p y e1 e2
  ·have hi2:=(List.getElem?_eq_some_iff.mp e1).1
   rw[AkE] at hi2
   have e:i=ps.length:=by have:[tp].length=1:=rfl;omega
   rw[e,Alk (Ak8 _),Alu] at e1
   rw[e,N.len,Alk (Ak8 _),Alu] at e2
   cases e1
   cases e2
   exact ht
 rw[Ar (fun e=>by rw[e,N.h] at pl;cases pl)]
 exact pl
theorem PL.get{H:Hp}{l:Addr}{ps:List Addr}{zs:List (Nat × Nat)}(N:PL H l ps zs){i:Nat}{z:Nat × Nat}(h:zs[i]?=some z):∃ p,(ps.map V.ref)[i]?=some (.ref p)∧H p=some (.tup [.int (z.1:Int),.int (z.2:Int)]):=by
 have hi:i<ps.length:=by rw[N.len];exact(List.getElem?_eq_some_iff.mp h).1
 exact⟨ps[i],by rw[AkG,Ak9 hi];rfl,N.at_ i _ z (Ak9 hi) h⟩
theorem X7{ks:List Int}{k:Nat}(h:k≤ks.length):KR (vI ks) none (some (k:Int))=vI (ks.take k):=by
 unfold KR
 rw[HT.Y5,HT.QV,List.drop_zero,Av,Alz h,Nat.sub_zero]
 unfold vI
 rw[Als]
theorem AbX{ks:List Int}{k:Nat}(h:k≤ks.length):KR (vI ks) (some (k:Int)) none=vI (ks.drop k):=by
 unfold KR
 have e1:HT.sIx (vI ks).length 0 (some (k:Int))=k:=by rw[HT.QV,Av,Alz h]
 have e2:HT.sIx (vI ks).length (vI ks).length none=(vI ks).length:=rfl
 rw[e1,e2]
 unfold vI
 rw[← AlO]
 exact AkZ (by rw[AkA,AkA,Alh];omega)
def AeM (K:PySem.W.Frag):Sp:=fun vs H Q _=>∃(a:Addr) (cl:List (List Nat)) (m n:Nat),vs=[.ref a]∧SqL K H a (vS cl)∧Cl cl m n ∧
 ∀ l H' ps dA dB,An H H'→H l=none→dA.Perm (eS cl m)→dB.Perm (pS cl)→dA.Pairwise (· ≥ ·)→dB.Pairwise (· ≥ ·)→PL H' l ps (Fq (Pz m n dA dB) n (m+1))→Q (.ref l) H'
theorem Aa0(T:Txt K mg t):BK P w K mg base CX0 5 t.Gh t.Tq ["cloth"] (AeM K):=by
 have Gb:BK P w K mg base CX0 3 t.Di t.G7 _ _:=Jk T
 have Nr:BK P w K mg base CX0 4 t.Dp t.Jg _ _:=Rq T
 refine T.Uy.F.ok DP (fun vs H Q E h=>?_) (fun cdv A outer s H vs Q E hr h=>?_)
 ·obtain⟨a,cl,m,n,rfl,_⟩:=h
  rfl
 ·obtain⟨a,cl,m,n,rfl,hS,C,k⟩:=h
  have c2:=C.n40
  have c4:=C.m40
  have hsz:sizeLine=16777216:=sizeLine_eq
  refine⟨_,(Ab (Aj (i:=1) DP.nd rfl (Or.inl rfl) (Bl (Gb.mono (by decide)) hr rfl T.measured.m T.measured.F.kp T.measured.b .nil Dk (Aa (pv 0) Ac)))
   (Ab (Aj (i:=2) DP.nd rfl (Or.inl rfl) (Bl (Nr.mono (by decide)) hr rfl T.GD.m T.GD.F.kp T.GD.b .nil Dk (Aa (pv 0) Ac)))
   (Ab (Aj (i:=3) DP.nd rfl (Or.inl rfl) (YH (K:=K) rfl T.K8 (Fj (Fo (K:=K)) (pv 2) Ja (Fy (Aq (CG (K:=K)) (pv 1) Af (fun _ _=>rfl))))))
   (Ab (Aj (i:=4) DP.nd rfl (Or.inl rfl) (YH (K:=K) rfl T.K8 (Fj (Fo (K:=K)) (pv 2) (Fy (Aq (CG (K:=K)) (pv 1) Af (fun _ _=>rfl))) Ja)))
   (Ab (Aj (i:=5) DP.nd rfl (Or.inl rfl) (Ff Ac))
   (Ab (Ci PassesOwn.never rfl (Aw rfl T.Be (Aa (Ai Bs (Aq (CG (K:=K)) (pv 1) Af (fun _ _=>rfl)) Af) Ac)) (Bd (i:=6) DP.nd rfl (Or.inl rfl))
    (Ag (Ci PassesOwn.never rfl (Aw rfl T.Be (Aa (Ai Bs (Aq (CG (K:=K)) (pv 1) Af (fun _ _=>rfl)) Af) Ac)) (Bd (i:=7) DP.nd rfl (Or.inl rfl))
     (Ab (Aj (i:=8) DP.nd rfl (Or.inl rfl) (Ai MP (Ai Bs (Ai KQ (pv 6) (Aq (CG (K:=K)) (pv 1) Af (fun _ _=>rfl))) (Ai KQ (pv 7) (Aq (CG (K:=K)) (pv 1) Af (fun _ _=>rfl)))) (Ai KQ (pv 6) (pv 7))))
     (Ag (Fd (Bt Hm (Ai Bs (Ao (Tc (K:=K)) rfl T.Adm Aad (Aa (Fj (Fo (K:=K)) (pv 3) Ja (Fy (pv 6))) Ac)) (Ao (Tc (K:=K)) rfl T.Adm Aad (Aa (Fj (Fo (K:=K)) (pv 4) Ja (Fy (pv 7))) Ac))) (pv 8) (Bw _))
      (Ag (Gi (Gk (K:=K) PySem.F.plainAttrs_list PySem.F.slot_list_append PySem.F.type_list_append Gf (pv 5) (Aa (W4 (Aa (pv 6) (Aa (pv 7) Ac))) Ac))))
      Cv))))))
   (Ag (Cg (pv 5))))))))),?_⟩
  refine⟨_,rfl,a,cl,m,n,rfl,hS,C,fun p hp=>?_⟩
  have s1:An H (upd H p (.tup [.int (m:Int),.int (n:Int)])):=.upd hp
  have gp1:(upd H p (.tup [.int (m:Int),.int (n:Int)])) p=some (.tup [.int (m:Int),.int (n:Int)]):=Ad
  refine⟨_,rfl,a,cl,m,n,rfl,s1.seq hS,C,fun lf H2 s2 nlf hlf=>?_⟩
  have gp2:=s2 _ _ gp1
  have u2:=s1.trans s2
  have lsc:(Dt cl m).length=m+n:=by rw[UL,C.hn]
  refine⟨_,rfl,_,rfl,_,_,_,_,rfl,rfl,SqT.of gp2,Bb (by decide) rfl,_,rfl,_,_,rfl,SqL.of hlf,fun q1 hq1=>?_⟩
  rw[X7 (by omega),Za]
  refine⟨_,_,rfl,SqL.of Ad,(by rw[Qt];omega),fun le dA pA decA hle=>?_⟩
  have u3:An H (upd (upd H2 q1 (.lst (vI (eS cl m)))) le (.lst (vI dA))):=(u2.new hq1).new hle
  have s3:An H2 (upd (upd H2 q1 (.lst (vI (eS cl m)))) le (.lst (vI dA))):=(An.upd hq1).new hle
  have AhR:(upd (upd H2 q1 (.lst (vI (eS cl m)))) le (.lst (vI dA))) le=some (.lst (vI dA)):=Ad
  generalize hH3:upd (upd H2 q1 (.lst (vI (eS cl m)))) le (.lst (vI dA))=H3 at u3 s3 AhR ⊢
  refine⟨_,rfl,_,rfl,_,_,_,_,rfl,rfl,SqT.of (s3 _ _ gp2),Bb (by decide) rfl,_,rfl,_,_,rfl,SqL.of (s3 _ _ hlf),fun q2 hq2=>?_⟩
  rw[AbX (by omega),Zb]
  refine⟨_,_,rfl,SqL.of Ad,(by rw[Xl,C.hn];omega),fun lp dB pB Fp hlp=>?_⟩
  have s4:An H3 (upd (upd H3 q2 (.lst (vI (pS cl)))) lp (.lst (vI dB))):=(An.upd hq2).new hlp
  have AhS:(upd (upd H3 q2 (.lst (vI (pS cl)))) lp (.lst (vI dB))) lp=some (.lst (vI dB)):=Ad
  generalize hH4:upd (upd H3 q2 (.lst (vI (pS cl)))) lp (.lst (vI dB))=H4 at s4 AhS ⊢
  have u4:=u3.trans s4
  have gp4:=s4 _ _ (s3 _ _ gp2)
  have Ajl:=s4 _ _ AhR
  have dAl:dA.length=m:=by rw[pA.length_eq,Qt]
  have dBl:dB.length=n:=by rw[pB.length_eq,Xl,C.hn]
  refine⟨AkD _,fun lt hlt=>?_⟩
  have nlt:=u4.free hlt
  have pl0:PL (upd H4 lt (.lst [])) lt [] (Fq (Pz m n dA dB) n 0):=⟨Ad,rfl,fun i p z e=>by simp at e⟩
  refine⟨_,rfl,_,_,_,_,rfl,rfl,SqT.of ((An.upd hlt) _ _ gp4),Bb (by decide) rfl,_,_,rfl,rfl,_,rfl,(by omega),(by omega),?_⟩
  rw[show((m:Int)+1).toNat=m+1 by omega]
  refine Bp (lo:=0) (n:=m+1) (fun i σ H5=>∃(ps:List Addr) (v6 v7 v8:Option V),σ=[some (.ref a),some (.ref p),some (.ref lf),some (.ref le),some (.ref lp),some (.ref lt),v6,v7,v8]∧An H4 H5∧PL H5 lt ps (Fq (Pz m n dA dB) n i))
   ⟨[],none,none,none,rfl,.upd hlt,pl0⟩ ?_ ?_
  ·rintro i σ H5 hi ⟨ps,v6,v7,v8,rfl,s5,N5⟩
   refine⟨_,rfl,_,_,_,_,rfl,rfl,SqT.of (s5 _ _ gp4),Bb (by decide) rfl,_,_,rfl,rfl,_,rfl,(by omega),(by omega),?_⟩
   rw[show((n:Int)+1).toNat=n+1 by omega]
   refine Bp (lo:=0) (n:=n+1) (fun j σ H6=>∃(ps:List Addr) (v7 v8:Option V),σ=[some (.ref a),some (.ref p),some (.ref lf),some (.ref le),some (.ref lp),some (.ref lt),some (.int (0+(i:Int))),v7,v8]∧An H4 H6∧PL H6 lt ps (Fq (Pz m n dA dB) n i++Ur (Pz m n dA dB) i j))
    ⟨ps,v7,v8,rfl,s5,by rw[show Ur (Pz m n dA dB) i 0=[] from rfl,Alb];exact N5⟩ ?_ ?_
   ·rintro j σ H6 hj ⟨ps6,w7,w8,rfl,s6,N6⟩
    have gp6:=s6 _ _ gp4
    refine⟨_,rfl,_,rfl,_,_,_,_,rfl,rfl,SqT.of gp6,Bb (by decide) rfl,_,_,rfl,rfl,.inl ⟨by omega,by omega⟩,_,rfl,_,rfl,_,_,_,_,rfl,rfl,SqT.of gp6,Bb (by decide) rfl,_,_,rfl,rfl,.inl ⟨by omega,by omega⟩,_,_,rfl,rfl,_,rfl,_,rfl,_,_,rfl,rfl,.inl ⟨by omega,by omega⟩,_,_,rfl,rfl,?_⟩
    refine⟨_,rfl,_,rfl,_,rfl,_,_,rfl,SqL.of (s6 _ _ Ajl),fun c1 hc1=>?_⟩
    rw[show(0:Int)+(i:Int)=(i:Int) by omega,X7 (by omega)]
    refine⟨_,_,rfl,SqL.of Ad,?_⟩
    have s7:An H6 (upd H6 c1 (.lst (vI (dA.take i)))):=.upd hc1
    refine⟨_,rfl,_,rfl,_,rfl,_,_,rfl,SqL.of (s7 _ _ (s6 _ _ AhS)),fun c2 hc2=>?_⟩
    rw[show(0:Int)+(j:Int)=(j:Int) by omega,X7 (by omega)]
    have s8:An H6 (upd (upd H6 c1 (.lst (vI (dA.take i)))) c2 (.lst (vI (dB.take j)))):=s7.new hc2
    refine⟨_,_,rfl,SqL.of Ad,_,_,rfl,rfl,_,rfl,rfl,_,rfl,?_⟩
    have N8:=N6.same s8
    have u8:=s6.trans s8
    generalize hH8:upd (upd H6 c1 (.lst (vI (dA.take i)))) c2 (.lst (vI (dB.take j)))=H8 at s8 N8 u8 ⊢
    have Ajm:(ps6.map V.ref).length<sizeLine:=by
     have q1:=UT (Pz m n dA dB) n i
     have q2:=YX (Pz m n dA dB) i j
     have q3:i*(n+1)≤41*41:=Nat.mul_le_mul (by omega) (by omega)
     have q4:=N6.len
     rw[AkE] at q4
     rw[AkA]
     omega
    refine Ky (fun h=>?_) (fun h=>?_)
    ·have hz:Pz m n dA dB i j=true:=by unfold Pz;exact decide_eq_true (V.int.inj h)
     refine⟨_,rfl,.inl ⟨rfl,_,SqL.of N8.h⟩,_,rfl,_,rfl,(by show 2≤sizeLine;omega),fun tp htp=>?_⟩
     have s9:An H8 (upd H8 tp (.tup [.int (i:Int),.int (j:Int)])):=.upd htp
     refine⟨_,_,_,rfl,rfl,s9 _ _ N8.h,Ajm,?_⟩
     refine⟨ps6++[tp],_,_,rfl,(u8.trans s9).over hlt,?_⟩
     rw[Te,if_pos hz,← Alv]
     exact(N8.same s9).app (z:=(i,j)) Ad
    ·have hz:¬Pz m n dA dB i j=true:=fun z=>h (congrArg V.int (of_decide_eq_true z))
     refine⟨ps6,_,_,rfl,u8,?_⟩
     rw[Te,if_neg hz,Alb]
     exact N8
   ·rintro σ H6 ⟨ps6,w7,w8,rfl,s6,N6⟩
    exact⟨ps6,_,_,_,rfl,s6,by rw[Tf];exact N6⟩
  ·rintro σ H5 ⟨ps,v6,v7,v8,rfl,s5,N5⟩
   exact⟨_,rfl,k lt H5 ps dA dB (u4.trans s5) nlt pA pB decA Fp N5⟩
structure NL (H:Hp) (y:Addr) (rs:List Addr) (tss:List (List Int)):Prop where
 h:H y=some (.lst (rs.map V.ref))
 l:rs.length=tss.length
 r:∀(i:Nat) (a:Addr) (ks:List Int),rs[i]?=some a→tss[i]?=some ks→H a=some (.lst (vI ks))
theorem NL.same{H H':Hp}{y:Addr}{rs:List Addr}{tss:List (List Int)}(N:NL H y rs tss)(s:An H H'):NL H' y rs tss:=⟨s _ _ N.h,N.l,fun i a ks h1 h2=>s _ _ (N.r i a ks h1 h2)⟩
theorem NL.at{H:Hp}{y:Addr}{rs:List Addr}{tss:List (List Int)}(N:NL H y rs tss){i:Nat}{a:V}(h:(rs.map V.ref)[i]?=some a):∃ r ks,a=.ref r∧rs[i]?=some r∧tss[i]?=some ks∧H r=some (.lst (vI ks)):=by
 rw[AkG] at h
 cases e:rs[i]? with
 | none=>rw[e] at h;cases h
 | some r =>
  rw[e] at h
  cases h
  have hi:i<tss.length:=by rw[← N.l];exact(List.getElem?_eq_some_iff.mp e).1
  exact⟨r,tss[i],rfl,rfl,Ak9 hi,N.r i r _ e (Ak9 hi)⟩
theorem Adn{ks:List Int}{i j:Int}(h0:0≤i)(h1:i≤j)(h2:j≤ks.length):KR (vI ks) (some i) (some j)=vI ((ks.drop i.toNat).take (j.toNat-i.toNat)):=by
 unfold KR
 have e1:HT.sIx (vI ks).length 0 (some i)=i.toNat:=by
  show(if i<0 then _ else _)=_
  rw[if_neg (by omega),Av];omega
 have e2:HT.sIx (vI ks).length (vI ks).length (some j)=j.toNat:=by
  show(if j<0 then _ else _)=_
  rw[if_neg (by omega),Av];omega
 rw[e1,e2]
 unfold vI
 rw[← AlO,← Als]
theorem AbY{ps:List Addr}{k:Nat}(h:k≤ps.length):KR (ps.map V.ref) (some (k:Int)) none=(ps.drop k).map V.ref:=by
 unfold KR
 have e1:HT.sIx (ps.map V.ref).length 0 (some (k:Int))=k:=by rw[HT.QV,AkA,Alz h]
 have e2:HT.sIx (ps.map V.ref).length (ps.map V.ref).length none=(ps.map V.ref).length:=rfl
 rw[e1,e2,← AlO]
 exact AkZ (by rw[AkA,AkA,Alh];omega)
theorem Abp{lo n:Nat}(h:lo+n≤1000):Builtin.Range.rangeSize (lo:Int) ((lo+n:Nat):Int) 1=(n:Int)∧Builtin.Range.small (lo:Int) ((lo+n:Nat):Int) 1=true:=by
 have rs:Builtin.Range.rangeSize (lo:Int) ((lo+n:Nat):Int) 1=(n:Int):=by
  unfold Builtin.Range.rangeSize
  rw[if_pos (by decide)]
  by_cases h:(lo:Int)<((lo+n:Nat):Int)
  ·rw[if_pos h,Int.ediv_one]
   omega
  ·rw[if_neg h]
   omega
 refine⟨rs,?_⟩
 have fits:∀{z:Int},-1000000≤z→z≤1000000→Builtin.Range.rangeFitsLong z=true:=fun {z} h1 h2=>by
  unfold Builtin.Range.rangeFitsLong
  simp only [Amb,decide_eq_true_eq]
  omega
 unfold Builtin.Range.small
 rw[rs,fits (by omega) (by omega),fits (by omega) (by omega),fits (by omega) (by omega),fits (by omega) (by omega)]
 simp only [show(1:Int)>0 by decide,if_true,Bool.true_and,Bool.or_eq_true]
 exact .inr (fits (by omega) (by omega))
theorem Abq(lo n:Nat):Uo (lo:Int) 1 n=(List.range n).map (cQ lo):=by
 unfold Uo cQ
 refine AlM fun i _=>?_
 omega
theorem Afw{cl:List (List Nat)}{m n:Nat}(C:Cl cl m n){k:Nat}(h:k<m):(Dt cl m).getD (cQ 0 k).toNat 0=((aS (upC cl) n k:Nat):Int):=by
 have e:(cQ 0 k).toNat=k:=by unfold cQ;omega
 have hl:=Qt cl m
 rw[e,AkH]
 show((eS cl m++pS cl)[k]?).getD 0=_
 rw[Alm (by omega),AaT C,AkG,Alr h]
 rfl
theorem Afx{cl:List (List Nat)}{m n:Nat}(C:Cl cl m n){k:Nat}(h:k<n):(Dt cl m).getD (cQ m k).toNat 0=((bS (upC cl) m k:Nat):Int):=by
 have e:(cQ m k).toNat=m+k:=by unfold cQ;omega
 have hl:=Qt cl m
 rw[e,AkH]
 show((eS cl m++pS cl)[m+k]?).getD 0=_
 rw[Alk (by omega),AaU C,hl,Al0,AkG,Alr h]
 rfl
theorem AhT{cl:List (List Nat)}{m n:Nat}(C:Cl cl m n){n1:List Int}(p1:n1.Perm (Uo 0 1 m))
  (w1:n1.Pairwise (fun x y => -((Dt cl m).getD x.toNat 0) < -((Dt cl m).getD y.toNat 0)∨(-((Dt cl m).getD x.toNat 0) = -((Dt cl m).getD y.toNat 0)∧x<y))):∃ eo,Ord (aS (upC cl) n) m eo∧n1=eo.map (cQ 0):=by
 have p1':n1.Perm ((List.range m).map (cQ 0)):=by rw[← Abq];exact p1
 obtain⟨eo,p,e⟩:=Rb p1' _ rfl
 refine⟨eo,⟨p,?_⟩,e⟩
 rw[e,AkX] at w1
 refine w1.imp_of_mem fun {x y} hx hy h=>?_
 rw[Afw C (List.mem_range.mp (p.mem_iff.mp hx)),Afw C (List.mem_range.mp (p.mem_iff.mp hy))] at h
 unfold cQ at h
 omega
theorem AhU{cl:List (List Nat)}{m n:Nat}(C:Cl cl m n){n1:List Int}(p1:n1.Perm (Uo (m:Int) 1 n))
  (w1:n1.Pairwise (fun x y => -((Dt cl m).getD x.toNat 0) < -((Dt cl m).getD y.toNat 0)∨(-((Dt cl m).getD x.toNat 0) = -((Dt cl m).getD y.toNat 0)∧x<y))):∃ po,Ord (bS (upC cl) m) n po∧n1=po.map (cQ m):=by
 have p1':n1.Perm ((List.range n).map (cQ m)):=by rw[← Abq];exact p1
 obtain⟨po,p,e⟩:=Rb p1' _ rfl
 refine⟨po,⟨p,?_⟩,e⟩
 rw[e,AkX] at w1
 refine w1.imp_of_mem fun {x y} hx hy h=>?_
 rw[Afx C (List.mem_range.mp (p.mem_iff.mp hx)),Afx C (List.mem_range.mp (p.mem_iff.mp hy))] at h
 unfold cQ at h
 omega
theorem Uz{key:Nat→Nat}{N:Nat}{l:List Nat}(o:Ord key N l):(l.map fun e=>((key e:Nat):Int)).Pairwise (· ≥ ·):=by
 rw[AkX]
 exact o.ord.imp fun {x y} h=>by omega
theorem lay_of{cl:List (List Nat)}{m n:Nat}(C:Cl cl m n){dA dB:List Int}(pA:dA.Perm (eS cl m))(pB:dB.Perm (pS cl))(decA:dA.Pairwise (· ≥ ·))(Fp:dB.Pairwise (· ≥ ·)){eo po:List Nat}
  (oE:Ord (aS (upC cl) n) m eo) (oP:Ord (bS (upC cl) m) n po) {tss:List (List Int)} (len:tss.length+1=(Fq (Pz m n dA dB) n (m+1)).length)
  (lay:∀(i:Nat) (a b:Nat × Nat) (t:List Int),(Fq (Pz m n dA dB) n (m+1))[i]?=some a→(Fq (Pz m n dA dB) n (m+1))[i+1]?=some b→tss[i]?=some t →
   t.Perm (((eo.drop a.1).take (b.1-a.1)).map (cQ 0)++((po.drop a.2).take (b.2-a.2)).map (cQ m))∧t.Pairwise (·≤·)):Lay (upC cl) m n tss (Fq (Pz m n dA dB) n (m+1)) eo po:=by
 have tp:=Tps.of (AcK C pA pB decA Fp) C.m1
 have eA:dA=eo.map fun e=>((aS (upC cl) n e:Nat):Int):=Nf (pA.trans (by rw[AaT C];exact(oE.perm.map _).symm)) decA (Uz oE)
 have eB:dB=po.map fun e=>((bS (upC cl) m e:Nat):Int):=Nf (pB.trans (by rw[AaU C];exact(oP.perm.map _).symm)) Fp (Uz oP)
 refine⟨oE,oP,tp.fst,tp.lst,tp.in_,fun i a b ea eb=>?_,fun i a ea=>?_,len,lay⟩
 ·obtain⟨h1,h2,h3,_⟩:=tp.stp i a b ea eb
  exact⟨h1,h2,h3⟩
 ·have hm:=(Ii.mp (AkQ ea)).2.2
  unfold Pz at hm
  have hz:=of_decide_eq_true hm
  rw[eA,eB,← Als,← Als,HH,HH] at hz
  have e1:((a.1*n:Nat):Int)=(a.1:Int)*n:=by rw[AlE]
  have e2:((a.2*m:Nat):Int)=(a.2:Int)*m:=by rw[AlE]
  have e3:((a.1*a.2:Nat):Int)=(a.1:Int)*a.2:=by rw[AlE]
  omega
theorem Afy:(("layers_of" : Str) ++ ".<locals>.") ++ "<lambda>" = "layers_of.<locals>.<lambda>" := by decide +kernel
def Fw (cl:List (List Nat))(m n:Nat):Prop:=∀ dA dB:List Int,dA.Perm (eS cl m)→dB.Perm (pS cl)→dA.Pairwise (· ≥ ·)→dB.Pairwise (· ≥ ·)→∀(i:Nat) (x y:Nat × Nat),(Fq (Pz m n dA dB) n (m+1))[i]?=some x→(Fq (Pz m n dA dB) n (m+1))[i+1]?=some y→(y.1-x.1)+(y.2-x.2)<64
def AbZ (K:PySem.W.Frag)(tT:Addr):Sp:=fun vs H Q _=>∃(a:Addr) (cl:List (List Nat)) (m n:Nat),vs=[.ref a]∧SqL K H a (vS cl)∧Cl cl m n∧Fw cl m n∧Tb tT "layers_of.<locals>.<lambda>" H ∧
 ∀ l H' rs tss dA dB eo po,El H H'→Tb tT "layers_of.<locals>.<lambda>" H'→dA.Perm (eS cl m)→dB.Perm (pS cl)→dA.Pairwise (· ≥ ·)→dB.Pairwise (· ≥ ·)→Lay (upC cl) m n tss (Fq (Pz m n dA dB) n (m+1)) eo po→NL H' l rs tss→Q (.ref l) H'
theorem X8{tc tT:Addr}(T:Txt K mg t)(hcd:t.Em.code=.ref tc)(hCd:PySem.W.CodeHd base tc tT)(hBm:Bm mg base):BK P w K mg base CX0 6 t.Dy t.Em ["cloth"] (AbZ K tT):=by
 have Gb:BK P w K mg base CX0 3 t.Di t.G7 _ _:=Jk T
 have Nr:BK P w K mg base CX0 4 t.Dp t.Jg _ _:=Rq T
 have Aca:BK P w K mg base CX0 5 t.Gh t.Tq _ _:=Aa0 T
 refine T.OJ.F.okC hcd CJ (fun vs H Q E h=>?_) (fun A outer s H vs Q E hr h=>?_)
 ·obtain⟨a,cl,m,n,rfl,_⟩:=h
  rfl
 ·obtain⟨a,cl,m,n,rfl,hS,C,h64,tb,k⟩:=h
  have c2:=C.n40
  have c4:=C.m40
  have hsz:sizeLine=16777216:=sizeLine_eq
  refine⟨_,(Ab (Aj (i:=1) CJ.nd rfl (Or.inl rfl) (Bl (Gb.mono (by decide)) hr rfl T.measured.m T.measured.F.kp T.measured.b .nil Dk (Aa (pv 0) Ac)))
   (Ab (Aj (i:=2) CJ.nd rfl (Or.inr rfl) (Bl (Nr.mono (by decide)) hr rfl T.GD.m T.GD.F.kp T.GD.b .nil Dk (Aa (pv 0) Ac)))
   (Ab (Aj (i:=3) CJ.nd rfl (Or.inl rfl) (UJ (K:=K) (j:=2) (q := "layers_of.<locals>.<lambda>") rfl T.K8 (G5 AbG rfl T.Be YB (Aa (Aq (CG (K:=K)) (pv 1) Af (fun _ _=>rfl)) Ac)) hCd hBm (hr.mono (by decide)) rfl Afy))
   (Ab (Aj (i:=4) CJ.nd rfl (Or.inl rfl) (UJ (K:=K) (j:=2) (q := "layers_of.<locals>.<lambda>") rfl T.K8 (G5 AbD rfl T.Be YB (Aa (Aq (CG (K:=K)) (pv 1) Af (fun _ _=>rfl)) (Aa (Ao (Ak (K:=K)) rfl T.DN Cq (Aa (pv 2) Ac)) Ac))) hCd hBm (hr.mono (by decide)) rfl Afy))
   (Ab (Aj (i:=5) CJ.nd rfl (Or.inl rfl) (Bl (Aca.mono (by decide)) hr rfl T.Uy.m T.Uy.F.kp T.Uy.b .nil Dk (Aa (pv 0) Ac)))
   (Ab (Aj (i:=6) CJ.nd rfl (Or.inl rfl) (Ff Ac))
   (Ab (Ci PassesOwn.never rfl (Aga (K:=K) rfl T.AhP (Aa (pv 5) (Aa (Fj (Fo (K:=K)) (pv 5) (Fy Af) Ja) Ac))) (Aci rfl (QS (Bd (i:=7) CJ.nd rfl (Or.inl rfl)) (QS (Bd (i:=8) CJ.nd rfl (Or.inl rfl)) AaG)))
    (Ag (Gi (Gk (K:=K) PySem.F.plainAttrs_list PySem.F.slot_list_append PySem.F.type_list_append Gf (pv 6) (Aa (Ao (Aai (K:=K)) rfl T.K8 O8 (Aa (Ai Aaa (Fj (Fo (K:=K)) (pv 3) (Fy (Aq (CG (K:=K)) (pv 7) Af (fun _ _=>rfl))) (Fy (Aq (CG (K:=K)) (pv 8) Af (fun _ _=>rfl)))) (Fj (Fo (K:=K)) (pv 4) (Fy (Aq (CG (K:=K)) (pv 7) Af (fun _ _=>rfl))) (Fy (Aq (CG (K:=K)) (pv 8) Af (fun _ _=>rfl))))) Ac)) Ac)))))
   (Ag (Cg (pv 6)))))))))),?_⟩
  refine⟨_,rfl,a,cl,m,n,rfl,hS,C,fun p hp=>?_⟩
  have s1:An H (upd H p (.tup [.int (m:Int),.int (n:Int)])):=.upd hp
  have gp1:(upd H p (.tup [.int (m:Int),.int (n:Int)])) p=some (.tup [.int (m:Int),.int (n:Int)]):=Ad
  refine⟨_,rfl,a,cl,m,n,rfl,s1.seq hS,C,fun lf H2 s2 nlf hlf=>?_⟩
  have gp2:=s2 _ _ gp1
  have u2:=s1.trans s2
  have tb2:=tb.same u2
  have lsc:(Dt cl m).length=m+n:=by rw[UL,C.hn]
  refine⟨_,rfl,_,_,_,_,rfl,rfl,SqT.of gp2,Bb (by decide) rfl,_,rfl,fun pr npr=>?_⟩
  have s3:An H2 (upd H2 pr (Aag pr 0 (m:Int) 1)):=.upd npr
  obtain⟨r1,r2⟩:=Abp (lo:=0) (n:=m) (by omega)
  rw[Alx] at r1 r2
  refine⟨pr,0,(m:Int),m,lf,Dt cl m,rfl,Ad,r2,r1,(by omega),rfl,SqL.of (s3 _ _ hlf),by decide,(by show 0+m≤_;omega),tb2.same s3,fun l1 H3 n1 t3 tb3 nl1 hl1 p1 w1=>?_⟩
  have v3:El H2 H3:=s3.toT.trans t3
  have gp3:=v3.tup gp2
  have AhV:=v3.lst hlf
  refine⟨_,rfl,_,_,_,_,rfl,rfl,SqT.of gp3,Bb (by decide) rfl,_,rfl,_,_,rfl,.inl (SqL.of AhV),_,_,rfl,fun pr2 Ajn=>?_⟩
  rw[Av,lsc]
  have s4:An H3 (upd H3 pr2 (Aag pr2 (m:Int) ((m+n:Nat):Int) 1)):=.upd Ajn
  obtain⟨q1,q2⟩:=Abp (lo:=m) (n:=n) (by omega)
  refine⟨pr2,(m:Int),((m+n:Nat):Int),n,lf,Dt cl m,rfl,Ad,q2,q1,(by omega),rfl,SqL.of (s4 _ _ AhV),by omega,(by omega),tb3.same s4,fun l2 H4 n2 t4 tb4 nl2 hl2 p2 w2=>?_⟩
  have v4:El H3 H4:=s4.toT.trans t4
  have x4:El H H4:=u2.toT.trans (v3.trans v4)
  have Ajo:=v4.lst hl1
  obtain⟨eo,oE,rfl⟩:=AhT C p1 w1
  obtain⟨po,oP,rfl⟩:=AhU C p2 w2
  refine⟨_,rfl,a,cl,m,n,rfl,x4.seq hS,C,fun lt H5 ps dA dB s5 nlt pA pB decA Fp N=>?_⟩
  have tp:=Tps.of (AcK C pA pB decA Fp) C.m1
  have x5:El H H5:=x4.trans s5.toT
  have tb5:=tb4.same s5
  have Ajp:=s5 _ _ Ajo
  have Ajq:=s5 _ _ hl2
  have Ajr:(Fq (Pz m n dA dB) n (m+1)).length≤41*41:=by
   have q1:=UT (Pz m n dA dB) n (m+1)
   have q3:(m+1)*(n+1)≤41*41:=Nat.mul_le_mul (by omega) (by omega)
   omega
  have AhW:=fun(tss:List (List Int))=>lay_of (tss:=tss) C pA pB decA Fp oE oP
  have fw:=h64 dA dB pA pB decA Fp
  clear h64
  generalize hzs:Fq (Pz m n dA dB) n (m+1)=zs at N tp Ajr AhW fw
  refine⟨AkD _,fun ll nll=>?_⟩
  have s6:An H5 (upd H5 ll (.lst [])):=.upd nll
  have N6:=N.same s6
  refine⟨_,rfl,_,rfl,_,rfl,_,_,rfl,SqL.of N6.h,fun lc nlc=>?_⟩
  have s7:=s6.new nlc (o:=.lst (KR (ps.map V.ref) (some 1) none))
  have ct:KR (ps.map V.ref) (some 1) none=(ps.drop 1).map V.ref:=by
   have:=AbY (ps:=ps) (k:=1) (by rw[N.len];have:=tp.two;omega)
   exact this
  rw[ct] at s7 ⊢
  have N7:=N.same s7
  have Ag6:(upd (upd H5 ll (.lst [])) lc (.lst ((ps.drop 1).map V.ref))) lc=some (.lst ((ps.drop 1).map V.ref)):=Ad
  have lne:ll≠lc:=fun e=>by rw[← e,Ad] at nlc;cases nlc
  have AhX:(upd (upd H5 ll (.lst [])) lc (.lst ((ps.drop 1).map V.ref))) ll=some (.lst []):=by rw[Ar lne];exact Ad
  generalize upd (upd H5 ll (.lst [])) lc (.lst ((ps.drop 1).map V.ref))=H7 at s7 N7 Ag6 AhX ⊢
  have AhY:ps.length=zs.length:=N.len
  refine⟨_,_,rfl,⟨_,SqL.of N7.h⟩,⟨_,SqL.of Ag6⟩,Aeg (K:=K) (n:=zs.length-1) (xs:=ps.map V.ref) (ys:=(ps.drop 1).map V.ref) (by rw[AkA,AkA,Alh,AhY];omega)
   (fun i σ H8=>∃(rs:List Addr) (tss:List (List Int)) (v7 v8:Option V),σ=[some (.ref a),some (.ref p),some (.ref lf),some (.ref l1),some (.ref l2),some (.ref lt),some (.ref ll),v7,v8]∧An H5 H8∧H8 lc=some (.lst ((ps.drop 1).map V.ref))∧lc≠ll∧NL H8 ll rs tss∧rs.length=i∧(∀ r∈rs,r≠ll) ∧
    ∀(j:Nat) (x y:Nat × Nat) (t:List Int),zs[j]?=some x→zs[j+1]?=some y→tss[j]?=some t→t.Perm (((eo.drop x.1).take (y.1-x.1)).map (cQ 0)++((po.drop x.2).take (y.2-x.2)).map (cQ m))∧t.Pairwise (·≤·))
   ⟨[],[],none,none,rfl,s7,Ag6,Ne.symm lne,⟨AhX,rfl,fun i a ks e=>by simp at e⟩,rfl,fun r hr=>by simp at hr,fun j x y t _ _ e=>by simp at e⟩ (fun i σ H8 ⟨_,_,_,_,_,s8,Ag7,_⟩=>⟨SqL.of (s8 _ _ N.h),SqL.of Ag7⟩) ?_ ?_⟩
  ·rintro i x y σ H8 T8 hx hy ⟨rs,tss,v7,v8,rfl,s8,Ag7,lcn,N8,rl,rne,ly⟩ nT
   have hi:i+1<zs.length:=by
    have:=(List.getElem?_eq_some_iff.mp hy).1
    rw[AkA,Alh,AhY] at this
    omega
   have ex:=Ak9 (l:=zs) (i:=i) (by omega)
   have ey:=Ak9 (l:=zs) (i:=i+1) hi
   obtain⟨px,hpx,AhZ⟩:=N.get ex
   obtain⟨py,hpy,Aia⟩:=N.get ey
   rw[hpx] at hx
   cases hx
   have hy':(ps.map V.ref)[i+1]?=some y:=by
    rw[AlO,Am7,Nat.add_comm 1 i] at hy
    exact hy
   rw[hpy] at hy'
   cases hy'
   obtain⟨st1,st2,st3,_⟩:=tp.stp i _ _ ex ey
   obtain⟨in1,in2⟩:=tp.in_ _ _ ey
   have s9:An H5 (upd H8 T8 (.tup [.ref px,.ref py])):=s8.new nT
   have AeN:=s9 _ _ AhZ
   have AeO:=s9 _ _ Aia
   have N9:=N8.same (An.upd nT (o:=.tup [.ref px,.ref py]))
   have Aib:=(An.upd nT (o:=.tup [.ref px,.ref py])) _ _ Ag7
   refine⟨_,_,rfl,SqT.of Ad,rfl,_,_,rfl,_,_,rfl,rfl,?_⟩
   generalize upd H8 T8 (.tup [.ref px,.ref py])=H9 at s9 AeN AeO N9 Aib ⊢
   have eol:=oE.len
   have pol:=oP.len
   generalize zs[i]=za at ex AeN st1 st2 st3 AhZ ⊢
   generalize zs[i+1]=zb at ey AeO st1 st2 st3 in1 in2 Aia ⊢
   have f64:=fw i za zb ex ey
   refine⟨_,rfl,.inl ⟨rfl,_,SqL.of N9.h⟩,_,rfl,_,rfl,_,_,_,_,rfl,rfl,SqT.of AeN,Bb (by decide) rfl,_,rfl,_,rfl,_,_,_,_,rfl,rfl,SqT.of AeO,Bb (by decide) rfl,_,rfl,_,_,rfl,SqL.of (s9 _ _ Ajp),fun c1 nc1=>?_⟩
   rw[Adn (by omega) (by omega) (by rw[AkA,eol];omega)]
   rw[show((za.1:Nat):Int).toNat=za.1 by omega,show((zb.1:Nat):Int).toNat=zb.1 by omega,← AlO,← Als]
   have s10:An H9 (upd H9 c1 (.lst (vI (((eo.drop za.1).take (zb.1-za.1)).map (cQ 0))))):=.upd nc1
   have g10:(upd H9 c1 (.lst (vI (((eo.drop za.1).take (zb.1-za.1)).map (cQ 0))))) c1=some (.lst (vI (((eo.drop za.1).take (zb.1-za.1)).map (cQ 0)))):=Ad
   generalize upd H9 c1 (.lst (vI (((eo.drop za.1).take (zb.1-za.1)).map (cQ 0))))=H10 at s10 g10 ⊢
   refine⟨_,rfl,_,rfl,_,_,_,_,rfl,rfl,SqT.of (s10 _ _ AeN),Bb (by decide) rfl,_,rfl,_,rfl,_,_,_,_,rfl,rfl,SqT.of (s10 _ _ AeO),Bb (by decide) rfl,_,rfl,_,_,rfl,SqL.of (s10 _ _ (s9 _ _ Ajq)),fun c2 nc2=>?_⟩
   rw[Adn (by omega) (by omega) (by rw[AkA,pol];omega)]
   rw[show((za.2:Nat):Int).toNat=za.2 by omega,show((zb.2:Nat):Int).toNat=zb.2 by omega,← AlO,← Als]
   have s11:An H10 (upd H10 c2 (.lst (vI (((po.drop za.2).take (zb.2-za.2)).map (cQ m))))):=.upd nc2
   have g11:(upd H10 c2 (.lst (vI (((po.drop za.2).take (zb.2-za.2)).map (cQ m))))) c2=some (.lst (vI (((po.drop za.2).take (zb.2-za.2)).map (cQ m)))):=Ad
   generalize upd H10 c2 (.lst (vI (((po.drop za.2).take (zb.2-za.2)).map (cQ m))))=H11 at s11 g11 ⊢
   have Ade:(((eo.drop za.1).take (zb.1-za.1)).map (cQ 0)).length=zb.1-za.1:=by rw[AkA,AkO,Alh];omega
   have Ae6:(((po.drop za.2).take (zb.2-za.2)).map (cQ m)).length=zb.2-za.2:=by rw[AkA,AkO,Alh];omega
   refine⟨_,_,_,_,rfl,rfl,s11 _ _ g10,g11,(by rw[Av,Av,Ade,Ae6];omega),fun c3 nc3=>?_⟩
   have Ajs:vI (((eo.drop za.1).take (zb.1-za.1)).map (cQ 0))++vI (((po.drop za.2).take (zb.2-za.2)).map (cQ m))=vI (((eo.drop za.1).take (zb.1-za.1)).map (cQ 0)++((po.drop za.2).take (zb.2-za.2)).map (cQ m)):=by unfold vI;rw[AkP]
   rw[Ajs]
   have s12:=s11.new nc3 (o:=.lst (vI (((eo.drop za.1).take (zb.1-za.1)).map (cQ 0)++((po.drop za.2).take (zb.2-za.2)).map (cQ m))))
   refine⟨_,_,rfl,SqL.of Ad,(by rw[AkE,Ade,Ae6];omega),fun c4 ns' p4 w4 nc4=>?_⟩
   have s13:An H9 _:=(s10.trans s12).new nc4 (o:=.lst (vI ns'))
   have N13:=N9.same s13
   have g13:(upd (upd H11 c3 (.lst (vI (((eo.drop za.1).take (zb.1-za.1)).map (cQ 0)++((po.drop za.2).take (zb.2-za.2)).map (cQ m))))) c4 (.lst (vI ns'))) c4=some (.lst (vI ns')):=Ad
   have Afz:=s13 _ _ Aib
   have u13:=s9.trans s13
   have Aic:c4≠ll:=fun e=>by
    have z:=(s10.trans s12) _ _ N9.h
    rw[← e,nc4] at z
    cases z
   generalize upd (upd H11 c3 (.lst (vI (((eo.drop za.1).take (zb.1-za.1)).map (cQ 0)++((po.drop za.2).take (zb.2-za.2)).map (cQ m))))) c4 (.lst (vI ns'))=H13 at N13 g13 Afz u13 ⊢
   refine⟨_,_,_,rfl,rfl,N13.h,(by rw[AkA,rl];omega),?_⟩
   have tl:tss.length=i:=by rw[← N8.l,rl]
   refine⟨rs++[c4],tss++[ns'],_,_,rfl,u13.over nll,by rw[Ar lcn];exact Afz,lcn,⟨by rw[Ad,AkP];rfl,by rw[AkE,AkE,N8.l];rfl,fun j r ks e1 e2=>?_⟩,by rw[AkE,rl];rfl,fun r hr=>?_,fun j x y t e1 e2 e3=>?_⟩
   ·by_cases hj:j<rs.length
    ·rw[Alm hj] at e1
     rw[Alm (by rw[← N8.l];exact hj)] at e2
     rw[Ar (rne r (AkQ e1))]
     exact N13.r j r ks e1 e2
    ·have hj2:=(List.getElem?_eq_some_iff.mp e1).1
     rw[AkE] at hj2
     have ej:j=rs.length:=by have:[c4].length=1:=rfl;omega
     rw[ej,Alk (Ak8 _),Alu] at e1
     rw[ej,N8.l,Alk (Ak8 _),Alu] at e2
     cases e1
     cases e2
     rw[Ar Aic]
     exact g13
   ·rcases List.mem_append.mp hr with h | h
    ·exact rne r h
    ·rw[List.mem_singleton.mp h];exact Aic
   ·by_cases hj:j<tss.length
    ·rw[Alm hj] at e3
     exact ly j x y t e1 e2 e3
    ·have hj2:=(List.getElem?_eq_some_iff.mp e3).1
     rw[AkE] at hj2
     have ej:j=tss.length:=by have:[ns'].length=1:=rfl;omega
     rw[ej,Alk (Ak8 _),Alu] at e3
     cases e3
     rw[ej,tl] at e1 e2
     rw[ex] at e1
     rw[ey] at e2
     cases e1
     cases e2
     exact⟨p4,w4⟩
  ·rintro σ H8 ⟨rs,tss,v7,v8,rfl,s8,_,_,N8,rl,rne,ly⟩
   have h2:=tp.two
   refine⟨_,rfl,k ll H8 rs tss dA dB eo po (x5.trans s8.toT) (tb5.same s8) pA pB decA Fp ?_ N8⟩
   rw[hzs]
   exact AhW tss (by rw[← N8.l,rl];omega) ly
theorem Ado(m:Nat)(z:Int):(List.replicate m [V.int z]).flatten=vI (List.replicate m z):=by
 induction m with
 | zero=>rfl
 | succ m ih=>rw[AlK,Ale,ih,AlK];rfl
structure Pc (tss:List (List Int)) (N i j:Nat) (ks:List Int):Prop where
 len:ks.length=N
 old:∀(i':Nat) (z:Int) (h:i'<tss.length),i'<i→z∈tss[i']→ks[z.toNat]?=some (i':Int)
 now:∀(h:i<tss.length),∀ z∈tss[i].take j,ks[z.toNat]?=some (i:Int)
theorem Pc.nil(tss:List (List Int))(N:Nat){ks:List Int}(h:ks.length=N):Pc tss N 0 0 ks:=⟨h,fun i' z h h0=>absurd h0 (Nat.not_lt_zero _),fun h z hz=>by simp at hz⟩
theorem Pc.step{up:Nat→Nat→Bool}{m n:Nat}{tss:List (List Int)}{zs:List (Nat × Nat)}{eo po:List Nat}(L:Lay up m n tss zs eo po){i j:Nat}{ks:List Int}(c:Pc tss (m+n) i j ks)(hi:i<tss.length)(hj:j<tss[i].length) :
  Pc tss (m+n) i (j+1) (ks.set tss[i][j].toNat (i:Int)):=by
 have mz:=L.mem hi (AkI hj)
 have hl:tss[i][j].toNat<ks.length:=by rw[c.len];omega
 refine⟨by rw[AlR];exact c.len,fun i' z h h0 hz=>?_,fun h z hz=>?_⟩
 ·have m2:=L.mem h hz
  have ne:tss[i][j].toNat≠z.toNat:=fun e=>by
   have ez:z=tss[i][j]:=by omega
   rw[ez] at hz
   have:=Wt L.nd h hi hz (AkI hj)
   omega
  rw[AlP ne]
  exact c.old i' z h h0 hz
 ·rw[Am9 hj] at hz
  by_cases e:tss[i][j].toNat=z.toNat
  ·rw[e] at hl ⊢
   rw[Amt hl]
  ·rw[AlP e]
   rcases List.mem_append.mp hz with h' | h'
   ·exact c.now h z h'
   ·rw[List.mem_singleton.mp h'] at e
    exact absurd rfl e
theorem Pc.next{tss:List (List Int)}{N i:Nat}{ks:List Int}(hi:i<tss.length)(c:Pc tss N i tss[i].length ks):Pc tss N (i+1) 0 ks:=by
 refine⟨c.len,fun i' z h h0 hz=>?_,fun h z hz=>by simp at hz⟩
 by_cases e:i'=i
 ·subst e
  exact c.now hi z (by rw[Al7];exact hz)
 ·exact c.old i' z h (by omega) hz
theorem Adp(tss:List (List Int)):(tss.map fun t=>((t.length:Nat):Int)).sum=((tss.flatten.length:Nat):Int):=by
 induction tss with
 | nil=>rfl
 | cons t r ih=>rw[AkT,Al2,ih,Ale,AkE];omega
theorem Lay.Adq{up:Nat→Nat→Bool}{m n:Nat}{tss:List (List Int)}{zs:List (Nat × Nat)}{eo po:List Nat}(L:Lay up m n tss zs eo po):tss.flatten.length=m+n:=by rw[L.all.length_eq,AkA,AkC]
theorem Z0:∀(tss:List (List Int)),(∀ t∈tss,0<t.length)→tss.length≤tss.flatten.length
 | [],_=>Ak8 _
 | t::r,h=>by
  have:=h t AkM
  have:=Z0 r fun x hx=>h x (AkN _ hx)
  rw[Ale,AkE,AkR]
  omega
theorem Lay.few{up:Nat→Nat→Bool}{m n:Nat}{tss:List (List Int)}{zs:List (Nat × Nat)}{eo po:List Nat}(L:Lay up m n tss zs eo po):tss.length≤m+n:=by
 rw[← L.Adq]
 refine Z0 tss fun t ht=>?_
 obtain⟨i,hi,e⟩:=AkW ht
 rw[← e]
 exact L.ne hi
def AeP (K:PySem.W.Frag)(tT:Addr):Sp:=fun vs H Q _=>∃(a:Addr) (cl:List (List Nat)) (m n:Nat),vs=[.ref a]∧SqL K H a (vS cl)∧Cl cl m n∧Fw cl m n∧Tb tT "layers_of.<locals>.<lambda>" H ∧
 ∀ l H' tss dA dB eo po ks,El H H'→Tb tT "layers_of.<locals>.<lambda>" H'→dA.Perm (eS cl m)→dB.Perm (pS cl)→dA.Pairwise (· ≥ ·)→dB.Pairwise (· ≥ ·)→Lay (upC cl) m n tss (Fq (Pz m n dA dB) n (m+1)) eo po→Pc tss (m+n) tss.length 0 ks→H' l=some (.lst (vI ks))→Q (.ref l) H'
theorem Tt{tc tT:Addr}(T:Txt K mg t)(hcd:t.Em.code=.ref tc)(hCd:PySem.W.CodeHd base tc tT)(hBm:Bm mg base):BK P w K mg base CX0 7 t.Ce t.Hs ["cloth"] (AeP K tT):=by
 have Z1:BK P w K mg base CX0 6 t.Dy t.Em _ _:=X8 T hcd hCd hBm
 refine T.GR.F.ok CZ (fun vs H Q E h=>?_) (fun cdv A outer s H vs Q E hr h=>?_)
 ·obtain⟨a,cl,m,n,rfl,_⟩:=h
  rfl
 ·obtain⟨a,cl,m,n,rfl,hS,C,h64,tb,k⟩:=h
  have hsz:sizeLine=16777216:=sizeLine_eq
  refine⟨_,(Ab (Aj (i:=1) CZ.nd rfl (Or.inl rfl) (Bl (Z1.mono (by decide)) hr rfl T.OJ.m T.OJ.F.kp T.OJ.b .nil Dk (Aa (pv 0) Ac)))
   (Ab (Aj (i:=2) CZ.nd rfl (Or.inl rfl) (Ai Acp (Ff (Aa Af Ac)) (Ao (Tc (K:=K)) rfl T.Adm Aad (Aa (O5 (Ej.mk (BJ:=[]) (Nc:=["layer"]) rfl (by decide +kernel) (by decide +kernel) (Fz (sc0:=Ae Bc) rfl (by decide +kernel)) rfl rfl rfl (by decide +kernel) (fun _ _ h=>by simp at h)) rfl (Hn (K:=K) (pv 1)) (fun _ _ _ _ _=>.nil) (fun _ _ _ _ _=>(Ao (Ak (K:=K)) rfl T.DN Cq (Aa (pv 0) Ac)))) Ac))))
   (Ab (Ci PassesOwn.never rfl (Aej (K:=K) rfl T.Zx (Aa (pv 1) Ac)) (Aci rfl (QS (Bd (i:=3) CZ.nd rfl (Or.inl rfl)) (QS (Bd (i:=4) CZ.nd rfl (Or.inl rfl)) AaG)))
    (Ag (Ci PassesOwn.never rfl (Hn (K:=K) (pv 4)) (Bd (i:=5) CZ.nd rfl (Or.inl rfl))
     (Ag (S9 (pv 3) (S8 (pv 2) (pv 5) set_list))))))
   (Ag (Cg (pv 2)))))),?_⟩
  refine⟨_,rfl,a,cl,m,n,rfl,hS,C,h64,tb,fun ly H1 rs tss dA dB eo po t1 tb1 pA pB decA Fp L N=>?_⟩
  have few:=L.few
  have c2:=C.n40
  have c4:=C.m40
  refine⟨(by show 1≤sizeLine;decide),fun p hp=>?_⟩
  have s2:An H1 (upd H1 p (.lst [.int 0])):=.upd hp
  have gp2:(upd H1 p (.lst [.int 0])) p=some (.lst [.int 0]):=Ad
  have N2:=N.same s2
  generalize upd H1 p (.lst [.int 0])=H2 at s2 gp2 N2 ⊢
  have rl:(rs.map V.ref).length=tss.length:=by rw[AkA,N.l]
  refine⟨_,rfl,_,rfl,⟨_,SqL.of N2.h⟩,O7 (K:=K) (a:=ly) (xs:=rs.map V.ref) (fun j ys H3=>H3=H2∧ys=vI ((tss.take j).map fun t=>((t.length:Nat):Int))) ⟨rfl,rfl⟩ ?_ ?_ ?_ ?_⟩
  ·rintro j ys H3 hj ⟨rfl,rfl⟩
   refine⟨SqL.of N2.h,?_⟩
   rw[Av,AkA,AkO]
   omega
  ·rw[rl];omega
  ·rintro j x ys H3 hj hx ⟨rfl,rfl⟩
   obtain⟨r,ks,rfl,hr1,hr2,hr3⟩:=N2.at hx
   refine Ig.no ?_
   refine⟨_,rfl,_,_,rfl,.inl (SqL.of hr3),?_⟩
   refine CN.of hj ⟨rfl,?_⟩
   rw[AlD,hr2,Av]
   unfold vI
   rw[AkP,AkP]
   rfl
  ·rintro ys H3 q ⟨rfl,rfl⟩ hq
   rw[rl,Al7]
   have s4:An H3 (upd H3 q (.lst (vI (tss.map fun t=>((t.length:Nat):Int))))):=.upd hq
   refine⟨_,_,rfl,SqL.of Ad,?_⟩
   rw[Adp,L.Adq]
   refine⟨_,_,_,rfl,rfl,s4 _ _ gp2,(by omega),(by omega),(by show 1*(((m+n:Nat):Int).toNat)≤sizeLine;omega),fun l nl=>?_⟩
   rw[AkJ,Ado]
   have u5:An H1 _:=(s2.trans s4).new nl (o:=.lst (vI (List.replicate (m+n) 0)))
   have nl1:H1 l=none:=(s2.trans s4).free nl
   have g5:(upd (upd H3 q (.lst (vI (tss.map fun t=>((t.length:Nat):Int))))) l (.lst (vI (List.replicate (m+n) 0)))) l=some (.lst (vI (List.replicate (m+n) 0))):=Ad
   generalize upd (upd H3 q (.lst (vI (tss.map fun t=>((t.length:Nat):Int))))) l (.lst (vI (List.replicate (m+n) 0)))=H5 at u5 g5 ⊢
   refine⟨_,rfl,_,rfl,⟨_,SqL.of (u5 _ _ N.h)⟩,Ac4 (K:=K) (a:=ly) (xs:=rs.map V.ref) (fun i σ H6=>∃(ks:List Int) (v3 v4 v5:Option V),σ=[some (.ref a),some (.ref ly),some (.ref l),v3,v4,v5]∧An H1 H6∧H6 l=some (.lst (vI ks))∧Pc tss (m+n) i 0 ks)
    ⟨_,none,none,none,rfl,u5,g5,Pc.nil tss (m+n) (by rw[AlQ])⟩ (fun i σ H6 ⟨_,_,_,_,_,s6,_⟩=>SqL.of (s6 _ _ N.h)) ?_ ?_⟩
   ·rintro i x σ H6 T6 hx ⟨ks,v3,v4,v5,rfl,s6,g6,pc⟩ nT
    have N6:=N.same s6
    obtain⟨r,ts,rfl,hr1,hr2,hr3⟩:=N6.at hx
    have hi:i<tss.length:=(List.getElem?_eq_some_iff.mp hr2).1
    have e2:ts=tss[i]:=Option.some.inj (hr2.symm.trans (Ak9 hi))
    subst e2
    have hrl:r≠l:=fun e=>by
     have z:=N.r i r _ hr1 hr2
     rw[e,nl1] at z
     cases z
    have s7:An H1 (upd H6 T6 (.tup [.int (i:Int),.ref r])):=s6.new nT
    have g7:=(An.upd nT (o:=.tup [.int (i:Int),.ref r])) _ _ g6
    have hr7:=(An.upd nT (o:=.tup [.int (i:Int),.ref r])) _ _ hr3
    refine⟨_,_,rfl,SqT.of Ad,rfl,_,_,rfl,_,_,rfl,rfl,?_⟩
    generalize upd H6 T6 (.tup [.int (i:Int),.ref r])=H7 at s7 g7 hr7 ⊢
    refine⟨_,rfl,_,rfl,⟨_,SqL.of hr7⟩,QT (K:=K) (a:=r) (xs:=vI tss[i]) (fun j σ H8=>∃(ks:List Int) (v5:Option V),σ=[some (.ref a),some (.ref ly),some (.ref l),some (.int (i:Int)),some (.ref r),v5]∧An H1 H8∧H8 l=some (.lst (vI ks))∧H8 r=some (.lst (vI tss[i]))∧Pc tss (m+n) i j ks)
     ⟨ks,_,rfl,s7,g7,hr7,pc⟩ (fun j σ H8 _ ⟨_,_,_,_,_,h,_⟩=>SqL.of h) ?_ ?_⟩
    ·rintro j x σ H8 hx ⟨ks8,v5',rfl,s8,g8,hr8,pc8⟩
     obtain⟨z,hz,rfl⟩:=Xd hx
     have hj:j<tss[i].length:=(List.getElem?_eq_some_iff.mp hz).1
     have ez:z=tss[i][j]:=Option.some.inj (hz.symm.trans (Ak9 hj))
     have mz:=L.mem hi (AkI hj)
     rw[← ez] at mz
     refine⟨_,rfl,_,rfl,_,rfl,_,_,_,_,rfl,rfl,g8,SX mz.1 (by rw[Av,pc8.len];omega),?_⟩
     rw[Xe]
     refine⟨_,_,rfl,s8.over nl1,Ad,by rw[Ar hrl];exact hr8,?_⟩
     rw[ez]
     exact pc8.step L hi hj
    ·rintro σ H8 ⟨ks8,v5',rfl,s8,g8,hr8,pc8⟩
     rw[Av] at pc8
     exact⟨_,_,_,_,rfl,s8,g8,pc8.next hi⟩
   ·rintro σ H6 ⟨ks,v3,v4,v5,rfl,s6,g6,pc⟩
    rw[rl] at pc
    exact⟨_,rfl,k l H6 tss dA dB eo po ks (t1.trans s6.toT) (tb1.same s6) pA pB decA Fp L pc g6⟩
def Pcs (K:PySem.W.Frag)(H:Hp)(as:List Addr)(ps:List (List (List Nat))):Prop:=as.length=ps.length∧∀ i a,as[i]?=some a→SqL K H a (vS (ps.getD i []))
theorem Ads{G:Prop}{R:Nat→Prop}(C:Nat→Prop)(main:(∀ m,C m→R m)→G)(rest:∀ m,C m→R m):G:=main rest
theorem Adt{G:Prop}{R:Int→Prop}(main:(∀ z,R z)→G)(rest:∀ z,R z):G:=main rest
theorem Ag8(c:Int){z:Int}(hz:0<z){y:Nat}(hz2:z≤(y:Int)):∃ m:Nat,1+c%z=(m:Int)∧1≤m∧m≤y:=by
 have h1:=Ald c (show z≠0 by omega)
 have h2:=Alc c hz
 exact⟨(1+c%z).toNat,by omega,by omega,by omega⟩
def Num (ks:List Int)(m:Nat):Prop:=ks.length=m∧∀ k∈ks,0≤k∧k<1000000
theorem Num.at{ks:List Int}{m:Nat}(h:Num ks m){i:Int}(h0:0≤i)(hi:i<m):∃ z:Int,atI (vI ks) i=some (.int z)∧0≤z∧z<1000000:=by
 have hlt:i.toNat<ks.length:=by rw[h.1];omega
 exact⟨ks[i.toNat],Bb h0 (JQ (Ak9 hlt)),h.2 _ (AkI hlt)⟩
theorem Num.mod(z:Int):0≤z%1000000∧z%1000000<1000000:=⟨Ald _ (by decide),Alc _ (by decide)⟩
def AeQ (K:PySem.W.Frag):Sp:=fun vs H Q _=>∃(a:Addr) (ns:List Int) (m:Nat),vs=[.ref a,.int (m:Int)]∧SqL K H a (vI ns)∧ns.length≤63∧1≤m∧m≤1000 ∧
 ∀(l:Addr) (ks:List Int) (H':Hp),An H H'→H l=none→H' l=some (.lst (vI ks))→Num ks m→Q (.ref l) H'
theorem Vn(T:Txt K mg t):BK P w K mg base CX0 1 t.CT t.JT ["script", "many"] (AeQ K):=by
 refine T.Ji.F.ok Dd (fun vs H Q E h=>?_) (fun cdv A outer s H vs Q E hr h=>?_)
 ·obtain⟨a,ns,m,rfl,_⟩:=h
  rfl
 ·obtain⟨a,ns,m,rfl,hS,hl,hm,hm2,k⟩:=h
  have hsz:sizeLine=16777216:=sizeLine_eq
  refine⟨_,(Ab (Aj (i:=2) Dd.nd rfl (Or.inl rfl) (Ff Ac))
   (Ab (Aj (i:=3) Dd.nd rfl (Or.inl rfl) Af)
   (Ab (Fd (Bt AaL (Ao (Ak (K:=K)) rfl T.DN Cq (Aa (pv 0) Ac)) Af (Bw _))
    (Ag (Aj (i:=3) Dd.nd rfl (Or.inl rfl) (Ai Bs Af (Ai Cz (Aq (Ah (K:=K)) (pv 0) Af (fun _ _=>rfl)) Af))))
    Cv)
   (Ab (Ci PassesOwn.never rfl (Aw rfl T.Be (Aa (pv 1) Ac)) (Bd (i:=4) Dd.nd rfl (Or.inl rfl))
    (Ab (Aj (i:=3) Dd.nd rfl (Or.inl rfl) (Ai Cz (Ai KQ (pv 3) Af) Af))
    (Ag (Gi (Gk (K:=K) PySem.F.plainAttrs_list PySem.F.slot_list_append PySem.F.type_list_append Gf (pv 2) (Aa (Ai Cz (Ai GQ (pv 3) Af) Af) Ac))))))
   (Ab (Ci PassesOwn.never rfl (Aw rfl T.Be (Aa (Ao (Ak (K:=K)) rfl T.DN Cq (Aa (pv 0) Ac)) Ac)) (Bd (i:=4) Dd.nd rfl (Or.inl rfl))
    (Ag (S9 (Ai Cz (Ai Bs (Aq (Ah (K:=K)) (pv 2) (Ai Cz (pv 4) (pv 1)) (fun _ _=>rfl)) (Aq (Ah (K:=K)) (pv 0) (pv 4) (fun _ _=>rfl))) Af) (S8 (pv 2) (Ai Cz (pv 4) (pv 1)) set_list))))
   (Ag (Cg (pv 2)))))))),?_⟩
  refine⟨AkD _,fun q hq=>?_⟩
  have s1:An H (upd H q (.lst [])):=.upd hq
  apply Adt
  ·intro rest
   refine⟨_,rfl,_,_,rfl,.inl (s1.seq hS),_,_,rfl,rfl,_,rfl,?_⟩
   refine Ky (fun h1=>?_) (fun h1=>?_)
   ·have hlt:0<ns.length:=by rw[Av] at h1;omega
    refine⟨_,rfl,_,_,_,_,rfl,rfl,s1.seq hS,Bb (by decide) (JQ (Ak9 hlt)),_,_,rfl,rfl,(by show(0:Int)<2147483646;decide),_,_,rfl,rfl,?_⟩
    obtain⟨z,ez⟩:∃ z:Int,z=(1:Int)+(ns[0]'hlt:Int)%(2147483646:Int):=⟨_,rfl⟩
    dsimp only
    rw[← ez]
    exact rest z
   ·exact rest 1
  ·intro z0
   refine⟨_,rfl,_,rfl,(by omega),(by omega),?_⟩
   rw[AkJ]
   refine Bp (lo:=0) (n:=m) (fun i σ H2=>∃(z:Int) (ks:List Int) (v:Option V),σ=[some (.ref a),some (.int (m:Int)),some (.ref q),some (.int z),v]∧An H H2∧H2 q=some (.lst (vI ks))∧Num ks i)
    ⟨z0,[],none,rfl,s1,Ad,rfl,fun _ h=>absurd h (by simp)⟩ ?_ ?_
   ·rintro i σ H2 hi ⟨z,ks,v,rfl,s2,hq2,hkl⟩
    refine⟨_,rfl,_,_,rfl,rfl,.inr ⟨by decide,by decide⟩,_,_,rfl,rfl,(by show(0:Int)<2147483647;decide),?_⟩
    refine⟨_,rfl,.inl ⟨rfl,_,SqL.of hq2⟩,_,rfl,_,_,rfl,rfl,⟨by decide,by decide⟩,_,_,rfl,rfl,(by show(0:Int)<1000000;decide),_,_,_,rfl,rfl,hq2,(by rw[Av,hkl.1];omega),?_⟩
    rw[SQ]
    refine⟨_,_,_,rfl,s2.over hq,Ad,by rw[AkE,hkl.1];rfl,fun x hx=>?_⟩
    rcases List.mem_append.mp hx with h | h
    ·exact hkl.2 x h
    ·rw[List.mem_singleton.mp h];exact Num.mod _
   ·rintro σ H2 ⟨z,ks,v,rfl,s2,hq2,hkl⟩
    refine⟨_,rfl,_,_,rfl,.inl (s2.seq hS),_,rfl,(by omega),(by rw[Av];omega),?_⟩
    rw[AkJ,Av]
    refine Bp (lo:=0) (n:=ns.length) (fun i σ H2=>∃(ks:List Int) (v:Option V),σ=[some (.ref a),some (.int (m:Int)),some (.ref q),some (.int z),v]∧An H H2∧H2 q=some (.lst (vI ks))∧Num ks m)
     ⟨ks,v,rfl,s2,hq2,hkl⟩ ?_ ?_
    ·rintro i σ H3 hi ⟨ks,v,rfl,s3,hq3,hkl⟩
     have hix:(0+(i:Int))%(m:Int)=((i%m:Nat):Int):=by rw[Al1];omega
     have hlt:i%m<ks.length:=by rw[hkl.1];exact AlI _ (by omega)
     have e1:(vI ks)[((0+(i:Int))%(m:Int)).toNat]?=some (.int ks[i%m]):=by
      rw[hix,AkJ]
      exact JQ (Ak9 hlt)
     have e2:(vI ns)[(0+(i:Int)).toNat]?=some (.int ns[i]):=by
      rw[Al1,AkJ]
      exact JQ (Ak9 hi)
     have n1:0≤(0+(i:Int))%(m:Int):=by rw[hix];omega
     refine⟨_,rfl,_,rfl,_,rfl,_,_,rfl,rfl,(by show(0:Int)<m;omega),?_⟩
     refine⟨_,_,_,_,rfl,rfl,SqL.of hq3,Bb n1 e1,?_⟩
     refine⟨_,rfl,_,rfl,_,_,_,_,rfl,rfl,s3.seq hS,Bb (by omega) e2,?_⟩
     refine⟨_,_,rfl,rfl,?_⟩
     refine⟨_,_,rfl,rfl,(by show(0:Int)<1000000;decide),?_⟩
     refine⟨_,rfl,_,rfl,_,rfl,_,_,rfl,rfl,(by show(0:Int)<m;omega),?_⟩
     refine⟨_,_,_,_,rfl,rfl,hq3,SX n1 (by rw[Av,hkl.1,hix];have:=AlI i (show m>0 by omega);omega),?_⟩
     rw[Xe]
     refine⟨_,_,rfl,s3.over hq,Ad,by rw[AlR];exact hkl.1,fun x hx=>?_⟩
     rcases List.mem_or_eq_of_mem_set hx with h | h
     ·exact hkl.2 x h
     ·rw[h];exact Num.mod _
    ·rintro σ H3 ⟨ks,v,rfl,s3,hq3,hkl⟩
     exact⟨_,rfl,k q ks H3 s3 hq hq3 hkl⟩
theorem Ag9(z:Int):∃ c:Nat,atI ((".#" : Str)).cps.toList (z%2)=some c∧Sg c:=by
 have h1:=Ald z (show(2:Int)≠0 by decide)
 have h2:=Alc z (show(0:Int)<2 by decide)
 have:z%2=0∨z%2=1:=by omega
 rcases this with h | h <;> rw[h]
 ·exact⟨46,by decide +kernel,.inr rfl⟩
 ·exact⟨35,by decide +kernel,.inl rfl⟩
theorem AgA{u:List Nat}{c:Nat}(h:∀ d∈u,Sg d)(hc:Sg c):∀ d∈u++[c],Sg d:=fun d hd=>by
 rcases List.mem_append.mp hd with h1 | h1
 ·exact h d h1
 ·rw[List.mem_singleton.mp h1];exact hc
def Adu (K:PySem.W.Frag):Sp:=fun vs H Q _=>∃(a:Addr) (ks:List Int) (e m n:Nat),vs=[.ref a,.int (e:Int),.int (m:Int),.int (n:Int)]∧SqL K H a (vI ks)∧Num ks 63∧e≤1000∧m≤41∧n≤41 ∧
 ∀(l:Addr) (cl:List (List Nat)) (H':Hp),An H H'→H l=none→H' l=some (.lst (vS cl))→cl.length=n→(∀ t∈cl,t.length=m∧∀ c∈t,Sg c)→Q (.ref l) H'
theorem XC(T:Txt K mg t):BK P w K mg base CX0 1 t.Dz t.Nk ["numbers", "name", "wide", "high"] (Adu K):=by
 refine T.Pa.F.ok DQ (fun vs H Q E h=>?_) (fun cdv A outer s H vs Q E hr h=>?_)
 ·obtain⟨a,ks,e,m,n,rfl,_⟩:=h
  rfl
 ·obtain⟨a,ks,e,m,n,rfl,hS,hN,e1,m40,n40,k⟩:=h
  have hsz:sizeLine=16777216:=sizeLine_eq
  refine⟨_,(Ab (Aj (i:=4) DQ.nd rfl (Or.inl rfl) (Ff Ac))
   (Ab (Ci PassesOwn.never rfl (Aw rfl T.Be (Aa (pv 3) Ac)) (Bd (i:=5) DQ.nd rfl (Or.inl rfl))
    (Ab (Aj (i:=6) DQ.nd rfl (Or.inl rfl) Fe)
    (Ab (Ci PassesOwn.never rfl (Aw rfl T.Be (Aa (pv 2) Ac)) (Bd (i:=7) DQ.nd rfl (Or.inl rfl))
     (Ab (Aj (i:=8) DQ.nd rfl (Or.inl rfl) (Ai Bs (Ai Bs (Ai KQ (pv 1) Af) (Ai KQ (pv 5) Af)) (pv 7)))
     (Ag (Aj (i:=6) DQ.nd rfl (Or.inl rfl) (Ai Qs (pv 6) (Aq MT Fe (Ai Cz (Ai GQ (Aq (Ah (K:=K)) (pv 0) (Ai Bs Af (Ai Cz (pv 8) Af)) (fun _ _=>rfl)) (Ai Bs Af (Ai KQ Af (Ai GQ (pv 8) Af)))) Af) (fun _ _=>rfl)))))))
    (Ag (Gi (Gk (K:=K) PySem.F.plainAttrs_list PySem.F.slot_list_append PySem.F.type_list_append Gf (pv 4) (Aa (pv 6) Ac)))))))
   (Ag (Cg (pv 4))))),?_⟩
  refine⟨AkD _,fun q hq=>?_⟩
  have s1:An H (upd H q (.lst [])):=.upd hq
  refine⟨_,rfl,_,rfl,(by omega),(by omega),?_⟩
  rw[AkJ]
  refine Bp (lo:=0) (n:=n) (fun i σ H2=>∃(cl:List (List Nat)) (v1 v2 v3 v4:Option V),σ=[some (.ref a),some (.int (e:Int)),some (.int (m:Int)),some (.int (n:Int)),some (.ref q),v1,v2,v3,v4]∧An H H2∧H2 q=some (.lst (vS cl))∧cl.length=i∧(∀ t∈cl,t.length=m∧∀ c∈t,Sg c))
   ⟨[],none,none,none,none,rfl,s1,Ad,rfl,fun _ h=>absurd h (by simp)⟩ ?_ ?_
  ·rintro i σ H2 hi ⟨cl,v1,v2,v3,v4,rfl,s2,hq2,hcl,hcm⟩
   refine⟨_,rfl,_,rfl,(by omega),(by omega),?_⟩
   rw[AkJ]
   refine Bp (lo:=0) (n:=m) (fun j σ H3=>∃(u:List Nat) (v3 v4:Option V),σ=[some (.ref a),some (.int (e:Int)),some (.int (m:Int)),some (.int (n:Int)),some (.ref q),some (.int (0+(i:Int))),some (.str (tx u)),v3,v4]∧H3=H2∧u.length=j∧∀ c∈u,Sg c)
    ⟨[],v3,v4,by rw[show(("" : Str))=tx [] from by decide +kernel];rfl,rfl,rfl,fun _ h=>absurd h (by simp)⟩ ?_ ?_
   ·rintro j σ H3 hj ⟨u,v3,v4,rfl,rfl,hul,hus⟩
    refine⟨_,rfl,_,_,rfl,rfl,.inr ⟨by decide,by decide⟩,_,rfl,_,_,rfl,rfl,.inr ⟨by decide,by decide⟩,_,_,rfl,rfl,_,rfl,_,_,rfl,rfl,?_⟩
    obtain⟨y,ey⟩:∃ y:Int,y=(e:Int)*1600+(0+(i:Int))*40+(0+(j:Int)):=⟨_,rfl⟩
    have y0:0≤y:=by omega
    have y1:y<1000*1600+1700:=by omega
    dsimp only
    rw[← ey]
    have b1:=Ald y (show(55:Int)≠0 by decide)
    have b2:=Alc y (show(0:Int)<55 by decide)
    obtain⟨z,ez,_⟩:=hN.at (i:=8+y%55) (by omega) (by omega)
    have d0:0≤y / 55:=Int.ediv_nonneg y0 (by decide)
    have d1:y / 55≤1601600:=by omega
    obtain⟨c,ec,hc⟩:=Ag9 (z / (1+2*(y / 55)))
    refine⟨_,rfl,_,rfl,_,rfl,_,_,rfl,rfl,(by show(0:Int)<55;decide),_,_,rfl,rfl,_,_,_,_,rfl,rfl,s2.seq hS,ez,?_⟩
    refine⟨_,rfl,_,_,rfl,rfl,⟨by decide,by decide⟩,_,_,rfl,rfl,.inl ⟨by decide,by decide⟩,_,_,rfl,rfl,_,_,rfl,rfl,⟨by omega,by omega⟩,_,_,rfl,rfl,(by show(0:Int)<2;decide),?_⟩
    refine⟨_,_,_,rfl,rfl,(by decide +kernel),ec,_,_,rfl,rfl,?_,?_⟩
    ·rw[Ef,La,Ef,hul]
     show j+1≤sizeLine
     omega
    ·rw[La,WW]
     exact⟨_,_,_,rfl,rfl,by rw[AkE,hul];rfl,AgA hus hc⟩
   ·rintro σ H3 ⟨u,v3,v4,rfl,rfl,hul,hus⟩
    refine⟨_,rfl,.inl ⟨rfl,_,SqL.of hq2⟩,_,rfl,_,_,_,rfl,rfl,hq2,(by rw[Ih,hcl];omega),?_⟩
    rw[Xf]
    refine⟨_,_,_,_,_,rfl,s2.over hq,Ad,by rw[AkE,hcl];rfl,fun t ht=>?_⟩
    rcases List.mem_append.mp ht with h | h
    ·exact hcm t h
    ·rw[List.mem_singleton.mp h];exact⟨hul,hus⟩
  ·rintro σ H2 ⟨cl,v1,v2,v3,v4,rfl,s2,hq2,hcl,hcm⟩
   exact⟨_,rfl,k q cl H2 s2 hq hq2 hcl hcm⟩
def Fit (ps:List (List (List Nat)))(es os:List Int):Prop:=∀ i,i<ps.length→(ps.getD i []).length=os.count (i:Int)∧∀ t∈ps.getD i [],t.length=es.count (i:Int)∧∀ c∈t,Sg c
theorem Adv{bs:List Bool}{i:Nat}{b:Bool}(h:bs[i]?=some b):(vB bs)[i]?=some (.bl b):=by unfold vB;rw[AkG,h];rfl
theorem Adw(bs:List Bool)(i:Nat)(b:Bool):(vB bs).set i (.bl b)=vB (bs.set i b):=by unfold vB;rw[List.map_set]
theorem Adx{G:Prop}{R:List Bool→Hp→Prop}(C:List Bool→Hp→Prop)(main:(∀ x H,C x H→R x H)→G)(rest:∀ x H,C x H→R x H):G:=main rest
theorem Abr{b:Bool}{A B:Prop}(ht:b=true→A)(hf:b=false→B):if b=true then A else B:=by cases b with | true=>exact WL (ht rfl) | false=>exact Px (hf rfl)
structure PcR (cl:List (List Nat)) (w h:Nat):Prop where
 hn:cl.length=h
 hm:∀ u∈cl,u.length=w∧∀ c∈u,Sg c
 w1:1≤w
 w40:w≤40
 h1:1≤h
 h40:h≤40
theorem PcR.at{cl:List (List Nat)}{w h:Nat}(C:PcR cl w h){j k:Nat}(hj:j<h)(hk:k<w):∃(h1:j<cl.length) (h2:k<cl[j].length),atI (vS cl) (0+(j:Int))=some (.str (tx cl[j]))∧atI (tx cl[j]).cps.toList (0+(k:Int))=some cl[j][k]∧Sg cl[j][k]∧cl[j].length=w∧upC cl k j=decide (cl[j][k]=35):=by
 have h1:j<cl.length:=by rw[C.hn];exact hj
 obtain⟨m1,m2⟩:=C.hm _ (AkI h1)
 have h2:k<cl[j].length:=by omega
 have e1:cl.getD j []=cl[j]:=by rw[AkH,Ak9 h1];rfl
 have e2:cl[j].getD k 0=cl[j][k]:=by rw[AkH,Ak9 h2];rfl
 refine⟨h1,h2,Bb (by omega) (by rw[z0];exact Aae (Ak9 h1)),Bb (by omega) (by rw[z0,Array.getElem?_toList,Acv];exact Ak9 h2),m2 _ (AkI h2),m1,?_⟩
 unfold upC
 rw[e1,e2,AlJ,beq_iff_eq,decide_eq_true_iff]
def Aa1 (K:PySem.W.Frag):Sp:=fun vs H Q _=>∃(a:Addr) (cl:List (List Nat)) (m n:Nat) (f:Bool),vs=[.ref a,.int (m:Int),.bl f]∧SqL K H a (vS cl)∧PcR cl m n∧∀ seen H',An H H'→Rch cl m n f seen→Q (.bl (seen.all id)) H'
theorem Vo(T:Txt K mg t):BK P w K mg base CX0 1 t.CV t.JV ["piece", "wide", "forth"] (Aa1 K):=by
 refine T.Ep.F.ok Dg (fun vs H Q E h=>?_) (fun cdv A outer s H vs Q E hr h=>?_)
 ·obtain⟨a,cl,m,n,f,rfl,_⟩:=h
  rfl
 ·obtain⟨a,cl,m,n,f,rfl,hS,C,k⟩:=h
  have hsz:sizeLine=16777216:=sizeLine_eq
  have m40:=C.w40
  have n40:=C.h40
  have hlen:(vS cl).length=n:=by rw[Ih,C.hn]
  refine⟨_,(Ab (Aj (i:=3) Dg.nd rfl (Or.inl rfl) (Ai Bs (pv 1) (Ao (Ak (K:=K)) rfl T.DN Cq (Aa (pv 0) Ac))))
   (Ab (O6 (i:=4) (Ej.mk (BJ:=[]) (Nc:=["strand"]) rfl (by decide +kernel) (by decide +kernel) (Fz (sc0:=Ae Bx) rfl (by decide +kernel)) rfl rfl rfl (by decide +kernel) (fun _ _ h=>by simp at h)) rfl Dg.nd rfl rfl (Aw rfl T.Be (Aa (pv 3) Ac)) (fun _ _ _ _ _=>.nil) (fun _ _ _ _ _=>(HF Hm (pv 0) Af (Bw _))) rfl)
   (Ab (Ci PassesOwn.never rfl (Aw rfl T.Be (Aa (pv 3) Ac)) (Bd (i:=5) Dg.nd rfl (Or.inl rfl))
    (Ag (Ci PassesOwn.never rfl (Aw rfl T.Be (Aa (Ao (Ak (K:=K)) rfl T.DN Cq (Aa (pv 0) Ac)) Ac)) (Bd (i:=6) Dg.nd rfl (Or.inl rfl))
     (Ag (Ci PassesOwn.never rfl (Aw rfl T.Be (Aa (pv 1) Ac)) (Bd (i:=7) Dg.nd rfl (Or.inl rfl))
      (Ab (Aj (i:=8) Dg.nd rfl (Or.inl rfl) (HF Hm (HF Hm (Aq MT (Aq (Ah (K:=K)) (pv 0) (pv 6) (fun _ _=>rfl)) (pv 7) (fun _ _=>rfl)) Fe (Bw _)) (pv 2) (Bw _)))
      (Ab (Fd (PW.pt (pw_and (Wo (K:=K) (pv 8) (fun _=>rfl)) (pw_and1 (MK (Aq (Ah (K:=K)) (pv 4) (pv 7) (fun _ _=>rfl))))))
       (Ag (S9 QQ (S8 (pv 4) (Ai Bs (pv 1) (pv 6)) set_list)))
       Cv)
      (Ag (Fd (PW.pt (pw_and (Qo (Wo (K:=K) (pv 8) (fun _=>rfl))) (pw_and1 (MK (Aq (Ah (K:=K)) (pv 4) (Ai Bs (pv 1) (pv 6)) (fun _ _=>rfl))))))
       (Ag (S9 QQ (S8 (pv 4) (pv 7) set_list)))
       Cv)))))))))
   (Ag (Cg (Ao (Wr (K:=K)) rfl T.Afr Acy (Aa (pv 4) Ac))))))),?_⟩
  refine⟨_,rfl,_,rfl,_,_,rfl,.inl hS,_,_,rfl,rfl,?_⟩
  rw[hlen]
  refine⟨_,rfl,_,rfl,(by omega),(by omega),?_⟩
  rw[show((m:Int)+(n:Int)).toNat=m+n by omega]
  refine Ek (lo:=0) (n:=m+n) (fun i ys H2=>H2=H∧ys=vB ((List.range i).map fun x=>decide (x=0))) ⟨rfl,rfl⟩ ?_ ?_ ?_ ?_
  ·rintro i ys H2 hi ⟨rfl,rfl⟩
   rw[Xh,AkA,AkC]
   exact Ak8 _
  ·omega
  ·rintro i ys H2 hi ⟨rfl,rfl⟩
   refine Ig.no ?_
   refine⟨_,rfl,rfl,CN.of hi ⟨rfl,?_⟩⟩
   rw[Aln,AkP,AkT,Ama,← Ac6]
   rw[decide_eq_decide.mpr (show(V.int (0+(i:Int))=V.int 0)↔i=0 from⟨fun z=>by have:=V.int.inj z;omega,fun z=>by rw[z];rfl⟩)]
  ·rintro ys H2 sp ⟨rfl,rfl⟩ nsp
   have s1:An H2 (upd H2 sp (.lst (vB ((List.range (m+n)).map fun x=>decide (x=0))))):=.upd nsp
   have g1:(upd H2 sp (.lst (vB ((List.range (m+n)).map fun x=>decide (x=0))))) sp=some (.lst (vB ((List.range (m+n)).map fun x=>decide (x=0)))):=Ad
   generalize upd H2 sp (.lst (vB ((List.range (m+n)).map fun x=>decide (x=0))))=H1 at s1 g1 ⊢
   refine⟨_,rfl,_,rfl,(by omega),(by omega),?_⟩
   rw[show((m:Int)+(n:Int)).toNat=m+n by omega]
   refine Bp (lo:=0) (n:=m+n) (fun i σ H3=>∃(sn:List Bool) (v5 v6 v7 v8:Option V),σ=[some (.ref a),some (.int (m:Int)),some (.bl f),some (.int ((m:Int)+(n:Int))),some (.ref sp),v5,v6,v7,v8]∧An H2 H3∧H3 sp=some (.lst (vB sn))∧Rch cl m n f sn)
    ⟨_,none,none,none,none,rfl,s1,g1,Rch.zero cl m n f⟩ ?_ ?_
   ·rintro i σ H3 hi ⟨sn,v5,v6,v7,v8,rfl,s3,g3,R3⟩
    refine⟨_,rfl,_,_,rfl,.inl (s3.seq hS),_,rfl,(by rw[hlen];omega),(by rw[hlen];omega),?_⟩
    rw[hlen,AkJ]
    refine Bp (lo:=0) (n:=n) (fun j σ H3=>∃(sn:List Bool) (v6 v7 v8:Option V),σ=[some (.ref a),some (.int (m:Int)),some (.bl f),some (.int ((m:Int)+(n:Int))),some (.ref sp),some (.int (0+(i:Int))),v6,v7,v8]∧An H2 H3∧H3 sp=some (.lst (vB sn))∧Rch cl m n f sn)
     ⟨sn,v6,v7,v8,rfl,s3,g3,R3⟩ ?_ ?_
    ·rintro j σ H4 hj ⟨sn4,v6,v7,v8,rfl,s4,g4,R4⟩
     refine⟨_,rfl,_,rfl,(by omega),(by omega),?_⟩
     rw[AkJ]
     refine Bp (lo:=0) (n:=m) (fun k σ H3=>∃(sn:List Bool) (v7 v8:Option V),σ=[some (.ref a),some (.int (m:Int)),some (.bl f),some (.int ((m:Int)+(n:Int))),some (.ref sp),some (.int (0+(i:Int))),some (.int (0+(j:Int))),v7,v8]∧An H2 H3∧H3 sp=some (.lst (vB sn))∧Rch cl m n f sn)
      ⟨sn4,v7,v8,rfl,s4,g4,R4⟩ ?_ ?_
     ·rintro k2 σ H5 hk ⟨sn5,v7,v8,rfl,s5,g5,R5⟩
      obtain⟨p1,p2,a1,a2,sg,lw,hu⟩:=C.at hj hk
      refine⟨_,rfl,_,rfl,_,_,_,_,rfl,rfl,s5.seq hS,a1,_,rfl,_,_,_,rfl,rfl,(by rw[Ef,lw];exact Jj m40),a2,rfl,_,rfl,rfl,?_⟩
      have hh:("#" : Str)=⟨#[35]⟩:=by decide +kernel
      have es:decide ((V.str ⟨#[cl[j][k2]]⟩:V)=V.str "#")=upC cl k2 j:=by
       rw[hu,hh]
       exact decide_eq_decide.mpr AhQ
      obtain⟨al,hal⟩:∃ al:Bool,decide ((V.bl (decide ((V.str ⟨#[cl[j][k2]]⟩:V)=V.str "#")))=V.bl f)=al:=⟨_,rfl⟩
      rw[hal]
      rw[es] at hal
      have al1:al=true→upC cl k2 j=f:=fun z=>by
       rw[z] at hal
       exact V.bl.inj (of_decide_eq_true hal)
      have al0:al=false→¬upC cl k2 j=f:=fun z q=>by
       rw[z] at hal
       exact(of_decide_eq_false hal) (by rw[q])
      have gk:∀{sn:List Bool},Rch cl m n f sn→∃ b:Bool,sn[k2]?=some b∧atI (vB sn) (0+(k2:Int))=some (.bl b):=fun {sn} R=>by
       have:k2<sn.length:=by rw[R.len];omega
       exact⟨sn[k2],Ak9 this,Bb (by omega) (by rw[z0];exact Adv (Ak9 this))⟩
      have gj:∀{sn:List Bool},Rch cl m n f sn→∃ b:Bool,sn[m+j]?=some b∧atI (vB sn) ((m:Int)+(0+(j:Int)))=some (.bl b):=fun {sn} R=>by
       have:m+j<sn.length:=by rw[R.len];omega
       exact⟨sn[m+j],Ak9 this,Bb (by omega) (by rw[show((m:Int)+(0+(j:Int))).toNat=m+j by omega];exact Adv (Ak9 this))⟩
      apply Adx (fun sn H'=>An H2 H'∧H' sp=some (.lst (vB sn))∧Rch cl m n f sn)
      ·intro rest
       obtain⟨Hx,hx⟩:∃ Hx,Hx=H5:=⟨_,rfl⟩
       obtain⟨sx,hsx⟩:∃ sx,sx=sn5:=⟨_,rfl⟩
       rw[← hx] at s5 g5 ⊢
       rw[← hsx] at g5 R5
       refine⟨_,rfl,_,rfl,?_⟩
       refine Abr ?tt ?ff
       case ff =>
        intro z
        exact Px (rest sx Hx ⟨s5,g5,R5⟩)
       case tt =>
        intro z
        obtain⟨b,eb,ab⟩:=gk R5
        refine⟨_,rfl,_,rfl,_,_,_,_,rfl,rfl,SqL.of g5,ab,_,rfl,?_⟩
        refine Abr ?tt ?ff
        case ff =>
         intro _
         exact rest sx Hx ⟨s5,g5,R5⟩
        case tt =>
         intro zb
         refine⟨_,rfl,_,rfl,_,rfl,_,_,rfl,rfl,_,_,_,_,rfl,rfl,g5,SX (by omega) (by rw[Xh,R5.len];omega),?_⟩
         rw[show((m:Int)+(0+(j:Int))).toNat=m+j by omega,Adw]
         exact rest _ _ ⟨s5.over nsp,Ad,R5.down hk hj (al1 z) (by rw[eb,zb])⟩
      ·rintro sn6 H6 ⟨s6,g6,R6⟩
       refine⟨_,rfl,_,rfl,?_⟩
       cases hz:al with
       | true =>
        refine Px ?_
        exact Px ⟨sn6,_,_,rfl,s6,g6,R6⟩
       | false =>
        refine WL ?_
        obtain⟨b,eb,ab⟩:=gj R6
        refine⟨_,rfl,_,rfl,_,rfl,_,_,rfl,rfl,_,_,_,_,rfl,rfl,SqL.of g6,ab,_,rfl,?_⟩
        refine Abr (fun zb=>?_) (fun _=>?_)
        ·refine⟨_,rfl,_,rfl,_,_,_,_,rfl,rfl,g6,SX (by omega) (by rw[Xh,R6.len];omega),?_⟩
         rw[show(0+(k2:Int)).toNat=k2 by omega,Adw]
         exact⟨_,_,_,rfl,s6.over nsp,Ad,R6.up hk hj (al0 hz) (by rw[eb,zb])⟩
        ·exact⟨sn6,_,_,rfl,s6,g6,R6⟩
     ·rintro σ H5 ⟨sn5,v7,v8,rfl,s5,g5,R5⟩
      exact⟨sn5,_,_,_,rfl,s5,g5,R5⟩
    ·rintro σ H4 ⟨sn4,v6,v7,v8,rfl,s4,g4,R4⟩
     exact⟨sn4,_,_,_,_,rfl,s4,g4,R4⟩
   ·rintro σ H3 ⟨sn,v5,v6,v7,v8,rfl,s3,g3,R3⟩
    exact⟨_,rfl,_,_,rfl,SqL.of g3,k sn H3 s3 R3⟩
def Ady (K:PySem.W.Frag):Sp:=fun vs H Q _=>∃(a:Addr) (cl:List (List Nat)) (m n:Nat),vs=[.ref a,.int (m:Int)]∧SqL K H a (vS cl)∧PcR cl m n∧∀(b:Bool) (H':Hp),An H H'→(b=true→Hng cl m n)→Q (.bl b) H'
theorem XD(T:Txt K mg t):BK P w K mg base CX0 2 t.DG t.Nm ["piece", "wide"] (Ady K):=by
 have Qc:BK P w K mg base CX0 1 t.CV t.JV _ _:=Vo T
 refine T.Pb.F.ok X3 (fun vs H Q E h=>?_) (fun cdv A outer s H vs Q E hr h=>?_)
 ·obtain⟨a,cl,m,n,rfl,_⟩:=h
  rfl
 ·obtain⟨a,cl,m,n,rfl,hS,C,k⟩:=h
  refine⟨_,(Ag (Cg (Acg (Bl (Qc.mono (by decide)) hr rfl T.Ep.m T.Ep.F.kp T.Ep.b .nil Dk (Aa (pv 0) (Aa (pv 1) (Aa QQ Ac)))) (Acf (Bl (Qc.mono (by decide)) hr rfl T.Ep.m T.Ep.F.kp T.Ep.b .nil Dk (Aa (pv 0) (Aa (pv 1) (Aa QQ Ac)))))))),?_⟩
  refine⟨_,rfl,_,rfl,a,cl,m,n,true,rfl,hS,C,fun s1 H1 u1 R1=>?_⟩
  refine⟨_,rfl,?_⟩
  cases e1:s1.all id with
  | false =>
   refine Px ?_
   exact k false H1 u1 fun z=>absurd z AkL
  | true =>
   refine WL ?_
   refine⟨_,rfl,_,rfl,a,cl,m,n,false,rfl,u1.seq hS,C,fun s2 H2 u2 R2=>?_⟩
   exact k _ H2 (u1.trans u2) fun e2=>R1.hng R2 e1 e2
theorem XF(b:Bool):atI ((".#" : Str)).cps.toList (if b=true then 1 else 0)=some (if b=true then 35 else 46):=by cases b <;> decide +kernel
theorem Z2{a x:Int}{m:Nat}(h2:2≤m)(a0:0≤a)(a1:a<(m:Int))(x0:0≤x)(x1:x<(m:Int)-1):0≤(a+1+x)%(m:Int)∧(a+1+x)%(m:Int)<(m:Int)∧(a+1+x)%(m:Int)≠a:=by
 refine⟨Ald _ (by omega),Alc _ (by omega),?_⟩
 by_cases h:a+1+x<(m:Int)
 ·rw[Int.emod_eq_of_lt (by omega) h]
  omega
 ·have e:a+1+x=(a+1+x-(m:Int))+(m:Int)*1:=by omega
  rw[e,Int.add_mul_emod_self_left,Int.emod_eq_of_lt (by omega) (by omega)]
  omega
def rgS (cl:List (List Nat))(on tw fi la j k:Nat):Nat:=if j=fi∨j=la then (if decide (k=tw)=decide (j=la) then 35 else 46) else if k=on∨k=tw then (if k=tw then 35 else 46) else (cl.getD j []).getD k 0
def rgC (cl:List (List Nat))(on tw fi la m n:Nat):List (List Nat):=(List.range n).map fun j=>(List.range m).map (rgS cl on tw fi la j)
theorem Abs(cl:List (List Nat))(on tw fi la m n:Nat){j k:Nat}(hj:j<n)(hk:k<m):upC (rgC cl on tw fi la m n) k j=(rgS cl on tw fi la j k == 35):=by
 unfold upC rgC
 rw[AkH (l:=(List.range n).map _),AkG,Alr hj]
 show(((List.range m).map (rgS cl on tw fi la j)).getD k 0 == 35)=_
 rw[AkH,AkG,Alr hk]
 rfl
theorem AgB(cl:List (List Nat)){on tw fi la m n:Nat}(w1:on<m)(w2:tw<m)(ne:on≠tw)(f1:fi<n)(f2:la<n)(nf:fi≠la):Hng (rgC cl on tw fi la m n) m n:=by
 refine AcR w1 w2 ne f1 f2 nf (fun k hk=>?_) (fun k hk=>?_) fun j hj n1 n2=>⟨?_,?_⟩
 ·rw[Abs cl on tw fi la m n f1 hk]
  unfold rgS
  rw[if_pos (.inl rfl),decide_eq_false nf]
  by_cases h:k=tw
  ·rw[decide_eq_true h];rfl
  ·rw[decide_eq_false h];rfl
 ·rw[Abs cl on tw fi la m n f2 hk]
  unfold rgS
  rw[if_pos (.inr rfl),decide_eq_true (rfl:la=la)]
  by_cases h:k=tw
  ·rw[decide_eq_true h];rfl
  ·rw[decide_eq_false h];rfl
 ·rw[Abs cl on tw fi la m n hj w1]
  unfold rgS
  rw[if_neg (fun z=>z.elim n1 n2),if_pos (.inl rfl),if_neg ne]
  rfl
 ·rw[Abs cl on tw fi la m n hj w2]
  unfold rgS
  rw[if_neg (fun z=>z.elim n1 n2),if_pos (.inr rfl),if_pos rfl]
  rfl
theorem Aid{cl:List (List Nat)}{on tw fi la m n:Nat}(C:PcR cl m n):PcR (rgC cl on tw fi la m n) m n:=by
 refine⟨by unfold rgC;rw[AkA,AkC],fun u hu=>?_,C.w1,C.w40,C.h1,C.h40⟩
 unfold rgC at hu
 obtain⟨j,hj,rfl⟩:=List.mem_map.mp hu
 have hj:=List.mem_range.mp hj
 refine⟨by rw[AkA,AkC],fun c hc=>?_⟩
 obtain⟨k,hk,rfl⟩:=List.mem_map.mp hc
 have hk:=List.mem_range.mp hk
 unfold rgS
 have s1:Sg 35:=.inl rfl
 have s2:Sg 46:=.inr rfl
 split
 ·split
  ·exact s1
  ·exact s2
 ·split
  ·split
   ·exact s1
   ·exact s2
  ·obtain⟨p1,p2,_,_,sg,_,_⟩:=C.at hj hk
   have e1:cl.getD j []=cl[j]:=by rw[AkH,Ak9 p1];rfl
   have e2:cl[j].getD k 0=cl[j][k]:=by rw[AkH,Ak9 p2];rfl
   rw[e1,e2]
   exact sg
def Acb (K:PySem.W.Frag):Sp:=fun vs H Q _=>∃(a ln:Addr) (cl:List (List Nat)) (m n:Nat) (ks:List Int) (nm:Nat),vs=[.ref a,.int (m:Int),.ref ln,.int (nm:Int)]∧SqL K H a (vS cl)∧PcR cl m n∧2≤m∧2≤n∧SqL K H ln (vI ks)∧Num ks 63∧nm≤10 ∧
 ∀(l:Addr) (cl':List (List Nat)) (H':Hp),An H H'→H l=none→H' l=some (.lst (vS cl'))→PcR cl' m n→Hng cl' m n→Q (.ref l) H'
theorem VM(T:Txt K mg t):BK P w K mg base CX0 1 t.Dq t.Lk ["piece", "wide", "numbers", "name"] (Acb K):=by
 refine T.Lp.F.ok Ba (fun vs H Q E h=>?_) (fun cdv A outer s H vs Q E hr h=>?_)
 ·obtain⟨a,ln,cl,m,n,ks,nm,rfl,_⟩:=h
  rfl
 ·obtain⟨a,ln,cl,m,n,ks,nm,rfl,hS,C,m2,n2,gn,hN,n10,k⟩:=h
  have hsz:sizeLine=16777216:=sizeLine_eq
  have m40:=C.w40
  have n40:=C.h40
  have hlen:(vS cl).length=n:=by rw[Ih,C.hn]
  obtain⟨z8,e8,_⟩:=hN.at (i:=8+(nm:Int)) (by omega) (by omega)
  obtain⟨z9,e9,_⟩:=hN.at (i:=9+(nm:Int)) (by omega) (by omega)
  obtain⟨z10,e10,_⟩:=hN.at (i:=10+(nm:Int)) (by omega) (by omega)
  obtain⟨z11,e11,_⟩:=hN.at (i:=11+(nm:Int)) (by omega) (by omega)
  refine⟨_,(Ab (Aj (i:=4) Ba.nd rfl (Or.inl rfl) (Ai Cz (Ai GQ (Aq (Ah (K:=K)) (pv 2) (Ai Bs Af (pv 3)) (fun _ _=>rfl)) Af) (pv 1)))
   (Ab (Aj (i:=5) Ba.nd rfl (Or.inl rfl) (Ai Cz (Ai Bs (Ai Bs (pv 4) Af) (Ai Cz (Ai GQ (Aq (Ah (K:=K)) (pv 2) (Ai Bs Af (pv 3)) (fun _ _=>rfl)) Af) (Ai MP (pv 1) Af))) (pv 1)))
   (Ab (Aj (i:=6) Ba.nd rfl (Or.inl rfl) (Ai Cz (Ai GQ (Aq (Ah (K:=K)) (pv 2) (Ai Bs Af (pv 3)) (fun _ _=>rfl)) Af) (Ao (Ak (K:=K)) rfl T.DN Cq (Aa (pv 0) Ac))))
   (Ab (Aj (i:=7) Ba.nd rfl (Or.inl rfl) (Ai Bs (Ai Bs (pv 6) Af) (Ai Cz (Ai GQ (Aq (Ah (K:=K)) (pv 2) (Ai Bs Af (pv 3)) (fun _ _=>rfl)) Af) (Ai MP (Ao (Ak (K:=K)) rfl T.DN Cq (Aa (pv 0) Ac)) Af))))
   (Ab (Aj (i:=7) Ba.nd rfl (Or.inl rfl) (Ai Cz (pv 7) (Ao (Ak (K:=K)) rfl T.DN Cq (Aa (pv 0) Ac))))
   (Ab (Aj (i:=8) Ba.nd rfl (Or.inl rfl) (Ff Ac))
   (Ab (Ci PassesOwn.never rfl (Aw rfl T.Be (Aa (Ao (Ak (K:=K)) rfl T.DN Cq (Aa (pv 0) Ac)) Ac)) (Bd (i:=9) Ba.nd rfl (Or.inl rfl))
    (Ab (Aj (i:=10) Ba.nd rfl (Or.inl rfl) Fe)
    (Ab (Ci PassesOwn.never rfl (Aw rfl T.Be (Aa (pv 1) Ac)) (Bd (i:=11) Ba.nd rfl (Or.inl rfl))
     (Ab (Aj (i:=12) Ba.nd rfl (Or.inl rfl) (Aq MT (Aq (Ah (K:=K)) (pv 0) (pv 9) (fun _ _=>rfl)) (pv 11) (fun _ _=>rfl)))
     (Ab (Fd (PW.pt (pw_or (Bt Hm (pv 9) (pv 6) (Bw _)) (pw_or1 (Bt Hm (pv 9) (pv 7) (Bw _)))))
      (Ag (Aj (i:=12) Ba.nd rfl (Or.inl rfl) (Aq MT Fe (G5 SJ rfl T.Abo Xa (Aa (HF Hm (HF Hm (pv 11) (pv 5) (Bw _)) (HF Hm (pv 9) (pv 7) (Bw _)) (Bw _)) Ac)) (fun _ _=>rfl))))
      (Ag (Fd (PW.pt (pw_or (Bt Hm (pv 11) (pv 4) (Bw _)) (pw_or1 (Bt Hm (pv 11) (pv 5) (Bw _)))))
       (Ag (Aj (i:=12) Ba.nd rfl (Or.inl rfl) (Aq MT Fe (G5 SJ rfl T.Abo Xa (Aa (HF Hm (pv 11) (pv 5) (Bw _)) Ac)) (fun _ _=>rfl))))
       Cv)))
     (Ag (Aj (i:=10) Ba.nd rfl (Or.inl rfl) (Ai Qs (pv 10) (pv 12)))))))
    (Ag (Gi (Gk (K:=K) PySem.F.plainAttrs_list PySem.F.slot_list_append PySem.F.type_list_append Gf (pv 8) (Aa (pv 10) Ac)))))))
   (Ag (Cg (pv 8)))))))))),?_⟩
  refine⟨_,rfl,_,rfl,_,_,rfl,rfl,_,_,_,_,rfl,rfl,gn,e8,_,_,rfl,rfl,⟨by decide,by decide⟩,_,rfl,_,_,rfl,rfl,(by show(0:Int)<(m:Int);omega),?_⟩
  refine⟨_,rfl,_,_,rfl,rfl,_,rfl,_,rfl,_,_,rfl,rfl,_,_,_,_,rfl,rfl,gn,e9,_,_,rfl,rfl,⟨by decide,by decide⟩,_,rfl,_,_,rfl,rfl,_,_,rfl,rfl,(by show(0:Int)<(m:Int)-1;omega),_,_,rfl,rfl,_,rfl,_,_,rfl,rfl,(by show(0:Int)<(m:Int);omega),?_⟩
  refine⟨_,rfl,_,rfl,_,_,rfl,rfl,_,_,_,_,rfl,rfl,gn,e10,_,_,rfl,rfl,⟨by decide,by decide⟩,_,rfl,_,_,rfl,.inl hS,_,_,rfl,rfl,(by rw[hlen];show(0:Int)<(n:Int);omega),?_⟩
  refine⟨_,rfl,_,_,rfl,rfl,_,rfl,_,rfl,_,_,rfl,rfl,_,_,_,_,rfl,rfl,gn,e11,_,_,rfl,rfl,⟨by decide,by decide⟩,_,rfl,_,_,rfl,.inl hS,_,_,rfl,rfl,_,_,rfl,rfl,(by rw[hlen];show(0:Int)<(n:Int)-1;omega),_,_,rfl,rfl,?_⟩
  refine⟨_,rfl,_,rfl,_,_,rfl,.inl hS,_,_,rfl,rfl,(by rw[hlen];show(0:Int)<(n:Int);omega),?_⟩
  rw[hlen]
  have o0:=Ald (z8 / 3) (show(m:Int)≠0 by omega)
  have o1:=Alc (z8 / 3) (show(0:Int)<(m:Int) by omega)
  have x0:=Ald (z9 / 5) (show(m:Int)-1≠0 by omega)
  have x1:=Alc (z9 / 5) (show(0:Int)<(m:Int)-1 by omega)
  have f0:=Ald (z10 / 3) (show(n:Int)≠0 by omega)
  have f1:=Alc (z10 / 3) (show(0:Int)<(n:Int) by omega)
  have y0:=Ald (z11 / 5) (show(n:Int)-1≠0 by omega)
  have y1:=Alc (z11 / 5) (show(0:Int)<(n:Int)-1 by omega)
  obtain⟨t0,t1,t2⟩:=Z2 m2 o0 o1 x0 x1
  obtain⟨l0,l1,l2⟩:=Z2 n2 f0 f1 y0 y1
  obtain⟨on,eon⟩:∃ on:Nat,z8 / 3%(m:Int)=(on:Int):=⟨(z8 / 3%(m:Int)).toNat,by omega⟩
  obtain⟨tw,etw⟩:∃ tw:Nat,(z8 / 3%(m:Int)+1+z9 / 5%((m:Int)-1))%(m:Int)=(tw:Int):=⟨((z8 / 3%(m:Int)+1+z9 / 5%((m:Int)-1))%(m:Int)).toNat,by omega⟩
  obtain⟨fi,efi⟩:∃ fi:Nat,z10 / 3%(n:Int)=(fi:Int):=⟨(z10 / 3%(n:Int)).toNat,by omega⟩
  obtain⟨la,ela⟩:∃ la:Nat,(z10 / 3%(n:Int)+1+z11 / 5%((n:Int)-1))%(n:Int)=(la:Int):=⟨((z10 / 3%(n:Int)+1+z11 / 5%((n:Int)-1))%(n:Int)).toNat,by omega⟩
  dsimp only
  rw[etw] at t1 t2 ⊢
  rw[ela] at l1 l2 ⊢
  rw[eon] at o1 t2 ⊢
  rw[efi] at f1 l2 ⊢
  clear etw ela eon efi
  refine⟨AkD _,fun q nq=>?_⟩
  have s1:An H (upd H q (.lst [])):=.upd nq
  have g1:(upd H q (.lst [])) q=some (.lst (vS [])):=Ad
  generalize upd H q (.lst [])=H1 at s1 g1 ⊢
  refine⟨_,rfl,_,_,rfl,.inl (s1.seq hS),_,rfl,(by rw[hlen];omega),(by rw[hlen];omega),?_⟩
  rw[hlen,AkJ]
  refine Bp (lo:=0) (n:=n) (fun j σ H2=>∃(va vb v9 v10 v11 v12:Option V),σ=[some (.ref a),some (.int (m:Int)),some (.ref ln),some (.int (nm:Int)),some (.int (on:Int)),some (.int (tw:Int)),some (.int (fi:Int)),some (.int (la:Int)),some (.ref q),v9,v10,v11,v12]∧An H H2∧H2 q=some (.lst (vS ((List.range j).map fun j=>(List.range m).map (rgS cl on tw fi la j)))))
   ⟨none,none,none,none,none,none,rfl,s1,g1⟩ ?_ ?_
  ·rintro j σ H2 hj ⟨_,_,v9,v10,v11,v12,rfl,s2,g2⟩
   refine⟨_,rfl,_,rfl,(by omega),(by omega),?_⟩
   rw[AkJ]
   refine Bp (lo:=0) (n:=m) (fun k2 σ H3=>∃(v11 v12:Option V),σ=[some (.ref a),some (.int (m:Int)),some (.ref ln),some (.int (nm:Int)),some (.int (on:Int)),some (.int (tw:Int)),some (.int (fi:Int)),some (.int (la:Int)),some (.ref q),some (.int (0+(j:Int))),some (.str (tx ((List.range k2).map (rgS cl on tw fi la j)))),v11,v12]∧H3=H2)
    ⟨v11,v12,by rw[show(("" : Str))=tx [] from by decide +kernel];rfl,rfl⟩ ?_ ?_
   ·rintro k2 σ H3 hk ⟨v11,v12,rfl,rfl⟩
    obtain⟨p1,p2,a1,a2,sg,lw,_⟩:=C.at hj hk
    have e1:cl.getD j []=cl[j]:=by rw[AkH,Ak9 p1];rfl
    have e2:cl[j].getD k2 0=cl[j][k2]:=by rw[AkH,Ak9 p2];rfl
    have sm:∀ c:Nat,(tx ((List.range k2).map (rgS cl on tw fi la j))).length+(⟨#[c]⟩:Str).length≤sizeLine:=fun c=>by
     rw[Ef,La,Ef,AkA,AkC]
     show k2+1≤sizeLine
     omega
    have ap:(List.range (k2+1)).map (rgS cl on tw fi la j)=(List.range k2).map (rgS cl on tw fi la j)++[rgS cl on tw fi la j k2]:=by rw[Aln,AkP];rfl
    have dk:∀{x y:Nat},(V.int (0+(x:Int))=V.int (y:Int))↔x=y:=fun {x y}=>⟨fun z=>by have:=V.int.inj z;omega,fun z=>by rw[z,Al1]⟩
    refine⟨_,rfl,_,rfl,_,_,_,_,rfl,rfl,s2.seq hS,a1,_,rfl,_,_,_,rfl,rfl,(by rw[Ef,lw];exact Jj m40),a2,?_⟩
    have fin:∀ c:Nat,c=rgS cl on tw fi la j k2→tx ((List.range k2).map (rgS cl on tw fi la j))++(⟨#[c]⟩:Str)=tx ((List.range (k2+1)).map (rgS cl on tw fi la j)):=fun c hc=>by rw[La,WW,ap,hc]
    have ring:(j=fi∨j=la)→(if decide (V.bl (decide (V.int (0+(k2:Int))=V.int (tw:Int)))=V.bl (decide (V.int (0+(j:Int))=V.int (la:Int))))=true then 35 else 46)=rgS cl on tw fi la j k2:=fun hz=>by
     unfold rgS
     rw[if_pos hz,decide_eq_decide.mpr dk,decide_eq_decide.mpr dk]
     by_cases h:decide (k2=tw)=decide (j=la)
     ·rw[if_pos h,h,decide_eq_true rfl];rfl
     ·rw[if_neg h,decide_eq_false (fun z=>h (V.bl.inj z))];rfl
    refine⟨_,rfl,_,rfl,rfl,_,rfl,?_⟩
    refine Ky (fun h1=>?_) (fun h1=>?_)
    ·refine WL ?_
     refine⟨_,rfl,_,rfl,rfl,_,rfl,_,rfl,rfl,rfl,.inr ⟨_,rfl,_,_,_,rfl,rfl,(by decide +kernel),XF _,?_⟩⟩
     refine⟨_,rfl,_,rfl,_,_,rfl,rfl,sm _,?_⟩
     rw[fin _ (ring (.inl (dk.mp h1)))]
     exact⟨_,_,rfl,rfl⟩
    ·refine⟨_,rfl,_,rfl,rfl,_,rfl,?_⟩
     refine Ky (fun h2=>?_) (fun h2=>?_)
     ·refine⟨_,rfl,_,rfl,rfl,_,rfl,_,rfl,rfl,rfl,.inr ⟨_,rfl,_,_,_,rfl,rfl,(by decide +kernel),XF _,?_⟩⟩
      refine⟨_,rfl,_,rfl,_,_,rfl,rfl,sm _,?_⟩
      rw[fin _ (ring (.inr (dk.mp h2)))]
      exact⟨_,_,rfl,rfl⟩
     ·have nj:¬(j=fi∨j=la):=fun z=>z.elim (fun z=>h1 (dk.mpr z)) (fun z=>h2 (dk.mpr z))
      have two:(k2=on∨k2=tw)→(if decide (V.int (0+(k2:Int))=V.int (tw:Int))=true then 35 else 46)=rgS cl on tw fi la j k2:=fun hz=>by
       unfold rgS
       rw[if_neg nj,if_pos hz,decide_eq_decide.mpr dk]
       by_cases h:k2=tw
       ·rw[decide_eq_true h,if_pos rfl,if_pos h]
       ·rw[decide_eq_false h,if_neg AkL,if_neg h]
      refine⟨_,rfl,_,rfl,rfl,_,rfl,?_⟩
      refine Ky (fun h3=>?_) (fun h3=>?_)
      ·refine WL ?_
       refine⟨_,rfl,_,rfl,rfl,.inr ⟨_,rfl,_,_,_,rfl,rfl,(by decide +kernel),XF _,?_⟩⟩
       refine⟨_,rfl,_,rfl,_,_,rfl,rfl,sm _,?_⟩
       rw[fin _ (two (.inl (dk.mp h3)))]
       exact⟨_,_,rfl,rfl⟩
      ·refine⟨_,rfl,_,rfl,rfl,_,rfl,?_⟩
       refine Ky (fun h4=>?_) (fun h4=>?_)
       ·refine⟨_,rfl,_,rfl,rfl,.inr ⟨_,rfl,_,_,_,rfl,rfl,(by decide +kernel),XF _,?_⟩⟩
        refine⟨_,rfl,_,rfl,_,_,rfl,rfl,sm _,?_⟩
        rw[fin _ (two (.inr (dk.mp h4)))]
        exact⟨_,_,rfl,rfl⟩
       ·refine⟨_,rfl,_,rfl,_,_,rfl,rfl,sm _,?_⟩
        rw[fin _ (by
         unfold rgS
         rw[if_neg nj,if_neg (fun z=>z.elim (fun z=>h3 (dk.mpr z)) (fun z=>h4 (dk.mpr z))),e1,e2])]
        exact⟨_,_,rfl,rfl⟩
   ·rintro σ H3 ⟨v11,v12,rfl,rfl⟩
    refine⟨_,rfl,.inl ⟨rfl,_,SqL.of g2⟩,_,rfl,_,_,_,rfl,rfl,g2,(by rw[Ih,AkA,AkC];omega),?_⟩
    rw[Xf]
    refine⟨none,none,_,_,_,_,rfl,s2.over nq,?_⟩
    rw[Ad,Aln,AkP]
    rfl
  ·rintro σ H2 ⟨_,_,v9,v10,v11,v12,rfl,s2,g2⟩
   exact⟨_,rfl,k q (rgC cl on tw fi la m n) H2 s2 nq g2 (Aid C) (AgB cl (by omega) (by omega) (by omega) (by omega) (by omega) (by omega))⟩
def AeR (K:PySem.W.Frag):Sp:=fun vs H Q _=>∃(ln:Addr) (ks:List Int) (nm m n:Nat),vs=[.ref ln,.int (nm:Int),.int (m:Int),.int (n:Int)]∧SqL K H ln (vI ks)∧Num ks 63∧nm≤10∧2≤m∧2≤n∧m≤40∧n≤40 ∧
 ∀(l:Addr) (cl:List (List Nat)) (H':Hp),An H H'→H l=none→H' l=some (.lst (vS cl))→PcR cl m n→Hng cl m n→Q (.ref l) H'
theorem Rr(T:Txt K mg t):BK P w K mg base CX0 3 t.BV t.GC ["numbers", "name", "wide", "high"] (AeR K):=by
 have Z3:BK P w K mg base CX0 1 t.Dz t.Nk _ _:=XC T
 have Z4:BK P w K mg base CX0 2 t.DG t.Nm _ _:=XD T
 have XH:BK P w K mg base CX0 1 t.Dq t.Lk _ _:=VM T
 refine T.Gu.F.ok Je (fun vs H Q E h=>?_) (fun cdv A outer s H vs Q E hr h=>?_)
 ·obtain⟨ln,ks,nm,m,n,rfl,_⟩:=h
  rfl
 ·obtain⟨ln,ks,nm,m,n,rfl,gn,hN,n10,m2,n2,m40,n40,k⟩:=h
  refine⟨_,(Ab (Aj (i:=4) Je.nd rfl (Or.inl rfl) (Bl (Z3.mono (by decide)) hr rfl T.Pa.m T.Pa.F.kp T.Pa.b .nil Dk (Aa (pv 0) (Aa (pv 1) (Aa (pv 2) (Aa (pv 3) Ac))))))
   (Ab (Fd (MK (Bl (Z4.mono (by decide)) hr rfl T.Pb.m T.Pb.F.kp T.Pb.b .nil Dk (Aa (pv 4) (Aa (pv 2) Ac))))
    (Ag (Cg (pv 4)))
    Cv)
   (Ag (Cg (Bl (XH.mono (by decide)) hr rfl T.Lp.m T.Lp.F.kp T.Lp.b .nil Dk (Aa (pv 4) (Aa (pv 2) (Aa (pv 0) (Aa (pv 1) Ac))))))))),?_⟩
  refine⟨_,rfl,_,rfl,_,rfl,_,rfl,ln,ks,nm,m,n,rfl,gn,hN,by omega,by omega,by omega,fun l cl H1 s1 nl hl hcl hcm=>?_⟩
  have C:PcR cl m n:=⟨hcl,hcm,by omega,m40,by omega,n40⟩
  refine⟨_,rfl,_,rfl,l,cl,m,n,rfl,SqL.of hl,C,fun b H2 s2 hb=>?_⟩
  refine⟨_,rfl,?_⟩
  refine Abr (fun z=>?_) (fun _=>?_)
  ·exact⟨_,rfl,k l cl H2 (s1.trans s2) nl (s2 _ _ hl) C (hb z)⟩
  ·have u2:=s1.trans s2
   refine⟨_,rfl,_,rfl,_,rfl,_,rfl,l,ln,cl,m,n,ks,nm,rfl,SqL.of (s2 _ _ hl),C,m2,n2,u2.seq gn,hN,n10,fun l3 cl3 H3 s3 nl3 hl3 C3 hg3=>?_⟩
   exact k l3 cl3 H3 (u2.trans s3) (u2.free nl3) hl3 C3 hg3
theorem AeS(x y:List Int):vI x++vI y=vI (x++y):=by unfold vI;rw[AkP]
def M9 (cs:List Int)(i:Nat):List Int:=(List.range i).flatMap fun j=>List.replicate (cs.getD j 0).toNat ((j:Nat):Int)
theorem Lq(cs:List Int)(i:Nat):M9 cs (i+1)=M9 cs i++List.replicate (cs.getD i 0).toNat ((i:Nat):Int):=by
 unfold M9
 rw[Aln,Amn,List.flatMap_cons,List.flatMap_nil,Alb]
theorem Ph{cs:List Int}(h:∀ c∈cs,0≤c∧c≤10):∀ i,i≤cs.length→(M9 cs i).length≤10*i
 | 0,_=>AkD _
 | i+1,hi=>by
  have ih:=Ph h i (by omega)
  have e:cs.getD i 0=cs[i]:=by rw[AkH,Ak9 (by omega)];rfl
  have:=h cs[i] (AkI (by omega))
  rw[Lq,AkE,AlQ,e]
  omega
theorem Nt(cs:List Int)(z:Nat):∀ i,(M9 cs i).count ((z:Nat):Int)=if z<i then (cs.getD z 0).toNat else 0
 | 0=>by rw[if_neg (Nat.not_lt_zero _)];rfl
 | i+1=>by
  rw[Lq,Amz,Nt cs z i,List.count_replicate]
  by_cases h:i=z
  ·subst h
   rw[if_neg (Alf _),if_pos (beq_self_eq_true _),if_pos (AlC _),Alx]
  ·have hb:¬(((i:Nat):Int) == ((z:Nat):Int))=true:=fun e=>h (by have:=eq_of_beq e;omega)
   rw[if_neg hb,Nat.add_zero]
   by_cases h2:z<i
   ·rw[if_pos h2,if_pos (by omega)]
   ·rw[if_neg h2,if_neg (by omega)]
theorem Wz{cs:List Int}{i:Nat}{z:Int}(h:z∈M9 cs i):0≤z∧z<(i:Int):=by
 unfold M9 at h
 obtain⟨j,hj,hz⟩:=List.mem_flatMap.mp h
 have:=List.mem_range.mp hj
 rw[List.eq_of_mem_replicate hz]
 omega
def Aa2 (K:PySem.W.Frag):Sp:=fun vs H Q _=>∃(lc ln:Addr) (cs ks:List Int) (f:Nat),vs=[.ref lc,.ref ln,.int (f:Int)]∧SqL K H lc (vI cs)∧SqL K H ln (vI ks)∧Num ks 63∧cs.length≤4∧(∀ c∈cs,0≤c∧c≤10)∧f≤10 ∧
 ∀(l:Addr) (zs:List Int) (H':Hp),An H H'→H l=none→H' l=some (.lst (vI zs))→zs.Perm (M9 cs cs.length)→Q (.ref l) H'
theorem Vp(T:Txt K mg t):BK P w K mg base CX0 1 t.CW t.JW ["counts", "numbers", "first"] (Aa2 K):=by
 refine T.Er.F.ok Dh (fun vs H Q E h=>?_) (fun cdv A outer s H vs Q E hr h=>?_)
 ·obtain⟨lc,ln,cs,ks,f,rfl,_⟩:=h
  rfl
 ·obtain⟨lc,ln,cs,ks,f,rfl,gc,gn,hN,c4,cb,f10,k⟩:=h
  have hsz:sizeLine=16777216:=sizeLine_eq
  have fl:=Ph cb
  refine⟨_,(Ab (Aj (i:=3) Dh.nd rfl (Or.inl rfl) (Ff Ac))
   (Ab (Ci PassesOwn.never rfl (Aw rfl T.Be (Aa (Ao (Ak (K:=K)) rfl T.DN Cq (Aa (pv 0) Ac)) Ac)) (Bd (i:=4) Dh.nd rfl (Or.inl rfl))
    (Ag (Aj (i:=3) Dh.nd rfl (Or.inl rfl) (Ai Aaa (pv 3) (Ai Acp (Ff (Aa (pv 4) Ac)) (Aq (Ah (K:=K)) (pv 0) (pv 4) (fun _ _=>rfl)))))))
   (Ab (Ci PassesOwn.never rfl (Aw rfl T.Be (Aa (Ao (Ak (K:=K)) rfl T.DN Cq (Aa (pv 3) Ac)) Ac)) (Bd (i:=5) Dh.nd rfl (Or.inl rfl))
    (Ab (Aj (i:=6) Dh.nd rfl (Or.inl rfl) (Ai Cz (Ai GQ (Aq (Ah (K:=K)) (pv 1) (Ai Bs Af (Ai Cz (Ai Bs (pv 2) (Ai KQ Af (pv 5))) Af)) (fun _ _=>rfl)) Af) (Ai Bs (pv 5) Af)))
    (Ab (Aj (i:=7) Dh.nd rfl (Or.inl rfl) (Aq (Ah (K:=K)) (pv 3) (pv 6) (fun _ _=>rfl)))
    (Ab (S9 (Aq (Ah (K:=K)) (pv 3) (pv 5) (fun _ _=>rfl)) (S8 (pv 3) (pv 6) set_list))
    (Ag (S9 (pv 7) (S8 (pv 3) (pv 5) set_list)))))))
   (Ag (Cg (pv 3)))))),?_⟩
  refine⟨AkD _,fun q nq=>?_⟩
  have s1:An H (upd H q (.lst [])):=.upd nq
  have g1:(upd H q (.lst [])) q=some (.lst (vI (M9 cs 0))):=Ad
  generalize upd H q (.lst [])=H1 at s1 g1 ⊢
  refine⟨_,rfl,_,_,rfl,.inl (s1.seq gc),_,rfl,(by rw[Av];omega),(by rw[Av];omega),?_⟩
  rw[Av,AkJ]
  refine Bp (lo:=0) (n:=cs.length) (fun i σ H2=>∃(r:Addr) (v4:Option V),σ=[some (.ref lc),some (.ref ln),some (.int (f:Int)),some (.ref r),v4,none,none,none]∧An H H2∧H r=none∧H2 r=some (.lst (vI (M9 cs i))))
   ⟨q,none,rfl,s1,nq,g1⟩ ?_ ?_
  ·rintro i σ H2 hi ⟨r,v4,rfl,s2,nr,g2⟩
   have fi:=fl i (by omega)
   have fs:=fl (i+1) (by omega)
   rw[Lq,AkE,AlQ] at fs
   have ec:cs.getD i 0=cs[i]:=by rw[AkH,Ak9 hi];rfl
   have cbi:=cb cs[i] (AkI hi)
   have ac:atI (vI cs) (0+(i:Int))=some (.int cs[i]):=Bb (by omega) (by rw[z0];exact JQ (Ak9 hi))
   refine⟨_,rfl,_,rfl,(by show 1≤sizeLine;omega),fun p hp=>?_⟩
   have s3:An H2 (upd H2 p (.lst [.int (0+(i:Int))])):=.upd hp
   have g3:(upd H2 p (.lst [.int (0+(i:Int))])) p=some (.lst [.int (0+(i:Int))]):=Ad
   generalize upd H2 p (.lst [.int (0+(i:Int))])=H3 at s3 g3 ⊢
   refine⟨_,rfl,_,rfl,_,_,_,_,rfl,rfl,(s2.trans s3).seq gc,ac,_,_,_,rfl,rfl,g3,(by omega),(by omega),(by show 1*(cs[i].toNat)≤sizeLine;omega),fun p2 hp2=>?_⟩
   rw[Ado,Al1]
   have s4:An H2 _:=s3.new hp2 (o:=.lst (vI (List.replicate cs[i].toNat (i:Int))))
   refine⟨_,_,_,_,rfl,rfl,s4 _ _ g2,Ad,(by rw[Av,Av,AlQ];rw[ec] at fs;omega),fun p3 hp3=>?_⟩
   refine⟨p3,_,rfl,(s2.trans s4).new hp3,(s2.trans s4).free hp3,?_⟩
   rw[Ad,AeS,Lq,ec]
  ·rintro σ H2 ⟨r,v4,rfl,s2,nr,g2⟩
   have fi:=fl cs.length (Ak8 _)
   refine⟨_,rfl,_,_,rfl,.inl (SqL.of g2),_,rfl,(by rw[Av];omega),(by rw[Av];omega),?_⟩
   rw[Av,AkJ]
   refine Bp (lo:=0) (n:=(M9 cs cs.length).length) (fun i σ H3=>∃(zs:List Int) (v5 v6 v7:Option V),σ=[some (.ref lc),some (.ref ln),some (.int (f:Int)),some (.ref r),v4,v5,v6,v7]∧An H H3∧H3 r=some (.lst (vI zs))∧zs.Perm (M9 cs cs.length))
    ⟨_,none,none,none,rfl,s2,g2,List.Perm.refl _⟩ ?_ ?_
   ·rintro i σ H3 hi ⟨zs,v5,v6,v7,rfl,s3,g3,pm⟩
    have zl:=pm.length_eq
    obtain⟨y,ey⟩:∃ y:Int,y=(f:Int)+3*(0+(i:Int)):=⟨_,rfl⟩
    have b1:=Ald y (show(55:Int)≠0 by decide)
    have b2:=Alc y (show(0:Int)<55 by decide)
    obtain⟨z,ez,_⟩:=hN.at (i:=8+y%55) (by omega) (by omega)
    subst ey
    refine⟨_,rfl,_,rfl,_,rfl,_,_,rfl,rfl,.inl ⟨by decide,by decide⟩,_,_,rfl,rfl,_,_,rfl,rfl,(by show(0:Int)<55;decide),_,_,rfl,rfl,_,_,_,_,rfl,rfl,s3.seq gn,ez,?_⟩
    refine⟨_,_,rfl,rfl,⟨by decide,by decide⟩,_,rfl,_,_,rfl,rfl,_,_,rfl,rfl,(by show(0:Int)<0+(i:Int)+1;omega),?_⟩
    have r0:=Ald (z / 7) (show(0+(i:Int)+1)≠0 by omega)
    have r1:=Alc (z / 7) (show(0:Int)<0+(i:Int)+1 by omega)
    obtain⟨at',eat⟩:∃ at':Nat,z / 7%(0+(i:Int)+1)=(at':Int):=⟨(z / 7%(0+(i:Int)+1)).toNat,by omega⟩
    dsimp only
    rw[eat] at r1 ⊢
    have h1:at'<zs.length:=by omega
    have h2:i<zs.length:=by omega
    have aa:atI (vI zs) (at':Int)=some (.int zs[at']):=Bb (by omega) (by rw[AkJ];exact JQ (Ak9 h1))
    have ai:atI (vI zs) (0+(i:Int))=some (.int zs[i]):=Bb (by omega) (by rw[z0];exact JQ (Ak9 h2))
    refine⟨_,rfl,_,rfl,_,_,_,_,rfl,rfl,SqL.of g3,aa,?_⟩
    refine⟨_,rfl,_,rfl,_,_,_,_,rfl,rfl,SqL.of g3,ai,_,rfl,_,rfl,_,_,_,_,rfl,rfl,g3,SX (by omega) (by rw[Av];omega),?_⟩
    rw[AkJ,Xe]
    refine⟨_,rfl,_,rfl,_,rfl,_,_,_,_,rfl,rfl,Ad,SX (by omega) (by rw[Av,AlR];omega),?_⟩
    rw[show(0+(i:Int)).toNat=i by omega,Xe]
    exact⟨_,_,_,_,rfl,(s3.over nr).over nr,Ad,(List.set_set_perm h1 h2).trans pm⟩
   ·rintro σ H3 ⟨zs,v5,v6,v7,rfl,s3,g3,pm⟩
    exact⟨_,rfl,k r zs H3 s3 nr g3 pm⟩
def pick(u:List Nat)(ts:List Int):List Nat:=ts.map fun z=>u.getD z.toNat 0
def pOf (cl:List (List Nat))(m:Nat)(ts:List Int):List (List Nat):=(ts.filter fun z=>decide ((m:Int)≤z)).map fun p=>pick (cl.getD (p-(m:Int)).toNat []) (ts.filter fun z=>decide (z<(m:Int)))
theorem AgC{cl:List (List Nat)}{m n:Nat}(C:Cl cl m n){dA dB:List Int}(pA:dA.Perm (eS cl m))(pB:dB.Perm (pS cl))(decA:dA.Pairwise (· ≥ ·))(Fp:dB.Pairwise (· ≥ ·)){eo po:List Nat}
  (oE:Ord (aS (upC cl) n) m eo) (oP:Ord (bS (upC cl) m) n po) (s t:Nat):(s,t)∈Fq (Pz m n dA dB) n (m+1)↔s≤m∧t≤n∧sm (aS (upC cl) n) (eo.take s)+sm (bS (upC cl) m) (po.take t)+s*t=s*n+t*m:=by
 have eA:dA=eo.map fun e=>((aS (upC cl) n e:Nat):Int):=Nf (pA.trans (by rw[AaT C];exact(oE.perm.map _).symm)) decA (Uz oE)
 have eB:dB=po.map fun e=>((bS (upC cl) m e:Nat):Int):=Nf (pB.trans (by rw[AaU C];exact(oP.perm.map _).symm)) Fp (Uz oP)
 have e1:((s*n:Nat):Int)=(s:Int)*n:=by rw[AlE]
 have e2:((t*m:Nat):Int)=(t:Int)*m:=by rw[AlE]
 have e3:((s*t:Nat):Int)=(s:Int)*t:=by rw[AlE]
 rw[Ii]
 show s<m+1∧t≤n∧Pz m n dA dB s t=true↔_
 unfold Pz
 rw[decide_eq_true_iff,eA,eB,← Als,← Als,HH,HH]
 constructor
 ·rintro⟨h1,h2,h3⟩
  exact⟨by omega,h2,by omega⟩
 ·rintro⟨h1,h2,h3⟩
  exact⟨by omega,h2,by omega⟩
theorem Z5{m n:Nat}{Q:Nat→Nat→Bool}{zs:List (Nat × Nat)}(T:Tps m n Q zs){i:Nat}{a:Nat × Nat}(ea:zs[i]?=some a):∀(d:Nat) (b:Nat × Nat),zs[i+d]?=some b→a.1≤b.1∧a.2≤b.2
 | 0,b,eb=>by rw[Nat.add_zero,ea] at eb;cases eb;exact⟨Ak8 _,Ak8 _⟩
 | d+1,b,eb=>by
  have hl:i+d<zs.length:=by have:=(List.getElem?_eq_some_iff.mp eb).1;omega
  obtain⟨h1,h2⟩:=Z5 T ea d zs[i+d] (Ak9 hl)
  obtain⟨h3,h4,_⟩:=T.stp (i+d) _ b (Ak9 hl) eb
  omega
theorem Adz{cl:List (List Nat)}{m n:Nat}(C:Cl cl m n){dA dB:List Int}(pA:dA.Perm (eS cl m))(pB:dB.Perm (pS cl))(decA:dA.Pairwise (· ≥ ·))(Fp:dB.Pairwise (· ≥ ·)){eo po:List Nat}
  (oE:Ord (aS (upC cl) n) m eo) (oP:Ord (bS (upC cl) m) n po):Tpz (upC cl) m n (Fq (Pz m n dA dB) n (m+1)) eo po:=by
 have T:=Tps.of (AcK C pA pB decA Fp) C.m1
 have lex:=Xj (Pz m n dA dB) n (m+1)
 refine⟨oE,oP,AgC C pA pB decA Fp oE oP,lex,fun a b ha hb h=>?_⟩
 obtain⟨i,hi,ei⟩:=AkW ha
 obtain⟨j,hj,ej⟩:=AkW hb
 have e1:(Fq (Pz m n dA dB) n (m+1))[i]?=some a:=by rw[Ak9 hi,ei]
 have e2:(Fq (Pz m n dA dB) n (m+1))[j]?=some b:=by rw[Ak9 hj,ej]
 have lt:=Tg lex e1 e2 h
 exact Z5 T e1 (j-i) b (by rw[show i+(j-i)=j by omega];exact e2)
theorem Vq{f:Nat→Nat}{t:Nat}:∀ l:List Nat,(l.filter fun x=>decide (f x<t+1)).length=(l.filter fun x=>decide (f x<t)).length+(l.filter fun x=>decide (f x=t)).length
 | []=>rfl
 | x::l=>by
  have ih:=Vq (f:=f) (t:=t) l
  rw[AlY,AlY,AlY]
  rcases AlL (f x) t with h | h | h
  ·rw[if_pos (decide_eq_true (by omega)),if_pos (decide_eq_true h),if_neg (by simp;omega),AkR,AkR]
   omega
  ·rw[if_pos (decide_eq_true (by omega)),if_neg (by simp;omega),if_pos (decide_eq_true h),AkR,AkR]
   omega
  ·rw[if_neg (by simp;omega),if_neg (by simp;omega),if_neg (by simp;omega)]
   exact ih
section
variable {ps:List (List (List Nat))}{es os:List Int}
theorem Ad0(C:Qw ps es os){j:Nat}(hj:j<ps.length):(VH es.length (owN es os) j).length=es.count (j:Int)∧(Xo es.length os.length (owN es os) j).length=os.count (j:Int):=by
 have oE:=(Vb es (j:Int) es.length (Ak8 _)).len
 have oP:=(Vb os (j:Int) os.length (Ak8 _)).len
 rw[Al7] at oE oP
 rw[AaX C hj,AaY C hj]
 exact⟨oE,oP⟩
theorem Aa3(C:Qw ps es os):Cl (lay ps es os) es.length os.length:=by
 refine⟨AaV ps es os,fun u hu=>?_,fun u hu c hc=>?_,C.e1,C.e40,C.o1,C.o40⟩
 ·unfold lay at hu
  obtain⟨j,_,rfl⟩:=List.mem_map.mp hu
  exact Va ..
 ·unfold lay at hu
  obtain⟨j,hj,rfl⟩:=List.mem_map.mp hu
  have hj:=List.mem_range.mp hj
  unfold FT at hc
  obtain⟨k,hk,rfl⟩:=List.mem_map.mp hc
  have hk:=List.mem_range.mp hk
  unfold Ng
  split
  ·rename_i h
   obtain⟨o1,o2⟩:=C.own hj
   have rw1:=C.row o1 o2
   have oz:=C.o _ (getD_mem hj)
   have pl:=UW hk
   rw[← h] at pl
   rw[show(((os.getD j 0).toNat:Nat):Int)=os.getD j 0 by omega] at rw1
   have hlt:plc es k<((ps.getD (os.getD j 0).toNat []).getD (plc os j) []).length:=by omega
   have e1:(ps.getD (os.getD j 0).toNat []).getD (plc os j) []=(ps.getD (os.getD j 0).toNat [])[plc os j]:=by rw[AkH,Ak9 o2];rfl
   rw[e1] at hlt ⊢
   have e2:((ps.getD (os.getD j 0).toNat [])[plc os j]).getD (plc es k) 0=((ps.getD (os.getD j 0).toNat [])[plc os j])[plc es k]:=by rw[AkH,Ak9 hlt];rfl
   rw[e2]
   exact(C.hm _ o1 _ (AkI o2)).2 _ (AkI hlt)
  ·split
   ·exact .inl rfl
   ·exact .inr rfl
theorem AgD(C:Qw ps es os)(B:Blk (upC (lay ps es os)) es.length os.length ps.length (owN es os))(few:∀ j,j<ps.length→es.count (j:Int)≤10∧os.count (j:Int)≤10):Fw (lay ps es os) es.length os.length:=by
 intro dA dB pA pB decA Fp i x y hx hy
 obtain⟨eo,oE⟩:=AcO (aS (upC (lay ps es os)) os.length) es.length
 obtain⟨po,oP⟩:=AcO (bS (upC (lay ps es os)) es.length) os.length
 have T:=Adz (Aa3 C) pA pB decA Fp oE oP
 have ez:=B.tops T
 rw[ez] at hx hy
 have hi:i+1<ps.length+1:=by
  have:=(List.getElem?_eq_some_iff.mp hy).1
  rwa [AkA,AkC] at this
 rw[AkG,Alr (by omega)] at hx hy
 cases hx
 cases hy
 obtain⟨l1,l2⟩:=Ad0 C (j:=i) (by omega)
 obtain⟨f1,f2⟩:=few i (by omega)
 have e1:Ec es.length (owN es os) (i+1)=Ec es.length (owN es os) i+(VH es.length (owN es os) i).length:=Vq (f:=owN es os) _
 have e2:Pct es.length os.length (owN es os) (i+1)=Pct es.length os.length (owN es os) i+(Xo es.length os.length (owN es os) i).length:=Vq (f:=fun p=>owN es os (es.length+p)) _
 dsimp only
 omega
theorem Ad1(u:List Nat)(A:List Nat):pick u (A.map (cQ 0))=A.map fun e=>u.getD e 0:=by
 unfold pick
 rw[Alw]
 refine AlM fun e _=>?_
 show u.getD (cQ 0 e).toNat 0=_
 unfold cQ
 rw[Alx,AkJ]
theorem AeT(cl:List (List Nat)){m:Nat}{A B:List Nat}(hA:∀ e∈A,e<m):pOf cl m (A.map (cQ 0)++B.map (cQ m))=B.map fun p=>A.map fun e=>(cl.getD p []).getD e 0:=by
 have q1:(A.map (cQ 0)++B.map (cQ m)).filter (fun z=>decide (z<(m:Int)))=A.map (cQ 0):=by
  rw[AlF,List.filter_eq_self.mpr,List.filter_eq_nil_iff.mpr,Alb]
  ·intro z hz q
   obtain⟨p,_,rfl⟩:=List.mem_map.mp hz
   have:=of_decide_eq_true q
   unfold cQ at this
   omega
  ·intro z hz
   obtain⟨e,he,rfl⟩:=List.mem_map.mp hz
   have:=hA e he
   refine decide_eq_true ?_
   unfold cQ
   omega
 have q2:(A.map (cQ 0)++B.map (cQ m)).filter (fun z=>decide ((m:Int)≤z))=B.map (cQ m):=by
  rw[AlF,List.filter_eq_nil_iff.mpr,List.filter_eq_self.mpr,AlB]
  ·intro z hz
   obtain⟨p,_,rfl⟩:=List.mem_map.mp hz
   refine decide_eq_true ?_
   unfold cQ
   omega
  ·intro z hz q
   obtain⟨e,he,rfl⟩:=List.mem_map.mp hz
   have:=hA e he
   have:=of_decide_eq_true q
   unfold cQ at this
   omega
 unfold pOf
 rw[q1,q2,Alw]
 refine AlM fun p _=>?_
 show pick (cl.getD (cQ m p-(m:Int)).toNat []) (A.map (cQ 0))=_
 rw[Ad1,show(cQ m p-(m:Int)).toNat=p by unfold cQ;omega]
theorem Ad2(C:Qw ps es os)(B:Blk (upC (lay ps es os)) es.length os.length ps.length (owN es os)){dA dB:List Int}(pA:dA.Perm (eS (lay ps es os) es.length))(pB:dB.Perm (pS (lay ps es os)))(decA:dA.Pairwise (· ≥ ·))(Fp:dB.Pairwise (· ≥ ·)){tss:List (List Int)}{eo po:List Nat}{ks:List Int}
  (L:Lay (upC (lay ps es os)) es.length os.length tss (Fq (Pz es.length os.length dA dB) os.length (es.length+1)) eo po) (pc:Pc tss (es.length+os.length) tss.length 0 ks) :
  tss.map (pOf (lay ps es os) es.length)=ps∧ks.take es.length=es∧ks.drop es.length=os:=by
 have T:=Adz (Aa3 C) pA pB decA Fp L.oE L.oP
 have et:=B.layers L T
 have kl:=pc.len
 have tl:tss.length=ps.length:=by rw[et,AkA,AkC]
 have kx:∀ x,x<es.length+os.length→ks[x]?=some (((owN es os x:Nat)):Int):=fun x hx=>by
  have hq:=B.lt x hx
  have hj:owN es os x<tss.length:=by omega
  have hm:((x:Nat):Int)∈tss[owN es os x]:=by
   have e1:tss[owN es os x]=(VH es.length (owN es os) (owN es os x)).map (cQ 0)++(Xo es.length os.length (owN es os) (owN es os x)).map (cQ es.length):=by
    have:=congrArg (fun l:List (List Int)=>l[owN es os x]?) et
    rw[Ak9 hj,AkG,Alr hq] at this
    exact Option.some.inj this
   rw[e1,Al5,AlG,AlG]
   by_cases h:x<es.length
   ·exact .inl ⟨x,List.mem_filter.mpr ⟨List.mem_range.mpr h,decide_eq_true rfl⟩,by unfold cQ;rw[Alx]⟩
   ·exact .inr ⟨x-es.length,List.mem_filter.mpr ⟨List.mem_range.mpr (by omega),decide_eq_true (by rw[show es.length+(x-es.length)=x by omega])⟩,by unfold cQ;rw[show es.length+(x-es.length)=x by omega]⟩
  have:=pc.old _ _ hj hj hm
  rwa [AkJ] at this
 refine⟨?_,?_,?_⟩
 ·rw[et,Alw]
  refine Al3 (by rw[AkA,AkC]) fun j h1 h2=>?_
  rw[Al4,AlW]
  show pOf _ _ ((VH es.length (owN es os) j).map (cQ 0)++(Xo es.length os.length (owN es os) j).map (cQ es.length))=_
  rw[AeT (A:=VH es.length (owN es os) j) _ (fun e he=>List.mem_range.mp (List.mem_filter.mp he).1),AcS C h2,AkH,Ak9 h2]
  rfl
 ·refine Amq fun x=>?_
  by_cases h:x<es.length
  ·rw[Amu h,kx x (by omega),M7 h,Ak9 h]
   have:=C.e _ (getD_mem h)
   have e:es.getD x 0=es[x]:=by rw[AkH,Ak9 h];rfl
   rw[e] at this ⊢
   congr 1
   omega
  ·rw[Aly (by rw[AkO];omega),Aly (by omega)]
 ·refine Amq fun x=>?_
  rw[Am7]
  by_cases h:x<os.length
  ·rw[kx _ (by omega),Nh,Ak9 h]
   have:=C.o _ (getD_mem h)
   have e:os.getD x 0=os[x]:=by rw[AkH,Ak9 h];rfl
   rw[e] at this ⊢
   congr 1
   omega
  ·rw[Aly (by omega),Aly (by omega)]
end
end
section
variable {P:Program}{w:World}{K:PySem.W.Frag}{mg:Str→Option Value}{base:Heap}{t:Adr}
theorem gI{ks:List Int}{i:Int}{k:Nat}(e:i=(k:Int))(h:k<ks.length):atI (vI ks) i=some (.int (ks.getD k 0)):=by
 subst e
 refine Bb (by omega) ?_
 rw[AkJ,JQ (Ak9 h),AkH,Ak9 h]
 rfl
theorem Ad3{G:Prop}{R:Str→Prop}(C:Str→Prop)(main:(∀ z,C z→R z)→G)(rest:∀ z,C z→R z):G:=main rest
theorem Af0{c A B:Prop}[Decidable c](h1:¬c→A)(h2:c→B):if (!decide c)=true then A else B:=by
 by_cases h:c
 ·exact AaO h (h2 h)
 ·exact Ahx h (h1 h)
theorem MF{i j:Int}:V.int i=V.int j↔i=j:=⟨fun e=>by injection e,fun e=>by rw[e]⟩
def AeU (K:PySem.W.Frag):Sp:=fun vs H Q _=>∃(b:Addr) (sh:List Int),vs=[.ref b,.int (sh.length:Int)]∧SqL K H b (vI sh)∧(∀ z∈sh,0≤z∧z<8)∧Q .non H
theorem Rt(T:Txt K mg t):BK P w K mg base CX0 1 t.BR t.G9 ["shuttles", "picks"] (AeU K):=by
 refine T.Gs.F.ok Jd (fun vs H Q E h=>?_) (fun cdv A outer s H vs Q E hr h=>?_)
 ·obtain⟨b,sh,rfl,_⟩:=h
  rfl
 ·obtain⟨b,sh,rfl,hS,bd,k⟩:=h
  refine⟨_,(Ab (Fd (Bt Yy (Ao (Ak (K:=K)) rfl T.DN Cq (Aa (pv 0) Ac)) (pv 1) (Bw _))
    (Ag Kv)
    Cv)
   (Ag (Ci PassesOwn.never rfl (Hn (K:=K) (pv 0)) (Bd (i:=2) Jd.nd rfl (Or.inl rfl))
    (Ag (Fd (PW.pt (pw_or (Bt Acl (pv 2) Af (Bw _)) (pw_or1 (Bt Ahh (pv 2) (Ut (v:=.int 8) rfl T.Vm.choose_spec ⟨_,rfl⟩) (Bw _)))))
     (Ag Kv)
     Cv))))),?_⟩
  refine⟨_,rfl,_,_,rfl,.inl hS,_,rfl,rfl,_,rfl,?_⟩
  refine AaO (by rw[Av]) ?_
  refine⟨_,rfl,_,rfl,⟨_,hS⟩,QT (K:=K) (a:=b) (xs:=vI sh) (fun i σ H2=>∃ v,σ=[some (.ref b),some (.int (sh.length:Int)),v]∧H2=H) ⟨none,rfl,rfl⟩ (fun i σ H2 _ ⟨_,_,e⟩=>e▸hS) ?_ ?_⟩
  ·rintro i x σ H2 hx ⟨v,rfl,rfl⟩
   obtain⟨z,hz,rfl⟩:=Xd hx
   have:=bd z (AkQ hz)
   refine⟨_,rfl,_,_,rfl,rfl,_,rfl,?_⟩
   refine Ky (fun h=>absurd h (by omega)) (fun h=>?_)
   refine⟨_,rfl,_,_,rfl,rfl,_,rfl,?_⟩
   refine Ky (fun h=>absurd h (by omega)) (fun h=>?_)
   exact⟨_,rfl,rfl⟩
  ·rintro σ H2 ⟨v,rfl,rfl⟩
   exact k
def Ad4 (K:PySem.W.Frag):Sp:=fun vs H Q _=>∃(r:Addr) (th:List Int),vs=[.ref r]∧SqL K H r (vI th)∧th.length≤100∧∀ l H' q,An H H'→H l=none→H' l=some (.lst (rf3 q))→TT3 H' q→q.map (·.2)=along th→Q (.ref l) H'
theorem Vr(T:Txt K mg t):BK P w K mg base CX0 1 t.CQ t.JS ["thrown"] (Ad4 K):=by
 refine T.Jh.F.ok Gp (fun vs H Q E h=>?_) (fun cdv A outer s H vs Q E hr h=>?_)
 ·obtain⟨r,th,rfl,_⟩:=h
  rfl
 ·obtain⟨r,th,rfl,hS,Ak6,k⟩:=h
  have hsz:sizeLine=16777216:=sizeLine_eq
  refine⟨_,(Ab (Aj (i:=1) Gp.nd rfl (Or.inl rfl) (Ff Ac))
   (Ab (Ci PassesOwn.never rfl (Ab1 rfl T.Be (Aa Af (Aa (Ao (Ak (K:=K)) rfl T.DN Cq (Aa (pv 0) Ac)) Ac))) (Bd (i:=2) Gp.nd rfl (Or.inl rfl))
    (Ab (Aj (i:=3) Gp.nd rfl (Or.inl rfl) (Ach (Bt Hm (Ai Cz (pv 2) Af) Af (Bw _)) Fe Fe))
    (Ag (Fd (Bt Yy (Aq (Ah (K:=K)) (pv 0) (Ai MP (pv 2) Af) (fun _ _=>rfl)) (Aq (Ah (K:=K)) (pv 0) (pv 2) (fun _ _=>rfl)) (Bw _))
     (Ag (Gi (Gk (K:=K) PySem.F.plainAttrs_list PySem.F.slot_list_append PySem.F.type_list_append Gf (pv 1) (Aa (W4 (Aa (Ao U9 rfl T.Aft Acw (Aa (Aq (Ah (K:=K)) (pv 0) (Ai MP (pv 2) Af) (fun _ _=>rfl)) (Aa (Aq (Ah (K:=K)) (pv 0) (pv 2) (fun _ _=>rfl)) Ac))) (Aa (Ao U8 rfl T.Afs Acx (Aa (Aq (Ah (K:=K)) (pv 0) (Ai MP (pv 2) Af) (fun _ _=>rfl)) (Aa (Aq (Ah (K:=K)) (pv 0) (pv 2) (fun _ _=>rfl)) Ac))) (Aa (pv 3) Ac)))) Ac))))
     Cv))))
   (Ag (Cg (pv 1))))),?_⟩
  refine⟨(by show 0≤sizeLine;decide),fun l nl=>?_⟩
  have s1:An H (upd H l (.lst [])):=.upd nl
  have h1:(upd H l (.lst [])) l=some (.lst (rf3 [])):=Ad
  generalize upd H l (.lst [])=H1 at s1 h1 ⊢
  refine⟨_,rfl,_,_,rfl,.inl (s1.seq hS),_,_,rfl,⟨by decide,by decide,by rw[Av];omega,by rw[Av];omega⟩,?_⟩
  rw[Av]
  refine Bp (lo:=1) (n:=((th.length:Int)-1).toNat) (fun i σ H2=>∃ q v2 v3,σ=[some (.ref r),some (.ref l),v2,v3]∧An H H2∧H2 l=some (.lst (rf3 q))∧TT3 H2 q∧q.map (·.2)=Qx th i) ⟨[],none,none,rfl,s1,h1,(fun x hx=>absurd hx (by simp)),rfl⟩ ?_ ?_
  ·rintro i σ H2 hi ⟨q,v2,v3',rfl,s2,g2,t2,eq⟩
   have e1:=gI (ks:=th) (i:=1+(i:Int)) (k:=i+1) (by omega) (by omega)
   have e2:=gI (ks:=th) (i:=1+(i:Int)-1) (k:=i) (by omega) (by omega)
   have S2:=s2.seq hS
   have ql:q.length≤i:=by
    have:=congrArg List.length eq
    rw[AkA] at this
    have:=Qy th i
    omega
   apply Ad3 (fun z=>z=sdW i)
   ·intro rest
    refine⟨_,rfl,_,_,rfl,rfl,(by show(0:Int)<2;decide),rfl,_,rfl,?_⟩
    refine Ky (fun h=>?_) (fun h=>?_)
    ·obtain⟨sv,hsv⟩:∃ sv:Str,sv = "right" := ⟨_,rfl⟩
     rw[← hsv]
     refine rest sv ?_
     rw[hsv]
     unfold sdW
     rw[if_pos (by rw[MF] at h;omega)]
    ·refine rest _ ?_
     unfold sdW
     rw[if_neg (by rw[MF] at h;omega)]
   rintro z rfl
   refine⟨_,rfl,_,rfl,_,_,rfl,rfl,_,_,_,_,rfl,rfl,S2,e2,_,rfl,_,rfl,_,_,_,_,rfl,rfl,S2,e1,rfl,_,rfl,?_⟩
   refine Af0 (fun h=>?_) (fun h=>?_)
   ·refine⟨_,rfl,.inl ⟨rfl,_,SqL.of g2⟩,_,rfl,_,rfl,_,_,rfl,rfl,_,_,_,_,rfl,rfl,S2,e2,_,rfl,_,rfl,_,_,_,_,rfl,rfl,S2,e1,_,_,rfl,?_⟩
    refine⟨_,rfl,_,rfl,_,_,rfl,rfl,_,_,_,_,rfl,rfl,S2,e2,_,rfl,_,rfl,_,_,_,_,rfl,rfl,S2,e1,_,_,rfl,_,rfl,(by show 3≤sizeLine;decide),fun p np=>?_⟩
    have s3:An H2 (upd H2 p (.tup (v3 (mn2 (th.getD i 0) (th.getD (i+1) 0),mx2 (th.getD i 0) (th.getD (i+1) 0),sdW i)))):=.upd np
    have g3:(upd H2 p (.tup (v3 (mn2 (th.getD i 0) (th.getD (i+1) 0),mx2 (th.getD i 0) (th.getD (i+1) 0),sdW i)))) p=some (.tup (v3 (mn2 (th.getD i 0) (th.getD (i+1) 0),mx2 (th.getD i 0) (th.getD (i+1) 0),sdW i))):=Ad
    have pl:p≠l:=fun e=>by rw[e,g2] at np;cases np
    refine⟨_,_,_,rfl,rfl,s3 _ _ g2,(by rw[Jc];omega),?_⟩
    refine⟨q++[(p,(mn2 (th.getD i 0) (th.getD (i+1) 0),mx2 (th.getD i 0) (th.getD (i+1) 0),sdW i))],_,_,rfl,(s2.trans s3).over nl,by rw[Xy];exact Ad,fun x hx=>?_,?_⟩
    ·rcases List.mem_append.mp hx with h1 | h1
     ·have g:=s3 _ _ (t2 x h1)
      rw[Ar (fun e=>by rw[e,s3 _ _ g2] at g;cases g)]
      exact g
     ·rw[List.mem_singleton.mp h1]
      rw[Ar pl]
      exact g3
    ·rw[Hq,AkP,eq]
     unfold smA
     rw[if_neg (fun e=>h (MF.mpr e))]
     rfl
   ·refine⟨q,_,_,rfl,s2,g2,t2,?_⟩
    rw[Hq,eq]
    unfold smA
    rw[if_pos (MF.mp h),Alb]
  ·rintro σ H2 ⟨q,v2,v3',rfl,s2,g2,t2,eq⟩
   refine⟨_,rfl,k l H2 q s2 nl g2 t2 ?_⟩
   rw[eq]
   unfold along
   congr 1
   omega
def Ad5 (K:PySem.W.Frag):Sp:=fun vs H Q _=>∃(lp pe po:Addr) (as:List Addr) (ps:List (List (List Nat))) (es os:List Int),vs=[.ref lp,.ref pe,.ref po]∧SqL K H lp (as.map V.ref)∧Pcs K H as ps∧SqL K H pe (vI es)∧SqL K H po (vI os)∧Qw ps es os ∧
 ∀ l H',An H H'→H l=none→H' l=some (.lst (vS (lay ps es os)))→Q (.ref l) H'
theorem JX{ns:List Int}{k:Nat}(h:k<ns.length):atI (vI ns) (0+(k:Int))=some (.int (ns.getD k 0)):=gI (by omega) h
theorem Z6{ns:List Int}{k:Nat}(h:k≤ns.length):KR (vI ns) none (some (0+(k:Int)))=vI (ns.take k):=by
 unfold KR
 rw[Al1,HT.Y5,HT.QV,List.drop_zero,Av,Alz h,Nat.sub_zero]
 unfold vI
 rw[Als]
theorem AgE{u:List Nat}{i:Nat}(h:i<u.length):atI (tx u).cps.toList (i:Int)=some (u.getD i 0):=by
 refine Bb (by omega) ?_
 rw[AkJ]
 show u.toArray.toList[i]?=_
 simp[List.getD,h]
theorem W0{α:Type}{l:List α}{i:Nat}{x:α}(h:l[i]?=some x):l.take (i+1)=l.take i++[x]:=by rw[AlD,h];rfl
theorem AgF{as:List Addr}{z:Int}(h0:0≤z)(h:z.toNat<as.length):atI (as.map V.ref) z=some (.ref as[z.toNat]):=Bb h0 (by rw[AkG,Ak9 h];rfl)
theorem Aie(b:Bool):atI (("#." : Str)).cps.toList (if b then 1 else 0:Int)=some (if b then 46 else 35):=by cases b <;> decide +kernel
theorem Z7(T:Txt K mg t):BK P w K mg base CX0 1 t.Eo t.Q0 ["pieces", "ends", "picks"] (Ad5 K):=by
 refine T.Rm.F.ok Dl (fun vs H Q E h=>?_) (fun cdv A outer s H vs Q E hr h=>?_)
 ·obtain⟨lp,pe,po,as,ps,es,os,rfl,_⟩:=h
  rfl
 ·obtain⟨lp,pe,po,as,ps,es,os,rfl,hP,PC,hE,hO,C,k⟩:=h
  have hsz:sizeLine=16777216:=sizeLine_eq
  have e40:=C.e40
  have o40:=C.o40
  refine⟨_,(Ab (Aj (i:=3) Dl.nd rfl (Or.inl rfl) (Ff Ac))
   (Ab (Ci PassesOwn.never rfl (Aw rfl T.Be (Aa (Ao (Ak (K:=K)) rfl T.DN Cq (Aa (pv 2) Ac)) Ac)) (Bd (i:=4) Dl.nd rfl (Or.inl rfl))
    (Ab (Aj (i:=5) Dl.nd rfl (Or.inl rfl) Fe)
    (Ab (Ci PassesOwn.never rfl (Aw rfl T.Be (Aa (Ao (Ak (K:=K)) rfl T.DN Cq (Aa (pv 1) Ac)) Ac)) (Bd (i:=6) Dl.nd rfl (Or.inl rfl))
     (Ab (Fd (Bt Hm (Aq (Ah (K:=K)) (pv 1) (pv 6) (fun _ _=>rfl)) (Aq (Ah (K:=K)) (pv 2) (pv 4) (fun _ _=>rfl)) (Bw _))
      (Ab (Aj (i:=7) Dl.nd rfl (Or.inl rfl) (Gk (K:=K) PySem.F.plainAttrs_list PySem.F.slot_list_count PySem.F.type_list_count (Wq (K:=K)) (Fj (Fo (K:=K)) (pv 2) Ja (Fy (pv 4))) (Aa (Aq (Ah (K:=K)) (pv 2) (pv 4) (fun _ _=>rfl)) Ac)))
      (Ag (Aj (i:=8) Dl.nd rfl (Or.inl rfl) (Aq MT (Aq (Ah (K:=K)) (Aq (Ah (K:=K)) (pv 0) (Aq (Ah (K:=K)) (pv 1) (pv 6) (fun _ _=>rfl)) (fun _ _=>rfl)) (pv 7) (fun _ _=>rfl)) (Gk (K:=K) PySem.F.plainAttrs_list PySem.F.slot_list_count PySem.F.type_list_count (Wq (K:=K)) (Fj (Fo (K:=K)) (pv 1) Ja (Fy (pv 6))) (Aa (Aq (Ah (K:=K)) (pv 1) (pv 6) (fun _ _=>rfl)) Ac)) (fun _ _=>rfl)))))
      (Ag (Aj (i:=8) Dl.nd rfl (Or.inl rfl) (Aq MT Fe (G5 SJ rfl T.Abo Xa (Aa (HF AaL (Aq (Ah (K:=K)) (pv 1) (pv 6) (fun _ _=>rfl)) (Aq (Ah (K:=K)) (pv 2) (pv 4) (fun _ _=>rfl)) (Bw _)) Ac)) (fun _ _=>rfl)))))
     (Ag (Aj (i:=5) Dl.nd rfl (Or.inl rfl) (Ai Qs (pv 5) (pv 8))))))
    (Ag (Gi (Gk (K:=K) PySem.F.plainAttrs_list PySem.F.slot_list_append PySem.F.type_list_append Gf (pv 3) (Aa (pv 5) Ac)))))))
   (Ag (Cg (pv 3))))),?_⟩
  refine⟨AkD _,fun l nl=>?_⟩
  have s1:An H (upd H l (.lst [])):=.upd nl
  have h1:(upd H l (.lst [])) l=some (.lst (vS [])):=Ad
  generalize upd H l (.lst [])=H1 at s1 h1 ⊢
  refine⟨_,rfl,_,_,rfl,.inl (s1.seq hO),_,rfl,(by omega),(by rw[Av];omega),?_⟩
  rw[AkJ,Av]
  refine Bp (lo:=0) (n:=os.length) (fun j σ H2=>∃ v4 v5 v6 v7 v8,σ=[some (.ref lp),some (.ref pe),some (.ref po),some (.ref l),v4,v5,v6,v7,v8]∧An H H2∧H2 l=some (.lst (vS ((lay ps es os).take j)))) ⟨none,none,none,none,none,rfl,s1,h1⟩ ?_ ?_
  ·rintro j σ H2 hj ⟨v4,v5,v6,v7,v8,rfl,s2,g2⟩
   have rg:=fun {k:Nat} (h:k<es.length)=>Qv (ps:=ps) (es:=es) (o:=os.getD j 0) (b:=plc os j) h
   have rl:=Va ps es (os.getD j 0) (plc os j)
   refine⟨_,rfl,_,_,rfl,.inl (s2.seq hE),_,rfl,(by omega),(by rw[Av];omega),?_⟩
   rw[AkJ,Av]
   refine Bp (lo:=0) (n:=es.length) (fun i σ H3=>∃ v6 v7 v8,σ=[some (.ref lp),some (.ref pe),some (.ref po),some (.ref l),some (.int (0+(j:Int))),some (.str (tx ((FT ps es (os.getD j 0) (plc os j)).take i))),v6,v7,v8]∧An H2 H3)
    ⟨v6,v7,v8,by rw[Amo,show(("" : Str))=tx [] from by decide +kernel];rfl,.refl _⟩ ?_ ?_
   ·rintro i σ H3 hi ⟨v6,v7,v8,rfl,s3⟩
    have s03:=s2.trans s3
    have tl:((FT ps es (os.getD j 0) (plc os j)).take i).length=i:=by rw[AkO,rl];omega
    have tn:=W0 (rg hi)
    refine⟨_,rfl,_,rfl,_,_,_,_,rfl,rfl,s03.seq hE,JX hi,_,rfl,_,rfl,_,_,_,_,rfl,rfl,s03.seq hO,JX hj,rfl,_,rfl,?_⟩
    refine Ky (fun h=>?_) (fun h=>?_)
    ·have h:=MF.mp h
     refine⟨_,rfl,_,rfl,_,rfl,_,_,rfl,s03.seq hO,fun p np=>?_⟩
     rw[Z6 (by omega)]
     have s4:An H3 (upd H3 p (.lst (vI (os.take j)))):=.upd np
     have g4:(upd H3 p (.lst (vI (os.take j)))) p=some (.lst (vI (os.take j))):=Ad
     generalize upd H3 p (.lst (vI (os.take j)))=H4 at s4 g4 ⊢
     have s04:=s03.trans s4
     refine⟨.inl ⟨rfl,_,SqL.of g4⟩,_,rfl,_,rfl,_,_,_,_,rfl,rfl,s04.seq hO,JX hj,_,_,_,rfl,rfl,SqL.of g4,?_⟩
     have oz:=C.o _ (getD_mem hj)
     obtain⟨o1,o2⟩:=C.own hj
     have rw1:=C.row o1 o2
     have pl:=UW hi
     rw[h] at pl
     rw[show(((os.getD j 0).toNat:Nat):Int)=os.getD j 0 by omega] at rw1
     have al:(os.getD j 0).toNat<as.length:=by rw[PC.1];exact o1
     have ea:=PC.2 _ _ (Ak9 al)
     have ce:=Am8 (a:=os.getD j 0) (l:=es)
     refine⟨_,rfl,_,rfl,_,rfl,_,_,_,_,rfl,rfl,s04.seq hE,JX hi,_,_,_,_,rfl,rfl,s04.seq hP,(by rw[h];exact AgF oz.1 al),_,rfl,_,_,_,_,rfl,rfl,s04.seq ea,(Bb (by omega) (by rw[AkJ];exact Aae (Ak9 (show plc os j<_ from o2)))),?_⟩
     refine⟨_,rfl,_,rfl,_,rfl,_,_,rfl,s04.seq hE,fun p2 np2=>?_⟩
     rw[Z6 (by omega)]
     have s5:An H4 (upd H4 p2 (.lst (vI (es.take i)))):=.upd np2
     have g5:(upd H4 p2 (.lst (vI (es.take i)))) p2=some (.lst (vI (es.take i))):=Ad
     generalize upd H4 p2 (.lst (vI (es.take i)))=H5 at s5 g5 ⊢
     have s05:=s04.trans s5
     have ew:((ps.getD (os.getD j 0).toNat []).getD (plc os j) [])=(ps.getD (os.getD j 0).toNat [])[plc os j]:=by rw[AkH,Ak9 o2];rfl
     have lw:plc es i<((ps.getD (os.getD j 0).toNat [])[plc os j]).length:=by rw[← ew];omega
     refine⟨.inl ⟨rfl,_,SqL.of g5⟩,_,rfl,_,rfl,_,_,_,_,rfl,rfl,s05.seq hE,JX hi,_,_,_,rfl,rfl,SqL.of g5,_,_,_,rfl,rfl,(by rw[Ef,← ew];omega),AgE lw,?_⟩
     refine⟨_,rfl,_,rfl,_,_,rfl,rfl,?_,?_⟩
     ·rw[Ef,La,Ef,tl]
      show i+1≤sizeLine
      omega
     ·have et:(FT ps es (os.getD j 0) (plc os j)).take i++[((ps.getD (os.getD j 0).toNat [])[plc os j]).getD ((es.take i).count (es.getD i 0)) 0]=(FT ps es (os.getD j 0) (plc os j)).take (i+1):=by
       rw[tn]
       unfold Ng
       rw[if_pos h.symm,ew]
       rfl
      rw[La,WW,et]
      exact⟨_,_,_,rfl,s3.trans (s4.trans s5)⟩
    ·have h:¬es.getD i 0=os.getD j 0:=fun e=>h (MF.mpr e)
     refine⟨_,rfl,_,rfl,_,_,_,_,rfl,rfl,s03.seq hE,JX hi,_,rfl,_,rfl,_,_,_,_,rfl,rfl,s03.seq hO,JX hj,_,_,rfl,rfl,?_⟩
     refine .inr ⟨_,rfl,_,_,_,rfl,rfl,(by decide +kernel),Aie _,?_⟩
     refine⟨_,rfl,_,rfl,_,_,rfl,rfl,?_,?_⟩
     ·rw[Ef,La,Ef,tl]
      show i+1≤sizeLine
      omega
     ·have et:(FT ps es (os.getD j 0) (plc os j)).take i++[if decide (os.getD j 0<es.getD i 0)=true then 46 else 35]=(FT ps es (os.getD j 0) (plc os j)).take (i+1):=by
       rw[tn]
       unfold Ng
       have hn:¬os.getD j 0=es.getD i 0:=fun e=>h e.symm
       rw[if_neg hn]
       by_cases c:es.getD i 0<os.getD j 0
       ·rw[if_pos c,decide_eq_false (by omega)]
        rfl
       ·rw[if_neg c,decide_eq_true (by omega)]
        rfl
      rw[La,WW,et]
      exact⟨_,_,_,rfl,s3⟩
   ·rintro σ H3 ⟨v6,v7,v8,rfl,s3⟩
    rw[← rl,Al7]
    have g3:=s3 _ _ g2
    refine⟨_,rfl,.inl ⟨rfl,_,SqL.of g3⟩,_,rfl,_,_,_,rfl,rfl,g3,(by rw[Ih,AkO];omega),?_⟩
    rw[Xf]
    refine⟨_,_,_,_,_,rfl,(s2.trans s3).over nl,?_⟩
    rw[W0 (Xm hj)]
    exact Ad
  ·rintro σ H2 ⟨v4,v5,v6,v7,v8,rfl,s2,g2⟩
   rw[AkZ (by rw[AaV];exact Ak8 _)] at g2
   exact⟨_,rfl,k l H2 s2 nl g2⟩
theorem Ad6{ns:List Int}{m:Nat}(h:m≤ns.length):KR (vI ns) (some (m:Int)) none=vI (ns.drop m):=by
 unfold KR
 have q1:HT.sIx (vI ns).length 0 (some (m:Int))=m:=by rw[HT.QV,Av,Alz h]
 have q2:HT.sIx (vI ns).length (vI ns).length none=(vI ns).length:=rfl
 rw[q1,q2]
 unfold vI
 rw[← AlO]
 exact AkZ (by rw[AkA,AkA,Alh];omega)
theorem TT3.put{H:Hp}{q:List (Addr × SetW.T3)}{l:Addr}{xs ys:List V}(h:TT3 H q)(g:H l=some (.lst xs)):TT3 (upd H l (.lst ys)) q:=fun x hx=>by
 have z:=h x hx
 rw[Ar (fun e=>by rw[e,g] at z;cases z)]
 exact z
theorem U0(f:Nat→Int)(sh:List Int)(s:Int)(i:Nat):vI ((G4 sh s (i+1)).map f)=vI ((G4 sh s i).map f)++(if sh.getD i 0=s then [V.int (f i)] else []):=by
 rw[AbV,AkP]
 unfold vI
 rw[AkP]
 congr 1
 split <;> rfl
def Ad7 (K:PySem.W.Frag)(tT:Addr):Sp:=fun vs H Q _=>∃(a b:Addr) (cl:List (List Nat)) (m n:Nat) (sh:List Int),vs=[.ref a,.ref b]∧SqL K H a (vS cl)∧Cl cl m n∧Fw cl m n∧Tb tT "layers_of.<locals>.<lambda>" H∧SqL K H b (vI sh)∧sh.length=n∧(∀ z∈sh,0≤z∧z<8) ∧
 ∀ l H' q tss dA dB eo po ks,El H H'→Tb tT "layers_of.<locals>.<lambda>" H'→dA.Perm (eS cl m)→dB.Perm (pS cl)→dA.Pairwise (· ≥ ·)→dB.Pairwise (· ≥ ·)→Lay (upC cl) m n tss (Fq (Pz m n dA dB) n (m+1)) eo po→Pc tss (m+n) tss.length 0 ks→H' l=some (.lst (rf3 q))→TT3 H' q→q.Pairwise (fun x y=>SetW.lt3 x.2 y.2=true)→(∀ z,z∈q.map (·.2)↔z∈JR (ks.drop m) sh 8)→Q (.ref l) H'
theorem Z8{tc tT:Addr}(T:Txt K mg t)(hcd:t.Em.code=.ref tc)(hCd:PySem.W.CodeHd base tc tT)(hBm:Bm mg base):BK P w K mg base CX0 8 t.En t.Qz ["cloth", "shuttles"] (Ad7 K tT):=by
 have Gb:BK P w K mg base CX0 3 t.Di t.G7 _ _:=Jk T
 have Tu:BK P w K mg base CX0 1 t.BR t.G9 _ _:=Rt T
 have Us:BK P w K mg base CX0 7 t.Ce t.Hs _ _:=Tt T hcd hCd hBm
 have VN:BK P w K mg base CX0 1 t.CQ t.JS _ _:=Vr T
 refine T.Rk.F.ok Gg (fun vs H Q E h=>?_) (fun cdv A outer s H vs Q E hr h=>?_)
 ·obtain⟨a,b,cl,m,n,sh,rfl,_⟩:=h
  rfl
 ·obtain⟨a,b,cl,m,n,sh,rfl,hS,C,fw,tb,hB,hn,bd,k⟩:=h
  subst hn
  have hsz:sizeLine=16777216:=sizeLine_eq
  have c2:=C.n40
  have c4:=C.m40
  refine⟨_,(Ab (Aj (i:=2) Gg.nd rfl (Or.inl rfl) (Bl (Gb.mono (by decide)) hr rfl T.measured.m T.measured.F.kp T.measured.b .nil Dk (Aa (pv 0) Ac)))
   (Ab (Gi (Bl (Tu.mono (by decide)) hr rfl T.Gs.m T.Gs.F.kp T.Gs.b .nil Dk (Aa (pv 1) (Aa (Aq (CG (K:=K)) (pv 2) Af (fun _ _=>rfl)) Ac))))
   (Ab (Aj (i:=3) Gg.nd rfl (Or.inr rfl) (Fj (Fo (K:=K)) (Bl (Us.mono (by decide)) hr rfl T.GR.m T.GR.F.kp T.GR.b .nil Dk (Aa (pv 0) Ac)) (Fy (Aq (CG (K:=K)) (pv 2) Af (fun _ _=>rfl))) Ja))
   (Ab (Aj (i:=4) Gg.nd rfl (Or.inl rfl) (Ff Ac))
   (Ab (Ci PassesOwn.never rfl (Aw rfl T.Be (Aa (Ut (v:=.int 8) rfl T.Vm.choose_spec ⟨_,rfl⟩) Ac)) (Bd (i:=5) Gg.nd rfl (Or.inr rfl))
    (Ab (O6 (i:=6) (Ej.mk (BJ:=[1,3,5]) (Nc:=["pick", "shuttles", "pick_layers", "shuttle"]) rfl (by decide +kernel) (by decide +kernel) (Fz (sc0:=Ae Dc) rfl (by decide +kernel)) rfl rfl rfl (by decide +kernel) (fun k j h=>match k,h with | 0,h=>by obtain rfl:=Option.some.inj h;exact⟨_,rfl,rfl,rfl⟩ | 1,h=>by obtain rfl:=Option.some.inj h;exact⟨_,rfl,rfl,rfl⟩ | 2,h=>by obtain rfl:=Option.some.inj h;exact⟨_,rfl,rfl,rfl⟩ | _+3,h=>by simp at h)) rfl Gg.nd rfl rfl (Aw rfl T.Be (Aa (Aq (CG (K:=K)) (pv 2) Af (fun _ _=>rfl)) Ac)) (fun _ _ _ _ _=>.one (Bt Hm (Aq (Ah (K:=K)) (pv 1) (pv 0) (fun _ _=>rfl)) (pv 3) (Bw _))) (fun _ _ _ _ _=>(Aq (Ah (K:=K)) (pv 2) (pv 0) (fun _ _=>rfl))) rfl)
    (Ag (Gi (Gk (K:=K) PySem.F.plainAttrs_list PySem.F.slot_list_extend PySem.F.type_list_extend Ab7 (pv 4) (Aa (Bl (VN.mono (by decide)) hr rfl T.Jh.m T.Jh.F.kp T.Jh.b .nil Dk (Aa (pv 6) Ac)) Ac))))))
   (Ag (Cg (Zq (K:=K) rfl T.K8 rfl T.AhN (hr.QZ) (pv 4))))))))),?_⟩
  refine⟨_,rfl,a,cl,m,sh.length,rfl,hS,C,fun p hp=>?_⟩
  have s1:An H (upd H p (.tup [.int (m:Int),.int (sh.length:Int)])):=.upd hp
  have gp1:(upd H p (.tup [.int (m:Int),.int (sh.length:Int)])) p=some (.tup [.int (m:Int),.int (sh.length:Int)]):=Ad
  generalize upd H p (.tup [.int (m:Int),.int (sh.length:Int)])=H1 at s1 gp1 ⊢
  refine⟨_,rfl,_,rfl,_,_,_,_,rfl,rfl,SqT.of gp1,Bb (by decide) rfl,b,sh,rfl,s1.seq hB,bd,?_⟩
  refine⟨_,rfl,a,cl,m,sh.length,rfl,s1.seq hS,C,fw,tb.same s1,fun ln H2 tss dA dB eo po ks t2 tb2 pA pB decA Fp L pc gl=>?_⟩
  have x2:El H H2:=s1.toT.trans t2
  have gp2:=t2.tup gp1
  have kl:=pc.len
  have B2:=x2.seq hB
  refine⟨_,rfl,_,_,_,_,rfl,rfl,SqT.of gp2,Bb (by decide) rfl,_,rfl,_,_,rfl,SqL.of gl,fun c nc=>?_⟩
  rw[Ad6 (by omega)]
  have s3:An H2 (upd H2 c (.lst (vI (ks.drop m)))):=.upd nc
  have g3:(upd H2 c (.lst (vI (ks.drop m)))) c=some (.lst (vI (ks.drop m))):=Ad
  generalize upd H2 c (.lst (vI (ks.drop m)))=H3 at s3 g3 ⊢
  have dl:(ks.drop m).length=sh.length:=by rw[Alh];omega
  obtain⟨ls,els⟩:∃ ls,ls=ks.drop m:=⟨_,rfl⟩
  rw[← els] at g3 dl
  have k':=k
  refine⟨AkD _,fun l nl=>?_⟩
  have s4:An H3 (upd H3 l (.lst [])):=.upd nl
  have g4:(upd H3 l (.lst [])) l=some (.lst (rf3 [])):=Ad
  generalize upd H3 l (.lst [])=H4 at s4 g4 ⊢
  refine⟨_,rfl,(by decide),(by decide),?_⟩
  refine Bp (lo:=0) (n:=8) (fun i σ H5=>∃ q v5 v6,σ=[some (.ref a),some (.ref b),some (.ref p),some (.ref c),some (.ref l),v5,v6]∧An H3 H5∧H5 l=some (.lst (rf3 q))∧TT3 H5 q∧q.map (·.2)=JR ls sh i) ⟨[],none,none,rfl,s4,g4,(fun x hx=>absurd hx (by simp)),rfl⟩ ?_ ?_
  ·rintro i σ H5 hi ⟨q,v5,v6,rfl,s5,g5,t5,eq⟩
   have ql:q.length≤sh.length:=by
    have:=congrArg List.length eq
    rw[AkA] at this
    have:=Lh ls sh i
    omega
   refine⟨_,rfl,_,_,_,_,rfl,rfl,SqT.of (s5 _ _ (s3 _ _ gp2)),Bb (by decide) rfl,_,rfl,(by omega),(by omega),?_⟩
   rw[AkJ]
   have S5:SqL K H5 b (vI sh):=(s3.trans s5).seq B2
   have L5:SqL K H5 c (vI ls):=SqL.of (s5 _ _ g3)
   refine Ek (lo:=0) (n:=sh.length) (fun j ys H6=>H6=H5∧ys=vI ((G4 sh (0+(i:Int)) j).map fun x=>ls.getD x 0)) ⟨rfl,rfl⟩ ?_ ?_ ?_ ?_
   ·rintro j ys H6 hj ⟨rfl,rfl⟩
    rw[Av,AkA]
    exact Ri _ _ _
   ·omega
   ·rintro j ys H6 hj ⟨rfl,rfl⟩
    refine⟨_,rfl,_,rfl,_,_,_,_,rfl,rfl,S5,JX hj,_,rfl,rfl,_,rfl,?_⟩
    refine Ky (fun h=>?_) (fun h=>?_)
    ·refine⟨_,rfl,_,rfl,_,_,_,_,rfl,rfl,L5,JX (k:=j) (by omega),CN.of hj ⟨rfl,?_⟩⟩
     rw[U0,if_pos (MF.mp h)]
    ·refine CN.of hj ⟨rfl,?_⟩
     rw[U0,if_neg (fun e=>h (MF.mpr e)),Alb]
   ·rintro ys H6 d ⟨rfl,rfl⟩ nd
    have s6:An H6 (upd H6 d (.lst (vI ((G4 sh (0+(i:Int)) sh.length).map fun x=>ls.getD x 0)))):=.upd nd
    have g6:(upd H6 d (.lst (vI ((G4 sh (0+(i:Int)) sh.length).map fun x=>ls.getD x 0)))) d=some (.lst (vI ((G4 sh (0+(i:Int)) sh.length).map fun x=>ls.getD x 0))):=Ad
    generalize upd H6 d (.lst (vI ((G4 sh (0+(i:Int)) sh.length).map fun x=>ls.getD x 0)))=H7 at s6 g6 ⊢
    have tl:=Rj ls sh (0+(i:Int))
    have tl2:=Ri sh (0+(i:Int)) sh.length
    refine⟨_,rfl,.inl ⟨rfl,_,SqL.of (s6 _ _ g5)⟩,_,rfl,d,Vj ls sh (0+(i:Int)),rfl,SqL.of g6,by omega,fun l2 H8 q2 s8 nl2 g8 t8 eq2=>?_⟩
    have al:=Wx (Vj ls sh (0+(i:Int)))
    have q2l:q2.length≤sh.length:=by
     have:=congrArg List.length eq2
     rw[AkA] at this
     omega
    have g58:=(s6.trans s8) _ _ g5
    refine⟨_,_,_,_,rfl,rfl,g58,g8,(by rw[Jc,Jc];omega),?_⟩
    refine⟨q++q2,_,_,rfl,(s5.trans (s6.trans s8)).over nl,by rw[Xy];exact Ad,((t5.same (s6.trans s8)).app t8).put g58,?_⟩
    rw[AkP,eq,eq2,Ni,Al1]
  ·rintro σ H5 ⟨q,v5,v6,rfl,s5,g5,t5,eq⟩
   refine⟨_,rfl,l,q,rfl,SqL.of g5,(fun x hx=>SqT.of (t5 x hx)),(fun ds nd hds=>?_),fun l' q' sub pw mem nl'=>?_⟩
   ·rw[eq] at hds
    have:=Tp nd hds
    have:=Lh ls sh 8
    omega
   ·have s6:An H5 (upd H5 l' (.lst (rf3 q'))):=.upd nl'
    refine k' l' _ q' tss dA dB eo po ks (x2.trans (s3.trans (s5.trans s6)).toT) (tb2.same (s3.trans (s5.trans s6))) pA pB decA Fp L pc Ad (fun x hx=>s6 _ _ (t5 x (sub x hx))) pw fun z=>?_
    rw[mem z,eq,els]
theorem Ad8{ls sh:List Int}{s:Int}{k:Nat}(hl:ls.length=sh.length)(h:k<(G4 sh s sh.length).length):∃ x:Nat,(∀ i:Int,i=(k:Int)→atI (vI ((G4 sh s sh.length).map fun x=>((x:Nat):Int))) i=some (.int (x:Int)))∧atI (vI ls) (x:Int)=some (.int ((Vj ls sh s).getD k 0)):=by
 have hx:=AeI (AkI h)
 refine⟨(G4 sh s sh.length)[k],fun i e=>?_,?_⟩
 ·rw[gI e (by rw[AkA];exact h)]
  rw[AkH,AkG,Ak9 h]
  rfl
 ·rw[gI rfl (by omega)]
  unfold Vj
  rw[AkH (l:=List.map _ _),AkG,Ak9 h]
  rfl
theorem Aif(k:Nat):atI [V.str "right", V.str "left"] ((0+(k:Int))%2)=some (.str (sdW k)):=by
 have:k%2=0∨k%2=1:=by omega
 unfold sdW
 rcases this with h | h
 ·rw[show(0+(k:Int))%2=0 by omega,if_pos h];rfl
 ·rw[show(0+(k:Int))%2=1 by omega,if_neg (by omega)];rfl
def Acd (K:PySem.W.Frag):Sp:=fun vs H Q _=>∃(a b:Addr) (ls sh:List Int),vs=[.ref a,.ref b]∧SqL K H a (vI ls)∧SqL K H b (vI sh)∧ls.length=sh.length∧sh.length≤100∧∀ l H' q,An H H'→H l=none→H' l=some (.lst (rf3 q))→TT3 H' q→q.map (·.2)=JR ls sh 8→Q (.ref l) H'
theorem XJ(T:Txt K mg t):BK P w K mg base CX0 1 t.DK t.Np ["layers", "shuttles"] (Acd K):=by
 refine T.Pg.F.ok DR (fun vs H Q E h=>?_) (fun cdv A outer s H vs Q E hr h=>?_)
 ·obtain⟨a,b,ls,sh,rfl,_⟩:=h
  rfl
 ·obtain⟨a,b,ls,sh,rfl,hA,hB,dl,h100,k⟩:=h
  have hsz:sizeLine=16777216:=sizeLine_eq
  refine⟨_,(Ab (Aj (i:=2) DR.nd rfl (Or.inl rfl) (Ff Ac))
   (Ab (Ci PassesOwn.never rfl (Aw rfl T.Be (Aa Af Ac)) (Bd (i:=3) DR.nd rfl (Or.inr rfl))
    (Ab (O6 (i:=4) (Ej.mk (BJ:=[1,3]) (Nc:=["j", "shuttles", "shuttle"]) rfl (by decide +kernel) (by decide +kernel) (Fz (sc0:=Ae Cu) rfl (by decide +kernel)) rfl rfl rfl (by decide +kernel) (fun k j h=>match k,h with | 0,h=>by obtain rfl:=Option.some.inj h;exact⟨_,rfl,rfl,rfl⟩ | 1,h=>by obtain rfl:=Option.some.inj h;exact⟨_,rfl,rfl,rfl⟩ | _+2,h=>by simp at h)) rfl DR.nd rfl rfl (Aw rfl T.Be (Aa (Ao (Ak (K:=K)) rfl T.DN Cq (Aa (pv 1) Ac)) Ac)) (fun _ _ _ _ _=>.one (Bt Hm (Aq (Ah (K:=K)) (pv 1) (pv 0) (fun _ _=>rfl)) (pv 2) (Bw _))) (fun _ _ _ _ _=>(pv 0)) rfl)
    (Ag (Ci PassesOwn.never rfl (Aw rfl T.Be (Aa (Ai MP (Ao (Ak (K:=K)) rfl T.DN Cq (Aa (pv 4) Ac)) Af) Ac)) (Bd (i:=5) DR.nd rfl (Or.inl rfl))
     (Ab (Aj (i:=6) DR.nd rfl (Or.inl rfl) (Aq (Ah (K:=K)) (pv 0) (Aq (Ah (K:=K)) (pv 4) (pv 5) (fun _ _=>rfl)) (fun _ _=>rfl)))
     (Ab (Aj (i:=7) DR.nd rfl (Or.inl rfl) (Aq (Ah (K:=K)) (pv 0) (Aq (Ah (K:=K)) (pv 4) (Ai Bs (pv 5) Af) (fun _ _=>rfl)) (fun _ _=>rfl)))
     (Ag (Fd (Bt Yy (pv 6) (pv 7) (Bw _))
      (Ag (Gi (Gk (K:=K) PySem.F.plainAttrs_list PySem.F.slot_list_append PySem.F.type_list_append Gf (pv 2) (Aa (W4 (Aa (Ao U9 rfl T.Aft Acw (Aa (pv 6) (Aa (pv 7) Ac))) (Aa (Ao U8 rfl T.Afs Acx (Aa (pv 6) (Aa (pv 7) Ac))) (Aa (Aq (Ah (K:=K)) (Ff (Aa Fe (Aa Fe Ac))) (Ai Cz (pv 5) Af) (fun _ _=>rfl)) Ac)))) Ac))))
      Cv))))))))
   (Ag (Cg (pv 2))))),?_⟩
  refine⟨AkD _,fun l nl=>?_⟩
  have s1:An H (upd H l (.lst [])):=.upd nl
  have g1:(upd H l (.lst [])) l=some (.lst (rf3 [])):=Ad
  generalize upd H l (.lst [])=H1 at s1 g1 ⊢
  refine⟨_,rfl,(by decide),(by decide),?_⟩
  refine Bp (lo:=0) (n:=8) (fun i σ H5=>∃ q v3 v4 v5 v6 v7,σ=[some (.ref a),some (.ref b),some (.ref l),v3,v4,v5,v6,v7]∧An H H5∧H5 l=some (.lst (rf3 q))∧TT3 H5 q∧q.map (·.2)=JR ls sh i) ⟨[],none,none,none,none,none,rfl,s1,g1,(fun x hx=>absurd hx (by simp)),rfl⟩ ?_ ?_
  ·rintro i σ H5 hi ⟨q,v3',v4,v5,v6,v7,rfl,s5,g5,t5,eq⟩
   have S5:=s5.seq hB
   refine⟨_,rfl,_,_,rfl,.inl S5,_,rfl,(by omega),(by rw[Av];omega),?_⟩
   rw[AkJ,Av]
   refine Ek (lo:=0) (n:=sh.length) (fun j ys H6=>H6=H5∧ys=vI ((G4 sh (0+(i:Int)) j).map fun x=>((x:Nat):Int))) ⟨rfl,rfl⟩ ?_ ?_ ?_ ?_
   ·rintro j ys H6 hj ⟨rfl,rfl⟩
    rw[Av,AkA]
    exact Ri _ _ _
   ·omega
   ·rintro j ys H6 hj ⟨rfl,rfl⟩
    refine⟨_,rfl,_,rfl,_,_,_,_,rfl,rfl,S5,JX hj,_,rfl,rfl,_,rfl,?_⟩
    refine Ky (fun h=>?_) (fun h=>?_)
    ·refine⟨_,rfl,CN.of hj ⟨rfl,?_⟩⟩
     rw[U0,if_pos (MF.mp h),show 0+(j:Int)=(j:Int) from Al1 _]
    ·refine CN.of hj ⟨rfl,?_⟩
     rw[U0,if_neg (fun e=>h (MF.mpr e)),Alb]
   rintro ys H6 d ⟨rfl,rfl⟩ nd
   have s6:An H6 (upd H6 d (.lst (vI ((G4 sh (0+(i:Int)) sh.length).map fun x=>((x:Nat):Int))))):=.upd nd
   have g6:(upd H6 d (.lst (vI ((G4 sh (0+(i:Int)) sh.length).map fun x=>((x:Nat):Int))))) d=some (.lst (vI ((G4 sh (0+(i:Int)) sh.length).map fun x=>((x:Nat):Int)))):=Ad
   generalize upd H6 d (.lst (vI ((G4 sh (0+(i:Int)) sh.length).map fun x=>((x:Nat):Int))))=H7 at s6 g6 ⊢
   have tl:=Rj ls sh (0+(i:Int))
   have tl2:=Ri sh (0+(i:Int)) sh.length
   have tl3:(vI ((G4 sh (0+(i:Int)) sh.length).map fun x=>((x:Nat):Int))).length=(G4 sh (0+(i:Int)) sh.length).length:=by rw[Av,AkA]
   have ql:q.length≤sh.length:=by
    have:=congrArg List.length eq
    rw[AkA] at this
    have:=Lh ls sh i
    omega
   have nd5:∀{H8:Hp},An H7 H8→H8 d=some (.lst (vI ((G4 sh (0+(i:Int)) sh.length).map fun x=>((x:Nat):Int)))):=fun s=>s _ _ g6
   have ld:l≠d:=fun e=>by rw[← e,g5] at nd;cases nd
   refine⟨_,rfl,_,_,rfl,.inl (SqL.of g6),_,_,rfl,rfl,_,rfl,(by rw[tl3];omega),(by rw[tl3];omega),?_⟩
   rw[tl3]
   refine Bp (lo:=0) (n:=(((G4 sh (0+(i:Int)) sh.length).length:Int)-1).toNat) (fun j σ H8=>∃ q v5 v6 v7,σ=[some (.ref a),some (.ref b),some (.ref l),some (.int (0+(i:Int))),some (.ref d),v5,v6,v7]∧An H H8∧H8 d=some (.lst (vI ((G4 sh (0+(i:Int)) sh.length).map fun x=>((x:Nat):Int))))∧H8 l=some (.lst (rf3 q))∧TT3 H8 q∧q.length≤sh.length+j∧q.map (·.2)=JR ls sh i++Qx (Vj ls sh (0+(i:Int))) j) ⟨q,_,_,_,rfl,s5.trans s6,g6,s6 _ _ g5,t5.same s6,ql,by rw[eq];exact(Alb _).symm⟩ ?_ ?_
   ·rintro j σ H8 hj ⟨q8,v5',v6',v7',rfl,s8,g8,l8,t8,ql8,eq8⟩
    obtain⟨x1,a1,b1⟩:=Ad8 (ls:=ls) (sh:=sh) (s:=0+(i:Int)) (k:=j) dl (by omega)
    obtain⟨x2,a2,b2⟩:=Ad8 (ls:=ls) (sh:=sh) (s:=0+(i:Int)) (k:=j+1) dl (by omega)
    have A8:=s8.seq hA
    refine⟨_,rfl,_,rfl,_,rfl,_,_,_,_,rfl,rfl,SqL.of g8,a1 _ (by omega),_,_,_,_,rfl,rfl,A8,b1,?_⟩
    refine⟨_,rfl,_,rfl,_,rfl,_,_,rfl,rfl,_,_,_,_,rfl,rfl,SqL.of g8,a2 _ (by omega),_,_,_,_,rfl,rfl,A8,b2,?_⟩
    generalize hz1:(Vj ls sh (0+(i:Int))).getD j 0=z1
    generalize hz2:(Vj ls sh (0+(i:Int))).getD (j+1) 0=z2
    refine⟨_,rfl,_,rfl,rfl,_,rfl,?_⟩
    refine Af0 (fun h=>?_) (fun h=>?_)
    ·refine⟨_,rfl,.inl ⟨rfl,_,SqL.of l8⟩,_,rfl,_,rfl,_,_,rfl,_,rfl,_,rfl,_,_,rfl,(by show 2≤sizeLine;decide),fun p np=>?_⟩
     have s9:An H8 (upd H8 p (.lst [V.str "right", V.str "left"])):=.upd np
     have g9:(upd H8 p (.lst [V.str "right", V.str "left"])) p=some (.lst [V.str "right", V.str "left"]):=Ad
     generalize upd H8 p (.lst [V.str "right", V.str "left"])=H9 at s9 g9 ⊢
     refine⟨_,rfl,_,_,rfl,rfl,(by show(0:Int)<2;decide),_,_,_,_,rfl,rfl,SqL.of g9,Aif j,(by show 3≤sizeLine;decide),fun p2 np2=>?_⟩
     have s10:An H9 (upd H9 p2 (.tup (v3 (mn2 z1 z2,mx2 z1 z2,sdW j)))):=.upd np2
     have g10:(upd H9 p2 (.tup (v3 (mn2 z1 z2,mx2 z1 z2,sdW j)))) p2=some (.tup (v3 (mn2 z1 z2,mx2 z1 z2,sdW j))):=Ad
     have l10:=(s9.trans s10) _ _ l8
     have t10:=t8.same (s9.trans s10)
     refine⟨_,_,_,rfl,rfl,l10,(by rw[Jc];omega),?_⟩
     refine⟨q8++[(p2,(mn2 z1 z2,mx2 z1 z2,sdW j))],_,_,_,rfl,(s8.trans (s9.trans s10)).over nl,?_,by rw[Xy];exact Ad,TT3.put (t10.app fun x hx=>?_) l10,by rw[AkE];show q8.length+1≤_;omega,?_⟩
     ·rw[Ar (fun e=>ld e.symm)]
      exact(s9.trans s10) _ _ g8
     ·rw[List.mem_singleton.mp hx];exact g10
     ·rw[Hq,AkP,eq8,Alv]
      unfold smA
      rw[hz1,hz2,if_neg (fun e=>h (MF.mpr e))]
      rfl
    ·refine⟨q8,_,_,_,rfl,s8,g8,l8,t8,by omega,?_⟩
     rw[Hq,eq8]
     unfold smA
     rw[hz1,hz2,if_pos (MF.mp h),Alb]
   ·rintro σ H8 ⟨q8,v5',v6',v7',rfl,s8,g8,l8,t8,ql8,eq8⟩
    refine⟨q8,_,_,_,_,_,rfl,s8,l8,t8,?_⟩
    rw[eq8,Ni]
    unfold along
    rw[Al1,Rj]
    congr 2
    omega
  ·rintro σ H5 ⟨q,v3',v4,v5,v6,v7,rfl,s5,g5,t5,eq⟩
   exact⟨_,rfl,k l H5 q s5 nl g5 t5 eq⟩
theorem Ac1(K:PySem.W.Frag):PySem.W.kitOne K (.type "int") (.type "bool")=some false:=rfl
def Ad9:Sp:=fun vs H Q _=>∃ z:Int,vs=[.int z]∧Q (.bl true) H
theorem PB(T:Txt K mg t):BK P w K mg base CX0 1 t.Bq t.Ga ["found"] Ad9:=by
 refine T.Cj.F.ok P0 (fun vs H Q E h=>?_) (fun cdv A outer s H vs Q E hr h=>?_)
 ·obtain⟨z,rfl,_⟩:=h
  rfl
 ·obtain⟨z,rfl,k⟩:=h
  refine⟨_,(Ag (Cg (Acg (Ao (Kz (K:=K)) rfl T.Gv Fl (Aa (pv 0) (Aa (QR (v:=.ty "int") rfl T.Abo Xa rfl) Ac))) (Acf (Af8 (Ao (Kz (K:=K)) rfl T.Gv Fl (Aa (pv 0) (Aa (QR (v:=.ty "bool") rfl T.Ag5 Aef rfl) Ac)))))))),?_⟩
  refine⟨_,rfl,_,_,true,.int _,.inl ⟨_,rfl,Rn K _⟩,_,rfl,?_⟩
  refine WL ?_
  exact⟨_,rfl,_,_,false,.int _,.inl ⟨_,rfl,Ac1 K⟩,_,rfl,k⟩
theorem XM{q:List (Addr × SetW.T3)}{i:Nat}{x:V}(h:(rf3 q)[i]?=some x):∃ p,q[i]?=some p∧x=.ref p.1:=by
 unfold rf3 at h
 rw[AkG] at h
 obtain⟨p,h1,h2⟩:=Option.map_eq_some_iff.mp h
 exact⟨p,h1,h2.symm⟩
theorem Aig{H:Hp}{x y:Addr × SetW.T3}(h1:H x.1=some (.tup (v3 x.2)))(h2:H y.1=some (.tup (v3 y.2))):Ho K H (.ref x.1) (.ref y.1) (eqL (v3 x.2) (v3 y.2)):=.tup (SqT.of h1) (SqT.of h2) rfl rfl
theorem AeV{H:Hp}{x y:Addr × SetW.T3}(h1:H x.1=some (.tup (v3 x.2)))(h2:H y.1=some (.tup (v3 y.2)))(e:x.2=y.2):Ho K H (.ref x.1) (.ref y.1) true:=by
 have:=Aig (K:=K) h1 h2
 rw[e,QX rfl] at this
 exact this
theorem in3{H:Hp}{q:List (Addr × SetW.T3)}{y:Addr × SetW.T3}(T:TT3 H q)(h2:H y.1=some (.tup (v3 y.2)))(hm:y.2∈q.map (·.2)):(∀(i:Nat) (z:V),(rf3 q)[i]?=some z→∃ b,Ho K H z (.ref y.1) b)∧(∃(i:Nat) (z:V),(rf3 q)[i]?=some z∧Ho K H z (.ref y.1) true):=by
 refine⟨fun i z hz=>?_,?_⟩
 ·obtain⟨p,hp,rfl⟩:=XM hz
  exact⟨_,Aig (T p (AkQ hp)) h2⟩
 ·obtain⟨p,hp,e⟩:=List.mem_map.mp hm
  obtain⟨i,hi,ei⟩:=AkW hp
  exact⟨i,.ref p.1,by unfold rf3;rw[AkG,Ak9 hi,ei];rfl,AeV (T p hp) h2 e⟩
def Ace (K:PySem.W.Frag):Sp:=fun vs H Q _=>∃(a b:Addr) (q q2:List (Addr × SetW.T3)),vs=[.ref a,.ref b]∧H a=some (.lst (rf3 q))∧H b=some (.lst (rf3 q2))∧TT3 H q∧TT3 H q2∧q.Pairwise (fun x y=>SetW.lt3 x.2 y.2=true)∧(∀ z,z∈q.map (·.2)↔z∈q2.map (·.2))∧q.length≤1000∧q2.length≤1000∧∀ H',An H H'→Q (.bl true) H'
theorem Q3(T:Txt K mg t):BK P w K mg base CX0 2 t.Bu t.Gq ["found", "made"] (Ace K):=by
 have Ik:BK P w K mg base CX0 1 t.Bq t.Ga _ _:=PB T
 refine T.FJ.F.ok FW (fun vs H Q E h=>?_) (fun cdv A outer s H vs Q E hr h=>?_)
 ·obtain⟨a,b,q,q2,rfl,_⟩:=h
  rfl
 ·obtain⟨a,b,q,q2,rfl,ha,hb,ta,tb,pw,mem,l1,l2,k⟩:=h
  have hsz:sizeLine=16777216:=sizeLine_eq
  refine⟨_,(Ab (Fd (Qo (MK (Ao (Kz (K:=K)) rfl T.Gv Fl (Aa (pv 0) (Aa (QR (v:=.ty "list") rfl T.Aaz WY rfl) Ac)))))
    (Ag (Cg QQ))
    Cv)
   (Ab (Ci PassesOwn.never rfl (Hn (K:=K) (pv 0)) (Bd (i:=2) FW.nd rfl (Or.inl rfl))
    (Ab (Fd (PW.pt (pw_or (Qo (MK (Ao (Kz (K:=K)) rfl T.Gv Fl (Aa (pv 2) (Aa (QR (v:=.ty "tuple") rfl T.AeJ Acz rfl) Ac))))) (pw_or (Bt Yy (Ao (Ak (K:=K)) rfl T.DN Cq (Aa (pv 2) Ac)) Af (Bw _)) (pw_or1 (Qo (MK (Ao (Kz (K:=K)) rfl T.Gv Fl (Aa (Aq (CG (K:=K)) (pv 2) Af (fun _ _=>rfl)) (Aa (QR (v:=.ty "str") rfl T.AhO AfV rfl) Ac)))))))))
     (Ag (Cg QQ))
     Cv)
    (Ag (Fd (PW.pt (pw_or (Qo (MK (Bl (Ik.mono (by decide)) hr rfl T.Cj.m T.Cj.F.kp T.Cj.b .nil Dk (Aa (Aq (CG (K:=K)) (pv 2) Af (fun _ _=>rfl)) Ac)))) (pw_or (Qo (MK (Bl (Ik.mono (by decide)) hr rfl T.Cj.m T.Cj.F.kp T.Cj.b .nil Dk (Aa (Aq (CG (K:=K)) (pv 2) Af (fun _ _=>rfl)) Ac)))) (pw_or1 (Bt (AbT (K:=K) hr.QZ) (pv 2) (pv 1) rfl)))))
     (Ag (Cg QQ))
     Cv))))
   (Ab (Ci PassesOwn.never rfl (Aw rfl T.Be (Aa (Ai MP (Ao (Ak (K:=K)) rfl T.DN Cq (Aa (pv 0) Ac)) Af) Ac)) (Bd (i:=3) FW.nd rfl (Or.inl rfl))
    (Ag (Fd (Qo (Bt (AeG (K:=K) hr.AfI) (Aq (Ah (K:=K)) (pv 0) (pv 3) (fun _ _=>rfl)) (Aq (Ah (K:=K)) (pv 0) (Ai Bs (pv 3) Af) (fun _ _=>rfl)) (Bw _)))
     (Ag (Cg QQ))
     Cv)))
   (Ag (Cg (Ao (Wr (K:=K)) rfl T.Afr Acy (Aa (O5 (Ej.mk (BJ:=[0]) (Nc:=["seam", "found"]) rfl (by decide +kernel) (by decide +kernel) (Fz (sc0:=Ae Ay) rfl (by decide +kernel)) rfl rfl rfl (by decide +kernel) (fun k j h=>match k,h with | 0,h=>by obtain rfl:=Option.some.inj h;exact⟨_,rfl,rfl,rfl⟩ | _+1,h=>by simp at h)) rfl (Hn (K:=K) (pv 1)) (fun _ _ _ _ _=>.nil) (fun _ _ _ _ _=>(HF (Ag4 (K:=K) hr.QZ) (pv 0) (pv 1) rfl))) Ac))))))),?_⟩
  refine⟨_,rfl,_,_,true,.lst ha,.inl ⟨_,rfl,Rn K _⟩,_,rfl,?_⟩
  refine Px ?_
  refine⟨_,rfl,_,rfl,⟨_,SqL.of ha⟩,QT (K:=K) (a:=a) (xs:=rf3 q) (fun i σ H2=>∃ v2 v3,σ=[some (.ref a),some (.ref b),v2,v3]∧H2=H) ⟨none,none,rfl,rfl⟩ (fun i σ H2 _ ⟨_,_,_,e⟩=>e▸SqL.of ha) ?_ ?_⟩
  ·rintro i x σ H2 hx ⟨v2,v3',rfl,rfl⟩
   obtain⟨p,hp,rfl⟩:=XM hx
   have hpm:=AkQ hp
   have hT:=ta p hpm
   have p0:atI (v3 p.2) 0=some (V.int p.2.1):=rfl
   have p1:atI (v3 p.2) 1=some (V.int p.2.2.1):=rfl
   have p2:atI (v3 p.2) 2=some (V.str p.2.2.2):=rfl
   refine⟨_,rfl,_,_,true,.tup hT,.inl ⟨_,rfl,Rn K _⟩,_,rfl,Px ?_⟩
   refine⟨_,rfl,_,_,rfl,.inr (SqT.of hT),rfl,_,rfl,?_⟩
   refine AaO rfl ?_
   refine⟨_,rfl,_,_,_,_,rfl,rfl,SqT.of hT,p2,_,_,true,.str _,.inl ⟨_,rfl,Rn K _⟩,_,rfl,Px ?_⟩
   refine⟨_,rfl,_,_,_,_,rfl,rfl,SqT.of hT,p0,_,rfl,_,rfl,Px ?_⟩
   refine⟨_,rfl,_,_,_,_,rfl,rfl,SqT.of hT,p1,_,rfl,_,rfl,Px ?_⟩
   obtain⟨n1,n2⟩:=in3 (K:=K) tb hT ((mem _).mp (List.mem_map.mpr ⟨p,hpm,rfl⟩))
   refine⟨_,rfl,_,rfl,_,_,rfl,SqL.of hb,.inl ⟨n1,n2,_,rfl,Px ?_⟩⟩
   exact⟨_,_,rfl,rfl⟩
  ·rintro σ H2 ⟨v2,v3',rfl,rfl⟩
   refine⟨_,rfl,_,_,rfl,.inl (SqL.of ha),_,_,rfl,rfl,_,rfl,(by rw[Jc];omega),(by rw[Jc];omega),?_⟩
   rw[Jc]
   refine Bp (lo:=0) (n:=((q.length:Int)-1).toNat) (fun i σ H3=>∃ v2 v3,σ=[some (.ref a),some (.ref b),v2,v3]∧H3=H2) ⟨_,_,rfl,rfl⟩ ?_ ?_
   ·rintro i σ H3 hi ⟨v2',Ajt,rfl,rfl⟩
    have i1:i<q.length:=by omega
    have i2:i+1<q.length:=by omega
    have a1:atI (rf3 q) (0+(i:Int))=some (.ref q[i].1):=Bb (by omega) (by rw[z0];unfold rf3;rw[AkG,Ak9 i1];rfl)
    have a2:atI (rf3 q) (0+(i:Int)+1)=some (.ref q[i+1].1):=Bb (by omega) (by rw[show(0+(i:Int)+1).toNat=i+1 by omega];unfold rf3;rw[AkG,Ak9 i2];rfl)
    have lt:=List.pairwise_iff_getElem.mp pw i (i+1) i1 i2 (by omega)
    refine⟨_,rfl,_,rfl,_,_,_,_,rfl,rfl,SqL.of ha,a1,_,rfl,_,rfl,_,_,rfl,rfl,_,_,_,_,rfl,rfl,SqL.of ha,a2,_,_,q[i].2,q[i+1].2,rfl,rfl,SqT.of (ta _ (AkI i1)),SqT.of (ta _ (AkI i2)),?_⟩
    rw[lt]
    refine⟨_,rfl,Px ?_⟩
    exact⟨_,_,rfl,rfl⟩
   ·rintro σ H3 ⟨v2',Ajt,rfl,rfl⟩
    refine⟨_,rfl,_,rfl,⟨_,SqL.of hb⟩,O7 (K:=K) (a:=b) (xs:=rf3 q2) (fun j ys H6=>H6=H3∧ys=vB (List.replicate j true)) ⟨rfl,rfl⟩ ?_ ?_ ?_ ?_⟩
    ·rintro j ys H6 hj ⟨rfl,rfl⟩
     exact⟨SqL.of hb,by rw[Xh,AlQ];exact Ak8 _⟩
    ·rw[Jc];omega
    ·rintro j x ys H6 hj hx ⟨rfl,rfl⟩
     obtain⟨p,hp,rfl⟩:=XM hx
     have hpm:=AkQ hp
     obtain⟨n1,n2⟩:=in3 (K:=K) ta (tb p hpm) ((mem _).mpr (List.mem_map.mpr ⟨p,hpm,rfl⟩))
     refine Ig.no ?_
     refine⟨_,rfl,_,rfl,_,_,rfl,SqL.of ha,.inl ⟨n1,n2,?_⟩⟩
     refine CN.of hj ⟨rfl,?_⟩
     rw[List.replicate_succ',Ac6]
     rfl
    ·rintro ys H6 c ⟨rfl,rfl⟩ nc
     refine⟨_,_,rfl,SqL.of Ad,?_⟩
     rw[show(List.replicate (rf3 q2).length true).all id=true by rw[Amk];intro b hb;exact List.eq_of_mem_replicate hb]
     exact k _ (.upd nc)
theorem AdA(c:Int){y:Nat}(hy:0<y):0≤c%(y:Int)∧c%(y:Int)<(y:Int):=⟨Ald c (by omega),Alc c (by omega)⟩
structure TL (H:Hp) (y:Addr) (as:List Addr) (ps:List (List (List Nat))):Prop where
 h:H y=some (.lst (as.map V.ref))
 l:as.length=ps.length
 r:∀(i:Nat) (a:Addr) (u:List (List Nat)),as[i]?=some a→ps[i]?=some u→H a=some (.lst (vS u))
theorem TL.same{H H':Hp}{y:Addr}{as:List Addr}{ps:List (List (List Nat))}(N:TL H y as ps)(s:An H H'):TL H' y as ps:=⟨s _ _ N.h,N.l,fun i a u h1 h2=>s _ _ (N.r i a u h1 h2)⟩
theorem TL.pcs{H:Hp}{y:Addr}{as:List Addr}{ps:List (List (List Nat))}(N:TL H y as ps):Pcs K H as ps:=⟨N.l,fun i a h=>by
 have hi:i<ps.length:=by rw[← N.l];exact(List.getElem?_eq_some_iff.mp h).1
 have:=N.r i a _ h (Ak9 hi)
 rw[show ps.getD i []=ps[i] by rw[AkH,Ak9 hi];rfl]
 exact SqL.of this⟩
theorem Aah.vI{H:Hp}{l l':Addr}{ks:List Int}(h:H l=some (.lst (vI ks)))(h':H l'=some (.lst (vI ks))):VG K H 50 (.ref l) (.ref l'):=by
 refine .lst (SqL.of h) (SqL.of h') rfl fun j x y e1 e2=>?_
 rw[e1] at e2
 cases e2
 obtain⟨z,_,rfl⟩:=Xd e1
 exact .flat rfl
theorem AgG{i:Nat}{v:V}{σ σ':St}{H:Hp}{b:TS}{D:Ends}(h:σ.set i (some v)=σ')(k:b D σ' H):AgY (AdR (tC v) (Yw i)) b D σ H:=by subst h;exact k
theorem Aah.vS{H:Hp}{l l':Addr}{ks:List (List Nat)}(h:H l=some (.lst (vS ks)))(h':H l'=some (.lst (vS ks))):VG K H 50 (.ref l) (.ref l'):=by
 refine .lst (SqL.of h) (SqL.of h') rfl fun j x y e1 e2=>?_
 rw[e1] at e2
 cases e2
 obtain⟨z,_,rfl⟩:=Xc e1
 exact .flat rfl
theorem AeW(z:Int):∃ y:Int,atI [V.int 1,V.int 2,V.int 3,V.int 8] (z%4)=some (.int y)∧1≤y∧y≤8:=by
 have:z%4=0∨z%4=1∨z%4=2∨z%4=3:=by omega
 rcases this with h | h | h | h <;> rw[h]
 ·exact⟨1,rfl,by decide,by decide⟩
 ·exact⟨2,rfl,by decide,by decide⟩
 ·exact⟨3,rfl,by decide,by decide⟩
 ·exact⟨8,rfl,by decide,by decide⟩
theorem AeX{q:List (Addr × SetW.T3)}{l:List SetW.T3}(pw:q.Pairwise (fun x y=>SetW.lt3 x.2 y.2=true))(mem:∀ z,z∈q.map (·.2)↔z∈l):q.length≤l.length:=by
 rw[← AkA (f:=fun x:Addr × SetW.T3=>x.2)]
 refine Tp (List.pairwise_map.mpr (pw.imp fun h e=>?_)) fun z hz=>(mem z).mp hz
 rw[e,SetW.Abl] at h
 cases h
def XN (K:PySem.W.Frag)(tT:Addr):Sp:=fun vs H Q _=>∃(a:Addr) (ns:List Int),vs=[.ref a]∧SqL K H a (vI ns)∧ns.length≤63∧Tb tT "layers_of.<locals>.<lambda>" H∧∀ H',Q (.bl true) H'
theorem XQ{K:PySem.W.Frag}{tT:Addr}{H:Hp}{a:Addr}{ns:List Int}(hl:ns.length≤63)(hS:SqL K H a (ns.map V.int))(tb:Tb tT "layers_of.<locals>.<lambda>" H):XN K tT [.ref a] H (fun v _=>v=.bl true) fun _ _ _=>False:=⟨a,ns,rfl,hS,hl,tb,fun _=>rfl⟩
theorem AgH{tc tT:Addr}(T:Txt K mg t)(hcd:t.Em.code=.ref tc)(hCd:PySem.W.CodeHd base tc tT)(hBm:Bm mg base):BK P w K mg base CX0 9 t.Vl t.Afq ["script"] (XN K tT):=by
 have VP:BK P w K mg base CX0 1 t.CT t.JT _ _:=Vn T
 have Tv:BK P w K mg base CX0 3 t.BV t.GC _ _:=Rr T
 have Qd:BK P w K mg base CX0 1 t.CW t.JW _ _:=Vp T
 have Aa4:BK P w K mg base CX0 1 t.Eo t.Q0 _ _:=Z7 T
 have Aa5:BK P w K mg base CX0 8 t.En t.Qz _ _:=Z8 T hcd hCd hBm
 have Z9:BK P w K mg base CX0 1 t.DK t.Np _ _:=XJ T
 have Ru:BK P w K mg base CX0 2 t.Bu t.Gq _ _:=Q3 T
 refine T.law.F.ok FZ (fun vs H Q E h=>?_) (fun cdv A outer s H vs Q E hr h=>?_)
 ·obtain⟨a,ns,rfl,_⟩:=h
  rfl
 ·obtain⟨a,ns,rfl,hS,hl,tb,k⟩:=h
  have hsz:sizeLine=16777216:=sizeLine_eq
  refine⟨_,(Ab (Aj (i:=1) FZ.nd rfl (Or.inr rfl) (Bl (VP.mono (by decide)) hr rfl T.Ji.m T.Ji.F.kp T.Ji.b .nil Dk (Aa (pv 0) (Aa Af Ac))))
   (Ab (Aj (i:=2) FZ.nd rfl (Or.inl rfl) (Ai Bs Af (Ai Cz (Aq (Ah (K:=K)) (pv 1) Af (fun _ _=>rfl)) Af)))
   (Ab (Aj (i:=3) FZ.nd rfl (Or.inr rfl) Af)
   (Ab (Fd (Bt Hm (Ai Cz (Aq (Ah (K:=K)) (pv 1) Af (fun _ _=>rfl)) Af) Af (Bw _))
    (Ag (Aj (i:=3) FZ.nd rfl (Or.inr rfl) Af))
    Cv)
   (Ab (Aj (i:=4) FZ.nd rfl (Or.inr rfl) (O5 (Ej.mk (BJ:=[1,3]) (Nc:=["name", "numbers", "most"]) rfl (by decide +kernel) (by decide +kernel) (Fz (sc0:=Ae Jf) rfl (by decide +kernel)) rfl rfl rfl (by decide +kernel) (fun k j h=>match k,h with | 0,h=>by obtain rfl:=Option.some.inj h;exact⟨_,rfl,rfl,rfl⟩ | 1,h=>by obtain rfl:=Option.some.inj h;exact⟨_,rfl,rfl,rfl⟩ | _+2,h=>by simp at h)) rfl (Aw rfl T.Be (Aa (pv 2) Ac)) (fun _ _ _ _ _=>.nil) (fun _ _ _ _ _=>(Ai Bs Af (Ai Cz (Aq (Ah (K:=K)) (pv 1) (Ai Bs Af (pv 0)) (fun _ _=>rfl)) (pv 2))))))
   (Ab (Aj (i:=5) FZ.nd rfl (Or.inr rfl) (O5 (Ej.mk (BJ:=[1,3]) (Nc:=["name", "numbers", "most"]) rfl (by decide +kernel) (by decide +kernel) (Fz (sc0:=Ae Jf) rfl (by decide +kernel)) rfl rfl rfl (by decide +kernel) (fun k j h=>match k,h with | 0,h=>by obtain rfl:=Option.some.inj h;exact⟨_,rfl,rfl,rfl⟩ | 1,h=>by obtain rfl:=Option.some.inj h;exact⟨_,rfl,rfl,rfl⟩ | _+2,h=>by simp at h)) rfl (Aw rfl T.Be (Aa (pv 2) Ac)) (fun _ _ _ _ _=>.nil) (fun _ _ _ _ _=>(Ai Bs Af (Ai Cz (Ai GQ (Aq (Ah (K:=K)) (pv 1) (Ai Bs Af (pv 0)) (fun _ _=>rfl)) Af) (pv 2))))))
   (Ab (O6 (i:=6) (Ej.mk (BJ:=[1,4,5]) (Nc:=["name", "numbers", "wides", "highs"]) rfl (by decide +kernel) (by decide +kernel) (Fz (sc0:=Ae Jf) rfl (by decide +kernel)) rfl rfl rfl (by decide +kernel) (fun k j h=>match k,h with | 0,h=>by obtain rfl:=Option.some.inj h;exact⟨_,rfl,rfl,rfl⟩ | 1,h=>by obtain rfl:=Option.some.inj h;exact⟨_,rfl,rfl,rfl⟩ | 2,h=>by obtain rfl:=Option.some.inj h;exact⟨_,rfl,rfl,rfl⟩ | _+3,h=>by simp at h)) rfl FZ.nd rfl rfl (Aw rfl T.Be (Aa (pv 2) Ac)) (fun _ _ _ _ _=>.nil) (fun _ _ _ _ _=>(Bl (Tv.mono (by decide)) hr rfl T.Gu.m T.Gu.F.kp T.Gu.b .nil Dk (Aa (pv 1) (Aa (pv 0) (Aa (Aq (Ah (K:=K)) (pv 2) (pv 0) (fun _ _=>rfl)) (Aa (Aq (Ah (K:=K)) (pv 3) (pv 0) (fun _ _=>rfl)) Ac)))))) rfl)
   (Ab (Aj (i:=7) FZ.nd rfl (Or.inl rfl) (Bl (Qd.mono (by decide)) hr rfl T.Er.m T.Er.F.kp T.Er.b .nil Dk (Aa (pv 4) (Aa (pv 1) (Aa Af Ac)))))
   (Ab (Aj (i:=8) FZ.nd rfl (Or.inl rfl) (Bl (Qd.mono (by decide)) hr rfl T.Er.m T.Er.F.kp T.Er.b .nil Dk (Aa (pv 5) (Aa (pv 1) (Aa Af Ac)))))
   (Ab (Aj (i:=9) FZ.nd rfl (Or.inl rfl) (Bl (Aa4.mono (by decide)) hr rfl T.Rm.m T.Rm.F.kp T.Rm.b .nil Dk (Aa (pv 6) (Aa (pv 7) (Aa (pv 8) Ac)))))
   (Ab (Aj (i:=10) FZ.nd rfl (Or.inr rfl) (Aq (Ah (K:=K)) (Ff (Aa Af (Aa Af (Aa Af (Aa Af Ac))))) (Ai Cz (Aq (Ah (K:=K)) (pv 1) Af (fun _ _=>rfl)) Af) (fun _ _=>rfl)))
   (Ab (O6 (i:=11) (Ej.mk (BJ:=[1,10]) (Nc:=["j", "numbers", "span"]) rfl (by decide +kernel) (by decide +kernel) (Fz (sc0:=Ae Jf) rfl (by decide +kernel)) rfl rfl rfl (by decide +kernel) (fun k j h=>match k,h with | 0,h=>by obtain rfl:=Option.some.inj h;exact⟨_,rfl,rfl,rfl⟩ | 1,h=>by obtain rfl:=Option.some.inj h;exact⟨_,rfl,rfl,rfl⟩ | _+2,h=>by simp at h)) rfl FZ.nd rfl rfl (Aw rfl T.Be (Aa (Ao (Ak (K:=K)) rfl T.DN Cq (Aa (pv 8) Ac)) Ac)) (fun _ _ _ _ _=>.nil) (fun _ _ _ _ _=>(Ai Cz (Ai GQ (Aq (Ah (K:=K)) (pv 1) (Ai Bs Af (Ai Cz (Ai Bs (Ai KQ Af (pv 0)) Af) Af)) (fun _ _=>rfl)) Af) (pv 2))) rfl)
   (Ab (Aj (i:=12) FZ.nd rfl (Or.inl rfl) (Ff (Aa (G5 (PX (K:=K)) rfl T.Aaz WY (Aa (pv 9) Ac)) (Aa (G5 (PX (K:=K)) rfl T.Aaz WY (Aa (pv 11) Ac)) Ac))))
   (Ab (Aj (i:=13) FZ.nd rfl (Or.inl rfl) (Bl (Aa5.mono (by decide)) hr rfl T.Rk.m T.Rk.F.kp T.Rk.b .nil Dk (Aa (Aq (Ah (K:=K)) (pv 12) Af (fun _ _=>rfl)) (Aa (Aq (Ah (K:=K)) (pv 12) Af (fun _ _=>rfl)) Ac))))
   (Ab (Fd (Bt (Agb (K:=K) (hr.QZ)) (pv 12) (Ff (Aa (pv 9) (Aa (pv 11) Ac))) (Bw _))
    (Ag (Cg QQ))
    Cv)
   (Ag (Cg (Bl (Ru.mono (by decide)) hr rfl T.FJ.m T.FJ.F.kp T.FJ.b .nil Dk (Aa (pv 13) (Aa (Bl (Z9.mono (by decide)) hr rfl T.Pg.m T.Pg.F.kp T.Pg.b .nil Dk (Aa (pv 8) (Aa (pv 11) Ac))) Ac)))))))))))))))))))),?_⟩
  refine⟨_,rfl,a,ns,63,rfl,hS,hl,by decide,by decide,fun ln ks H1 s1 nln hln hN=>?_⟩
  obtain⟨c0,e0,_⟩:=hN.at (i:=0) (by decide) (by decide)
  obtain⟨c1,e1,_⟩:=hN.at (i:=1) (by decide) (by decide)
  have gn:SqL K H1 ln (vI ks):=SqL.of hln
  have tb1:=tb.same s1
  obtain⟨q,eq,q1,q4⟩:=Ag8 c0 (z:=4) (by decide) (y:=4) (by decide)
  refine⟨_,rfl,_,_,_,_,rfl,rfl,gn,e0,_,_,rfl,rfl,(by show(0:Int)<4;decide),_,_,rfl,rfl,?_⟩
  dsimp only
  rw[eq]
  obtain⟨y0,hy0⟩:∃ y0:Nat,y0=3:=⟨_,rfl⟩
  refine AgG (σ':=[some (.ref a),some (.ref ln),some (.int (q:Int)),some (.int (y0:Int)),none,none,none,none,none,none,none,none,none,none]) (by rw[hy0];rfl) ?_
  apply Ads (fun y=>1≤y∧y≤9)
  ·intro rest
   obtain⟨yy,hyy⟩:∃ yy,yy=y0:=⟨_,rfl⟩
   rw[← hyy]
   refine⟨_,rfl,_,_,_,_,rfl,rfl,gn,e1,_,_,rfl,rfl,(by show(0:Int)<8;decide),rfl,_,rfl,?_⟩
   refine Ky ?tt ?ff
   case ff=>exact fun _=>rest yy ⟨by omega,by omega⟩
   case tt=>exact fun _=>rest 9 ⟨by decide,by decide⟩
  rintro y ⟨y1,y9⟩
  refine⟨_,rfl,_,rfl,(by omega),(by omega),?_⟩
  rw[AkJ]
  refine Ek (lo:=0) (n:=q) (fun i ys H2=>H2=H1∧∃ cs:List Int,ys=vI cs∧cs.length=i∧∀ c∈cs,2≤c∧c≤10) ⟨rfl,[],rfl,rfl,fun _ h=>absurd h (by simp)⟩ ?_ ?_ ?_ ?_
  ·rintro i ys H2 hi ⟨rfl,cs,rfl,hu,_⟩
   rw[Av,hu]
   exact Ak8 _
  ·omega
  ·rintro i ys H2 hi ⟨rfl,cs,rfl,hu,hc⟩
   obtain⟨z,ez,_⟩:=hN.at (i:=2+(0+(i:Int))) (by omega) (by omega)
   have b:=AdA z (y:=y) (by omega)
   refine Ig.no ?_
   refine⟨_,rfl,_,rfl,_,_,rfl,rfl,_,_,_,_,rfl,rfl,gn,ez,_,rfl,_,_,rfl,rfl,(by show(0:Int)<(y:Int);omega),_,_,rfl,rfl,?_⟩
   refine CN.of hi ⟨rfl,cs++[2+z%(y:Int)],SQ _ _,by rw[AkE,hu];rfl,fun d hd=>?_⟩
   rcases List.mem_append.mp hd with h1 | h1
   ·exact hc d h1
   ·rw[List.mem_singleton.mp h1];omega
  rintro ys H2 lw ⟨rfl,ws,rfl,wl,wb⟩ nlw
  have s2:An H2 (upd H2 lw (.lst (vI ws))):=.upd nlw
  have gw2:(upd H2 lw (.lst (vI ws))) lw=some (.lst (vI ws)):=Ad
  generalize upd H2 lw (.lst (vI ws))=H3 at s2 gw2 ⊢
  refine⟨_,rfl,_,rfl,(by omega),(by omega),?_⟩
  rw[AkJ]
  refine Ek (lo:=0) (n:=q) (fun i ys H4=>H4=H3∧∃ cs:List Int,ys=vI cs∧cs.length=i∧∀ c∈cs,2≤c∧c≤10) ⟨rfl,[],rfl,rfl,fun _ h=>absurd h (by simp)⟩ ?_ ?_ ?_ ?_
  ·rintro i ys H4 hi ⟨rfl,cs,rfl,hu,_⟩
   rw[Av,hu]
   exact Ak8 _
  ·omega
  ·rintro i ys H4 hi ⟨rfl,cs,rfl,hu,hc⟩
   obtain⟨z,ez,_⟩:=hN.at (i:=2+(0+(i:Int))) (by omega) (by omega)
   have b:=AdA (z / 11) (y:=y) (by omega)
   refine Ig.no ?_
   refine⟨_,rfl,_,rfl,_,_,rfl,rfl,_,_,_,_,rfl,rfl,s2.seq gn,ez,_,_,rfl,rfl,⟨by decide,by decide⟩,_,rfl,_,_,rfl,rfl,(by show(0:Int)<(y:Int);omega),_,_,rfl,rfl,?_⟩
   refine CN.of hi ⟨rfl,cs++[2+z / 11%(y:Int)],SQ _ _,by rw[AkE,hu];rfl,fun d hd=>?_⟩
   rcases List.mem_append.mp hd with h1 | h1
   ·exact hc d h1
   ·rw[List.mem_singleton.mp h1];omega
  rintro ys H4 lh ⟨rfl,hs,rfl,hl2,hb⟩ nlh
  have s4:An H4 (upd H4 lh (.lst (vI hs))):=.upd nlh
  have gh4:(upd H4 lh (.lst (vI hs))) lh=some (.lst (vI hs)):=Ad
  generalize upd H4 lh (.lst (vI hs))=H5 at s4 gh4 ⊢
  have u5:=s2.trans s4
  have gn5:=u5.seq gn
  have gw5:=s4 _ _ gw2
  refine⟨_,rfl,_,rfl,(by omega),(by omega),?_⟩
  rw[AkJ]
  refine Ek (lo:=0) (n:=q) (fun i ys H6=>∃(as:List Addr) (ps:List (List (List Nat))),An H5 H6∧ys=as.map V.ref∧as.length=i∧ps.length=i∧(∀(j:Nat) (b:Addr) (u:List (List Nat)),as[j]?=some b→ps[j]?=some u→H6 b=some (.lst (vS u)))∧∀(j:Nat) (u:List (List Nat)),ps[j]?=some u→PcR u (ws.getD j 0).toNat (hs.getD j 0).toNat∧Hng u (ws.getD j 0).toNat (hs.getD j 0).toNat)
   ⟨[],[],.refl _,rfl,rfl,rfl,fun j b u h=>by simp at h,fun j u h=>by simp at h⟩ ?_ ?_ ?_ ?_
  ·rintro i ys H6 hi ⟨as,ps,s6,rfl,al,_⟩
   rw[AkA,al]
   exact Ak8 _
  ·omega
  ·rintro i ys H6 hi ⟨as,ps,s6,rfl,al,pl,hA,hP⟩
   have hiw:i<ws.length:=by omega
   have hih:i<hs.length:=by omega
   have ew:ws.getD i 0=ws[i]:=by rw[AkH,Ak9 hiw];rfl
   have eh:hs.getD i 0=hs[i]:=by rw[AkH,Ak9 hih];rfl
   have wi:=wb _ (AkI hiw)
   have hi2:=hb _ (AkI hih)
   have aw:atI (vI ws) (0+(i:Int))=some (.int ws[i]):=Bb (by omega) (by rw[z0];exact JQ (Ak9 hiw))
   have ah:atI (vI hs) (0+(i:Int))=some (.int hs[i]):=Bb (by omega) (by rw[z0];exact JQ (Ak9 hih))
   refine Ig.no ?_
   refine⟨_,rfl,_,rfl,_,rfl,_,rfl,_,_,_,_,rfl,rfl,SqL.of (s6 _ _ gw5),aw,_,rfl,_,rfl,_,_,_,_,rfl,rfl,SqL.of (s6 _ _ gh4),ah,ln,ks,i,ws[i].toNat,hs[i].toNat,(by rw[Al1,show((ws[i].toNat:Nat):Int)=ws[i] by omega,show((hs[i].toNat:Nat):Int)=hs[i] by omega];rfl),s6.seq gn5,hN,by omega,by omega,by omega,by omega,by omega,fun l cl H7 s7 nl hl7 C7 hg7=>?_⟩
   refine CN.of hi ⟨as++[l],ps++[cl],s6.trans s7,by rw[AkP];rfl,by rw[AkE,al];rfl,by rw[AkE,pl];rfl,fun j b u g1 g2=>?_,fun j u g2=>?_⟩
   ·rcases Al6 j i with c | c
    ·rw[Alm (by omega)] at g1 g2
     exact s7 _ _ (hA j b u g1 g2)
    ·rw[Alk (by omega)] at g1 g2
     have:j=i:=by
      have:=(List.getElem?_eq_some_iff.mp g1).1
      simp at this
      omega
     subst this
     rw[al,Alu] at g1
     rw[pl,Alu] at g2
     cases g1
     cases g2
     exact hl7
   ·rcases Al6 j i with c | c
    ·rw[Alm (by omega)] at g2
     exact hP j u g2
    ·rw[Alk (by omega)] at g2
     have:j=i:=by
      have:=(List.getElem?_eq_some_iff.mp g2).1
      simp at this
      omega
     subst this
     rw[pl,Alu] at g2
     cases g2
     rw[ew,eh]
     exact⟨C7,hg7⟩
  rintro ys H6 lp ⟨as,ps,s6,rfl,al,pl,hA,hP⟩ nlp
  have s7:An H6 (upd H6 lp (.lst (as.map V.ref))):=.upd nlp
  have P7:TL (upd H6 lp (.lst (as.map V.ref))) lp as ps:=⟨Ad,by omega,fun j b u g1 g2=>s7 _ _ (hA j b u g1 g2)⟩
  generalize upd H6 lp (.lst (as.map V.ref))=H7 at s7 P7 ⊢
  have u7:=s6.trans s7
  refine⟨_,rfl,_,rfl,lw,ln,ws,ks,0,rfl,SqL.of (u7 _ _ gw5),u7.seq gn5,hN,by omega,(fun c hc=>by have:=wb c hc;omega),by decide,fun pe es H8 s8 npe hpe pmE=>?_⟩
  have u8:=u7.trans s8
  refine⟨_,rfl,_,rfl,lh,ln,hs,ks,1,rfl,SqL.of (u8 _ _ gh4),u8.seq gn5,hN,by omega,(fun c hc=>by have:=hb c hc;omega),by decide,fun po os H9 s9 npo hpo pmP=>?_⟩
  have P9:=(P7.same s8).same s9
  have Aju:=s9 _ _ hpe
  have cE:∀ j,j<q→es.count (j:Int)=(ws.getD j 0).toNat:=fun j hj=>by rw[pmE.count_eq,Nt,if_pos (by omega)]
  have cP:∀ j,j<q→os.count (j:Int)=(hs.getD j 0).toNat:=fun j hj=>by rw[pmP.count_eq,Nt,if_pos (by omega)]
  have bw:∀ j,j<q→2≤(ws.getD j 0).toNat∧(ws.getD j 0).toNat≤10:=fun j hj=>by
   have hiw:j<ws.length:=by omega
   have:=wb _ (AkI hiw)
   rw[show ws.getD j 0=ws[j] by rw[AkH,Ak9 hiw];rfl]
   omega
  have bh:∀ j,j<q→2≤(hs.getD j 0).toNat∧(hs.getD j 0).toNat≤10:=fun j hj=>by
   have hiw:j<hs.length:=by omega
   have:=hb _ (AkI hiw)
   rw[show hs.getD j 0=hs[j] by rw[AkH,Ak9 hiw];rfl]
   omega
  have lE:=pmE.length_eq
  have lP:=pmP.length_eq
  have fE:=Ph (cs:=ws) (fun c hc=>by have:=wb c hc;omega) ws.length (Ak8 _)
  have fP:=Ph (cs:=hs) (fun c hc=>by have:=hb c hc;omega) hs.length (Ak8 _)
  have c0E:0<es.length:=by
   have h1:=cE 0 (by omega)
   have h2:=(bw 0 (by omega)).1
   have h3:=Am8 (a:=((0:Nat):Int)) (l:=es)
   omega
  have c0P:0<os.length:=by
   have h1:=cP 0 (by omega)
   have h2:=(bh 0 (by omega)).1
   have h3:=Am8 (a:=((0:Nat):Int)) (l:=os)
   omega
  have pg:∀ j,j<q→ps[j]?=some (ps.getD j []):=fun j hj=>by rw[AkH,Ak9 (by omega)];rfl
  have C:Qw ps es os:=by
   refine⟨fun z hz=>?_,fun z hz=>?_,fun j hj=>?_,fun j hj u hu=>?_,by omega,by omega,by omega,by omega⟩
   ·have:=Wz (pmE.mem_iff.mp hz);omega
   ·have:=Wz (pmP.mem_iff.mp hz);omega
   ·rw[cP j (by omega)];exact(hP j _ (pg j (by omega))).1.hn
   ·rw[cE j (by omega)];exact(hP j _ (pg j (by omega))).1.hm u hu
  have B:Blk (upC (lay ps es os)) es.length os.length ps.length (owN es os):=Aet C (fun j hj=>by rw[cE j (by omega),cP j (by omega)];have:=bw j (by omega);have:=bh j (by omega);omega) (fun j hj=>by rw[cE j (by omega),cP j (by omega)];exact(hP j _ (pg j (by omega))).2)
  have fw:=AgD C B fun j hj=>by rw[cE j (by omega),cP j (by omega)];exact⟨(bw j (by omega)).2,(bh j (by omega)).2⟩
  have told:=fun {dA dB:List Int} (pA:dA.Perm (eS (lay ps es os) es.length)) (pB:dB.Perm (pS (lay ps es os))) (decA:dA.Pairwise (· ≥ ·)) (Fp:dB.Pairwise (· ≥ ·)) {tss:List (List Int)} {eo po:List Nat} {ks:List Int} (L:Lay (upC (lay ps es os)) es.length os.length tss (Fq (Pz es.length os.length dA dB) os.length (es.length+1)) eo po) (pc:Pc tss (es.length+os.length) tss.length 0 ks)=>Ad2 C B pA pB decA Fp L pc
  have Ccl:=Aa3 C
  clear B cE cP bw bh lE lP pmE pmP
  refine⟨_,rfl,_,rfl,_,rfl,lp,pe,po,as,ps,es,os,rfl,SqL.of P9.h,P9.pcs,SqL.of Aju,SqL.of hpo,C,fun lg H10 s10 nlg g10=>?_⟩
  have Ajv:=(u8.trans (s9.trans s10)).seq gn5
  have Aih:=s10 _ _ hpo
  obtain⟨c7,e7,_⟩:=hN.at (i:=7) (by decide) (by decide)
  obtain⟨y7,f7,y71,y78⟩:=AeW c7
  refine⟨(by show 4≤sizeLine;decide),fun pq npq=>?_⟩
  have s11:An H10 (upd H10 pq (.lst [V.int 1,V.int 2,V.int 3,V.int 8])):=.upd npq
  have g11:(upd H10 pq (.lst [V.int 1,V.int 2,V.int 3,V.int 8])) pq=some (.lst [V.int 1,V.int 2,V.int 3,V.int 8]):=Ad
  generalize upd H10 pq (.lst [V.int 1,V.int 2,V.int 3,V.int 8])=H11 at s11 g11 ⊢
  have Aii:=s11.seq Ajv
  have Af1:=s11 _ _ Aih
  refine⟨_,rfl,_,_,_,_,rfl,rfl,Aii,e7,_,_,rfl,rfl,(by show(0:Int)<4;decide),_,_,_,_,rfl,rfl,SqL.of g11,f7,?_⟩
  have o40:=C.o40
  refine⟨_,rfl,_,_,rfl,.inl (SqL.of Af1),_,rfl,(by omega),(by rw[Av];omega),?_⟩
  rw[AkJ,Av]
  refine Ek (lo:=0) (n:=os.length) (fun i ys H12=>H12=H11∧∃ sh:List Int,ys=vI sh∧sh.length=i∧∀ z∈sh,0≤z∧z<8) ⟨rfl,[],rfl,rfl,fun _ h=>absurd h (by simp)⟩ ?_ ?_ ?_ ?_
  ·rintro i ys H12 hi ⟨rfl,sh,rfl,shl,_⟩
   rw[Av,shl]
   exact Ak8 _
  ·omega
  ·rintro i ys H12 hi ⟨rfl,sh,rfl,shl,shb⟩
   have b1:=Ald (3*(0+(i:Int))+2) (show(55:Int)≠0 by decide)
   have b2:=Alc (3*(0+(i:Int))+2) (show(0:Int)<55 by decide)
   obtain⟨z,ez,_⟩:=hN.at (i:=8+(3*(0+(i:Int))+2)%55) (by omega) (by omega)
   have c1:=Ald (z / 5) (show y7≠0 by omega)
   have c2:=Alc (z / 5) (show(0:Int)<y7 by omega)
   refine Ig.no ?_
   refine⟨_,rfl,_,rfl,_,_,rfl,rfl,.inl ⟨by decide,by decide⟩,_,_,rfl,rfl,_,_,rfl,rfl,(by show(0:Int)<55;decide),_,_,rfl,rfl,_,_,_,_,rfl,rfl,Aii,ez,_,_,rfl,rfl,⟨by decide,by decide⟩,_,rfl,_,_,rfl,rfl,(by show(0:Int)<y7;omega),?_⟩
   refine CN.of hi ⟨rfl,sh++[z / 5%y7],SQ _ _,by rw[AkE,shl];rfl,fun d hd=>?_⟩
   rcases List.mem_append.mp hd with h1 | h1
   ·exact shb d h1
   ·rw[List.mem_singleton.mp h1];omega
  rintro ys H12 lsh ⟨rfl,sh,rfl,shl,shb⟩ Ajw
  have s13:An H12 (upd H12 lsh (.lst (vI sh))):=.upd Ajw
  have g13:(upd H12 lsh (.lst (vI sh))) lsh=some (.lst (vI sh)):=Ad
  generalize upd H12 lsh (.lst (vI sh))=H13 at s13 g13 ⊢
  have Aij:=(s11.trans s13) _ _ g10
  refine⟨_,rfl,_,_,rfl,.inl (SqL.of Aij),fun l1 nl1=>?_⟩
  have s14:An H13 (upd H13 l1 (.lst (vS (lay ps es os)))):=.upd nl1
  have h1:(upd H13 l1 (.lst (vS (lay ps es os)))) l1=some (.lst (vS (lay ps es os))):=Ad
  generalize upd H13 l1 (.lst (vS (lay ps es os)))=H14 at s14 h1 ⊢
  refine⟨_,rfl,_,_,rfl,.inl (SqL.of (s14 _ _ g13)),fun l2 nl2=>?_⟩
  have s15:An H14 (upd H14 l2 (.lst (vI sh))):=.upd nl2
  have h2:(upd H14 l2 (.lst (vI sh))) l2=some (.lst (vI sh)):=Ad
  generalize upd H14 l2 (.lst (vI sh))=H15 at s15 h2 ⊢
  refine⟨(by show 2≤sizeLine;decide),fun lo nlo=>?_⟩
  have s16:An H15 (upd H15 lo (.lst [.ref l1,.ref l2])):=.upd nlo
  have ho:(upd H15 lo (.lst [.ref l1,.ref l2])) lo=some (.lst [.ref l1,.ref l2]):=Ad
  generalize upd H15 lo (.lst [.ref l1,.ref l2])=H16 at s16 ho ⊢
  have h1':=(s15.trans s16) _ _ h1
  have h2':=s16 _ _ h2
  have v16:=(s14.trans s15).trans s16
  have Ajx:=v16 _ _ Aij
  have Ajy:=v16 _ _ g13
  have Aik:=v16 _ _ (s13 _ _ Af1)
  have Ajz:Tb tT "layers_of.<locals>.<lambda>" H16:=(((((tb1.same u5).same u7).same (s8.trans s9)).same (s10.trans s11)).same s13).same v16
  refine⟨_,rfl,_,_,_,_,rfl,rfl,SqL.of ho,Bb (by decide) rfl,_,rfl,_,_,_,_,rfl,rfl,SqL.of ho,Bb (by decide) rfl,l1,l2,lay ps es os,es.length,os.length,sh,rfl,SqL.of h1',Ccl,fw,Ajz,SqL.of h2',shl,shb,fun lf H17 qf tss dA dB eo' po' ks' t17 Ak7 pA pB decA Fp L pc gf tf pw mem=>?_⟩
  obtain⟨r1,r2,r3⟩:=told pA pB decA Fp L pc
  rw[r3] at mem
  have ql:=AeX pw mem
  have ql2:=Lh os sh 8
  have Aj0:=t17.lst Ajx
  have Ail:=t17.lst Ajy
  have Aim:=t17.lst Aik
  have Aj1:=t17.lst h1'
  have Aj2:=t17.lst h2'
  have Aj3:=t17.lst ho
  clear L pc told fw
  refine⟨_,rfl,_,rfl,_,rfl,(by show 2≤sizeLine;decide),fun lq nlq=>?_⟩
  have s18:An H17 (upd H17 lq (.lst [.ref lg,.ref lsh])):=.upd nlq
  have gq:(upd H17 lq (.lst [.ref lg,.ref lsh])) lq=some (.lst [.ref lg,.ref lsh]):=Ad
  generalize upd H17 lq (.lst [.ref lg,.ref lsh])=H18 at s18 gq ⊢
  have so:Aah K H18 lo lq:=by
   refine⟨_,_,SqL.of (s18 _ _ Aj3),SqL.of gq,rfl,fun i x y x1 x2=>?_⟩
   match i,x1,x2 with
   | 0,x1,x2=>cases x1;cases x2;exact Aah.vS (s18 _ _ Aj1) (s18 _ _ Aj0)
   | 1,x1,x2=>cases x1;cases x2;exact Aah.vI (s18 _ _ Aj2) (s18 _ _ Ail)
   | i+2,x1,x2=>simp at x1
  refine⟨lo,lq,rfl,rfl,so,_,rfl,?_⟩
  refine Px ?_
  refine⟨_,rfl,_,rfl,_,rfl,po,lsh,os,sh,rfl,SqL.of (s18 _ _ Aim),SqL.of (s18 _ _ Ail),shl.symm,by omega,fun lm H19 q2 s19 nlm gm tm eqm=>?_⟩
  have q2l:q2.length≤sh.length:=by
   have:=congrArg List.length eqm
   rw[AkA] at this
   omega
  have v19:=s18.trans s19
  exact⟨lf,lm,qf,q2,rfl,v19 _ _ gf,gm,tf.same v19,tm,pw,(fun z=>by rw[mem z,eqm]),by omega,by omega,fun H' _=>k H'⟩
end
theorem AgI{P:Program}{w:World}{K:PySem.W.Frag}{h:Heap}{mg:Str→Option Value}{fa tc tT:Addr}{t1:Value}{t2:Option Addr}{t3:Array (Option Value)}{tvs:Array Value}{Di:Addr}{ZC TJ:Option Addr}{ZD:Array (Option Value)}{ZF TQ TV TX Nu TY:Value}
    {BP:Addr}{Rv Jl:Option Addr}{Rw:Array (Option Value)}{Rx Jm Jo Jp Gw Jq:Value}
    {Dm:Addr}{VR Qe:Option Addr}{VV:Array (Option Value)}{Wa Qf Qg Qh JZ Qi:Value}
    {Dw:Addr}{XR Ry:Option Addr}{XS:Array (Option Value)}{XX Rz R0 R7 Lr R8:Value}
    {Dp:Addr}{Yb R9:Option Addr}{Yc:Array (Option Value)}{Yd RB RC RD Ls RG:Value}
    {Gh:Addr}{Aa6 Vs:Option Addr}{Aa7:Array (Option Value)}{Aa8 Vt Vu Vv Q4 Vw:Value}
    {Dy:Addr}{Ye Lw:Option Addr}{Yg:Array (Option Value)}{Yh Lz LC LK Gx LQ:Value}
    {Ce:Addr}{Tw K9:Option Addr}{Tz:Array (Option Value)}{T4 KC KD KH GF KJ:Value}
    {En:Addr}{ZG Ua:Option Addr}{ZJ:Array (Option Value)}{ZK Ub Uc Ud Nv Ue:Value}
    {BR:Addr}{RJ Jr:Option Addr}{RK:Array (Option Value)}{RL Js Jt Ju Gy Jv:Value}
    {CQ:Addr}{Vx Nx:Option Addr}{Vy:Array (Option Value)}{Vz Ny Nz NB Il NK:Value}
    {CT:Addr}{V0 NP:Option Addr}{V1:Array (Option Value)}{V2 NQ NT NZ Im Oa:Value}
    {Dz:Addr}{Yi RM:Option Addr}{Yj:Array (Option Value)}{Yk RN RP RQ LR RT:Value}
    {CV:Addr}{V3 Ob:Option Addr}{V4:Array (Option Value)}{V5 Oc Od Oe Io Og:Value}
    {DG:Addr}{Yl RW:Option Addr}{Ym:Array (Option Value)}{Yn RX RZ Sd Ma Sh:Value}
    {Dq:Addr}{Wb Qj:Option Addr}{Wc:Array (Option Value)}{Wd Qk Ql Qm Ka Qn:Value}
    {BV:Addr}{Sq Jw:Option Addr}{Ss:Array (Option Value)}{Su Jx Jy Jz Gz J0:Value}
    {CW:Addr}{V6 Oh:Option Addr}{V7:Array (Option Value)}{V8 Oi Oj Ol Ip Om:Value}
    {Eo:Addr}{ZL Ug:Option Addr}{ZM:Array (Option Value)}{ZP Uh Ui Uj Oo Uk:Value}
    {DK:Addr}{Yo Sv:Option Addr}{Yp:Array (Option Value)}{Yq Sw Sx Sy Mg S6:Value}
    {Bq:Addr}{PJ Hv:Option Addr}{PN:Array (Option Value)}{PQ Hw Hy Hz Fg HB:Value}
    {Bu:Addr}{Q5 Ir:Option Addr}{Q6:Array (Option Value)}{Q7 Iu Iv Iw Gd Iz:Value}
    {Vl:Addr}{AgJ AdB:Option Addr}{AgK:Array (Option Value)}{AgL AdC AdD AdE Aa9 AdF:Value}
    {V9:Tok}
    {AaA:Tok}
    {Bo:Addr}
    {Cw:Addr}
    {Bv:Addr}
    (X:K.In h) (G:h.Ns mainGlobals mg) (hfa:mg "law" = some (.ref fa))
    (Q8:PySem.W.nsIn K mainGlobals "measured" = some (some (.ref Di)))
    (Mh:K.lookup Di=some ⟨ZF,ZC,.func (PySem.W.fnOf "measured" "measured" (Am Du) (Al Du) (Ae Du) .none TQ TV TX TJ Nu TY),ZD⟩)
    (Mi:PySem.W.codeIn K Nu "measured" = true)
    (Mj:PySem.W.keepIn K (.ref Di)=true)
    (GJ:PySem.W.nsIn K mainGlobals "measured_texts" = some (some (.ref BP)))
    (Es:K.lookup BP=some ⟨Rx,Rv,.func (PySem.W.fnOf "measured_texts" "measured_texts" (Am Bg) (Al Bg) (Ae Bg) .none Jm Jo Jp Jl Gw Jq),Rw⟩)
    (Et:PySem.W.codeIn K Gw "measured_texts" = true)
    (Eu:PySem.W.keepIn K (.ref BP)=true)
    (Ml:PySem.W.nsIn K mainGlobals "check_pick" = some (some (.ref Dm)))
    (HN:K.lookup Dm=some ⟨Wa,VR,.func (PySem.W.fnOf "check_pick" "check_pick" (Am Ck) (Al Ck) (Ae Ck) .none Qf Qg Qh Qe JZ Qi),VV⟩)
    (HQ:PySem.W.codeIn K JZ "check_pick" = true)
    (HR:PySem.W.keepIn K (.ref Dm)=true)
    (Oq:PySem.W.nsIn K mainGlobals "end_signs" = some (some (.ref Dw)))
    (J1:K.lookup Dw=some ⟨XX,XR,.func (PySem.W.fnOf "end_signs" "end_signs" (Am Cr) (Al Cr) (Ae Cr) .none Rz R0 R7 Ry Lr R8),XS⟩)
    (J4:PySem.W.codeIn K Lr "end_signs" = true)
    (J5:PySem.W.keepIn K (.ref Dw)=true)
    (Ot:PySem.W.nsIn K mainGlobals "scores_of" = some (some (.ref Dp)))
    (J6:K.lookup Dp=some ⟨Yd,Yb,.func (PySem.W.fnOf "scores_of" "scores_of" (Am Cd) (Al Cd) (Ae Cd) .none RB RC RD R9 Ls RG),Yc⟩)
    (J7:PySem.W.codeIn K Ls "scores_of" = true)
    (J8:PySem.W.keepIn K (.ref Dp)=true)
    (T5:PySem.W.nsIn K mainGlobals "tops_of" = some (some (.ref Gh)))
    (Pj:K.lookup Gh=some ⟨Aa8,Aa6,.func (PySem.W.fnOf "tops_of" "tops_of" (Am Ed) (Al Ed) (Ae Ed) .none Vt Vu Vv Vs Q4 Vw),Aa7⟩)
    (Pk:PySem.W.codeIn K Q4 "tops_of" = true)
    (Pn:PySem.W.keepIn K (.ref Gh)=true)
    (J9:PySem.W.nsIn K mainGlobals "layers_of" = some (some (.ref Dy)))
    (Hr:K.lookup Dy=some ⟨Yh,Ye,.func (PySem.W.fnOf "layers_of" "layers_of" (Am BL) (Al BL) (Ae BL) .none Lz LC LK Lw Gx LQ),Yg⟩)
    (JB:PySem.W.codeIn K Gx "layers_of" = true)
    (JC:PySem.W.keepIn K (.ref Dy)=true)
    (Ht:PySem.W.nsIn K mainGlobals "layer_numbers" = some (some (.ref Ce)))
    (FN:K.lookup Ce=some ⟨T4,Tw,.func (PySem.W.fnOf "layer_numbers" "layer_numbers" (Am Bc) (Al Bc) (Ae Bc) .none KC KD KH K9 GF KJ),Tz⟩)
    (FP:PySem.W.codeIn K GF "layer_numbers" = true)
    (FQ:PySem.W.keepIn K (.ref Ce)=true)
    (Q9:PySem.W.nsIn K mainGlobals "seams_of" = some (some (.ref En)))
    (Mm:K.lookup En=some ⟨ZK,ZG,.func (PySem.W.fnOf "seams_of" "seams_of" (Am Dc) (Al Dc) (Ae Dc) .none Ub Uc Ud Ua Nv Ue),ZJ⟩)
    (Mp:PySem.W.codeIn K Nv "seams_of" = true)
    (Mq:PySem.W.keepIn K (.ref En)=true)
    (GK:PySem.W.nsIn K mainGlobals "check_shuttles" = some (some (.ref BR)))
    (Ew:K.lookup BR=some ⟨RL,RJ,.func (PySem.W.fnOf "check_shuttles" "check_shuttles" (Am Bh) (Al Bh) (Ae Bh) .none Js Jt Ju Jr Gy Jv),RK⟩)
    (Ex:PySem.W.codeIn K Gy "check_shuttles" = true)
    (Ey:PySem.W.keepIn K (.ref BR)=true)
    (Kc:PySem.W.nsIn K mainGlobals "seams_along" = some (some (.ref CQ)))
    (GX:K.lookup CQ=some ⟨Vz,Vx,.func (PySem.W.fnOf "seams_along" "seams_along" (Am BX) (Al BX) (Ae BX) .none Ny Nz NB Nx Il NK),Vy⟩)
    (GZ:PySem.W.codeIn K Il "seams_along" = true)
    (Ha:PySem.W.keepIn K (.ref CQ)=true)
    (Kd:PySem.W.nsIn K mainGlobals "_law_numbers" = some (some (.ref CT)))
    (Hb:K.lookup CT=some ⟨V2,V0,.func (PySem.W.fnOf "_law_numbers" "_law_numbers" (Am BZ) (Al BZ) (Ae BZ) .none NQ NT NZ NP Im Oa),V1⟩)
    (Hd:PySem.W.codeIn K Im "_law_numbers" = true)
    (Hf:PySem.W.keepIn K (.ref CT)=true)
    (Ou:PySem.W.nsIn K mainGlobals "_law_piece" = some (some (.ref Dz)))
    (JD:K.lookup Dz=some ⟨Yk,Yi,.func (PySem.W.fnOf "_law_piece" "_law_piece" (Am CK) (Al CK) (Ae CK) .none RN RP RQ RM LR RT),Yj⟩)
    (JF:PySem.W.codeIn K LR "_law_piece" = true)
    (JG:PySem.W.keepIn K (.ref Dz)=true)
    (Ke:PySem.W.nsIn K mainGlobals "_law_reached" = some (some (.ref CV)))
    (Hg:K.lookup CV=some ⟨V5,V3,.func (PySem.W.fnOf "_law_reached" "_law_reached" (Am Bx) (Al Bx) (Ae Bx) .none Oc Od Oe Ob Io Og),V4⟩)
    (Hh:PySem.W.codeIn K Io "_law_reached" = true)
    (Hi:PySem.W.keepIn K (.ref CV)=true)
    (Ow:PySem.W.nsIn K mainGlobals "_law_hangs" = some (some (.ref DG)))
    (JH:K.lookup DG=some ⟨Yn,Yl,.func (PySem.W.fnOf "_law_hangs" "_law_hangs" (Am CP) (Al CP) (Ae CP) .none RX RZ Sd RW Ma Sh),Ym⟩)
    (JK:PySem.W.codeIn K Ma "_law_hangs" = true)
    (JL:PySem.W.keepIn K (.ref DG)=true)
    (Mr:PySem.W.nsIn K mainGlobals "_law_ringed" = some (some (.ref Dq)))
    (HS:K.lookup Dq=some ⟨Wd,Wb,.func (PySem.W.fnOf "_law_ringed" "_law_ringed" (Am Cm) (Al Cm) (Ae Cm) .none Qk Ql Qm Qj Ka Qn),Wc⟩)
    (HW:PySem.W.codeIn K Ka "_law_ringed" = true)
    (HX:PySem.W.keepIn K (.ref Dq)=true)
    (GP:PySem.W.nsIn K mainGlobals "_law_hung_piece" = some (some (.ref BV)))
    (Ez:K.lookup BV=some ⟨Su,Sq,.func (PySem.W.fnOf "_law_hung_piece" "_law_hung_piece" (Am Bj) (Al Bj) (Ae Bj) .none Jx Jy Jz Jw Gz J0),Ss⟩)
    (EY:PySem.W.codeIn K Gz "_law_hung_piece" = true)
    (Fb:PySem.W.keepIn K (.ref BV)=true)
    (Kf:PySem.W.nsIn K mainGlobals "_law_mingled" = some (some (.ref CW)))
    (Hj:K.lookup CW=some ⟨V8,V6,.func (PySem.W.fnOf "_law_mingled" "_law_mingled" (Am Ca) (Al Ca) (Ae Ca) .none Oi Oj Ol Oh Ip Om),V7⟩)
    (Hk:PySem.W.codeIn K Ip "_law_mingled" = true)
    (Hl:PySem.W.keepIn K (.ref CW)=true)
    (QB:PySem.W.nsIn K mainGlobals "_law_laid" = some (some (.ref Eo)))
    (Ms:K.lookup Eo=some ⟨ZP,ZL,.func (PySem.W.fnOf "_law_laid" "_law_laid" (Am Dv) (Al Dv) (Ae Dv) .none Uh Ui Uj Ug Oo Uk),ZM⟩)
    (Mt:PySem.W.codeIn K Oo "_law_laid" = true)
    (Mu:PySem.W.keepIn K (.ref Eo)=true)
    (Ox:PySem.W.nsIn K mainGlobals "_law_seams" = some (some (.ref DK)))
    (JM:K.lookup DK=some ⟨Yq,Yo,.func (PySem.W.fnOf "_law_seams" "_law_seams" (Am Cu) (Al Cu) (Ae Cu) .none Sw Sx Sy Sv Mg S6),Yp⟩)
    (JN:PySem.W.codeIn K Mg "_law_seams" = true)
    (JP:PySem.W.keepIn K (.ref DK)=true)
    (Ge:PySem.W.nsIn K mainGlobals "_law_whole_number" = some (some (.ref Bq)))
    (DW:K.lookup Bq=some ⟨PQ,PJ,.func (PySem.W.fnOf "_law_whole_number" "_law_whole_number" (Am Az) (Al Az) (Ae Az) .none Hw Hy Hz Hv Fg HB),PN⟩)
    (DX:PySem.W.codeIn K Fg "_law_whole_number" = true)
    (DY:PySem.W.keepIn K (.ref Bq)=true)
    (G3:PySem.W.nsIn K mainGlobals "_law_seams_right" = some (some (.ref Bu)))
    (Eg:K.lookup Bu=some ⟨Q7,Q5,.func (PySem.W.fnOf "_law_seams_right" "_law_seams_right" (Am Ay) (Al Ay) (Ae Ay) .none Iu Iv Iw Ir Gd Iz),Q6⟩)
    (Eh:PySem.W.codeIn K Gd "_law_seams_right" = true)
    (Ei:PySem.W.keepIn K (.ref Bu)=true)
    (Abt:PySem.W.nsIn K mainGlobals "law" = some (some (.ref Vl)))
    (Abu:K.lookup Vl=some ⟨AgL,AgJ,.func (PySem.W.fnOf "law" "law" (Am Jf) (Al Jf) (Ae Jf) .none AdC AdD AdE AdB Aa9 AdF),AgK⟩)
    (Abv:PySem.W.codeIn K Aa9 "law" = true)
    (Abw:PySem.W.keepIn K (.ref Vl)=true)
    (AdG:PySem.W.nsIn K mainGlobals "all" = some none)
    (AaB:PySem.W.nsIn K mainGlobals "bool" = some none)
    (Oz:PySem.W.nsIn K mainGlobals "enumerate" = some none)
    (AdH:PySem.W.nsIn K mainGlobals "int" = some none)
    (Mv:PySem.W.nsIn K mainGlobals "isinstance" = some none)
    (AdI:PySem.W.nsIn K mainGlobals "len" = some none)
    (AaC:PySem.W.nsIn K mainGlobals "list" = some none)
    (AdJ:PySem.W.nsIn K mainGlobals "max" = some none)
    (AdK:PySem.W.nsIn K mainGlobals "min" = some none)
    (Yr:PySem.W.nsIn K mainGlobals "range" = some none)
    (AdL:PySem.W.nsIn K mainGlobals "set" = some none)
    (VB:PySem.W.nsIn K mainGlobals "sorted" = some none)
    (AdM:PySem.W.nsIn K mainGlobals "str" = some none)
    (AdN:PySem.W.nsIn K mainGlobals "sum" = some none)
    (Ys:PySem.W.nsIn K mainGlobals "tuple" = some none)
    (AdO:PySem.W.nsIn K mainGlobals "zip" = some none)
    (IK:PySem.W.nsIn K mainGlobals "MOST_STRANDS" = some (some (.int 40 V9)))
    (QC:PySem.W.nsIn K mainGlobals "SHUTTLES" = some (some (.int 8 AaA)))
    (Mw:PySem.W.nsIn K mainGlobals "WeaveError" = some (some (.ref Bo)))
    (T7:PySem.W.nsIn K mainGlobals "NoCloth" = some (some (.ref Cw)))
    (O1:PySem.W.nsIn K mainGlobals "NoShuttle" = some (some (.ref Bv)))
    (Kg:PySem.W.excIn K Bo vE vN=true)
    (Kh:PySem.W.findIn K (.ref Bo) "__getattribute__" = some (some (.builtin "BaseException.__getattribute__")))
    (Kl:PySem.W.findIn K (.ref Bo) "__getattr__" = some none)
    (Km:PySem.W.findIn K (.ref Bo) "__class__" = some (some (.builtin "object.__class__")))
    (Ft:PySem.W.specialIn K (.builtin "object.__class__") "__get__" = some (some (.builtin "getset_descriptor.__get__")))
    (Fv:PySem.W.takesIn K (.builtin "object.__class__")=some true)
    (Ko:PySem.W.mroIn K Bo (.type "object")=some true)
    (Kp:PySem.W.mroIn K Bo (.type "BaseException")=some true)
    (Kq:PySem.W.isClsIn K Bo=true)
    (IV:PySem.W.typeIn K (.ref Bo)=some (.type "type"))
    (IW:PySem.W.mroIn K Bo (.type "ValueError")=some true)
    (QD:PySem.W.excIn K Cw vE vN=true)
    (QF:PySem.W.findIn K (.ref Cw) "__getattribute__" = some (some (.builtin "BaseException.__getattribute__")))
    (QG:PySem.W.findIn K (.ref Cw) "__getattr__" = some none)
    (QH:PySem.W.findIn K (.ref Cw) "__class__" = some (some (.builtin "object.__class__")))
    (QJ:PySem.W.mroIn K Cw (.type "object")=some true)
    (QK:PySem.W.mroIn K Cw (.type "BaseException")=some true)
    (QL:PySem.W.isClsIn K Cw=true)
    (O2:PySem.W.typeIn K (.ref Cw)=some (.type "type"))
    (O3:PySem.W.mroIn K Cw (.type "ValueError")=some true)
    (Mx:PySem.W.excIn K Bv vE vN=true)
    (My:PySem.W.findIn K (.ref Bv) "__getattribute__" = some (some (.builtin "BaseException.__getattribute__")))
    (Mz:PySem.W.findIn K (.ref Bv) "__getattr__" = some none)
    (M3:PySem.W.findIn K (.ref Bv) "__class__" = some (some (.builtin "object.__class__")))
    (M4:PySem.W.mroIn K Bv (.type "object")=some true)
    (M5:PySem.W.mroIn K Bv (.type "BaseException")=some true)
    (M6:PySem.W.isClsIn K Bv=true)
    (Kr:PySem.W.typeIn K (.ref Bv)=some (.type "type"))
    (Ks:PySem.W.mroIn K Bv (.type "ValueError")=some true)
    (tab0:Gx=.ref tc) (AgM:K.lookup tc=some ⟨t1,t2,.fields tvs,t3⟩) (AgN:(tvs[11]?:Option Value)=some (.ref tT)) (AgO:PySem.W.noTabs K=true) :
    ∃(fd:FuncData) (c T:Addr),(∀(s:Shared) (v:Value),BindsTo s fd ⟨[v],[]⟩ [("script", v)])∧PySem.W.tabIn K "layers_of" = some (c,T)∧PySem.W.noTabs K=true∧∀ base:Heap,K.In base→base.Ns mainGlobals mg→PySem.W.CodeHd base c T→Bm mg base→BK P w K mg base CX0 9 fa fd ["script"] (XN K T):=by
  have T:Txt K mg ⟨Di,PySem.W.fnOf "measured" "measured" (Am Du) (Al Du) (Ae Du) .none TQ TV TX TJ Nu TY,BP,PySem.W.fnOf "measured_texts" "measured_texts" (Am Bg) (Al Bg) (Ae Bg) .none Jm Jo Jp Jl Gw Jq,Dm,PySem.W.fnOf "check_pick" "check_pick" (Am Ck) (Al Ck) (Ae Ck) .none Qf Qg Qh Qe JZ Qi,Dw,PySem.W.fnOf "end_signs" "end_signs" (Am Cr) (Al Cr) (Ae Cr) .none Rz R0 R7 Ry Lr R8,Dp,PySem.W.fnOf "scores_of" "scores_of" (Am Cd) (Al Cd) (Ae Cd) .none RB RC RD R9 Ls RG,Gh,PySem.W.fnOf "tops_of" "tops_of" (Am Ed) (Al Ed) (Ae Ed) .none Vt Vu Vv Vs Q4 Vw,Dy,PySem.W.fnOf "layers_of" "layers_of" (Am BL) (Al BL) (Ae BL) .none Lz LC LK Lw Gx LQ,Ce,PySem.W.fnOf "layer_numbers" "layer_numbers" (Am Bc) (Al Bc) (Ae Bc) .none KC KD KH K9 GF KJ,En,PySem.W.fnOf "seams_of" "seams_of" (Am Dc) (Al Dc) (Ae Dc) .none Ub Uc Ud Ua Nv Ue,BR,PySem.W.fnOf "check_shuttles" "check_shuttles" (Am Bh) (Al Bh) (Ae Bh) .none Js Jt Ju Jr Gy Jv,CQ,PySem.W.fnOf "seams_along" "seams_along" (Am BX) (Al BX) (Ae BX) .none Ny Nz NB Nx Il NK,CT,PySem.W.fnOf "_law_numbers" "_law_numbers" (Am BZ) (Al BZ) (Ae BZ) .none NQ NT NZ NP Im Oa,Dz,PySem.W.fnOf "_law_piece" "_law_piece" (Am CK) (Al CK) (Ae CK) .none RN RP RQ RM LR RT,CV,PySem.W.fnOf "_law_reached" "_law_reached" (Am Bx) (Al Bx) (Ae Bx) .none Oc Od Oe Ob Io Og,DG,PySem.W.fnOf "_law_hangs" "_law_hangs" (Am CP) (Al CP) (Ae CP) .none RX RZ Sd RW Ma Sh,Dq,PySem.W.fnOf "_law_ringed" "_law_ringed" (Am Cm) (Al Cm) (Ae Cm) .none Qk Ql Qm Qj Ka Qn,BV,PySem.W.fnOf "_law_hung_piece" "_law_hung_piece" (Am Bj) (Al Bj) (Ae Bj) .none Jx Jy Jz Jw Gz J0,CW,PySem.W.fnOf "_law_mingled" "_law_mingled" (Am Ca) (Al Ca) (Ae Ca) .none Oi Oj Ol Oh Ip Om,Eo,PySem.W.fnOf "_law_laid" "_law_laid" (Am Dv) (Al Dv) (Ae Dv) .none Uh Ui Uj Ug Oo Uk,DK,PySem.W.fnOf "_law_seams" "_law_seams" (Am Cu) (Al Cu) (Ae Cu) .none Sw Sx Sy Sv Mg S6,Bq,PySem.W.fnOf "_law_whole_number" "_law_whole_number" (Am Az) (Al Az) (Ae Az) .none Hw Hy Hz Hv Fg HB,Bu,PySem.W.fnOf "_law_seams_right" "_law_seams_right" (Am Ay) (Al Ay) (Ae Ay) .none Iu Iv Iw Ir Gd Iz,Vl,PySem.W.fnOf "law" "law" (Am Jf) (Al Jf) (Ae Jf) .none AdC AdD AdE AdB Aa9 AdF,Bo,Cw,Bv⟩ :=
  ⟨⟨Ax (st:=Du) Mh Mi Mj,PySem.W.mg_of X G Q8,(Ax (st:=Du) Mh Mi Mj).binds (ps:=["cloth"]) fun _ _ _ _ _ _ us hl=>bl1 (fun _=>rfl) us hl⟩,
   ⟨Ax (st:=Bg) Es Et Eu,PySem.W.mg_of X G GJ,(Ax (st:=Bg) Es Et Eu).binds (ps:=["texts", "least", "signs"]) fun _ _ _ _ _ _ us hl=>bl3 (fun _ _ _=>rfl) us hl⟩,
   ⟨Ax (st:=Ck) HN HQ HR,PySem.W.mg_of X G Ml,(Ax (st:=Ck) HN HQ HR).binds (ps:=["text", "ends", "signs"]) fun _ _ _ _ _ _ us hl=>bl3 (fun _ _ _=>rfl) us hl⟩,
   ⟨Ax (st:=Cr) J1 J4 J5,PySem.W.mg_of X G Oq,(Ax (st:=Cr) J1 J4 J5).binds (ps:=["cloth", "end"]) fun _ _ _ _ _ _ us hl=>bl2 (fun _ _=>rfl) us hl⟩,
   ⟨Ax (st:=Cd) J6 J7 J8,PySem.W.mg_of X G Ot,(Ax (st:=Cd) J6 J7 J8).binds (ps:=["cloth"]) fun _ _ _ _ _ _ us hl=>bl1 (fun _=>rfl) us hl⟩,
   ⟨Ax (st:=Ed) Pj Pk Pn,PySem.W.mg_of X G T5,(Ax (st:=Ed) Pj Pk Pn).binds (ps:=["cloth"]) fun _ _ _ _ _ _ us hl=>bl1 (fun _=>rfl) us hl⟩,
   ⟨Ax (st:=BL) Hr JB JC,PySem.W.mg_of X G J9,(Ax (st:=BL) Hr JB JC).binds (ps:=["cloth"]) fun _ _ _ _ _ _ us hl=>bl1 (fun _=>rfl) us hl⟩,
   ⟨Ax (st:=Bc) FN FP FQ,PySem.W.mg_of X G Ht,(Ax (st:=Bc) FN FP FQ).binds (ps:=["cloth"]) fun _ _ _ _ _ _ us hl=>bl1 (fun _=>rfl) us hl⟩,
   ⟨Ax (st:=Dc) Mm Mp Mq,PySem.W.mg_of X G Q9,(Ax (st:=Dc) Mm Mp Mq).binds (ps:=["cloth", "shuttles"]) fun _ _ _ _ _ _ us hl=>bl2 (fun _ _=>rfl) us hl⟩,
   ⟨Ax (st:=Bh) Ew Ex Ey,PySem.W.mg_of X G GK,(Ax (st:=Bh) Ew Ex Ey).binds (ps:=["shuttles", "picks"]) fun _ _ _ _ _ _ us hl=>bl2 (fun _ _=>rfl) us hl⟩,
   ⟨Ax (st:=BX) GX GZ Ha,PySem.W.mg_of X G Kc,(Ax (st:=BX) GX GZ Ha).binds (ps:=["thrown"]) fun _ _ _ _ _ _ us hl=>bl1 (fun _=>rfl) us hl⟩,
   ⟨Ax (st:=BZ) Hb Hd Hf,PySem.W.mg_of X G Kd,(Ax (st:=BZ) Hb Hd Hf).binds (ps:=["script", "many"]) fun _ _ _ _ _ _ us hl=>bl2 (fun _ _=>rfl) us hl⟩,
   ⟨Ax (st:=CK) JD JF JG,PySem.W.mg_of X G Ou,(Ax (st:=CK) JD JF JG).binds (ps:=["numbers", "name", "wide", "high"]) fun _ _ _ _ _ _ us hl=>bl4 (fun _ _ _ _=>rfl) us hl⟩,
   ⟨Ax (st:=Bx) Hg Hh Hi,PySem.W.mg_of X G Ke,(Ax (st:=Bx) Hg Hh Hi).binds (ps:=["piece", "wide", "forth"]) fun _ _ _ _ _ _ us hl=>bl3 (fun _ _ _=>rfl) us hl⟩,
   ⟨Ax (st:=CP) JH JK JL,PySem.W.mg_of X G Ow,(Ax (st:=CP) JH JK JL).binds (ps:=["piece", "wide"]) fun _ _ _ _ _ _ us hl=>bl2 (fun _ _=>rfl) us hl⟩,
   ⟨Ax (st:=Cm) HS HW HX,PySem.W.mg_of X G Mr,(Ax (st:=Cm) HS HW HX).binds (ps:=["piece", "wide", "numbers", "name"]) fun _ _ _ _ _ _ us hl=>bl4 (fun _ _ _ _=>rfl) us hl⟩,
   ⟨Ax (st:=Bj) Ez EY Fb,PySem.W.mg_of X G GP,(Ax (st:=Bj) Ez EY Fb).binds (ps:=["numbers", "name", "wide", "high"]) fun _ _ _ _ _ _ us hl=>bl4 (fun _ _ _ _=>rfl) us hl⟩,
   ⟨Ax (st:=Ca) Hj Hk Hl,PySem.W.mg_of X G Kf,(Ax (st:=Ca) Hj Hk Hl).binds (ps:=["counts", "numbers", "first"]) fun _ _ _ _ _ _ us hl=>bl3 (fun _ _ _=>rfl) us hl⟩,
   ⟨Ax (st:=Dv) Ms Mt Mu,PySem.W.mg_of X G QB,(Ax (st:=Dv) Ms Mt Mu).binds (ps:=["pieces", "ends", "picks"]) fun _ _ _ _ _ _ us hl=>bl3 (fun _ _ _=>rfl) us hl⟩,
   ⟨Ax (st:=Cu) JM JN JP,PySem.W.mg_of X G Ox,(Ax (st:=Cu) JM JN JP).binds (ps:=["layers", "shuttles"]) fun _ _ _ _ _ _ us hl=>bl2 (fun _ _=>rfl) us hl⟩,
   ⟨Ax (st:=Az) DW DX DY,PySem.W.mg_of X G Ge,(Ax (st:=Az) DW DX DY).binds (ps:=["found"]) fun _ _ _ _ _ _ us hl=>bl1 (fun _=>rfl) us hl⟩,
   ⟨Ax (st:=Ay) Eg Eh Ei,PySem.W.mg_of X G G3,(Ax (st:=Ay) Eg Eh Ei).binds (ps:=["found", "made"]) fun _ _ _ _ _ _ us hl=>bl2 (fun _ _=>rfl) us hl⟩,
   ⟨Ax (st:=Jf) Abu Abv Abw,PySem.W.mg_of X G Abt,(Ax (st:=Jf) Abu Abv Abw).binds (ps:=["script"]) fun _ _ _ _ _ _ us hl=>bl1 (fun _=>rfl) us hl⟩,
   PySem.W.mg_none_of X G AdG,
   PySem.W.mg_none_of X G AaB,
   PySem.W.mg_none_of X G Oz,
   PySem.W.mg_none_of X G AdH,
   PySem.W.mg_none_of X G Mv,
   PySem.W.mg_none_of X G AdI,
   PySem.W.mg_none_of X G AaC,
   PySem.W.mg_none_of X G AdJ,
   PySem.W.mg_none_of X G AdK,
   PySem.W.mg_none_of X G Yr,
   PySem.W.mg_none_of X G AdL,
   PySem.W.mg_none_of X G VB,
   PySem.W.mg_none_of X G AdM,
   PySem.W.mg_none_of X G AdN,
   PySem.W.mg_none_of X G Ys,
   PySem.W.mg_none_of X G AdO,
   ⟨_,PySem.W.mg_of X G IK⟩,
   ⟨_,PySem.W.mg_of X G QC⟩,
   PySem.W.mg_of X G Mw,
   Aaf Kg Kh Kl Km Ft Fv Ko Kp Kq IV IW,
   PySem.W.mg_of X G T7,
   Aaf QD QF QG QH Ft Fv QJ QK QL O2 O3,
   PySem.W.mg_of X G O1,
   Aaf Mx My Mz M3 Ft Fv M4 M5 M6 Kr Ks⟩
  have e:=hfa.symm.trans (PySem.W.mg_of X G Abt)
  cases e
  have hcd:(PySem.W.fnOf "layers_of" "layers_of" (Am BL) (Al BL) (Ae BL) .none Lz LC LK Lw Gx LQ).code=.ref tc:=tab0
  exact⟨_,tc,tT,fun s v=>.of_eq rfl,Age J9 Hr hcd AgM AgN,AgO,fun base _ _ hC hB=>AgH T hcd hC hB⟩
end Mine
open PySem PySem.W PyProof.Rows
def PySem.W.Fast.tw18065207387807982048:=()
def PySem.W.Fast.tw11493525748769603213:=()
def PySem.W.Fast.tw6665027995439203942:=()
def PySem.W.Fast.tw1172028859902999535:=()
def PySem.W.Fast.tw13082525769712572515:=()
def PySem.W.Fast.tw9754381908780110557:=()
def PySem.W.Fast.tw2254346605502538207:=()
def PySem.W.Fast.tw7983498103139035312:=()
def PySem.W.Fast.tw9781749948876035026:=()
def PySem.W.Fast.tw6660693074925504093:=()
def PySem.W.Fast.tw9776250213473614773:=()
def PySem.W.Fast.tw9192162693831763672:=()
def PySem.W.Fast.tw13273191885396729173:=()
def PySem.W.Fast.tw7916180668570505039:=()
def PySem.W.Fast.tw15971860516308529572:=()
def PySem.W.Fast.tw16234045838966851680:=()
def PySem.W.Fast.tw6250673857648545529:=()
def PySem.W.Fast.tw15539703263206805604:=()
def PySem.W.Fast.tw12461455802246125064:=()
def PySem.W.Fast.tw2273220436120393386:=()
def PySem.W.Fast.tw4281719524450096374:=()
def PySem.W.Fast.tw4877357374425124924:=()
def PySem.W.Fast.tw9121634746602411934:=()
def PySem.W.Fast.tw3675182834696455836:=()
def PySem.W.Fast.tw16816774945855557513:=()
def PySem.W.Fast.tw4379536218528014370:=()
def PySem.W.Fast.tw11282370584384907723:=()
def PySem.W.Fast.tw11250995338761000690:=()
def PySem.W.Fast.tw18350722800517586453:=()
def PySem.W.Fast.tw1964011864167343813:=()
def PySem.W.Fast.tw14900379550671640492:=()
def PySem.W.Fast.tw10526437678020547450:=()
def PySem.W.Fast.tw14222111825834679313:=()
def PySem.W.Fast.tw9523777298268402989:=()
def PySem.W.Fast.tw3014133717259443156:=()
def PySem.W.Fast.tw16528315965528036215:=()
def PySem.W.Fast.tw856826961713239304:=()
def PySem.W.Fast.tw4940313830403696234:=()
def PySem.W.Fast.tw9428056264042515159:=()
def PySem.W.Fast.tw7509851578960541586:=()
def PySem.W.Fast.tw17549825919435577949:=()
def PySem.W.Fast.tw414949634486001425:=()
def PySem.W.Fast.tw9146946409969907779:=()
def PySem.W.Fast.tw2501799304569723900:=()
def PySem.W.Fast.tw2745319278918624472:=()
def PySem.W.Fast.tw11367590878443799561:=()
def PySem.W.Fast.tw6694259999443741185:=()
def PySem.W.Fast.tw16531890886593155481:=()
def PySem.W.Fast.tw4805454897113507849:=()
def PySem.W.Fast.tw16988800728656339403:=()
def PySem.W.Fast.tw16207792524019165574:=()
def PySem.W.Fast.tw347343581847065336:=()
def PySem.W.Fast.tw2468569671758977560:=()
def PySem.W.Fast.tw7084652248318452183:=()
def PySem.W.Fast.tw4079972432455681297:=()
def PySem.W.Fast.tw9156745764334910561:=()
def PySem.W.Fast.tw12308087449870685176:=()
def PySem.W.Fast.tw13190310517066751311:=()
def PySem.W.Fast.tw2616705682493455041:=()
def PySem.W.Fast.tw5260711427049086023:=()
def PySem.W.Fast.tw13878126713555272040:=()
def PySem.W.Fast.tw898648119651654371:=()
def PySem.W.Fast.tw9152277266511826783:=()
def PySem.W.Fast.tw16441542125499343193:=()
def PySem.W.Fast.tw447639313728918826:=()
def PySem.W.Fast.tw18140198073435210647:=()
def PySem.W.Fast.tw7342295473868975745:=()
def PySem.W.Fast.tw5811615518117783023:=()
def PySem.W.Fast.tw9914773201557644104:=()
set_option maxRecDepth 100000 in
set_option maxHeartbeats 0 in
theorem PySem.Challenge.cw_heddle_k38_seams_holds : PySem.Challenge.rw_heddle_k38_seams.Holds := by
 w_on;o_law;k_head;(case hw=>w_witness2)
 k_fill
 refine L2.AcE (l:=PySem.Challenge.rw_heddle_k38_seams) (n:=63) (k:=9) (x := "script") (y := "layers_of") (qn := "layers_of.<locals>.<lambda>") (CX:=L2.CX0) (sp:=Mine.XN) rfl (by decide) rfl ⟨rfl,by decide,by decide⟩ (fun w h Y=>PySem.W.km_in_of Y) rfl ?F ?S ?C
 case F =>
  intro w mg fa h KX G hmg
  refine' Mine.AgI KX G hmg ?Q8 ?Mh ?Mi ?Mj ?GJ ?Es ?Et ?Eu ?Ml ?HN ?HQ ?HR ?Oq ?J1 ?J4 ?J5 ?Ot ?J6 ?J7 ?J8 ?T5 ?Pj ?Pk ?Pn ?J9 ?Hr ?JB ?JC ?Ht ?FN ?FP ?FQ ?Q9 ?Mm ?Mp ?Mq ?GK ?Ew ?Ex ?Ey ?Kc ?GX ?GZ ?Ha ?Kd ?Hb ?Hd ?Hf ?Ou ?JD ?JF ?JG ?Ke ?Hg ?Hh ?Hi ?Ow ?JH ?JK ?JL ?Mr ?HS ?HW ?HX ?GP ?Ez ?EY ?Fb ?Kf ?Hj ?Hk ?Hl ?QB ?Ms ?Mt ?Mu ?Ox ?JM ?JN ?JP ?Ge ?DW ?DX ?DY ?G3 ?Eg ?Eh ?Ei ?Abt ?Abu ?Abv ?Abw ?AdG ?AaB ?Oz ?AdH ?Mv ?AdI ?AaC ?AdJ ?AdK ?Yr ?AdL ?VB ?AdM ?AdN ?Ys ?AdO ?IK ?QC ?Mw ?T7 ?O1 ?Kg ?Kh ?Kl ?Km ?Ft ?Fv ?Ko ?Kp ?Kq ?IV ?IW ?QD ?QF ?QG ?QH ?QJ ?QK ?QL ?O2 ?O3 ?Mx ?My ?Mz ?M3 ?M4 ?M5 ?M6 ?Kr ?Ks ?tab0 ?AgM ?AgN ?AgO
  (case Q8=>k_is)
  (case Mh=>k_is)
  (case Mi=>k_is)
  (case Mj=>k_is)
  (case GJ=>k_is)
  (case Es=>k_is)
  (case Et=>k_is)
  (case Eu=>k_is)
  (case Ml=>k_is)
  (case HN=>k_is)
  (case HQ=>k_is)
  (case HR=>k_is)
  (case Oq=>k_is)
  (case J1=>k_is)
  (case J4=>k_is)
  (case J5=>k_is)
  (case Ot=>k_is)
  (case J6=>k_is)
  (case J7=>k_is)
  (case J8=>k_is)
  (case T5=>k_is)
  (case Pj=>k_is)
  (case Pk=>k_is)
  (case Pn=>k_is)
  (case J9=>k_is)
  (case Hr=>k_is)
  (case JB=>k_is)
  (case JC=>k_is)
  (case Ht=>k_is)
  (case FN=>k_is)
  (case FP=>k_is)
  (case FQ=>k_is)
  (case Q9=>k_is)
  (case Mm=>k_is)
  (case Mp=>k_is)
  (case Mq=>k_is)
  (case GK=>k_is)
  (case Ew=>k_is)
  (case Ex=>k_is)
  (case Ey=>k_is)
  (case Kc=>k_is)
  (case GX=>k_is)
  (case GZ=>k_is)
  (case Ha=>k_is)
  (case Kd=>k_is)
  (case Hb=>k_is)
  (case Hd=>k_is)
  (case Hf=>k_is)
  (case Ou=>k_is)
  (case JD=>k_is)
  (case JF=>k_is)
  (case JG=>k_is)
  (case Ke=>k_is)
  (case Hg=>k_is)
  (case Hh=>k_is)
  (case Hi=>k_is)
  (case Ow=>k_is)
  (case JH=>k_is)
  (case JK=>k_is)
  (case JL=>k_is)
  (case Mr=>k_is)
  (case HS=>k_is)
  (case HW=>k_is)
  (case HX=>k_is)
  (case GP=>k_is)
  (case Ez=>k_is)
  (case EY=>k_is)
  (case Fb=>k_is)
  (case Kf=>k_is)
  (case Hj=>k_is)
  (case Hk=>k_is)
  (case Hl=>k_is)
  (case QB=>k_is)
  (case Ms=>k_is)
  (case Mt=>k_is)
  (case Mu=>k_is)
  (case Ox=>k_is)
  (case JM=>k_is)
  (case JN=>k_is)
  (case JP=>k_is)
  (case Ge=>k_is)
  (case DW=>k_is)
  (case DX=>k_is)
  (case DY=>k_is)
  (case G3=>k_is)
  (case Eg=>k_is)
  (case Eh=>k_is)
  (case Ei=>k_is)
  (case Abt=>k_is)
  (case Abu=>k_is)
  (case Abv=>k_is)
  (case Abw=>k_is)
  (case AdG=>k_is)
  (case AaB=>k_is)
  (case Oz=>k_is)
  (case AdH=>k_is)
  (case Mv=>k_is)
  (case AdI=>k_is)
  (case AaC=>k_is)
  (case AdJ=>k_is)
  (case AdK=>k_is)
  (case Yr=>k_is)
  (case AdL=>k_is)
  (case VB=>k_is)
  (case AdM=>k_is)
  (case AdN=>k_is)
  (case Ys=>k_is)
  (case AdO=>k_is)
  (case IK=>k_is)
  (case QC=>k_is)
  (case Mw=>k_is)
  (case T7=>k_is)
  (case O1=>k_is)
  (case Kg=>k_exc)
  (case Kh=>k_is)
  (case Kl=>k_is)
  (case Km=>k_is)
  (case Ft=>k_is)
  (case Fv=>k_is)
  (case Ko=>k_is)
  (case Kp=>k_is)
  (case Kq=>k_is)
  (case IV=>k_is)
  (case IW=>k_is)
  (case QD=>k_exc)
  (case QF=>k_is)
  (case QG=>k_is)
  (case QH=>k_is)
  (case QJ=>k_is)
  (case QK=>k_is)
  (case QL=>k_is)
  (case O2=>k_is)
  (case O3=>k_is)
  (case Mx=>k_exc)
  (case My=>k_is)
  (case Mz=>k_is)
  (case M3=>k_is)
  (case M4=>k_is)
  (case M5=>k_is)
  (case M6=>k_is)
  (case Kr=>k_is)
  (case Ks=>k_is)
  (case tab0=>exact rfl)
  (case AgM=>k_is)
  (case AgN=>exact rfl)
  (case AgO=>kernel_rfl)
 case S=>exact fun K T H a ns hl hS tb=>Mine.XQ hl hS tb
 case C=>exact fun _ _ _ _ z=>z
